import PyProof.Rows.All
import KE.KTryMore
import KE.KDictOf
import KE.KItem
import KE.KRevSl
import KE.KRevIter
import KE.KDictList
import PySem.Challenge.RW_lookwords_k30_whole_bars_and_counts
open Option renaming some→iu,none→iw
open PySem renaming wpAny_bind→iA,Value→iB,Shared→iF,wpAny_pure→iG,Program→iH,World→iI,wpAny_newObj_type→iJ,Around→iK,sizeLine_eq→iL,codeAny_builtin→iM,wpAny_holding→iN,wpAny_call_entry→iO,wpAny_callSpecial?_slot→iP,SetTable→iQ,plainId_quiet→iR,wpAny_askSetting→iT,wpAny_truthy_bool→iU,wpAny_setState_of→iV,builtinLookup_eq_fast→iW,wpAny_seqItems→iX,Keyword→iY,wpAny_setField→iZ,wpAny_passesOwn→i5,OsState→i6,wpAny_setEntries_of→i7,NameKind→i8,wpAny_isInstance→i9,wpAny_Call_Name_kw→j0,tupleKind_room_in1→j3,wpAny_typeOf→j4,wpAny_pyIter_tuple→j5,FuncData→j6,typeLookup_type→j7,wpAny_updateSeq→j8,wpAny_loadPart'→j9,wpAny_mono→k4,isSubtype_type→k6,wpAny_attempt→k7,wpAny_rule→k8,wpAny_field→k9,wpAny_pyIter_list→la,wpAny_tryCatch→lb,fits_of_scanBound→lc,Scope→lf,wpAny_execs_nil→lg,codeAny_mono→li,Params→lj,IsPart→ll,call_meets→lq,wpAny_fieldsOf→lr,wpAny_of_eq→lu,wpAny_letGo→lz,GenState→lA,concat_meets→lE,DictEntry→lF,Paired→lG,Result→lH,BindsTo→lI,ItemsOf→lJ
open Bool renaming true→iC,false→iE
open PySem.W renaming mg_none_of→iS,boot_heap→i4,mg_of→lB,boot_drawn→lC
open PyProof.Rows renaming AllBare→lh,StrsAre→lx
open List renaming mem_cons_of_mem→aa,mem_cons→ac,mem_cons_self→ae,mem_map→ah,length_append→ai,getElem?_eq_getElem→aj,mem_append→ao,mem_singleton→ap,length_cons→aq,size_toArray→aw,length_map→ax,getElem?_set_ne→ay,getElem?_eq_some_iff→aC,map_cons→aD,getElem?_map→aF,mem_filter→aG,range→aH,getElem?_set_self→aJ,mem_range→aL,pairwise_cons→aM,nodup_cons→aN,mem_append_right→aP,mem_of_getElem?→aQ,all_eq_true→aR,append_assoc→aT,not_mem_nil→ba,map_map→bf,eq_nil_of_length_eq_zero→bg,append_nil→bh,length_nil→bj,filterMap_cons→bw,find?_cons_of_neg→bC,length_pos_of_mem→bD,replicate→bE,getElem_mem→bG,find?_cons_of_pos→bL,getElem?_eq_none_iff→bM,mem_of_find?_eq_some→bP,length_range→bQ,map_nil→bU,mem_append_left→bW,getElem?_append_right→bY,nodup_append→bZ,map_congr_left→cf,foldl_cons→cg,nil_append→ci,getElem?_append_left→cj,getElem?_eq_none→ck,length_filter_le→cm,mem_flatMap→cu,exists_mem_of_length_pos→cz,getElem?_replicate→cB,reverse_cons→cC,length_set→cF,map_append→cH,any_cons→cL,nodup_nil→cP,find?_eq_none→cQ,flatMap_cons→cX,pairwise_append→cZ,replicate_zero→dh,getElem?_cons_succ→dq,find?_cons→dE,pairwise_flatMap→dF,pairwise_map→dH,take_length→dN,mem_reverse→dO,length_pos_iff→dR,mem_filterMap→d6,pairwise_singleton→eh,getElem?_cons_zero→et,foldl_append→eZ,ext_getElem?→e7,mem_range'_1→e8,pairwise_lt_range→e9,length_replicate→fg,getElem?_toArray→fj,lookup_cons→fk,mem_iff_getElem→fz,filter_eq_self→fA,getElem?_range→fB,length_reverse→fC,getElem_inj→fQ,cons_append→fU,zipIdx_cons→fV,of_mem_zip→fW,find?_some→fZ,length→g5,zip→g8,all_cons→hV,map_id'→ib,map_set→ic,range'→im
open PySem.Heap renaming get?_push_of_some→af,get?_push_size→au,lt_size→aA,get?_update_self→aS,get?_update_other→bb,SameBut→bK,size_push→bS,ExtBut→g6
open Nat renaming le_refl→aB,ne_of_lt→aE,lt_of_lt_of_le→aK,zero_le→br,le_trans→bv,lt_irrefl→cw,ne_of_gt→cV,le_of_lt→eI,le_of_eq→eJ,lt_trans→eY,mod_lt→fm,sub_self→fE,le_succ→fI,lt_succ_of_lt→fK,le_antisymm→fY,succ_mul→ig,mul_comm→ii
open Option renaming some→aI,map_eq_some_iff→aX,bind_eq_some_iff→cA,isSome_map→fJ
open PySem.PassesOwn renaming leaving→aO
open Int renaming emod_eq_of_lt→aU,emod_lt_of_pos→bn,emod_nonneg→bJ,dvd_self_sub_emod→cq,toNat_natCast→cW,eq_ofNat_of_zero_le→dw,emod_eq_zero_of_dvd→dA,dvd_sub→dL,dvd_of_emod_eq_zero→ez,dvd_add→eG,one_mul→fL,mul_assoc→fP,mul_sub→ij
open Bool renaming and_eq_true→aV,false_ne_true→be,false_eq_true→fF
open PySem.Around renaming under_plainId→aY
open PySem.Str renaming ofString→aZ,length→h8
open PySem.W renaming hideAll→bi,exmOne→bT,emptyDict→bX,kitOne→cy,fnOf→cK,instObj→cS,kia_one→cT,hideAll_none→cU,hideAll_get→df,excIn→dX,of_hideAll→d4,methodObj→fG,OpenLaw→fX,lookIn→f9
open Ne renaming symm→bo
open PyProof.Rows renaming callWith_type1→bp,slot_tuple_getitem→c9
open PySem.Builtin.List renaming listExtendWith→bq,listSameRef→c8,listTooLong→dW
open Sum renaming inr→bu,inl→fq
open PySem.Heap.SameBut renaming update→bx
open PySem.SetTable renaming below→bz,grown→dn,laid→hZ
open PySem.Builtin.Slice renaming sliceAdjust→bA,slicePlaces→dP
open Decidable renaming byContradiction→bB
open PySem.NameKind renaming free→bF
open Array renaming length_toList→bH,getElem?_eq_getElem→bO,getElem?_toList→bR,getElem?_eq_none→dD,mk→f7
open Or renaming inl→bI,inr→cx
open Classical renaming byContradiction→bN
open PySem.F renaming called_set→bV,slot_tuple_iterator_next→ce,plain_min_loop→cM,plainAttrs_list→dj,slot_tuple_getattribute→dQ,args_tuple_add_2→dU,slot_list_getattribute→dY,entry_tuple_add→d8,slot_tuple_add→eU,slot_dict_get→fh,entry_min_loop→fS
open PySem.Value renaming ref→cr,none→cE,isStrOf_shape→db,bool→dB,isStrOf→dS,int→g9,str→hJ,type→h7
open ForInStep renaming yield→cG
open PySem.Builtin.Frozenset renaming updateFrom→cI
open Eq renaming trans→cJ
open List.Perm renaming refl→cO
open PySem.Builtin.SmallTypes renaming nextOf→cR
open List.Pairwise renaming imp→cY,imp_of_mem→dZ,nil→eX,map→fM
open PySem.Obj renaming mapSeq→c6,putSet→ia
open PySem.Builtin.Tuple renaming tupleExact→c7
open PySem renaming mem_of_lookup→dg,call→iq
open PySem.Builtin.Str renaming strSliceIndices→dG
open True renaming intro→dI
open False renaming elim→dJ
open PySem.Calls renaming spliced_cons→d7,evalArgs_plain→fy,spliced_nil→fH
open PyProof.Rows.F renaming plain_set_update_loop→d9
open PySem.Paired renaming length→fN
open PySem.Shared renaming TypeIs→fO
open PySem.Txt renaming join→fR
open PySem.Moved renaming trans→g7
open Prod renaming ext→ip
open PySem.Walks renaming list→ir
noncomputable section
open PySem.W (Frag nsIn keepIn codeIn mg_of mg_none_of)
set_option Elab.async false
set_option linter.all false
set_option maxRecDepth 100000
namespace Kx
noncomputable section
open PySem PySem.W PySem.Calls PyProof.Rows
noncomputable def zP:Pos:=⟨0,0,0,0⟩
noncomputable def anV:Option iB:=iu (.ref 6)
noncomputable def hA (P:lj):List Obj:=(i4 P).objs.toList++[⟨.type "tuple",iw,.seq #[] 0,#[]⟩,⟨.none,iw,.fields #[],#[]⟩,
 ⟨.type "code",iw,.fields #[.str "<module>" 182,.str "<module>" 183,.str "/claim/cut.py" 184,.int 1 0,.int 0 0,.int 0 0,.int 0 0,.int 0 0,.ref 11,.bool iE,.int 181 0,.ref 12,.none,.none,.none,.none,.int 185 0,.int 1 0,.str "/claim/cut.py" 186],#[]⟩,
 ⟨.type "frame",iw,.plain,#[iu (.ref 13),iu (.ref 3),iu (.ref 3),iw,iu (.str "__main__" 164),iw,iu (.ref 0)]⟩]
noncomputable def enP (p:iH):Env:={ scope:=p.main.scope,locals:=mainNs,globals:=mainNs,cells:=[],code:=.ref 13,frame:=iu 14 }
noncomputable def cdP (p:iH):Code:=.body (behindTheImports p) (enP p)
noncomputable def trA:List Obj->Nat->BT->BT
 | [],_,t=>t
 | o::l,i,t=>trA l (i+1) (t.ins i o)
noncomputable def SA (w:iI) (os:i6):SharedT:=⟨trA (hA w.params) 0 .nil,15,(i4 w.params).life,f7 [],lC,187,os⟩
noncomputable def kH (P:lj) (s:Str) (t:Nat) (v:iB):lF:=⟨PyData.keyHash P s,.str s t,v⟩
noncomputable def eM:iB:=.str "lookwords.errors" 187
noncomputable def eT (a:List iB):Obj:=⟨.type "tuple",iw,.seq ⟨a⟩ 0,#[]⟩
noncomputable def eF (c:iB) (a:List iB):Obj:=⟨c,iw,.fields ⟨a⟩,#[]⟩
noncomputable def eB:iB:=.type "builtin_function_or_method"
noncomputable def eD (a:List lF) (n:Nat):Obj:=⟨.type "dict",iw,.dict ⟨a⟩ n,#[]⟩
noncomputable def eA (P:lj) (s:Str) (b:iB) (n t l:Nat):List Obj:=[eT [b],eF eB [.builtin "type.__prepare__",.type "type"],
 eD [kH P "__module__" (t+7) eM,kH P "__qualname__" (t+9) (.str s (t+8)),kH P "__firstlineno__" (t+11) (.int l (t+10)),kH P "__static_attributes__" (t+12) (.ref (n+7))] 4,
 eT [],eF .none [],eF (.type "code") [.str s (t+2),.str s (t+3),.str "/claim/cut.py" (t+4),.int l 0,.int 0 0,.int 0 0,.int 0 0,.int 0 0,.ref (n+3),.bool iE,.int 181 0,.ref (n+4),.none,.none,.none,.none,.int ((t+5:Nat):Int) 0,.int l 0,.str "/claim/cut.py" (t+6)],
 ⟨.type "frame",iw,.plain,#[iu (.ref (n+5)),iu (.ref 3),iu (.ref (n+2)),iw,iu eM,iw,iu (.ref 0)]⟩,eT []]
noncomputable def eC (s:Str) (b:iB) (n t:Nat) (m sub:List iB):Obj:=⟨.type "type",iw,.cls { name:=s,bases:=[b],mro:=.ref (n+9)::m,ns:=n+8,qualname:=s,subclasses:=sub },#[iu (.ref n),iw,iu (.str s t),iu (.str s (t+8)),iu (.builtin "ValueError.__new__"),iu (.bool iC)]⟩
noncomputable def eS (a:Nat):List Obj:=[eF (.type "super") [.ref a,.ref a,.ref a],eF eB [.builtin "object.__init_subclass__",.ref a]]
noncomputable def eK (P:lj) (t l:Nat) (n:Nat):List lF:=[kH P "__module__" (t+7) eM,kH P "__firstlineno__" (t+11) (.int l (t+10)),kH P "__static_attributes__" (t+12) (.ref (n+7))]
noncomputable def eV:List iB:=[.type "ValueError",.type "Exception",.type "BaseException",.type "object"]
noncomputable def eL (P:lj):List Str->Nat->Nat->Nat->List Obj
 | [],_,_,_=>[]
 | s::r,n,t,l=>eA P s (.ref 24) n t l++eD (eK P t l n++[kH P "__doc__" (t+13) .none]) 2::eC s (.ref 24) n t (.ref 24::eV) []::eS (n+9)++eL P r (n+12) (t+16) (l+2)
noncomputable def eE (P:lj):List Str->Nat->Nat->List lF
 | [],_,_=>[]
 | s::r,n,t=>kH P s (t+15) (.ref (n+9))::eE P r (n+12) (t+16)
noncomputable def eR:Nat->Nat->List iB
 | 0,_=>[]
 | k+1,n=>.ref n::eR k (n+12)
noncomputable def eQ:Nat->Nat->Nat->List iB
 | 0,_,_=>[]
 | k+1,n,l=>.int l 0::.int 0 0::.ref n::eQ k (n+12) (l+2)
noncomputable def eO (P:lj) (L:List Str):Obj:=match (boot_o_3 P).data with
 | .dict a _=>eD (kH P "__name__" 165 eM::a.toList.drop 1++kH P "WordError" 206 (.ref 24)::eE P L 28 207) (L.length+10)
 | _=>eT []
noncomputable def hC (P:lj) (L:List Str):List Obj:=(hA P).take 3++eO P L::((hA P).drop 4).take 8++eF .none (.int 2 0::.int 0 0::.ref 20::eQ L.length 33 4)::(hA P).drop 13 ++
 eA P "WordError" (.type "ValueError") 15 189 2++eD (eK P 189 2 15++[kH P "__weakref__" 203 (.ref 25),kH P "__doc__" 204 .none]) 3::eC "WordError" (.type "ValueError") 15 189 eV (eR L.length 37) ::
 eF (.type "getset_descriptor") [.str "__weakref__" 202,.ref 24,.builtin "ExceptionGroup.__weakref__",.none]::eS 24++eL P L 28 207 4
noncomputable def SC (L:List Str) (w:iI) (os:i6):SharedT:=⟨trA (hC w.params L) 0 .nil,12 * L.length+28,(i4 w.params).life,f7 [],lC,16 * L.length+207,os⟩
noncomputable def zC (L:List Str):Pos:=⟨2 * L.length+2,0,2 * L.length+3,8⟩
noncomputable def qaC (L:List Str) (p:iH) (w:iI) (M:Nat) (os:i6):Option (Flow×Code×iF):=
 (segRunT treeTable p w 11 anV 1 M (SC L w os) (piecesOf ((behindTheImports p).drop (L.length+2)) (enP p) (cdP p) (zC L) [topFrame zP])).bind λr=>
  (topRun treeTable p w 11 anV 5 r.2.1.abs (restOf [] (enP p) (cdP p) r.2.2.2 [topFrame zP])).map λs=>(r.1,r.2.2.1,s)
abbrev qf6 (p:iH) (w:iI) (x:Flow×Code×iF):=
 (x.1,x.2.1,(staticsOk (importedModules p.main.body) (i4 w.params) x.2.2.heap&&namesBound p x.2.2.heap&&gensDone x.2.2&&laidKept (i4 w.params) x.2.2.heap))
abbrev WD (p q:iH) (loose:List Str) (Xt:iF->Bool) (x:Flow×Code×iF):=openSeen q loose (importedModules p.main.body) Xt iC x.2.2
theorem left_T {L:List Str} {p q:iH} {loose:List Str} {Xt:iF->Bool} {α:Type} {Yf:iF->α} {Ya:iI->α} {N M:Nat}
  (e:opening p=plainProg p.main.scope.names) (hN:Nat.ble 600 N=iC) (f:∀ s,fenceModules? p s=iu s)
  (size:∀ w:iI,((i4 w.params).isNs mainGlobals&&(f7 []:Array lA).size == 0,(i4 w.params).objs.size,(i4 w.params).nsMap mainGlobals "__annotations__")=(iC,11,anV))
  (pre:∀ (w:iI) (os:i6),topGo treeTable p w 11 anV 12 ⟨i4 w.params,f7 [],lC,boot_toks,os⟩ (topStub p)=iu ((SA w os).abs,⟨denote treeTable (cdP p),cdP p,zP,[topFrame zP]⟩))
  (blk:∀ (w:iI) (os:i6),segRun treeTable p w 11 anV 1 1 (SA w os).abs (blockOf (behindTheImports p) (enP p) (cdP p) zP [topFrame zP])=iu (.next,(SA w os).abs,cdP p,zP))
  (le:Nat.ble (12+(1+(3500+(M+5)))) N=iC)
  (m6:∀ (w:iI) (os:i6),segRunT treeTable p w 11 anV 1 3500 (SA w os) (piecesOf ((behindTheImports p).take (L.length+2)) (enP p) (cdP p) zP [topFrame zP])=iu (.next,SC L w os,cdP p,zC L))
  (m0:∀ (w:iI) (os:i6),(qaC L p w M os).map (qf6 p w)=iu (.next,cdP p,iC))
  (m1:∀ (w:iI) (os:i6),(qaC L p w M os).map (λx=>(WD p q loose Xt x).1)=iu (openGood q loose).1)
  (m3:∀ (w:iI) (os:i6),(qaC L p w M os).map (λx=>(WD p q loose Xt x).2.1)=iu (openGood q loose).2.1)
  (m4:∀ (w:iI) (os:i6),(qaC L p w M os).map (λx=>(WD p q loose Xt x).2.2.1)=iu (openGood q loose).2.2.1)
  (m5:∀ (w:iI) (os:i6),(qaC L p w M os).map (λx=>(WD p q loose Xt x).2.2.2)=iu (openGood q loose).2.2.2)
  (m2:∀ (w:iI) (os:i6),(qaC L p w M os).map (λx=>Yf x.2.2)=iu (Ya w)):LeftO p q loose Xt Yf Ya N:=λw=>by
 obtain ⟨⟨h,gs,d,k,os⟩,a,a'⟩:=aX.mp (boot_open e hN f w)
 obtain ⟨rfl,rfl,rfl,rfl⟩:h=i4 w.params/\gs=f7 []/\d=lC/\k=boot_toks:=by simpa using a'
 obtain ⟨x,hx,hl⟩:=aX.mp (m0 w os)
 have l2:openSeen q loose (importedModules p.main.body) Xt iC x.2.2=openGood q loose:=by
  have a1:=m1 w os
  have a3:=m3 w os
  have a4:=m4 w os
  have a5:=m5 w os
  rw [hx] at a1 a3 a4 a5
  exact ip (aI.inj a1) (ip (aI.inj a3) (ip (aI.inj a4) (aI.inj a5)))
 obtain ⟨y,hy,hY⟩:=aX.mp (m2 w os)
 obtain rfl:y=x:=aI.inj (hy.symm.trans hx)
 obtain ⟨r,hr,hz⟩:=cA.mp hx
 obtain ⟨s,hs,rfl⟩:=aX.mp hz
 obtain ⟨fl,st,co,po⟩:=r
 unfold qf6 at hl
 simp only [Prod.mk.injEq] at hl
 obtain ⟨rfl,rfl,l1⟩:=hl
 have t1:=piece_app (rest:=[]) (segRun_of hr) hs
 rw [bh] at t1
 have t1:=piece_app (segRun_of (m6 w os)) t1
 rw [List.take_append_drop] at t1
 have t2:=piece_block (blk w os) t1
 have t3:=topRun_mono (N - (12+(1+(3500+(M+5))))) _ _ _ _ (go_top (pre w os) t2)
 rw [show 12+(1+(3500+(M+5)))+(N - (12+(1+(3500+(M+5)))))=N by have:=Nat.le_of_ble_eq_true le; omega] at t3
 obtain ⟨z1,z2,z3⟩:_/\_/\_:=by simpa only [Prod.mk.injEq] using size w
 have t:topFrom treeTable p w N ⟨i4 w.params,f7 [],lC,boot_toks,os⟩=iu s:=by
  unfold topFrom
  dsimp only
  rw [z1,z2,z3,t3]
  show (match staticsOk (importedModules p.main.body) (i4 w.params) s.heap&&namesBound p s.heap&&gensDone s&&laidKept (i4 w.params) s.heap with | true=>_ | false=>_)=_
  rw [l1]
 unfold openEnds
 rw [a]
 show (topFrom treeTable p w N _).map _=_
 rw [t]
 exact congrArg iu (ip l2 hY)
end
end Kx
noncomputable section
open PySem PySem.W PyProof.Rows
noncomputable def Kx.vq:iH:=view PySem.Challenge.pw_lookwords_k30_whole_bars_and_counts [1,2,3,4,5,6,7,8,10,11,12,13,14,15,16,17,18,19,20,21,22,23,24,25,26,27,29,30,31,32,33,35,36,37,38,39,40,41,42,43,44,45,46,47,48,49,50,51,53,54,55,56,58,59,60,61,62,63,65,66,67,68,69,70,71,72,73,74,75,76,77]
noncomputable def Kx.eN:List Str:=["NoWords", "NoLook", "NoNumbers", "NoRoom", "NoWorths", "Never", "NoPlace"]
noncomputable def Kx.xt (s:iF):Bool:=xlAt Kx.vq [] s&&recOk (RowW.records (OpenRow.toRowW (OpenLaw.row PySem.Challenge.rw_lookwords_k30_whole_bars_and_counts))) s
theorem Kx.m6:∀ (w:iI) (os:i6),segRunT treeTable PySem.Challenge.pw_lookwords_k30_whole_bars_and_counts w 11 Kx.anV 1 3500 (Kx.SA w os) (piecesOf ((behindTheImports PySem.Challenge.pw_lookwords_k30_whole_bars_and_counts).take (Kx.eN.length+2)) (Kx.enP PySem.Challenge.pw_lookwords_k30_whole_bars_and_counts) (Kx.cdP PySem.Challenge.pw_lookwords_k30_whole_bars_and_counts) Kx.zP [topFrame Kx.zP])=iu (.next,Kx.SC Kx.eN w os,Kx.cdP PySem.Challenge.pw_lookwords_k30_whole_bars_and_counts,Kx.zC Kx.eN):=by intro w os; kernel_rfl
theorem Kx.m0:∀ (w:iI) (os:i6),(Kx.qaC Kx.eN PySem.Challenge.pw_lookwords_k30_whole_bars_and_counts w 15000 os).map (Kx.qf6 PySem.Challenge.pw_lookwords_k30_whole_bars_and_counts w)=iu (.next,Kx.cdP PySem.Challenge.pw_lookwords_k30_whole_bars_and_counts,iC):=by intro w os; kernel_rfl
theorem Kx.m1:∀ (w:iI) (os:i6),(Kx.qaC Kx.eN PySem.Challenge.pw_lookwords_k30_whole_bars_and_counts w 15000 os).map (λx=>(Kx.WD PySem.Challenge.pw_lookwords_k30_whole_bars_and_counts Kx.vq [] Kx.xt x).1)=iu (openGood Kx.vq []).1:=by intro w os; kernel_rfl
theorem Kx.m3:∀ (w:iI) (os:i6),(Kx.qaC Kx.eN PySem.Challenge.pw_lookwords_k30_whole_bars_and_counts w 15000 os).map (λx=>(Kx.WD PySem.Challenge.pw_lookwords_k30_whole_bars_and_counts Kx.vq [] Kx.xt x).2.1)=iu (openGood Kx.vq []).2.1:=by intro w os; kernel_rfl
theorem Kx.m4:∀ (w:iI) (os:i6),(Kx.qaC Kx.eN PySem.Challenge.pw_lookwords_k30_whole_bars_and_counts w 15000 os).map (λx=>(Kx.WD PySem.Challenge.pw_lookwords_k30_whole_bars_and_counts Kx.vq [] Kx.xt x).2.2.1)=iu (openGood Kx.vq []).2.2.1:=by intro w os; kernel_rfl
theorem Kx.m5:∀ (w:iI) (os:i6),(Kx.qaC Kx.eN PySem.Challenge.pw_lookwords_k30_whole_bars_and_counts w 15000 os).map (λx=>(Kx.WD PySem.Challenge.pw_lookwords_k30_whole_bars_and_counts Kx.vq [] Kx.xt x).2.2.2)=iu (openGood Kx.vq []).2.2.2:=by intro w os; kernel_rfl
local macro_rules | `(tactic| o_head $H) => `(tactic| (refine holds_open (q := Kx.vq) (loose := []) (Xt := Kx.xt) (XP := XL Kx.vq []) (Yf := Hook.obs $H) (Ya := Hook.val $H) (YP := Hook.says $H) (N := 20000) ?hl (Hook.of $H) (Hook.keeps $H) (fun s e => xl_of s (Bool.and_eq_true_iff.mp e).1) XL.keeps (by rfl) (by rfl) (by rfl) (fun s e => recFacts_of (Bool.and_eq_true_iff.mp e).2) (by rfl) (by first | assumption | decide +kernel) (by decide +kernel) ⟨rfl, rfl, rfl, rfl, rfl, by decide +kernel⟩ ?hw ?hc; (case hl => refine Kx.left_T (p := PySem.Challenge.pw_lookwords_k30_whole_bars_and_counts) (M := 15000) ?e rfl ?f ?s ?p ?b rfl Kx.m6 Kx.m0 Kx.m1 Kx.m3 Kx.m4 Kx.m5 ?m; (case e => kernel_rfl); (case f => intro s; kernel_rfl); (case s => intro w; kernel_rfl); (case p => intro w os; kernel_rfl); (case b => intro w os; kernel_rfl); (case m => intro w os; kernel_rfl))))
set_option maxHeartbeats 0 in
open_top Kx.hd for PySem.Challenge.rw_lookwords_k30_whole_bars_and_counts
end
namespace L2
open PySem PySem.Spec PyProof.Rows
abbrev Key:=Sum Int Str
noncomputable def QX:Key->iB->Bool
 | .inl k,v=>Value.isInt k v
 | .inr x,v=>dS x v
noncomputable def qme (w:iI):Key->Int
 | .inl k=>hashInt k
 | .inr x=>hashStr w x
theorem jr:∀ {k:Key} {v:iB},QX k v=iC->(∃ i t,k=fq i/\v=g9 i t)\/(∃ x t,k=bu x/\v=hJ x t)
 | .inl i,v,h=>by obtain ⟨t,e⟩:=Value.isInt_shape (k:=i) (v:=v) h;exact .inl ⟨i,t,rfl,e⟩
 | .inr x,v,h=>by obtain ⟨t,e⟩:=db (x:=x) (v:=v) h;exact .inr ⟨x,t,rfl,e⟩
theorem WE (i:Int) (t:Tok):QX (.inl i) (.int i t)=true:=by simp [QX,Value.isInt]
theorem WF (x:Str) (t:Tok):QX (.inr x) (.str x t)=true:=by simp [QX,dS]
theorem qh8 (a b:Int):decide ((fq a:Key)=fq b)=(a == b):=by
 by_cases e:a=b;·subst e; simp
 ·have h:¬(fq a:Key)=fq b:=λq=>e (fq.inj q);rw [decide_eq_false h];exact (beq_eq_false_iff_ne.mpr e).symm
theorem qh9 (a b:Str):decide ((bu a:Key)=bu b)=decide (a=b):=by
 by_cases e:a=b;·subst e; simp
 ·have h:¬(bu a:Key)=bu b:=λq=>e (bu.inj q);rw [decide_eq_false h,decide_eq_false e]
theorem qia (a:Int) (b:Str):decide ((fq a:Key)=bu b)=false:=decide_eq_false (λq=>nomatch q)
theorem qib (a:Str) (b:Int):decide ((bu a:Key)=fq b)=false:=decide_eq_false (λq=>nomatch q)
noncomputable def jf (prog:iH) (w:iI):PySem.KeyKind prog w Key where
 is:=QX
 hash:=qme w
 inj:=λv a b g d=>by
  rcases jr g with ⟨i,t,rfl,rfl⟩ | ⟨x,t,rfl,rfl⟩
  ·rcases jr d with ⟨j,u,rfl,e⟩ | ⟨y,u,rfl,e⟩
   ·injection e with e1 _; rw [e1]
   ·exact nomatch e
  ·rcases jr d with ⟨j,u,rfl,e⟩ | ⟨y,u,rfl,e⟩
   ·exact nomatch e
   ·injection e with e1 _; rw [e1]
 byValue:=λk v h=>by rcases jr h with ⟨i,t,rfl,rfl⟩ | ⟨x,t,rfl,rfl⟩ <;> rfl
 pyHash:=λc h=>by
  rcases jr c with ⟨i,t,rfl,rfl⟩ | ⟨x,t,rfl,rfl⟩
  ·exact wpAny_pyHash_int h
  ·exact wpAny_pyHash_str h
 eqBool:=λf c h=>by
  rcases jr f with ⟨i,t,rfl,rfl⟩ | ⟨x,t,rfl,rfl⟩
  ·rcases jr c with ⟨j,u,rfl,rfl⟩ | ⟨y,u,rfl,rfl⟩
   ·rw [qh8] at h; exact wpAny_eqBool_int h
   ·rw [qia] at h; exact SeqAt.EqAt.int_str i t y u _ _ _ _ h
  ·rcases jr c with ⟨j,u,rfl,rfl⟩ | ⟨y,u,rfl,rfl⟩
   ·rw [qib] at h; exact SeqAt.EqAt.str_int x t j u _ _ _ _ h
   ·rw [qh9] at h; exact wpAny_eqBool_str h
 «strs»:=λk x t v h=>by
  rcases jr h with ⟨i,u,rfl,e⟩ | ⟨y,u,rfl,e⟩
  ·exact nomatch e
  ·injection e with e1 _;subst e1;cases v <;> rfl
theorem Yo (prog:iH) (w:iI) (i:Int) (t:Tok):(jf prog w).is (.inl i) (.int i t)=true:=WE i t
theorem Yp (prog:iH) (w:iI) (x:Str) (t:Tok):(jf prog w).is (.inr x) (.str x t)=true:=WF x t
inductive V where
 | non | bl (b:Bool) | int (i:Int) | str (x:Str) | byt (b:Array UInt8) | flt (b:UInt64) | ref (a:Addr) | ty (n:String)
 deriving DecidableEq
def RelV:V->iB->Prop
 | .non,u=>u=cE
 | .bl b,u=>u=dB b
 | .int i,u=>∃ t,u=g9 i t
 | .str x,u=>∃ t,u=hJ x t
 | .byt b,u=>∃ t,u=Value.bytes b t
 | .flt b,u=>∃ t,u=Value.float b t
 | .ref a,u=>u=cr a
 | .ty n,u=>u=h7 n
abbrev Vals:List V->List iB->Prop:=lG RelV
variable {xs:List V} {us:List iB}
theorem Vals.length (r:Vals xs us):xs.length=us.length:=fN r
theorem Vals.get:∀ {xs:List V} {us:List iB} {i:Nat} {x:V},Vals xs us->xs[i]?=iu x->∃ u,us[i]?=iu u/\RelV x u
 | _,_,_,_,.nil,e=>by simp at e
 | _,_,0,_,.cons r _,e=>by simp at e; subst e; exact ⟨_,rfl,r⟩
 | _,_,i+1,x,.cons _ t,e=>by obtain ⟨u,h1,h2⟩:=Vals.get (i:=i) (x:=x) t (by simpa using e);exact ⟨u,by simpa using h1,h2⟩
variable {u:iB}
theorem Vals.set {x:V} (r:RelV x u):∀ {xs:List V} {us:List iB} (i:Nat),Vals xs us->Vals (xs.set i x) (us.set i u)
 | _,_,_,.nil=>.nil
 | _,_,0,.cons _ t=>.cons r t
 | _,_,i+1,.cons q t=>.cons q (Vals.set r i t)
theorem Vals.append:∀ {xs ys:List V} {us ws:List iB},Vals xs us->Vals ys ws->Vals (xs++ys) (us++ws)
 | _,_,_,_,.nil,s=>s
 | _,_,_,_,.cons r t,s=>.cons r (Vals.append t s)
theorem Vals.take:∀ {xs:List V} {us:List iB} (n:Nat),Vals xs us->Vals (xs.take n) (us.take n)
 | _,_,0,_=>.nil
 | _,_,_+1,.nil=>.nil
 | _,_,n+1,.cons r t=>.cons r (Vals.take n t)
theorem Vals.none_of:∀ {xs:List V} {us:List iB} {i:Nat},Vals xs us->xs[i]?=iw->us[i]?=none:=λ{xs us i} r e=>by have h1:=r.length;have h2:xs.length<=i:=bM.mp e;exact bM.mpr (by lia)
def RelO:Option V->Option iB->Prop
 | some v,iu u=>RelV v u
 | none,iw=>True
 | _,_=>False
def KV {κ:Type}:List (κ×V)->List (κ×iB)->Prop:=lG λ(p:κ×V) (q:κ×iB)=>p.1=q.1/\RelV p.2 q.2
noncomputable def kV:Key->V
 | .inl i=>.int i
 | .inr x=>.str x
inductive HO where
 /-- a list -/
 | lst (xs:List V)
 /-- a tuple (never changes) -/
 | tup (xs:List V)
 /-- a dict whose keys are ints and texts; one whose keys are tuples of ints and texts (the empty one is both) -/
 | dK (kvs:List (Key×V)) | dT (kvs:List (List Key×V))
 /-- a set of ints: its members,its size -/
 | set (S:Int->Bool) (n:Nat)
 /-- an instance of the class at C,its dict at dx,its attributes -/
 | ins (C dx:Addr) (fs:List (Str×V))
 /-- the dict of the instance at x -/
 | own (x:Addr)
 /-- the dict of an exception -/
 | xd (fs:List (Str×V))
 /-- a bound method,f of x -/
 | met (f x:Addr)
 /-- a range object lo,lo+1,.. below hi -/
 | rng (lo hi:Int)
 /-- a thing that is known to the object (the script; a dict while a loop walks it): read,never written while it is so -/
 | frz (o:Obj) (u:HO)
 /-- a code object's table -/
 | tbl (ps:Array iB)
 /-- any other thing,by what is iC of its one object (a def of one's own: SetO a S n:=HO.ext λh=>..) -/
 | ext (φ:Heap->Prop)
abbrev Hp:=Addr->Option HO
noncomputable def upd (H:Hp) (a:Addr) (o:HO):Hp:=λb=>if b=a then iu o else H b
variable {H:Hp} {a:Addr} {o:HO}
theorem qu:upd H a o a=iu o:=by unfold upd; rw [if_pos rfl]
variable {b:Addr}
theorem qA (h:b≠a):upd H a o b=H b:=by unfold upd; rw [if_neg h]
theorem qkt {u:HO} (h:H a=iu o) (h':H b=iu u) (d:o≠u):a≠b:=by intro e; subst e; rw [h] at h'; exact d (aI.inj h')
theorem qH (h:H a=iu o) (h':H b=iw):a≠b:=by intro e; subst e; rw [h] at h'; cases h'
section
variable (P:iH) (w:iI)
def ObjOk (H:Hp) (h:Heap) (a:Addr):HO->Prop
 | .lst xs=>xs.length<=sizeLine/\∃ (its:List iB) (n:Nat),Vals xs its/\h.get? a=iu { cls:=.type "list",data:=.seq its.toArray n }
 | .tup xs=>(xs.length<=sizeLine/\∃ o,h.get? a=iu o/\o.dict=iw)/\∃ its:List iB,Vals xs its/\IsTup h a its.toArray
 | .dK kvs=>kvs.length<=sizeLine/\(a == sysModules)=iE/\∃ vs,KV kvs vs/\h.DictOf (jf P w) a vs
 | .dT kvs=>kvs.length<=sizeLine/\(a == sysModules)=iE/\∃ xs:List (List Key×Addr×iB),lG (λ(p:List Key×V) (q:List Key×Addr×iB)=>p.1=q.1/\H q.2.1=iu (.tup (p.1.map kV))/\RelV p.2 q.2.2) kvs xs /\
   ∃ o es ep,h.get? a=iu o/\o.ExactDict/\o.data=.dict es ep/\es.toList=xs.map (entryOfKey (tupleKind (jf P w)))/\(xs.map (·.1)).Nodup
 | .set S n=>h.SetOf (intKind P w) a S n
 | .ins C dx fs=>H dx=iu (.own a)/\fs.length<=1000/\dx≠a/\h.get? a=iu (cS C dx) /\
   ∃ mA,h.Ns1 dx mA/\(∀ f,RelO (fs.lookup f) (mA f))/\PySem.Within mA (fs.map (·.1))
 | .own _=>∃ o,h.get? a=iu o
 | .xd fs=>∃ mA,h.Ns1 a mA/\∀ f,RelO (fs.lookup f) (mA f)
 | .rng lo hi=>∃ t u v,h.get? a=iu { cls:=.type "range",data:=.fields #[.int lo t,.int hi u,.int 1 v] }
 | .frz o u=>h.get? a=iu o/\ObjOk H h a u
 | .tbl ps=>h.get? a=iu { cls:=.none,data:=.fields ps }
 | .met f x=>h.get? a=iu (fG (.ref f) (.ref x))
 | .ext φ=>φ h/\(∃ o,h.get? a=iu o)/\∀ h1 h2:Heap,φ h1->(∀ o,h1.get? a=iu o->h2.get? a=iu o)->φ h2
def HOk (H:Hp) (h:Heap):Prop:=∀ a o,H a=iu o->ObjOk P w H h a o
end
variable {P:iH} {w:iI} {H':Hp} {h h':Heap} {α:Type}
section
theorem ObjOk.lt (x:ObjOk P w H h a o):a < h.objs.size:=by
 cases o with
 | lst xs=>obtain ⟨_,_,_,_,e⟩:=x; exact aA e
 | tup xs=>obtain ⟨_,_,_,p⟩:=x; exact p.lt
 | dK kvs=>obtain ⟨_,_,_,_,o,_,_,e,_⟩:=x; exact aA e
 | dT kvs=>obtain ⟨_,_,_,_,o,_,_,e,_⟩:=x; exact aA e
 | set S n=>obtain ⟨o,_,_,_,e,_⟩:=x; exact aA e
 | ins C dx fs=>obtain ⟨_,_,_,e,_⟩:=x; exact aA e
 | own y=>obtain ⟨_,e⟩:=x; exact aA e
 | xd fs=>obtain ⟨_,⟨_,_,_,e,_⟩,_⟩:=x; exact aA e
 | rng lo hi=>obtain ⟨_,_,_,e⟩:=x; exact aA e
 | frz b u=>obtain ⟨e,_⟩:=x; exact aA e
 | tbl ps=>exact aA (show h.get? a=iu _ from x)
 | met f y=>exact aA (show h.get? a=iu _ from x)
 | ext φ=>obtain ⟨_,⟨_,e⟩,_⟩:=x; exact aA e
theorem Paired.mapP {β:Type} {F G:α->β->Prop}:∀ {c:List α} {l:List β},lG F c l->(∀ a b,F a b->G a b)->lG G c l
 | _,_,.nil,_=>.nil
 | _,_,.cons r t,f=>.cons (f _ _ r) (Paired.mapP t f)
theorem ObjOk.stay (x:ObjOk P w H h a o) (k:∀ b u,(b=a\/H b=iu (.own a))->h.get? b=iu u->h'.get? b=iu u)
  (l:∀ b,H b=iu (.own a)->H' b=iu (.own a)) (ht:∀ b xs,H b=iu (.tup xs)->H' b=iu (.tup xs)):ObjOk P w H' h' a o:=by
 induction o with
 | lst xs=>obtain ⟨z,its,n,r,e⟩:=x; exact ⟨z,its,n,r,k _ _ (.inl rfl) e⟩
 | tup xs=>obtain ⟨⟨z,o2,i,d2⟩,its,r,g,e,c⟩:=x; exact ⟨⟨z,o2,k _ _ (.inl rfl) i,d2⟩,its,r,g,k _ _ (.inl rfl) e,c⟩
 | dK kvs=>obtain ⟨z,y,vs,r,g,es,ep,e,c⟩:=x; exact ⟨z,y,vs,r,g,es,ep,k _ _ (.inl rfl) e,c⟩
 | dT kvs=>obtain ⟨z,y,xs,r,g,es,ep,e,c⟩:=x;exact ⟨z,y,xs,Paired.mapP r λp q z=>⟨z.1,ht _ _ z.2.1,z.2.2⟩,g,es,ep,k _ _ (.inl rfl) e,c⟩
 | set S n=>obtain ⟨g,es,ep,t,e,c⟩:=x; exact ⟨g,es,ep,t,k _ _ (.inl rfl) e,c⟩
 | ins C dx fs=>obtain ⟨d,z,ne,e,mA,⟨od,es,ep,i,c⟩,r⟩:=x;exact ⟨l _ d,z,ne,k _ _ (.inl rfl) e,mA,⟨od,es,ep,k _ _ (.inr d) i,c⟩,r⟩
 | own y=>obtain ⟨g,e⟩:=x; exact ⟨g,k _ _ (.inl rfl) e⟩
 | xd fs=>obtain ⟨mA,⟨od,es,ep,e,c⟩,r⟩:=x; exact ⟨mA,⟨od,es,ep,k _ _ (.inl rfl) e,c⟩,r⟩
 | rng lo hi=>obtain ⟨t,u,v,e⟩:=x; exact ⟨t,u,v,k _ _ (.inl rfl) e⟩
 | frz g u j=>obtain ⟨e,q⟩:=x; exact ⟨k _ _ (.inl rfl) e,j q⟩
 | tbl ps=>have e:h.get? a=iu { cls:=.none,data:=.fields ps }:=x;show h'.get? a=iu { cls:=.none,data:=.fields ps };exact k a _ (.inl rfl) e
 | met f y=>have e:h.get? a=iu (fG (.ref f) (.ref y)):=x;show h'.get? a=iu (fG (.ref f) (.ref y));exact k a _ (.inl rfl) e
 | ext φ=>obtain ⟨p,⟨o,e⟩,st⟩:=x; exact ⟨st _ _ p λo q=>k _ _ (.inl rfl) q,⟨o,k _ _ (.inl rfl) e⟩,st⟩
theorem HOk.lt (x:HOk P w H h) (e:H a=iu o):a < h.objs.size:=(x a o e).lt
theorem HOk.fresh (x:HOk P w H h) (e:h.objs.size<=a):H a=none:=by
 cases q:H a with
 | none=>rfl
 | some u=>exact absurd (aK (x.lt q) e) (cw _)
theorem HOk.kept (x:HOk P w H h) (k:∀ b u,h.get? b=iu u->h'.get? b=iu u):HOk P w H h':=λa o e=>
 (x a o e).stay (λb u _ q=>k b u q) (λ_ q=>q) λ_ _ q=>q
theorem HOk.laid (x:HOk P w H h) (k:∀ b u,h.get? b=iu u->h'.get? b=iu u) (hp:h.objs.size<=a) (new:ObjOk P w (upd H a o) h' a o):HOk P w (upd H a o) h':=λb u e=>by
 have n:=x.fresh hp;by_cases d:b=a;·subst d; rw [qu] at e; cases e; exact new
 ·rw [qA d] at e;exact (x b u e).stay (λc v _ q=>k c v q) (λc q=>by rw [qA (qH q n)]; exact q) λc xs q=>by rw [qA (qH q n)]; exact q
end
def Rd (H:Hp) (a:Addr) (u:HO):Prop:=H a=iu u\/∃ o,H a=iu (.frz o u)
theorem Rd.ok {u:HO} (r:Rd H a u) (x:HOk P w H h):ObjOk P w H h a u:=by
 rcases r with r | ⟨o,r⟩
 ·exact x a u r
 ·obtain ⟨_,q⟩:=x a _ r;exact q
def Mut:Option HO->Prop
 | some (.lst _)=>True
 | some (.dK _)=>True
 | some (.dT _)=>True
 | some (.set _ _)=>True
 | some (.ins _ _ _)=>True
 | some (.ext _)=>True
 | _=>False
section
variable {x e:Addr} {o':HO}
theorem HOk.write (ok:HOk P w H h) (m:Mut (H x)) (i:e=x\/H e=iu (.own x)) (k:∀ b u,b≠e->h.get? b=iu u->h'.get? b=iu u) (o:∃ u,h'.get? e=iu u)
  (new:ObjOk P w (upd H x o') h' x o'):HOk P w (upd H x o') h':=λb u q=>by
 have n:∀ c y,H c=iu (.own y)->c≠x:=λc y r z=>by subst z; rw [r] at m; exact m
 have p:∀ c xs,H c=iu (.tup xs)->c≠x:=λc xs r z=>by subst z; rw [r] at m; exact m
 by_cases f:b=x;·subst f; rw [qu] at q; cases q; exact new
 ·rw [qA f] at q;by_cases a:b=e
  ·have g:H b=iu (.own x):=by
    rcases i with z | z;·exact absurd (a.trans z) f
    ·rw [a]; exact z
   rw [q] at g; cases g;obtain ⟨v,j⟩:=o;exact ⟨v,by rw [a]; exact j⟩
  ·refine (ok b u q).stay (λc v d r=>k c v ?_ r) (λc r=>by rw [qA (n c b r)]; exact r) λc xs r=>by rw [qA (p c xs r)]; exact r
   rcases d with rfl | d;·exact a
   ·rintro rfl;rcases i with z | z;·exact n c b d z
    ·rw [d] at z; cases z; exact f rfl
end
structure Un (fs ex:List Addr) (H H':Hp) (h h':Heap):Prop where
 keep:∀ b o,h.get? b=iu o->H b=iw->b∉fs->b∉ex->h'.get? b=iu o
 slot:∀ b o,h.get? b=iu o->H b=iw->b∈fs->b∉ex->∃ sl,h'.get? b=iu { o with slots:=sl }
 free:∀ b o,h.get? b=iu o->H b=iw->b∉ex->H' b=iw
 there:∀ b o,h.get? b=iu o->b∉ex->∃ o',h'.get? b=iu o'
 tups:∀ b xs,H b=iu (.tup xs)->H' b=iu (.tup xs)
 frzs:∀ b o u,H b=iu (.frz o u)->H' b=iu (.frz o u)
 tbls:∀ b ps,H b=iu (.tbl ps)->∃ more,H' b=iu (.tbl (ps++more))
section
variable {fs fs' ex ex':List Addr} {H1 H2:Hp} {h1 h2:Heap} {x e:Addr}
theorem Un.any (u:Un fs ex H H1 h h1) {o:Obj} (q:h.get? b=iu o) (n:H b=iw) (hx:b∉ex):∃ sl,h1.get? b=iu { o with slots:=sl }:=by
 by_cases d:b∈fs;·exact u.slot b o q n d hx
 ·exact ⟨o.slots,u.keep b o q n d hx⟩
theorem Un.kept (k:∀ b u,h.get? b=iu u->h'.get? b=iu u):Un fs ex H H h h':=
 ⟨λb o q _ _ _=>k b o q,λb o q _ _ _=>⟨o.slots,k b o q⟩,λ_ _ _ n _=>n,λb o q _=>⟨o,k b o q⟩,λ_ _ q=>q,λ_ _ _ q=>q,λ_ ps q=>⟨#[],by rw [q]; simp⟩⟩
theorem Un.refl:Un fs ex H H h h:=Un.kept λ_ _ q=>q
theorem Un.laid (k:∀ b u,h.get? b=iu u->h'.get? b=iu u) (hp:h.objs.size<=a) (c:H a=iw):Un fs ex H (upd H a o) h h' where
 keep:=λb u q _ _ _=>k b u q
 slot:=λb u q _ _ _=>⟨u.slots,k b u q⟩
 free:=λb u q n _=>by rw [qA (aE (aK (aA q) hp))]; exact n
 there:=λb u q _=>⟨u,k b u q⟩
 tups:=λb xs q=>by rw [qA (qH q c)]; exact q
 frzs:=λb u xs q=>by rw [qA (qH q c)]; exact q
 tbls:=λb ps q=>⟨#[],by rw [qA (qH q c),q]; simp⟩
theorem Un.write (m:Mut (H x)) (i:e=x\/H e=iu (.own x)) (k:∀ b u,b≠e->h.get? b=iu u->h'.get? b=iu u) (d:∃ u,h'.get? e=iu u):Un fs ex H (upd H x o) h h':=by
 have hx:∀ b,H b=iw->b≠x:=λb n z=>by subst z; rw [n] at m; exact m
 have f:∀ b,H b=iw->b≠e:=λb n z=>by
  subst z;rcases i with r | r;·exact hx b n r
  ·rw [n] at r; cases r
 have c:∀ b u,H b=iu u->¬Mut (iu u)->b≠x:=λb u q nm z=>by subst z; rw [q] at m; exact nm m
 refine ⟨λb u q n _ _=>k b u (f b n) q,λb u q n _ _=>⟨u.slots,k b u (f b n) q⟩,λb u q n _=>by rw [qA (hx b n)]; exact n,λb u q _=>?_,λb xs q=>by rw [qA (c b _ q λz=>z)]; exact q,λb u xs q=>by rw [qA (c b _ q λz=>z)]; exact q,λb ps q=>⟨#[],by rw [qA (c b _ q λz=>z),q]; simp⟩⟩;by_cases a:b=e;·subst a; exact d
 ·exact ⟨u,k b u a q⟩
end
noncomputable def trk (h:Heap) (H:Hp):List Addr:=(aH h.objs.size).filter λa=>(H a).isSome
noncomputable def qdq (h:Heap) (H:Hp):Heap:=bi h (trk h H)
theorem qaD (h:Heap) (H:Hp):(qdq h H).objs.size=h.objs.size:=PySem.W.hideAll_size _ _
theorem qdr {o:Obj} (e:h.get? b=iu o) (n:H b=iw):(qdq h H).get? b=iu o:=
 df _ e λc=>by have q:(H b).isSome=true:=(aG.mp c).2;rw [n] at q; simp at q
theorem qf7 {o:Obj} (e:(qdq h H).get? b=iu o):h.get? b=iu o/\H b=none:=by
 have a:h.get? b=iu o:=d4 (trk h H) e;refine ⟨a,?_⟩;cases q:H b with
 | none=>rfl
 | some x=>have c:b∈trk h H:=aG.mpr ⟨aL.mpr (aA a),by simp [q]⟩;have z:(qdq h H).get? b=none:=cU (trk h H) c;rw [z] at e; cases e
abbrev Pns:=List (Addr×Obj)
noncomputable def qf8 (g h:Heap) (L:Addr):Pns:=(aH h.objs.size).filterMap λa=>if a=L\/(g.get? a).isSome=iC then iw else (h.get? a).map λo=>(a,o)
noncomputable def rest (g h:Heap) (L d:Addr):Pns:=(qf8 g h L).filter λp=>decide (p.1≠d)
structure Mod (K:Frag) (mg:Str->Option iB) (base:Heap):Prop where
 kin:K.In base
 glob:base.Ns mainGlobals mg
 blt:∃ mb,base.Ns builtinsNs mb/\∀ x:Str,x ≠ "__name__"->mb x=bootBuiltins x
 nolimit:base.NoLimit
structure Cx where
 prog:iH
 w:iI
 K:Frag
 mg:Str->Option iB
 base:Heap
 A:iK
 N:List Str
 s₀:iF
 H₀:Hp
 env:Env
 outer:List Env
 stack:List Env
 ex:List Addr
 fn:Str->Bool
 calm:Bool
 pn:Pns
 xe:iB->iF->Prop
noncomputable def frs (l:List Env):List Addr:=l.filterMap (·.frame)
abbrev Cx.fs (X:Cx):List Addr:=frs X.outer
def Vis (sc:lf) (x:Str):Prop:=sc.names.lookup x=iu .local\/sc.names.lookup x=iu .cell\/sc.names.lookup x=iu .free
def Loc (sc:lf) (x:Str):Prop:=sc.names.lookup x=iu .local\/sc.names.lookup x=iu .cell
def Vl (env:Env) (h:Heap) (m:Str->Option iB) (x:Str) (u:iB):Prop:=
 (env.kindOf x=iu .local/\m x=iu u)\/((env.kindOf x=iu .cell\/env.kindOf x=iu .free)/\∃ c,env.cells.lookup x=iu c/\h.IsCell c (iu u))
structure Cx.Ok (X:Cx):Prop where
 mod:Mod X.K X.mg X.base
 kind:X.env.scope.kind=.function
 glob:X.env.globals=mainGlobals
 blt:X.env.builtins=builtinsNs
 above:X.s₀.heap.objs.size<=X.env.locals
 inj:∀ x y c,X.env.cells.lookup x=iu c->X.env.cells.lookup y=iu c->x=y
 has:∀ x,(X.env.kindOf x=iu .cell\/X.env.kindOf x=iu .free)->∃ c,X.env.cells.lookup x=iu c
 cab:∀ x c,X.fn x=iC->X.env.cells.lookup x=iu c->X.s₀.heap.objs.size<=c
 hd:X.calm=iC->X.A.handled=iw
 frames:X.A.frames=iu X.stack
 stk:X.stack=X.outer\/(X.stack=X.env::X.outer/\X.env.frame=iu X.env.locals)
 exf:∀ b∈X.ex,b≠X.env.locals/\∀ x c,X.env.cells.lookup x=iu c->c≠b
 bs:∀ b o,X.base.get? b=iu o->X.s₀.heap.get? b=iu o/\X.H₀ b=iw
 bsz:X.base.objs.size<=X.s₀.heap.objs.size
 noex:∀ b o,X.base.get? b=iu o->b∉X.ex
 exfs:∀ b∈X.ex,b∉X.fs
 funs:X.s₀.heap.FunFrames X.base X.outer
 frf:∀ b∈X.fs,X.H₀ b=iw
structure Inv (X:Cx) (pins:Pns) (σ:List (Option V)) (H:Hp) (s:iF):Prop where
 ok:X.Ok
 os:s.os=X.s₀.os
 bare:lh s.gens
 base:Un X.fs X.ex X.H₀ H X.s₀.heap s.heap
 loc:∃ m,s.heap.Ns X.env.locals m/\∀ (i:Nat) (x:Str) (v:V),X.N[i]?=iu x->σ[i]?=iu (iu v)->Vis X.env.scope x->∃ u,RelV v u/\Vl X.env s.heap m x u
 cell:∀ x c,X.env.cells.lookup x=iu c->∃ v,s.heap.IsCell c v
 free:H X.env.locals=iw
 freeC:∀ x c,X.env.cells.lookup x=iu c->H c=iw
 pin:∀ p∈X.pn++pins,s.heap.get? p.1=iu p.2/\H p.1=iw/\p.1≠X.env.locals/\p.1∉X.fs/\∀ v,p.2.data≠.cell v
 hok:HOk X.prog X.w H s.heap
 len:σ.length=X.N.length
variable {x:Str} {X:Cx} {pins:Pns} {s s':iF} {t' i:Nat} {it:Addr} {v:V}
section
variable {σ:List (Option V)}
theorem Cx.Ok.nofr (ok:X.Ok) {o:Obj} (e:X.base.get? b=iu o):b∉X.fs:=λd=>by have:=(ok.funs.mem d).1;rw [e] at this; cases this
theorem Inv.bs (I:Inv X pins σ H s):∀ b o,X.base.get? b=iu o->s.heap.get? b=iu o/\H b=none:=λb o e=>
 ⟨I.base.keep b o (I.ok.bs b o e).1 (I.ok.bs b o e).2 (I.ok.nofr e) (I.ok.noex b o e),I.base.free b o (I.ok.bs b o e).1 (I.ok.bs b o e).2 (I.ok.noex b o e)⟩
theorem Inv.bk (I:Inv X pins σ H s):∀ b o,X.base.get? b=iu o->s.heap.get? b=iu o:=λb o e=>(I.bs b o e).1
theorem Inv.mod (I:Inv X pins σ H s):Mod X.K X.mg X.base:=I.ok.mod
theorem Inv.kIn (I:Inv X pins σ H s):X.K.In s.heap:=I.ok.mod.kin.keeps I.bk
theorem Inv.nolimit (I:Inv X pins σ H s):s.heap.NoLimit:=I.ok.mod.nolimit.keeps I.bk
theorem Inv.fr (I:Inv X pins σ H s):∃ m,Fr X.base X.env.locals s.heap m:=
 let ⟨m,n,_⟩:=I.loc
 ⟨m,n,I.bk,bv I.ok.bsz I.ok.above⟩
theorem Inv.lt (I:Inv X pins σ H s):X.env.locals < s.heap.objs.size:=let ⟨_,n,_⟩:=I.loc; n.lt
theorem Inv.sz (I:Inv X pins σ H s):X.s₀.heap.objs.size<=s.heap.objs.size:=bv I.ok.above (eI I.lt)
theorem Inv.nofs (I:Inv X pins σ H s) (h:s.heap.objs.size<=a):a∉X.fs:=λd=>by obtain ⟨_,o,l,_⟩:=I.ok.funs.mem d;exact absurd (aK (aA l) (bv I.sz h)) (cw _)
theorem Inv.cne (I:Inv X pins σ H s):∀ x c,X.env.cells.lookup x=iu c->c≠X.env.locals:=λx c e z=>by obtain ⟨v,o,l,hd⟩:=I.cell x c e;obtain ⟨m,⟨o',es,ep,h,a,_⟩,_⟩:=I.loc;rw [z,h] at l; cases l; rw [a] at hd; cases hd
theorem Inv.funs (I:Inv X pins σ H s):s.heap.FunFrames X.base X.outer:=by
 have all:∀ (l:List Env),(∀ b∈frs l,b∈X.fs)->X.s₀.heap.FunFrames X.base l->s.heap.FunFrames X.base l:=by
  intro l
  induction l with
  | nil=>intro _ _; trivial
  | cons env r j=>intro c hl;obtain ⟨k,⟨L,o,h,n,f,hd⟩,hr⟩:=hl;have a:L∈X.fs:=c L (by unfold frs; rw [bw,h]; exact ae);obtain ⟨sl,e⟩:=I.base.slot L o f (I.ok.frf L a) a λz=>I.ok.exfs L z a;exact ⟨k,⟨L,_,h,n,e,hd⟩,j (λb d=>c b (by unfold frs; rw [bw,h]; exact aa _ d)) hr⟩
 exact all X.outer (λ_ d=>d) I.ok.funs
theorem Inv.stack (I:Inv X pins σ H s):s.heap.FunFrames X.base X.stack:=by
 rcases I.ok.stk with e | ⟨e,hf⟩
 ·rw [e]; exact I.funs
 ·rw [e];obtain ⟨m,n,_⟩:=I.loc;refine .cons (by rw [I.ok.kind]; decide) hf n ?_ I.funs;exact Heap.get?_none_of_le (bv I.ok.bsz I.ok.above)
theorem Inv.stkSub (I:Inv X pins σ H s):∀ b∈frs X.stack,b∈X.env.locals::X.fs:=λb d=>by
 rcases I.ok.stk with e | ⟨e,hf⟩
 ·rw [e] at d; exact aa _ d
 ·rw [e] at d;unfold frs at d;rw [bw,hf] at d;exact d
theorem Inv.stkFree (I:Inv X pins σ H s):∀ b∈frs X.stack,H b=none:=λb d=>by
 rcases ac.mp (I.stkSub b d) with e | d;·rw [e]; exact I.free
 ·obtain ⟨_,o,l,_⟩:=I.ok.funs.mem d;exact I.base.free b o l (I.ok.frf b d) λz=>I.ok.exfs b z d
theorem Inv.step {g':Array lA} {t':Nat} {d':Drawn} {ch:List Addr} (I:Inv X pins σ H s)
  (a:∀ b∈ch,(b∈X.ex\/X.s₀.heap.objs.size<=b)/\b≠X.env.locals/\(∀ x c,X.env.cells.lookup x=iu c->c≠b)/\∀ p∈X.pn++pins,p.1≠b)
  (keep:∀ b o,b≠X.env.locals->b∉X.fs->b∉ch->s.heap.get? b=iu o->H b=iw->h'.get? b=iu o)
  (slot:∀ b o,b≠X.env.locals->b∈X.fs->b∉ch->s.heap.get? b=iu o->H b=iw->∃ sl,h'.get? b=iu { o with slots:=sl }) (free:∀ b o,b∉ch->s.heap.get? b=iu o->H b=iw->H' b=iw)
  (there:∀ b o,b∉ch->s.heap.get? b=iu o->∃ o',h'.get? b=iu o')
  (tups:∀ b xs,H b=iu (.tup xs)->H' b=iu (.tup xs)) (frzs:∀ b o u,H b=iu (.frz o u)->H' b=iu (.frz o u)) (tbls:∀ b ps,H b=iu (.tbl ps)->∃ more,H' b=iu (.tbl (ps++more)))
  (ns:∀ m,s.heap.Ns X.env.locals m->h'.Ns X.env.locals m) (hok:HOk X.prog X.w H' h') (hg:lh g') :
  Inv X pins σ H' { s with heap:=h',gens:=g',drawn:=d',toks:=t' }:=by
 have L:∀ b o,X.s₀.heap.get? b=iu o->b≠X.env.locals:=λb o e=>aE (aK (aA e) I.ok.above);have C:∀ b o,X.s₀.heap.get? b=iu o->b∉X.ex->b∉ch:=λb o e hx f=>by
  rcases (a b f).1 with z | z;·exact hx z
  ·exact absurd (aK (aA e) z) (cw _)
 have K:∀ x c,X.env.cells.lookup x=iu c->∀ v,s.heap.IsCell c v->h'.IsCell c v:=λx c e v ⟨o,g,hd⟩=>by
  have h:c∉ch:=λz=>(a c z).2.2.1 x c e rfl;by_cases A:c∈X.fs;·obtain ⟨sl,q⟩:=slot c o (I.cne x c e) A h g (I.freeC x c e);exact ⟨_,q,hd⟩
  ·exact ⟨o,keep c o (I.cne x c e) A h g (I.freeC x c e),hd⟩
 refine ⟨I.ok,I.os,hg,⟨λb o e n f hx=>?_,λb o e n f hx=>?_,λb o e n hx=>?_,λb o e hx=>?_,λb xs e=>tups b xs (I.base.tups b xs e),λb o xs e=>frzs b o xs (I.base.frzs b o xs e),λb ps e=>?_⟩,?_,λx c e=>?_,?_,λx c e=>?_,λp hp=>?_,hok,I.len⟩;·exact keep b o (L b o e) f (C b o e hx) (I.base.keep b o e n f hx) (I.base.free b o e n hx)
 ·obtain ⟨sl,e1⟩:=I.base.slot b o e n f hx;obtain ⟨t,j⟩:=slot b _ (L b o e) f (C b o e hx) e1 (I.base.free b o e n hx);exact ⟨t,j⟩
 ·obtain ⟨o',e1⟩:=I.base.there b o e hx;exact free b o' (C b o e hx) e1 (I.base.free b o e n hx)
 ·obtain ⟨o',e1⟩:=I.base.there b o e hx;exact there b o' (C b o e hx) e1
 ·obtain ⟨m1,e1⟩:=I.base.tbls b ps e;obtain ⟨B,j⟩:=tbls b _ e1;exact ⟨m1++B,by rw [j,Array.append_assoc]⟩
 ·obtain ⟨m,D,hl⟩:=I.loc;refine ⟨m,ns m D,λi x v e1 j E=>?_⟩;obtain ⟨u,r,l⟩:=hl i x v e1 j E;refine ⟨u,r,?_⟩;rcases l with l | ⟨k,c,e,z⟩
  ·exact .inl l
  ·exact .inr ⟨k,c,e,K x c e _ z⟩
 ·obtain ⟨v,z⟩:=I.cell x c e;exact ⟨v,K x c e v z⟩
 ·obtain ⟨m,⟨o,_,_,g,_⟩,_⟩:=I.loc;exact free _ o (λz=>(a _ z).2.1 rfl) g I.free
 ·obtain ⟨v,o,g,hd⟩:=I.cell x c e;exact free c o (λz=>(a c z).2.2.1 x c e rfl) g (I.freeC x c e)
 ·obtain ⟨e,n,ne,y,d⟩:=I.pin p hp;have h:p.1∉ch:=λz=>(a p.1 z).2.2.2 p hp rfl;exact ⟨keep p.1 p.2 ne y h e n,free p.1 p.2 h e n,ne,y,d⟩
theorem Inv.un (I:Inv X pins σ H s) (u:Un X.fs [] H H' s.heap h') (hok:HOk X.prog X.w H' h'):Inv X pins σ H' { s with heap:=h',toks:=t' }:=by obtain ⟨m,⟨o,es,ep,l,r⟩,_⟩:=id I.loc;obtain ⟨sl,L⟩:=u.any l I.free (by simp);exact I.step (g':=s.gens) (d':=s.drawn) (ch:=[]) (λ_ z=>nomatch z) (λb o _ d _ e n=>u.keep b o e n d (by simp)) (λb o _ d _ e n=>u.slot b o e n d (by simp)) (λb o _ e n=>u.free b o e n (by simp)) (λb o _ e=>u.there b o e (by simp)) u.tups u.frzs u.tbls (λf c=>by obtain ⟨o',es',a,h,r'⟩:=c;rw [l] at h; cases h;exact ⟨_,es',a,L,r'⟩) hok I.bare
theorem Inv.call {g':Array lA} {t':Nat} {d':Drawn} {ch:List Addr} (I:Inv X pins σ H s) (u:Un (frs X.stack) ch H H' s.heap h') (hok:HOk X.prog X.w H' h') (hg:lh g')
  (a:∀ b∈ch,(b∈X.ex\/X.s₀.heap.objs.size<=b)/\b≠X.env.locals/\(∀ x c,X.env.cells.lookup x=iu c->c≠b)/\∀ p∈X.pn++pins,p.1≠b) :
  Inv X pins σ H' { s with heap:=h',gens:=g',drawn:=d',toks:=t' }:=by
 obtain ⟨m,⟨o,es,ep,l,r⟩,_⟩:=id I.loc;obtain ⟨sl,L⟩:=u.any l I.free λz=>(a _ z).2.1 rfl;exact I.step (ch:=ch) a (λb o L i d e n=>u.keep b o e n (λz=>(ac.mp (I.stkSub b z)).elim L i) d) (λb o _ _ d e n=>u.any e n d) (λb o d e n=>u.free b o e n d) (λb o d e=>u.there b o e d) u.tups u.frzs u.tbls (λj g=>by obtain ⟨o',es',f,h,r'⟩:=g;rw [l] at h; cases h;exact ⟨_,es',f,L,r'⟩) hok hg
theorem Inv.turned {t':Nat} (I:Inv X pins σ H s) (k:∀ b o,b≠it->s.heap.get? b=iu o->h'.get? b=iu o) (h:H it=iw) (a:it≠X.env.locals)
  (h1:it∈X.ex\/X.s₀.heap.objs.size<=it) (h2:∀ x c,X.env.cells.lookup x=iu c->c≠it) (i:∀ p∈X.pn++pins,p.1≠it):Inv X pins σ H { s with heap:=h',toks:=t' }:=by
 have t:∀ b u,H b=iu u->b≠it:=λb u e z=>by rw [z,h] at e; cases e
 refine I.step (g':=s.gens) (d':=s.drawn) (ch:=[it]) (λb g=>?_) (λb o _ _ d e _=>k b o (λz=>d (by simp [z])) e) (λb o _ _ d e _=>⟨o.slots,k b o (λz=>d (by simp [z])) e⟩) (λ_ _ _ _ n=>n)
  (λb o d e=>⟨o,k b o (λz=>d (by simp [z])) e⟩) (λ_ _ e=>e) (λ_ _ _ e=>e) (λb ps e=>⟨#[],by rw [e]; simp⟩) (λm f=>?_) (λb u e=>?_) I.bare
 ·have e:b=it:=by simpa using g
  subst e;exact ⟨h1,a,h2,i⟩
 ·obtain ⟨o,es,ep,l,r⟩:=f;exact ⟨o,es,ep,k _ o (bo a) l,r⟩
 ·refine (I.hok b u e).stay (λc v d q=>k c v ?_ q) (λ_ q=>q) λ_ _ q=>q;rcases d with z | z;·rw [z]; exact t b u e
  ·exact t c _ z
theorem Inv.tok (I:Inv X pins σ H s) (t:Nat):Inv X pins σ H { s with toks:=t }:=I.un (h':=s.heap) (t':=t) Un.refl I.hok
theorem Inv.kept (I:Inv X pins σ H s) (k:∀ b u,s.heap.get? b=iu u->h'.get? b=iu u):Inv X pins σ H { s with heap:=h',toks:=t' }:=I.un (Un.kept k) (I.hok.kept k)
theorem Inv.laid {t':Nat} (I:Inv X pins σ H s) (k:∀ b u,s.heap.get? b=iu u->h'.get? b=iu u) (hp:s.heap.objs.size<=a) (new:ObjOk X.prog X.w (upd H a o) h' a o):Inv X pins σ (upd H a o) { s with heap:=h',toks:=t' }:=I.un (Un.laid k hp (I.hok.fresh hp)) (I.hok.laid k hp new)
theorem Inv.write {x e:Addr} {o:HO} {t':Nat} (I:Inv X pins σ H s) (m:Mut (H x)) (i:e=x\/H e=iu (.own x)) (k:∀ b u,b≠e->s.heap.get? b=iu u->h'.get? b=iu u) (h:∃ u,h'.get? e=iu u)
  (new:ObjOk X.prog X.w (upd H x o) h' x o):Inv X pins σ (upd H x o) { s with heap:=h',toks:=t' }:=I.un (Un.write m i k h) (I.hok.write m i k h new)
theorem Inv.weak {σ':List (Option V)} (I:Inv X pins σ H s) (hl:σ'.length=σ.length) (w:∀ (i:Nat) v,σ'[i]?=iu (iu v)->σ[i]?=iu (iu v)):Inv X pins σ' H s:=
 ⟨I.ok,I.os,I.bare,I.base,let ⟨m,n,h⟩:=I.loc; ⟨m,n,λi x v e1 e E=>h i x v e1 (w i v e) E⟩,I.cell,I.free,I.freeC,I.pin,I.hok,hl.trans I.len⟩
theorem Inv.pins_of {a:Pns} (I:Inv X pins σ H s) (h:∀ p∈a,s.heap.get? p.1=iu p.2/\H p.1=iw/\p.1≠X.env.locals/\p.1∉X.fs/\∀ v,p.2.data≠.cell v):Inv X a σ H s:=
 ⟨I.ok,I.os,I.bare,I.base,I.loc,I.cell,I.free,I.freeC,λp hp=>(ao.mp hp).elim (λz=>I.pin p (bW _ z)) (h p),I.hok,I.len⟩
theorem XT {N:List Str} (h:N.Nodup) {j:Nat} (a:N[i]?=iu x) (b:N[j]?=iu x):i=j:=by obtain ⟨h1,e1⟩:=aC.mp a;obtain ⟨h2,e⟩:=aC.mp b;exact (fQ h).mp (e1.trans e.symm)
theorem WG {M:Model} {A:iK} {E:iB->iF->Prop} {Q:Unit->iF->Prop} (I:Inv X pins σ H s) (hN:X.N.Nodup) (hi:X.N[i]?=iu x) (hx:Loc X.env.scope x) (r:RelV v u)
  (h:∀ s',Inv X pins (σ.set i (iu v)) H s'->(∃ a,bK a s.heap s'.heap/\(a=X.env.locals\/X.env.cells.lookup x=iu a))->Q () s') (hf:X.fn x=iC\/X.env.scope.names.lookup x=iu .local:=by first | exact .inl rfl | exact .inr rfl | assumption):wpAny M A (storeName X.env x u) Q E s:=by
 obtain ⟨m,hn,hl⟩:=id I.loc;have P:(X.env.scope.kind == .class||(X.env.scope.kind == .module&&X.env.locals != X.env.globals))=false:=by rw [I.ok.kind]; rfl
 have D:i < σ.length:=by rw [I.len]; exact (aC.mp hi).1
 have cne:=I.cne;have t:∀ {a:Addr} {h':Heap},(∃ o,s.heap.get? a=iu o/\H a=iw)->bK a s.heap h'->HOk X.prog X.w H h':=λ{a h'} ha f b ob e=>by
  obtain ⟨_,_,l⟩:=ha;refine (I.hok b ob e).stay (λc T g q=>(f.2 c ?_).trans q) (λ_ q=>q) λ_ _ q=>q;rintro rfl;rcases g with rfl | g;·rw [l] at e; cases e
  ·rw [l] at g; cases g
 rcases hx with C | C
 ·refine wpAny_storeName_local C hn (λh' F f=>?_) P;obtain ⟨oL,_,_,Z,_⟩:=id hn;refine h _ ⟨I.ok,I.os,I.bare,⟨λb o e n K hx=>?_,λb o e n K hx=>?_,I.base.free,λb o e hx=>?_,I.base.tups,I.base.frzs,I.base.tbls⟩,⟨_,F,λj y V e1 B e3=>?_⟩,λy c e=>?_,I.free,I.freeC,λp hp=>?_,t ⟨oL,Z,I.free⟩ f,by simpa using I.len⟩ ⟨_,f,.inl rfl⟩;·exact (f.2 b (aE (aK (aA e) I.ok.above))).trans (I.base.keep b o e n K hx)
  ·obtain ⟨sl,e1⟩:=I.base.slot b o e n K hx;exact ⟨sl,(f.2 b (aE (aK (aA e) I.ok.above))).trans e1⟩
  ·obtain ⟨o',e1⟩:=I.base.there b o e hx;exact ⟨o',(f.2 b (aE (aK (aA e) I.ok.above))).trans e1⟩
  ·by_cases G:j=i;·subst G;rw [hi] at e1; cases e1;rw [aJ D] at B;cases B;exact ⟨u,r,.inl ⟨C,by simp⟩⟩
   ·rw [ay (bo G)] at B;obtain ⟨W,r',q⟩:=hl j y V e1 B e3;refine ⟨W,r',?_⟩;rcases q with ⟨k,e⟩ | ⟨k,c,e,z⟩
    ·refine .inl ⟨k,?_⟩;have:y≠x:=λe=>G (XT hN e1 (e ▸ hi));simp [this,e]
    ·exact .inr ⟨k,c,e,z.sameBut f (cne y c e)⟩
  ·obtain ⟨T,z⟩:=I.cell y c e;exact ⟨T,z.sameBut f (cne y c e)⟩
  ·obtain ⟨e,n,ne,Y,d⟩:=I.pin p hp;exact ⟨(f.2 p.1 ne).trans e,n,ne,Y,d⟩
 ·have J:X.fn x=true:=by
   rcases hf with z | z;·exact z
   ·rw [z] at C; cases C
  obtain ⟨c,g⟩:=I.ok.has x (.inl C);obtain ⟨T,z⟩:=I.cell x c g;refine wpAny_storeName_cell I.ok.kind C g z (λh' S f=>?_);obtain ⟨oc,O,L⟩:=id z;refine h { s with heap:=h' } ⟨I.ok,I.os,I.bare,⟨λb o e n K hx=>?_,λb o e n K hx=>?_,I.base.free,λb o e hx=>?_,I.base.tups,I.base.frzs,I.base.tbls⟩,⟨m,hn.sameBut f (bo (cne x c g)),λj y V e1 B e3=>?_⟩,λy U e=>?_,I.free,I.freeC,λp hp=>?_,t ⟨oc,O,I.freeC x c g⟩ f,by simpa using I.len⟩ ⟨c,f,.inr g⟩;·exact (f.2 b (aE (aK (aA e) (I.ok.cab x c J g)))).trans (I.base.keep b o e n K hx)
  ·obtain ⟨sl,e1⟩:=I.base.slot b o e n K hx;exact ⟨sl,(f.2 b (aE (aK (aA e) (I.ok.cab x c J g)))).trans e1⟩
  ·obtain ⟨o',e1⟩:=I.base.there b o e hx;exact ⟨o',(f.2 b (aE (aK (aA e) (I.ok.cab x c J g)))).trans e1⟩
  ·by_cases G:j=i;·subst G;rw [hi] at e1; cases e1;rw [aJ D] at B;cases B;exact ⟨u,r,.inr ⟨.inl C,c,g,S⟩⟩
   ·rw [ay (bo G)] at B;obtain ⟨W,r',q⟩:=hl j y V e1 B e3;refine ⟨W,r',?_⟩;rcases q with q | ⟨k,U,e,z'⟩
    ·exact .inl q
    ·refine .inr ⟨k,U,e,z'.sameBut f ?_⟩;rintro rfl;exact G (XT hN e1 (I.ok.inj _ _ _ e g ▸ hi))
  ·by_cases R:U=c;·subst R; exact ⟨_,S⟩
   ·obtain ⟨w2,z2⟩:=I.cell y U e;exact ⟨w2,z2.sameBut f R⟩
  ·obtain ⟨e,n,ne,Y,d⟩:=I.pin p hp;refine ⟨(f.2 p.1 ?_).trans e,n,ne,Y,d⟩;intro q;rw [q,O] at e;have q':oc=p.2:=aI.inj e;exact d T (by rw [<-q']; exact L)
theorem XU {M:Model} {A:iK} {E:iB->iF->Prop} {Q:Unit->iF->Prop} (I:Inv X pins σ H s) (a:X.N.Nodup) (hi:X.N[i]?=iu x) (hx:Loc X.env.scope x) (r:RelV v u)
  (h:∀ s',Inv X pins (σ.set i (iu v)) H s'->Q () s') (f:X.fn x=iC\/X.env.scope.names.lookup x=iu .local:=by first | exact .inl rfl | exact .inr rfl | assumption):wpAny M A (storeName X.env x u) Q E s:=
 WG I a hi hx r (λs' b _=>h s' b) f
theorem Inv.call' {ch:List Addr} (I:Inv X pins σ H s) (l:s'.os=s.os) (u:Un (frs X.stack) ch H H' s.heap s'.heap) (hok:HOk X.prog X.w H' s'.heap) (hg:lh s'.gens)
  (a:∀ b∈ch,(b∈X.ex\/X.s₀.heap.objs.size<=b)/\b≠X.env.locals/\(∀ x c,X.env.cells.lookup x=iu c->c≠b)/\∀ p∈X.pn++pins,p.1≠b):Inv X pins σ H' s':=by
 obtain ⟨h',g',d',t',o'⟩:=s';have e:o'=s.os:=l;subst e;exact I.call (g':=g') (t':=t') (d':=d') u hok hg a
end
abbrev XK:=iB->Option Addr->Hp->Prop
abbrev St:=List (Option V)
abbrev VK:=V->Hp->Prop
abbrev TE:=St->Hp->VK->Prop
abbrev TT:=St->Hp->(Bool->Hp->Prop)->Prop
abbrev TA:=St->Hp->(List V->Hp->Prop)->Prop
structure Ends where
 nx:St->Hp->Prop
 rt:VK
 bk:St->Hp->Prop:=λ_ _=>False
 ct:St->Hp->Prop:=λ_ _=>False
abbrev TS:=Ends->St->Hp->Prop
def EP (X:Cx) (pins:Pns) (σ:St) (Q:VK) (u:iB) (s':iF):Prop:=∃ v H',Inv X pins σ H' s'/\RelV v u/\Q v H'
def TP (X:Cx) (pins:Pns) (σ:St) (Q:Bool->Hp->Prop) (b:Bool) (s':iF):Prop:=∃ H',Inv X pins σ H' s'/\Q b H'
def AP (X:Cx) (pins:Pns) (σ:St) (Q:List V->Hp->Prop) (us:List iB) (s':iF):Prop:=∃ vs H',Inv X pins σ H' s'/\Vals vs us/\Q vs H'
def SP (X:Cx) (pins:Pns) (D:Ends) (f:Flow) (s':iF):Prop:=
 match f with
 | .next=>∃ σ' H',Inv X pins σ' H' s'/\D.nx σ' H'
 | .brk=>∃ σ' H',Inv X pins σ' H' s'/\D.bk σ' H'
 | .cont=>∃ σ' H',Inv X pins σ' H' s'/\D.ct σ' H'
 | .ret u=>∃ v σ' H',Inv X pins σ' H' s'/\RelV v u/\D.rt v H'
structure PE (X:Cx) (e:Expr) (t:TE):Prop where
 run:∀ (pins:Pns) (s:iF) (σ:St) (H:Hp) (Q:VK),Inv X pins σ H s->t σ H Q->wpAny (model X.prog X.w) X.A (eval e X.env) (EP X pins σ Q) X.xe s
instance {X:Cx} {e:Expr} {t:TE}:CoeFun (PE X e t) (λ_=>∀ (pins:Pns) (s:iF) (σ:St) (H:Hp) (Q:VK),Inv X pins σ H s->t σ H Q->wpAny (model X.prog X.w) X.A (eval e X.env) (EP X pins σ Q) X.xe s):=⟨λh=>h.run⟩
structure PT (X:Cx) (e:Expr) (t:TT):Prop where
 run:∀ (pins:Pns) (s:iF) (σ:St) (H:Hp) (Q:Bool->Hp->Prop),Inv X pins σ H s->t σ H Q->wpAny (model X.prog X.w) X.A (isTrue e X.env (eval e X.env)) (TP X pins σ Q) X.xe s
instance {X:Cx} {e:Expr} {t:TT}:CoeFun (PT X e t) (λ_=>∀ (pins:Pns) (s:iF) (σ:St) (H:Hp) (Q:Bool->Hp->Prop),Inv X pins σ H s->t σ H Q->wpAny (model X.prog X.w) X.A (isTrue e X.env (eval e X.env)) (TP X pins σ Q) X.xe s):=⟨λh=>h.run⟩
structure PW (X:Cx) (e:Expr) (t:TT):Prop where
 run:∀ (whole:Sem iB) (pins:Pns) (s:iF) (σ:St) (H:Hp) (Q:Bool->Hp->Prop),Inv X pins σ H s->t σ H Q->wpAny (model X.prog X.w) X.A (isTrue e X.env whole) (TP X pins σ Q) X.xe s
instance {X:Cx} {e:Expr} {t:TT}:CoeFun (PW X e t) (λ_=>∀ (whole:Sem iB) (pins:Pns) (s:iF) (σ:St) (H:Hp) (Q:Bool->Hp->Prop),Inv X pins σ H s->t σ H Q->wpAny (model X.prog X.w) X.A (isTrue e X.env whole) (TP X pins σ Q) X.xe s):=⟨λh=>h.run⟩
variable {e:Expr}
theorem PW.pt {t:TT} (h:PW X e t):PT X e t:=⟨h.run _⟩
structure PA (X:Cx) (es:List Expr) (t:TA):Prop where
 run:∀ (pos:Pos) (pins:Pns) (s:iF) (σ:St) (H:Hp) (Q:List V->Hp->Prop),Inv X pins σ H s->t σ H Q->wpAny (model X.prog X.w) X.A (spliced (backTo pos (starEach es X.env))) (AP X pins σ Q) X.xe s
instance {X:Cx} {es:List Expr} {t:TA}:CoeFun (PA X es t) (λ_=>∀ (pos:Pos) (pins:Pns) (s:iF) (σ:St) (H:Hp) (Q:List V->Hp->Prop),Inv X pins σ H s->t σ H Q->wpAny (model X.prog X.w) X.A (spliced (backTo pos (starEach es X.env))) (AP X pins σ Q) X.xe s):=⟨λh=>h.run⟩
structure PS (X:Cx) (st:Stmt) (t:TS):Prop where
 run:∀ (pins:Pns) (s:iF) (σ:St) (H:Hp) (D:Ends),Inv X pins σ H s->t D σ H->wpAny (model X.prog X.w) X.A (exec st X.env) (SP X pins D) X.xe s
instance {X:Cx} {st:Stmt} {t:TS}:CoeFun (PS X st t) (λ_=>∀ (pins:Pns) (s:iF) (σ:St) (H:Hp) (D:Ends),Inv X pins σ H s->t D σ H->wpAny (model X.prog X.w) X.A (exec st X.env) (SP X pins D) X.xe s):=⟨λh=>h.run⟩
structure PSs (X:Cx) (st:List Stmt) (t:TS):Prop where
 run:∀ (pins:Pns) (s:iF) (σ:St) (H:Hp) (D:Ends),Inv X pins σ H s->t D σ H->wpAny (model X.prog X.w) X.A (execs st X.env) (SP X pins D) X.xe s
instance {X:Cx} {st:List Stmt} {t:TS}:CoeFun (PSs X st t) (λ_=>∀ (pins:Pns) (s:iF) (σ:St) (H:Hp) (D:Ends),Inv X pins σ H s->t D σ H->wpAny (model X.prog X.w) X.A (execs st X.env) (SP X pins D) X.xe s):=⟨λh=>h.run⟩
variable {A:iK} {E:iB->iF->Prop}
theorem thn {t:Sem α} {Q b:α->iF->Prop} {M:Model} (h:wpAny M A t Q E s) (c:∀ a s,Q a s->b a s):wpAny M A t b E s:=k4 h c λ_ _ x=>x
variable {σ:St} {pos:Pos} {Q:iB->iF->Prop} {ta:TE} {c:Expr}
section
def qku (i:Nat):TE:=λσ H Q=>∃ v,σ[i]?=iu (iu v)/\Q v H
def tC (v:V):TE:=λ_ H Q=>Q v H
abbrev Dbg (x:Str):Prop:=(x == ("__debug__":Str))=iE
abbrev Cdk (x:Str):Prop:=(x == ("__classdict__":Str))=iE
theorem xC (j:X.N[i]?=iu x) (f:Vis X.env.scope x) (hd:Dbg x:=by decide) (d:Cdk x:=by decide):PE X (.Name x pos) (qku i):=by
 refine ⟨?_⟩;intro pins s σ H Q I h;obtain ⟨v,e,h⟩:=h;obtain ⟨m,n,hl⟩:=I.loc;obtain ⟨u,r,l⟩:=hl i x v j e f;have fin:EP X pins σ Q u s:=⟨v,H,I,r,h⟩
 rcases l with ⟨k,g⟩ | ⟨k,c,b,a⟩
 ·exact wpAny_Name (wpAny_loadName_local I.ok.kind k n g fin) hd
 ·rcases k with k | k;·exact wpAny_Name (wpAny_loadName_cell I.ok.kind k b a fin) hd
  ·exact wpAny_Name (wpAny_loadName_free I.ok.kind k b a fin d) hd
theorem qff {i j pos}:PE X (.Constant (.int i) j pos) (tC (.int i)):=⟨λ_ _ _ H _ I h=>wpAny_Constant_int ⟨.int i,H,I.tok _,⟨_,rfl⟩,h⟩⟩
theorem qkv {b j pos}:PE X (.Constant (.bool b) j pos) (tC (.bl b)):=⟨λ_ _ _ H _ I h=>Constant_bool ⟨.bl b,H,I,rfl,h⟩⟩
theorem qic {j pos}:PE X (.Constant .none j pos) (tC .non):=⟨λ_ _ _ H _ I h=>Constant_none ⟨.non,H,I,rfl,h⟩⟩
theorem qfg {x j pos}:PE X (.Constant (.str x) j pos) (tC (.str x)):=⟨λ_ _ _ H _ I h=>Calls.Constant_str ⟨.str x,H,I.tok _,⟨_,rfl⟩,h⟩⟩
def Gl (X:Cx) (x:Str):Prop:=X.env.kindOf x=iu .globalImplicit
theorem Vm {E:iB->iF->Prop} {pos:Pos} (I:Inv X pins σ H s) (hg:Gl X x) (c:X.mg x=iu u) (h:Q u s)
  (hd:Dbg x:=by decide):wpAny (model X.prog X.w) X.A (eval (.Name x pos) X.env) Q E s:=
 Calls.Name_function_global I.ok.kind hg (Calls.loadGlobal_global (by rw [I.ok.glob]; exact I.mod.glob.keeps I.bk) c h) hd
theorem zc {E:iB->iF->Prop} {pos:Pos} (I:Inv X pins σ H s) (hg:Gl X x) (m:X.mg x=iw) (c:bootBuiltins x=iu u) (h:Q u s)
  (n:x ≠ "__name__":=by decide) (hd:Dbg x:=by decide):wpAny (model X.prog X.w) X.A (eval (.Name x pos) X.env) Q E s:=by
 obtain ⟨mb,h1,h2⟩:=I.mod.blt;exact Calls.Name_function_global I.ok.kind hg (Calls.loadGlobal_builtin (by rw [I.ok.glob]; exact I.mod.glob.keeps I.bk) m (by rw [I.ok.blt]; exact h1.keeps I.bk) ((h2 x n).trans c) h) hd
theorem qf9 (hg:Gl X x) (c:X.mg x=iu u) (r:RelV v u) (hd:Dbg x:=by decide):PE X (.Name x pos) (tC v):=⟨λ_ _ _ H _ I h=>Vm I hg c ⟨v,H,I,r,h⟩ hd⟩
theorem qga (hg:Gl X x) (m:X.mg x=iw) (c:bootBuiltins x=iu u) (r:RelV v u) (n:x ≠ "__name__":=by decide) (hd:Dbg x:=by decide):PE X (.Name x pos) (tC v):=⟨λ_ _ _ H _ I h=>zc I hg m c ⟨v,H,I,r,h⟩ n hd⟩
variable {a b:Expr} {tb:TE}
variable {tA tB':TT} {rest:List Expr}
def qmf (t u:TT):TT:=λσ H Q=>t σ H λc H1=>if c=iC then u σ H1 Q else Q iE H1
def tOr (t u:TT):TT:=λσ H Q=>t σ H λc H1=>if c=iC then Q iC H1 else u σ H1 Q
def qmg (t:TT):TT:=λσ H Q=>t σ H λc H1=>Q (!c) H1
theorem qgb (g:PT X a tA):PW X (.BoolOp .And [a] pos) tA:=by
 refine ⟨?_⟩;intro w pins s σ H Q I h;refine isTrue_and (thn (g pins s σ H Q I h) λc s1 e=>?_);cases c with
 | true=>exact isTrue_and_nil e
 | false=>exact e
theorem qid (g:PT X a tA):PW X (.BoolOp .Or [a] pos) tA:=by
 refine ⟨?_⟩;intro w pins s σ H Q I h;refine isTrue_or (thn (g pins s σ H Q I h) λc s1 e=>?_);cases c with
 | false=>exact isTrue_or_nil e
 | true=>exact e
theorem qie (g:PT X a tA) (e:PW X (.BoolOp .And (b::rest) pos) tB'):PW X (.BoolOp .And (a::b::rest) pos) (qmf tA tB'):=by
 refine ⟨?_⟩;intro w pins s σ H Q I h;refine isTrue_and (thn (g pins s σ H _ I h) λc s1 ⟨H1,d,q⟩=>?_);cases c with
 | true=>exact e w pins s1 σ H1 Q d q
 | false=>exact ⟨H1,d,q⟩
theorem qkw (g:PT X a tA) (e:PW X (.BoolOp .Or (b::rest) pos) tB'):PW X (.BoolOp .Or (a::b::rest) pos) (tOr tA tB'):=by
 refine ⟨?_⟩;intro w pins s σ H Q I h;refine isTrue_or (thn (g pins s σ H _ I h) λc s1 ⟨H1,d,q⟩=>?_);cases c with
 | true=>exact ⟨H1,d,q⟩
 | false=>exact e w pins s1 σ H1 Q d q
theorem qif (g:PT X a tA):PT X (.UnaryOp .Not a pos) (qmg tA):=by refine ⟨?_⟩;intro pins s σ H Q I h;exact isTrue_not (g pins s σ H (λc H1=>Q (!c) H1) I h)
def qkx (ta tb:TE):TE:=λσ H Q=>ta σ H λx H1=>∃ c,x=.bl c/\if c=iC then tb σ H1 Q else Q (.bl iE) H1
theorem qig {op} {t:TE} (h:PE X a t):PE X (.BoolOp op [a] pos) t:=⟨λpins s σ H Q I w=>BoolOp_one (h pins s σ H Q I w)⟩
theorem qih (g:PE X a ta) (e:PE X (.BoolOp .And (b::rest) pos) tb):PE X (.BoolOp .And (a::b::rest) pos) (qkx ta tb):=by
 refine ⟨?_⟩;intro pins s σ H Q I h;refine BoolOp_and (thn (g pins s σ H _ I h) λv s1 ⟨x,H1,d,r1,q⟩=>?_);obtain ⟨c,rfl,q⟩:=q;cases r1;refine iU ?_;cases c with
 | true=>exact e pins s1 σ H1 Q d q
 | false=>exact ⟨.bl iE,H1,d,rfl,q⟩
def tIf (t:TT) (ta tb:TE):TE:=λσ H Q=>t σ H λc H1=>if c=iC then ta σ H1 Q else tb σ H1 Q
theorem qds (f:PT X c tA) (i:PE X a ta) (g:PE X b tb):PE X (.IfExp c a b pos) (tIf tA ta tb):=by
 refine ⟨?_⟩;intro pins s σ H Q I h;refine wpAny_IfExp (thn (f pins s σ H _ I h) λd s1 ⟨H1,e,q⟩=>?_);cases d with
 | true=>exact i pins s1 σ H1 Q e q
 | false=>exact g pins s1 σ H1 Q e q
end
def SqL (K:Frag) (H:Hp) (a:Addr) (xs:List V):Prop:=
 Rd H a (.lst xs) \/
  ∃ (o:Obj) (its:Array iB) (n:Nat),K.lookup a=iu o/\o.cls=.type "list"/\o.dict=iw/\o.data=.seq its n/\its.size<=sizeLine/\Vals xs its.toList
def SqT (K:Frag) (H:Hp) (a:Addr) (xs:List V):Prop:=
 Rd H a (.tup xs) \/
  ∃ (o:Obj) (its:Array iB) (n:Nat),K.lookup a=iu o/\(o.cls=.type "tuple"/\o.dict=iw)/\o.data=.seq its n/\its.size<=sizeLine/\Vals xs its.toList
noncomputable def qmh:iB->Option V
 | .none=>iu .non
 | .bool b=>iu (.bl b)
 | .int i _=>iu (.int i)
 | .str x _=>iu (.str x)
 | .bytes b _=>iu (.byt b)
 | .float b _=>iu (.flt b)
 | .ref a=>iu (.ref a)
 | .type n=>iu (.ty n)
 | _=>iw
theorem RelV.abs {x:V} (r:RelV x u):qmh u=iu x:=by
 cases x with
 | non=>cases r; rfl
 | bl _=>cases r; rfl
 | int _=>obtain ⟨t,rfl⟩:=r; rfl
 | str _=>obtain ⟨t,rfl⟩:=r; rfl
 | byt _=>obtain ⟨t,rfl⟩:=r; rfl
 | flt _=>obtain ⟨t,rfl⟩:=r; rfl
 | ref _=>cases r; rfl
 | ty _=>cases r; rfl
theorem RelV.inj {x y:V} (r:RelV x u) (q:RelV y u):x=y:=aI.inj (r.abs.symm.trans q.abs)
variable {ys:List V}
theorem Vals.inj (h:Vals xs us) (h':Vals ys us):xs=ys:=by
 induction h generalizing ys with
 | nil=>cases h'; rfl
 | cons r t j=>
  cases h' with
  | cons r' t'=>rw [r.inj r',j t']
variable {K:Frag}
section
theorem SqT.of (h:H a=iu (.tup xs)):SqT K H a xs:=.inl (.inl h)
theorem Inv.list (I:Inv X pins σ H s) (h:SqL X.K H a xs):∃ its:List iB,Vals xs its/\PlainL s.heap a its.toArray/\xs.length<=sizeLine:=by
 rcases h with h | ⟨o,its,n,hk,hc,hd,hs,hz,r⟩
 ·obtain ⟨z,its,n,r,e⟩:=h.ok I.hok;exact ⟨its,r,⟨_,n,e,rfl,rfl,rfl⟩,z⟩
 ·refine ⟨its.toList,r,⟨o,n,I.kIn a o hk,hc,hd,by simpa using hs⟩,?_⟩;have e:=r.length;simp only [bH] at e
  lia
theorem Inv.tuple (I:Inv X pins σ H s) (h:SqT X.K H a xs):∃ its:List iB,Vals xs its/\IsTup s.heap a its.toArray/\xs.length<=sizeLine:=by
 rcases h with h | ⟨o,its,n,hk,hc,hs,hz,r⟩
 ·obtain ⟨⟨z,_⟩,its,r,p⟩:=h.ok I.hok;exact ⟨its,r,p,z⟩
 ·refine ⟨its.toList,r,⟨o,I.kIn a o hk,hc.1,n,by simpa using hs⟩,?_⟩;have e:=r.length;simp only [bH] at e
  lia
theorem Inv.tupleN (I:Inv X pins σ H s) (h:SqT X.K H a xs):∃ o,s.heap.get? a=iu o/\o.dict=none:=by
 rcases h with h | ⟨o,its,n,hk,hc,hs,hz,r⟩
 ·obtain ⟨⟨z,w⟩,its,r,p⟩:=h.ok I.hok;exact w
 ·exact ⟨o,I.kIn a o hk,hc.2⟩
theorem Inv.list_inj (I:Inv X pins σ H s) (h:SqL X.K H a xs) (h':SqL X.K H a ys):xs=ys:=by
 obtain ⟨its,r,⟨o,n,e,_,_,d⟩,_⟩:=I.list h;obtain ⟨its',r',⟨o',c,b,_,_,d'⟩,_⟩:=I.list h';rw [e] at b; cases b;rw [d] at d';injection d' with d1 _;have:its=its':=by simpa using congrArg Array.toList d1
 subst this;exact r.inj r'
theorem Inv.tuple_inj (I:Inv X pins σ H s) (h:SqT X.K H a xs) (h':SqT X.K H a ys):xs=ys:=by
 obtain ⟨its,r,⟨o,e,_,n,d⟩,_⟩:=I.tuple h;obtain ⟨its',r',⟨o',b,_,c,d'⟩,_⟩:=I.tuple h';rw [e] at b; cases b;rw [d] at d';injection d' with d1 _;have:its=its':=by simpa using congrArg Array.toList d1
 subst this;exact r.inj r'
end
variable {te:TE} {tc:TT}
section
variable {st:Stmt} {rest:List Stmt} {t u:TS}
def qky:TS:=λD σ H=>D.nx σ H
def qmi (t u:TS):TS:=λD σ H=>t { D with nx:=u D } σ H
theorem qaE:PSs X [] qky:=⟨λ_ _ σ H _ I h=>lg ⟨σ,H,I,h⟩⟩
theorem qdt (h1:PS X st t) (h2:PSs X rest u):PSs X (st::rest) (qmi t u):=by
 refine ⟨?_⟩;intro pins s σ H D I h;refine wpAny_execs_cons (thn (h1 pins s σ H { D with nx:=u D } I h) λf s1 q=>?_);cases f with
 | next=>obtain ⟨σ',H',b,q⟩:=q;exact h2 pins s1 σ' H' D b q
 | ret v=>exact q
 | brk=>exact q
 | cont=>exact q
theorem qgc (h1:PS X st t):PSs X [st] t:=by
 refine ⟨?_⟩;intro pins s σ H D I h;refine wpAny_execs_cons (thn (h1 pins s σ H D I h) λf s1 q=>?_);cases f with
 | next=>exact lg q
 | ret v=>exact q
 | brk=>exact q
 | cont=>exact q
theorem Inv.quiet (I:Inv X pins σ H s):interactive X.env=false:=by simp [interactive,I.ok.kind]
def qkz (te:TE):TS:=λD σ H=>te σ H λ_ H1=>D.nx σ H1
theorem qgd (i:PE X e te) (c:swapsWith e iw pos.line X.env=pure false:=by rfl):PS X (.Expr e pos) (qkz te):=by refine ⟨?_⟩;intro pins s σ H D I h;exact wpAny_Expr_any (thn (i pins s σ H _ I h) λv s1 ⟨x,H1,d,r1,q⟩=>⟨σ,H1,d,q⟩) I.quiet c
def qmj (te:TE):TS:=λD σ H=>te σ H D.rt
theorem qii (i:PE X e te):PS X (.Return (iu e) pos) (qmj te):=by refine ⟨?_⟩;intro pins s σ H D I h;exact wpAny_Return_some (thn (i pins s σ H _ I h) λv s1 ⟨x,H1,d,r1,q⟩=>⟨x,σ,H1,d,r1,q⟩)
def qmk (c:TT) (t u:TS):TS:=λD σ H=>c σ H λb H1=>if b=iC then t D σ H1 else u D σ H1
theorem qkA {a b:List Stmt} (f:PT X c tc) (i:PSs X a t) (g:PSs X b u):PS X (.If c a b pos) (qmk tc t u):=by
 refine ⟨?_⟩;intro pins s σ H D I h;refine wpAny_If (thn (f pins s σ H _ I h) λd s1 ⟨H1,e,q⟩=>?_);cases d with
 | true=>exact i pins s1 σ H1 D e q
 | false=>exact g pins s1 σ H1 D e q
end
abbrev TG:=V->St->Hp->(St->Hp->Prop)->Prop
abbrev TGs:=List V->St->Hp->(St->Hp->Prop)->Prop
structure PG (X:Cx) (target:Expr) (t:TG):Prop where
 run:∀ (pins:Pns) (s:iF) (σ:St) (H:Hp) (v:V) (u:iB) (Q:St->Hp->Prop),Inv X pins σ H s->RelV v u->t v σ H Q ->wpAny (model X.prog X.w) X.A (assign target X.env u) (λ_ s'=>∃ σ' H',Inv X pins σ' H' s'/\Q σ' H') X.xe s
instance {X:Cx} {target:Expr} {t:TG}:CoeFun (PG X target t) (λ_=>∀ (pins:Pns) (s:iF) (σ:St) (H:Hp) (v:V) (u:iB) (Q:St->Hp->Prop),Inv X pins σ H s->RelV v u->t v σ H Q ->wpAny (model X.prog X.w) X.A (assign target X.env u) (λ_ s'=>∃ σ' H',Inv X pins σ' H' s'/\Q σ' H') X.xe s):=⟨λh=>h.run⟩
structure PGs (X:Cx) (ts:List Expr) (t:TGs):Prop where
 run:∀ (pins:Pns) (s:iF) (σ:St) (H:Hp) (vs:List V) (us:List iB) (Q:St->Hp->Prop),Inv X pins σ H s->Vals vs us->t vs σ H Q ->wpAny (model X.prog X.w) X.A (assignInOrder ((assignEach ts X.env).map (·.2)) us) (λ_ s'=>∃ σ' H',Inv X pins σ' H' s'/\Q σ' H') X.xe s
instance {X:Cx} {ts:List Expr} {t:TGs}:CoeFun (PGs X ts t) (λ_=>∀ (pins:Pns) (s:iF) (σ:St) (H:Hp) (vs:List V) (us:List iB) (Q:St->Hp->Prop),Inv X pins σ H s->Vals vs us->t vs σ H Q ->wpAny (model X.prog X.w) X.A (assignInOrder ((assignEach ts X.env).map (·.2)) us) (λ_ s'=>∃ σ' H',Inv X pins σ' H' s'/\Q σ' H') X.xe s):=⟨λh=>h.run⟩
abbrev qkB:=V->V->V->Hp->(Hp->Prop)->Prop
def qlJ (X:Cx) (t:qkB):Prop:=
 ∀ (pins:Pns) (s:iF) (σ:St) (H:Hp) (o i v:V) (a b u:iB) (Q:Hp->Prop),Inv X pins σ H s->RelV o a->RelV i b->RelV v u->t o i v H Q ->wpAny (model X.prog X.w) X.A (setItem a b u) (λ_ s'=>∃ H',Inv X pins σ H' s'/\Q H') X.xe s
variable {es:List Expr} {tg:Expr}
section
def qij (i:Nat):TG:=λv σ H Q=>Q (σ.set i (iu v)) H
theorem qge (a:X.N.Nodup) (hi:X.N[i]?=iu x) (hx:Loc X.env.scope x) (f:X.fn x=iC\/X.env.scope.names.lookup x=iu .local:=by first | exact .inl rfl | exact .inr rfl | assumption):PG X (.Name x pos) (qij i):=by refine ⟨?_⟩;intro pins s σ H v u Q I r h;exact wpAny_assign_Name (XU I a hi hx r (λs' b=>⟨_,H,b,h⟩) f)
def qml:TGs:=λvs σ H Q=>vs=[]/\Q σ H
def qkC (t:TG) (u:TGs):TGs:=λvs σ H Q=>∃ v r,vs=v::r/\t v σ H λσ' H'=>u r σ' H' Q
theorem qgf:PGs X [] qml:=by refine ⟨?_⟩;intro pins s σ H vs us Q I r h;obtain ⟨e,h⟩:=h;subst e;cases r;exact assignInOrder_nil ⟨σ,H,I,h⟩
theorem qdu {t:TG} {u:TGs} (h1:PG X e t) (h2:PGs X es u)
  (c:(assignEach (e::es) X.env).map (·.2)=assign e X.env::(assignEach es X.env).map (·.2):=by rfl):PGs X (e::es) (qkC t u):=by
 refine ⟨?_⟩;intro pins s σ H vs us Q I r h;obtain ⟨v,vr,e1,h⟩:=h;subst e1;cases r with
 | cons r a=>rw [c];refine assignInOrder_cons (thn (h1 pins s σ H _ _ _ I r h) λ_ s1 ⟨σ1,H1,d,q⟩=>?_);exact h2 pins s1 σ1 H1 _ _ Q d a q
def qmm (K:Frag) (n:Nat) (t:TGs):TG:=λv σ H Q=>∃ a xs,v=.ref a/\SqT K H a xs/\xs.length=n/\t xs σ H Q
theorem qik {k:Nat} {t:TGs} {n:Nat} (g:X.calm=iC) (h:PGs X es t)
  (f:(assignEach es X.env).length=n:=by rfl) (c:(assignEach es X.env).findIdx? (·.1)=none:=by rfl):PG X (.Tuple es k pos) (qmm X.K n t):=by
 refine ⟨?_⟩;intro pins s σ H v u Q I r w;obtain ⟨a,xs,e1,hq,hl,w⟩:=w;subst e1;cases r;obtain ⟨its,d,ht,z⟩:=I.tuple hq;refine assign_Tuple_tuple (I.ok.hd g) ht (by simp [f,<-hl,d.length]) c λh' hx=>?_;have i:Inv X pins σ H { s with heap:=h' }:=I.kept (t':=s.toks) λb o e=>hx b o (aE (aA e)) e;exact h pins _ σ H xs _ Q i (by simpa using d) w
def qmn (to a:TE) (t:qkB):TG:=λv σ H Q=>to σ H λo H1=>a σ H1 λi H2=>t o i v H2 λb=>Q σ b
theorem qil {o i:Expr} {to c:TE} {t:qkB} (l:PE X o to) (hi:PE X i c) (f:qlJ X t)
  (g:∀ v,assign (.Subscript o i pos) X.env v=(do
   let a <-holding [v] (eval o X.env)
   let b <-holding [v,a] (eval i X.env)
   standAt pos
   holding [v,a,b] (setItem a b v)
   release [v,a,b] []):=by intro _; rfl):PG X (.Subscript o i pos) (qmn to c t):=by
 refine ⟨?_⟩;intro pins s σ H v u Q I r h;rw [g];refine iA (iN (thn (l pins s σ H _ I h) λa s1 ⟨x,H1,m,r1,e⟩=>?_));refine iA (iN (thn (hi pins s1 σ H1 _ m e) λb s2 ⟨y,H2,k,r2,d⟩=>?_));refine iA (wpAny_standAt (iA (iN (thn (f pins s2 σ H2 x y v a b u _ k r1 r2 r d) λ_ s3 ⟨n,j,q⟩=>?_))));exact wpAny_release ⟨σ,n,j,q⟩
def qlK (te:TE) (g:TG):TS:=λD σ H=>te σ H λx H1=>g x σ H1 D.nx
theorem qfh {g:TG} (i:PE X e te) (hg:PG X tg g) (c:swapsWithSole [tg] e pos.line X.env=pure false:=by rfl) (w:swappedStores [tg] e X.env=pure none:=by rfl)
  (h1:(assignEach [tg] X.env).map (·.2)=[assign tg X.env]:=by rfl):PS X (.Assign [tg] e pos) (qlK te g):=by
 refine ⟨?_⟩;intro pins s σ H D I h;refine wpAny_Assign_stores (thn (i pins s σ H _ I h) λv s1 ⟨x,H1,d,r1,a⟩=>?_) c w;rw [h1];exact thn (hg pins s1 σ H1 x v _ d r1 a) λ_ s2 q=>q
theorem qfi {pos':Pos} (b:X.N.Nodup) (hi:X.N[i]?=iu x) (hx:Loc X.env.scope x) (a:PE X e te) (c:swapsWith e (iu (.Name x pos')) pos.line X.env=pure false:=by rfl) (f:X.fn x=iC\/X.env.scope.names.lookup x=iu .local:=by first | exact .inl rfl | exact .inr rfl | assumption):PS X (.Assign [.Name x pos'] e pos) (qlK te (qij i)):=by refine ⟨?_⟩;intro pins s σ H D I h;refine wpAny_Assign_Name (thn (a pins s σ H _ I h) λv s1 ⟨y,H1,d,r1,q⟩=>?_) c;exact XU d b hi hx r1 (λs2 k=>⟨_,H1,k,q⟩) f
end
variable {tb:TS} {body:List Stmt}
section
def qim (c:TT) (tb:TS):TS:=λD σ H=>∃ W:Nat->St->Hp->Prop,(∃ m,W m σ H)/\∀ m σ H,W m σ H ->c σ H λb H1=>if b=iC then ∃ N:St->Hp->Prop,(∀ σ' H',N σ' H'->∃ f,f < m/\W f σ' H')/\tb { D with nx:=N,ct:=N,bk:=D.nx } σ H1 else D.nx σ H1
theorem qdv (hp:PassesOwn (model X.prog X.w) X.A X.env X.xe) (t:PT X c tc) (u:PSs X body tb):PS X (.While c body [] pos) (qim tc tb):=by
 refine ⟨?_⟩;intro pins s σ H D I h;obtain ⟨W,⟨m0,r⟩,turn⟩:=h;refine wpAny_While (codeAny_whileLoop (λn s'=>∃ σ' H',Inv X pins σ' H' s'/\W n σ' H') ?_ m0 ⟨σ,H,I,r⟩);rintro n s1 ⟨σ1,H1,x,p⟩;refine i5 hp (thn (t pins s1 σ1 H1 _ x (turn n σ1 H1 p)) λb s2 ⟨H2,o,e⟩=>?_);cases b with
 | true=>
  obtain ⟨N,l,e⟩:=e;rw [if_pos rfl];refine i5 hp (thn (u pins s2 σ1 H2 _ o e) λf s3 q=>?_);cases f with
  | next=>obtain ⟨a,d,k,i⟩:=q;obtain ⟨m,j,g⟩:=l a d i;exact ⟨m,j,a,d,k,g⟩
  | cont=>obtain ⟨a,d,k,i⟩:=q;obtain ⟨m,j,g⟩:=l a d i;exact ⟨m,j,a,d,k,g⟩
  | brk=>exact q
  | ret v=>exact q
 | false=>rw [if_neg be];exact lg ⟨σ1,H2,o,e⟩
end
structure It where
 go:Nat->Hp->Prop
 yld:Nat->Hp->V->Hp->Prop
 stop:Nat->Hp->Prop
def Ym (X:Cx) (pins:Pns) (H:Hp) (b:Addr):Prop:=
 H b=iw/\b≠X.env.locals/\b∉X.fs/\(b∈X.ex\/X.s₀.heap.objs.size<=b)/\(∀ x c,X.env.cells.lookup x=iu c->c≠b)/\∀ p∈X.pn++pins,p.1≠b
theorem Inv.fpOk (I:Inv X pins σ H s) (d:s.heap.objs.size<=b) (n:H' b=iw):Ym X pins H' b:=by
 refine ⟨n,cV (aK I.lt d),I.nofs d,.inr (bv I.sz d),λx c e z=>?_,λp hp z=>?_⟩;·obtain ⟨v,q⟩:=I.cell x c e;exact absurd (aK q.lt (by rw [z]; exact d)) (cw _)
 ·exact absurd (aK (aA (I.pin p hp).1) (by rw [z]; exact d)) (cw _)
structure Turn (P:iH) (w:iI) (K:Frag) (tg:Expr) (J:It) (fp:List Addr) (it:Addr) (tn:Nat->Heap->Prop):Prop where
 mem:it∈fp
 obj:∀ i h,tn i h->∀ b∈fp,∃ o,h.get? b=iu o/\∀ v,o.data≠.cell v
 keep:∀ i h h',tn i h->(∀ b∈fp,∀ o,h.get? b=iu o->h'.get? b=iu o)->tn i h'
 item:∀ (X:Cx),X.prog=P->X.w=w->X.K=K->X.calm=iC->∀ (i:Nat) (pins:Pns) (s:iF) (σ:St) (H:Hp) (E:iB->iF->Prop),Inv X pins σ H s->(∀ b∈fp,Ym X pins H b)->tn i s.heap->J.go i H ->wpAny (model P w) X.A (pyNext (.ref it)) (λr s1=>∃ u,r=iu u /\
   wpAny (model P w) X.A (letOwnedTupleGo tg (.ref it) u) (λ_ s2=>∃ x H',Inv X pins σ H' s2/\RelV x u/\J.yld i H x H'/\tn (i+1) s2.heap/\∀ b∈fp,H' b=iw) E s1) E s
 done:∀ (X:Cx),X.prog=P->X.w=w->X.K=K->X.calm=iC->∀ (i:Nat) (pins:Pns) (s:iF) (σ:St) (H:Hp) (E:iB->iF->Prop),Inv X pins σ H s->(∀ b∈fp,Ym X pins H b)->tn i s.heap->J.stop i H ->wpAny (model P w) X.A (pyNext (.ref it)) (λr s1=>r=iw/\Inv X pins σ H s1) E s
 self:∀ (A:iK) (i:Nat) (s:iF) (Q:iB->iF->Prop) (E:iB->iF->Prop),tn i s.heap->Q (.ref it) s->wpAny (model P w) A (pyIter (.ref it)) Q E s
abbrev TI:=St->Hp->(It->Hp->Prop)->Prop
def PIE (X:Cx) (pins:Pns) (σ:St) (tg:Expr) (R:It->Hp->Prop) (i:iB) (s2:iF):Prop:=
 ∃ (it:Addr) (fp:List Addr) (tn:Nat->Heap->Prop) (J:It) (H':Hp),i=.ref it/\Inv X pins σ H' s2/\Turn X.prog X.w X.K tg J fp it tn/\tn 0 s2.heap/\(∀ b∈fp,Ym X pins H' b)/\R J H'
structure PI (X:Cx) (tg iter:Expr) (wi:TI):Prop where
 run:∀ (pins:Pns) (s:iF) (σ:St) (H:Hp) (R:It->Hp->Prop),Inv X pins σ H s->wi σ H R ->wpAny (model X.prog X.w) X.A (eval iter X.env) (λv s1=>wpAny (model X.prog X.w) X.A (pyIter v) (PIE X pins σ tg R) X.xe s1) X.xe s
instance {X:Cx} {tg iter:Expr} {wi:TI}:CoeFun (PI X tg iter wi) (λ_=>∀ (pins:Pns) (s:iF) (σ:St) (H:Hp) (R:It->Hp->Prop),Inv X pins σ H s->wi σ H R ->wpAny (model X.prog X.w) X.A (eval iter X.env) (λv s1=>wpAny (model X.prog X.w) X.A (pyIter v) (PIE X pins σ tg R) X.xe s1) X.xe s):=⟨λh=>h.run⟩
theorem qaF {M:Model} {A:iK} {E:iB->iF->Prop} {tg:Expr} {u:iB} {o:Obj} {n:String} {vs:Array iB} {Q:Unit->iF->Prop} (l:s.heap.get? it=iu o) (d:o.cls=.type n) (hd:o.data=.fields vs)
    (a:["enumerate", "zip", "dict_itemiterator", "dict_reverseitemiterator", "odict_iterator", "itertools.zip_longest", "itertools.pairwise"].contains n=iE) (c:Q () s):wpAny M A (letOwnedTupleGo tg (.ref it) u) Q E s:=by
  unfold letOwnedTupleGo;cases tg <;> first
    | exact iG c
    | (cases u <;> first
        | exact iG c
        | (refine iA (wpAny_load l ?_)
           rw [d,hd];show wpAny M A (if (["enumerate", "zip", "dict_itemiterator", "dict_reverseitemiterator", "odict_iterator", "itertools.zip_longest", "itertools.pairwise"].contains n&&vs[0]? == iu (rawInt _))=iC then _ else _) Q E s;rw [if_neg (by intro h; rw [a,Bool.false_and] at h; cases h)];exact iG c))
noncomputable def Itl (K:Frag) (a:Addr):It:=
 ⟨λi H=>∃ xs x,SqL K H a xs/\xs[i]?=iu x,λi H x H'=>H'=H/\∀ xs,SqL K H a xs->xs[i]?=iu x,λi H=>∃ xs,SqL K H a xs/\xs.length<=i⟩
noncomputable def Itt (K:Frag) (a:Addr):It:=
 ⟨λi H=>∃ xs x,SqT K H a xs/\xs[i]?=iu x,λi H x H'=>H'=H/\∀ xs,SqT K H a xs->xs[i]?=iu x,λi H=>∃ xs,SqT K H a xs/\xs.length<=i⟩
noncomputable def Itr (lo:Int) (n:Nat):It:=⟨λi _=>i < n,λi H x H'=>H'=H/\x=.int (lo+i),λi _=>n<=i⟩
theorem qaG (a it:Addr):Turn P w K tg (Itl K a) [it] it (λi h=>h.IsListIter it a i) where
 mem:=by simp
 obj:=λi h st b f=>by
  have e:b=it:=by simpa using f
  subst e;obtain ⟨o,e,c,d⟩:=st;exact ⟨o,e,λv z=>by rw [d] at z; cases z⟩
 keep:=λi h h' st k=>st.at λo e=>k it (by simp) o e
 item:=by intro X m l n y i pins s σ H E I j st hg;subst m l n;obtain ⟨xs,x,hq,hx⟩:=hg;obtain ⟨its,r,p,C⟩:=I.list hq;obtain ⟨u,G,B⟩:=r.get hx;obtain ⟨f0,f1,f2,t,f4,q⟩:=j it (by simp);refine wpAny_pyNext_list_item st p.isList (x:=u) (by simpa using G) λh' g A=>?_;have L:Inv X pins σ H { s with heap:=h' }:=I.turned (t':=s.toks) (λb o f e=>(A.2 b f).trans e) f0 f1 t f4 q;obtain ⟨o,e,c,d⟩:=id g;exact ⟨u,rfl,qaF (s:={ s with heap:=h' }) e c d (by decide) ⟨x,H,L,B,⟨rfl,λys D=>by rw [I.list_inj D hq]; exact hx⟩,g,λb f=>(j b f).1⟩⟩
 done:=by intro X m l n y i pins s σ H E I j st hg;subst m l n;obtain ⟨xs,hq,hx⟩:=hg;obtain ⟨its,r,p,C⟩:=I.list hq;obtain ⟨f0,f1,f2,t,f4,q⟩:=j it (by simp);have hl:=r.length;exact wpAny_pyNext_list_end (I.ok.hd y) st p.isList (by simp; lia) λh' J=>⟨rfl,I.turned (t':=s.toks) (λb o f e=>J b o f e) f0 f1 t f4 q⟩
 self:=λ_ _ _ _ _ st h=>wpAny_pyIter_listiter st h
theorem GE (a it:Addr):Turn P w K tg (Itt K a) [it] it (λi h=>h.IsTupleIter it a i) where
 mem:=by simp
 obj:=λi h st b f=>by
  have e:b=it:=by simpa using f
  subst e;obtain ⟨o,e,c,d⟩:=st;exact ⟨o,e,λv z=>by rw [d] at z; cases z⟩
 keep:=λi h h' st k=>st.at λo e=>k it (by simp) o e
 item:=by intro X m l n y i pins s σ H E I j st hg;subst m l n;obtain ⟨xs,x,hq,hx⟩:=hg;obtain ⟨its,r,p,C⟩:=I.tuple hq;obtain ⟨u,G,B⟩:=r.get hx;obtain ⟨f0,f1,f2,t,f4,q⟩:=j it (by simp);refine wpAny_pyNext_tuple_item st (show s.heap.IsTuple a its.toArray from p) (x:=u) (by simpa using G) λh' g A=>?_;have L:Inv X pins σ H { s with heap:=h' }:=I.turned (t':=s.toks) (λb o f e=>(A.2 b f).trans e) f0 f1 t f4 q;obtain ⟨o,e,c,d⟩:=id g;exact ⟨u,rfl,qaF (s:={ s with heap:=h' }) e c d (by decide) ⟨x,H,L,B,⟨rfl,λys D=>by rw [I.tuple_inj D hq]; exact hx⟩,g,λb f=>(j b f).1⟩⟩
 done:=by intro X m l n y i pins s σ H E I j st hg;subst m l n;obtain ⟨xs,hq,hx⟩:=hg;obtain ⟨its,r,p,C⟩:=I.tuple hq;obtain ⟨f0,f1,f2,t,f4,q⟩:=j it (by simp);have hl:=r.length;exact wpAny_pyNext_tuple_end (I.ok.hd y) st (show s.heap.IsTuple a its.toArray from p) (by simp; lia) λh' J=>⟨rfl,I.turned (t':=s.toks) (λb o f e=>J b o f e) f0 f1 t f4 q⟩
 self:=λ_ _ _ _ _ st h=>wpAny_pyIter_tupleiter st h
theorem GF (it:Addr) (lo:Int) (n:Nat):Turn P w K tg (Itr lo n) [it] it (λi h=>IsRangeIter h it (lo+(i:Nat) * 1) ((n:Int) - (i:Nat)) 1) where
 mem:=by simp
 obj:=λi h st b d=>by
  have e:b=it:=by simpa using d
  subst e;exact ⟨_,st,λv z=>by have p:Data.fields _=Data.cell v:=z;cases p⟩
 keep:=λi h h' st k=>k it (by simp) _ st
 item:=by intro X m a j c i pins s σ H E I f st hg;subst m a j;obtain ⟨f0,f1,f2,l,f4,q⟩:=f it (by simp);have W:=Walks.range (prog:=X.prog) (w:=X.w) (I.ok.hd c) it lo 1 n;refine W.item i s _ _ hg st λv h' tk u g r=>?_;obtain ⟨t,rfl⟩:=u;have x:Inv X pins σ H { s with heap:=h',toks:=tk }:=I.turned (λb o d e=>r b o (by simpa using d) e) f0 f1 l f4 q;refine ⟨_,rfl,qaF (s:={ s with heap:=h',toks:=tk }) (n := "range_iterator") g rfl rfl (by decide) ⟨.int (lo+i),H,x,⟨t,?_⟩,⟨rfl,rfl⟩,g,λb d=>(f b d).1⟩⟩;rw [Int.mul_one]
 done:=by intro X m a j c i pins s σ H E I f st hg;subst m a j;obtain ⟨f0,f1,f2,l,f4,q⟩:=f it (by simp);exact wpAny_pyNext_range_end (I.ok.hd c) st (by have:n<=i:=hg; lia) λh' J=>⟨rfl,I.turned (t':=s.toks) (λb o d e=>J b o d e) f0 f1 l f4 q⟩
 self:=λ_ _ _ _ _ st h=>wpAny_pyIter_rangeiter st h
variable {p:Pos} {fp:List Addr}
section
theorem XV {R:It->Hp->Prop} {E:iB->iF->Prop} {lo hi:Int} {t u v:Tok} {tk:Nat} (I:Inv X pins σ H s) (h1:-(2 ^ 62)<=lo) (h2:lo < 2 ^ 62) (i:-(2 ^ 62)<=hi) (a:hi < 2 ^ 62)
  (q:R (Itr lo (hi - lo).toNat) H):wpAny (model X.prog X.w) X.A (pyIter (.ref s.heap.objs.size)) (PIE X pins σ tg R) E { s with heap:=s.heap.push { cls:=.type "range",data:=.fields #[.int lo t,.int hi u,.int 1 v] },toks:=tk }:=by
 refine wpAny_pyIter_range (IsRange.new ..) (small_one h1 h2 i a) ?_;have d:Inv X pins σ H { s with heap:=s.heap.push { cls:=.type "range",data:=.fields #[.int lo t,.int hi u,.int 1 v] },toks:=tk }:=I.kept λb o e=>af _ e;refine ⟨(s.heap.push { cls:=.type "range",data:=.fields #[.int lo t,.int hi u,.int 1 v] }).objs.size,[(s.heap.push { cls:=.type "range",data:=.fields #[.int lo t,.int hi u,.int 1 v] }).objs.size],_,_,H,rfl,d.kept (t':=tk) λb o e=>af _ e,GF _ lo (hi - lo).toNat,?_,λb h=>?_,q⟩
 ·have e1:lo+((0:Nat):Int) * 1=lo:=by simp
  have c:(((hi - lo).toNat:Nat):Int) - ((0:Nat):Int)=Builtin.Range.rangeSize lo hi 1:=by rw [rangeSize_one]; split <;> lia
  show IsRangeIter _ _ (lo+((0:Nat):Int) * 1) ((((hi - lo).toNat:Nat):Int) - ((0:Nat):Int)) 1;rw [e1,c];exact au _ rfl
 ·have e:b=(s.heap.push { cls:=.type "range",data:=.fields #[.int lo t,.int hi u,.int 1 v] }).objs.size:=by simpa using h
  subst e;exact d.fpOk (aB _) (d.hok.fresh (aB _))
def qkD (ta:TA):TI:=λσ H R=>ta σ H λvs H1=>∃ j:Int,vs=[.int j]/\-(2 ^ 62)<=j/\j < 2 ^ 62/\R (Itr 0 j.toNat) H1
def qkE (ta:TA):TI:=λσ H R=>ta σ H λvs H1=>∃ i j:Int,vs=[.int i,.int j]/\(-(2 ^ 62)<=i/\i < 2 ^ 62/\-(2 ^ 62)<=j/\j < 2 ^ 62)/\R (Itr i (j - i).toNat) H1
theorem qaH {a:Expr} {ta:TA} (hg:Gl X "range") (m:X.mg "range"=iw) (g:PA X [a] ta) (f:starEach [a] X.env=[(iE,eval a X.env)]:=by rfl):PI X tg (.Call (.Name "range" p) [a] [] pos) (qkD ta):=by
 refine ⟨?_⟩;intro pins s σ H R I h;refine Call_ (zc I hg m boot_range (bp (thn (g pos pins s σ H _ I h) λus s1 ⟨vs,H1,i,r1,b⟩=>?_) f rfl));obtain ⟨j,e,b,d,q⟩:=b;subst e;cases r1 with
 | cons r c=>cases c;obtain ⟨t,rfl⟩:=r;exact call_range_1 (XV i (by lia) (by lia) b d (by simpa using q))
theorem qaI {a b:Expr} {ta:TA} {p pos:Pos} (hg:Gl X "range") (n:X.mg "range"=iw) (o:PA X [a,b] ta) (m:starEach [a,b] X.env=[(iE,eval a X.env),(iE,eval b X.env)]:=by rfl) (c:starEach [b] X.env=[(iE,eval b X.env)]:=by rfl):PI X tg (.Call (.Name "range" p) [a,b] [] pos) (qkE ta):=by
 refine ⟨?_⟩;intro pins s σ H R I h;refine Call_ (zc I hg n boot_range (bp (thn (o pos pins s σ H _ I h) λus s1 ⟨vs,H1,u,r1,f⟩=>?_) (by rw [m,c]) (by rw [c]; rfl)));obtain ⟨i,j,e,⟨f,l,k,g⟩,q⟩:=f;subst e;cases r1 with
 | cons r d=>
  cases d with
  | cons r' d=>cases d;obtain ⟨t,rfl⟩:=r;obtain ⟨t',rfl⟩:=r';exact call_range_2 (XV u f l k g q)
def qmo (wi:TI) (g:TG) (tb:TS):TS:=λD σ H=>wi σ H λJ H1=>∃ W:Nat->Nat->St->Hp->Prop,(∃ m,W 0 m σ H1)/\∀ i m σ H,W i m σ H ->(J.stop i H/\D.nx σ H)\/(J.go i H/\∃ N:St->Hp->Prop,(∀ σ' H',N σ' H'->∃ f,f < m/\W (i+1) f σ' H')/\∀ x H',J.yld i H x H'->g x σ H' λa H2=>tb { D with nx:=N,ct:=N,bk:=D.nx } a H2)
noncomputable def WH (fp:List Addr) (h:Heap):Pns:=fp.filterMap λb=>(h.get? b).map λo=>(b,o)
theorem yG {o:Obj} (d:b∈fp) (e:h.get? b=iu o):(b,o)∈WH fp h:=d6.mpr ⟨b,d,by rw [e]; rfl⟩
theorem qaJ {p:Addr×Obj} (hp:p∈WH fp h):p.1∈fp/\h.get? p.1=iu p.2:=by
 obtain ⟨b,d,e⟩:=d6.mp hp;cases q:h.get? b with
 | none=>rw [q] at e; cases e
 | some o=>rw [q] at e;have a:(b,o)=p:=aI.inj e;subst a;exact ⟨d,q⟩
theorem Inv.pinned (I:Inv X pins σ H s) (f:∀ b∈fp,Ym X pins H b) (l:∀ b∈fp,∃ o,s.heap.get? b=iu o/\∀ v,o.data≠.cell v):Inv X (pins++WH fp s.heap) σ H s:=
 I.pins_of λp hp=>(ao.mp hp).elim (λz=>I.pin p (aP _ z)) λz=>by obtain ⟨h,e⟩:=qaJ z;obtain ⟨f0,f1,f2,_⟩:=f p.1 h;obtain ⟨o,a,d⟩:=l p.1 h;rw [e] at a; cases a;exact ⟨e,f0,f1,f2,d⟩
theorem Inv.unpinned {pl:Pns} (I:Inv X (pins++pl) σ H s):Inv X pins σ H s:=I.pins_of λp hp=>I.pin p (aP _ (bW _ hp))
theorem qin {iter:Expr} {wi:TI} {g:TG} {pos:Pos} (hp:PassesOwn (model X.prog X.w) X.A X.env X.xe) (P:X.calm=iC) (hi:PI X tg iter wi) (hg:PG X tg g) (j:PSs X body tb)
  (hs:∀ x,foldedSetIterable iter X.env x=pure x:=by intro _; rfl):PS X (.For tg iter body [] pos) (qmo wi g tb):=by
 refine ⟨?_⟩;intro pins s σ H D I h;refine wpAny_For (thn (hi pins s σ H _ I h) λv s1 h1=>thn h1 λitv s2 h2=>?_) hs;obtain ⟨it,fp,tn,J,H2,e,I2,T,K,f2,W,⟨m0,Z⟩,turn⟩:=h2;subst e;have t:∀ {H':Hp},(∀ b∈fp,H' b=iw)->∀ b∈fp,Ym X pins H' b:=λhn b j=>⟨hn b j,(f2 b j).2⟩
 refine codeAny_forLoop_any (λn s'=>∃ i σ' H',Inv X pins σ' H' s'/\tn i s'.heap/\(∀ b∈fp,H' b=iw)/\W i n σ' H') ?_ m0 ⟨0,σ,H2,I2,K,λb j=>(f2 b j).1,Z⟩;rintro n s3 ⟨i,c,E,Q,z,C,Y⟩;rcases turn i n c E Y with ⟨stop,qn⟩ | ⟨go,N,hN,step⟩
 ·refine i5 hp (thn (T.done X rfl rfl rfl P i pins s3 c E X.xe Q (t C) z stop) λr s4 ⟨hr,I4⟩=>?_);subst hr;exact lg ⟨c,E,I4,qn⟩
 ·refine i5 hp (thn (T.item X rfl rfl rfl P i pins s3 c E X.xe Q (t C) z go) λr s4 ⟨u,hr,h4⟩=>?_);subst hr;refine i5 hp (thn h4 λ_ s5 ⟨x,R,I5,r5,S,y,M⟩=>?_);have O:=I5.pinned (t M) (T.obj _ _ y);refine i5 hp (thn (hg _ s5 c R x u _ O r5 (step x R S)) λ_ F ⟨G,H6,I6,q6⟩=>?_);refine i5 hp (thn (j _ F G H6 _ I6 q6) λf L q=>?_);have k:∀ {a:St} {p:Hp},Inv X (pins++WH fp s5.heap) a p L->N a p->∃ m,m < n/\∃ i σ' H',Inv X pins σ' H' L/\tn i L.heap/\(∀ b∈fp,H' b=iw)/\W i m σ' H':=λ{a p} l B=>by obtain ⟨m',hm,V⟩:=hN a p B;refine ⟨m',hm,i+1,a,p,l.unpinned,T.keep _ _ _ y λb j o e=>(l.pin (b,o) (aP _ (aP _ (yG j e)))).1,λb j=>?_,V⟩;obtain ⟨o,e,d⟩:=T.obj _ _ y b j;exact (l.pin (b,o) (aP _ (aP _ (yG j e)))).2.1
  cases f with
  | next=>obtain ⟨a,p,l,B⟩:=q; exact k l B
  | cont=>obtain ⟨a,p,l,B⟩:=q; exact k l B
  | brk=>obtain ⟨a,p,l,q⟩:=q; exact ⟨a,p,l.unpinned,q⟩
  | ret v=>obtain ⟨U,a,p,l,r7,q⟩:=q; exact ⟨U,a,p,l.unpinned,r7,q⟩
end
abbrev R2:=V->V->Hp->VK->Prop
def OpR (X:Cx) (f:iB->iB->Sem iB) (r:R2):Prop:=
 ∀ (pins:Pns) (s:iF) (σ:St) (H:Hp) (x y:V) (v u:iB) (Q:VK),Inv X pins σ H s->RelV x v->RelV y u->r x y H Q ->wpAny (model X.prog X.w) X.A (f v u) (EP X pins σ Q) X.xe s
def UnR (X:Cx) (f:iB->Sem iB) (r:V->Hp->VK->Prop):Prop:=
 ∀ (pins:Pns) (s:iF) (σ:St) (H:Hp) (x:V) (v:iB) (Q:VK),Inv X pins σ H s->RelV x v->r x H Q ->wpAny (model X.prog X.w) X.A (f v) (EP X pins σ Q) X.xe s
def xu (X:Cx) (f:iB) (r:List V->Hp->VK->Prop):Prop:=
 ∀ (pins:Pns) (s:iF) (σ:St) (H:Hp) (xs:List V) (us:List iB) (Q:VK),Inv X pins σ H s->Vals xs us->r xs H Q ->wpAny (model X.prog X.w) X.A (call f us) (EP X pins σ Q) X.xe s
def qmp (X:Cx) (r:V->Hp->(Bool->Hp->Prop)->Prop):Prop:=
 ∀ (pins:Pns) (s:iF) (σ:St) (H:Hp) (x:V) (v:iB) (Q:Bool->Hp->Prop),Inv X pins σ H s->RelV x v->r x H Q ->wpAny (model X.prog X.w) X.A (truthy v) (TP X pins σ Q) X.xe s
def tOp (r:R2) (ta tb:TE):TE:=λσ H Q=>ta σ H λx H1=>tb σ H1 λy H2=>r x y H2 Q
def tUn (r:V->Hp->VK->Prop) (ta:TE):TE:=λσ H Q=>ta σ H λx H1=>r x H1 Q
def rI (C:Int->Int->Prop) (g:Int->Int->V):R2:=λx y H Q=>∃ i j,x=.int i/\y=.int j/\C i j/\Q (g i j) H
def rI0 (g:Int->Int->V):R2:=λx y H Q=>∃ i j,x=.int i/\y=.int j/\Q (g i j) H
def rU (g:Int->V):V->Hp->VK->Prop:=λx H Q=>∃ i,x=.int i/\Q (g i) H
variable {r:R2}
section
variable {a b:Expr} {tb tc:TE}
theorem qkF (j:PE X a ta) (i:PE X b tb) {R:V->V->Hp->Prop} (I:Inv X pins σ H s)
  (h:ta σ H λx H1=>tb σ H1 λy H2=>R x y H2) {Q:iB->iF->Prop} {f:iB->iB->Sem iB}
  (g:∀ v u s2 x y H2,Inv X pins σ H2 s2->RelV x v->RelV y u->R x y H2->wpAny (model X.prog X.w) X.A (f v u) Q X.xe s2) :
  wpAny (model X.prog X.w) X.A (eval a X.env) (λv d=>wpAny (model X.prog X.w) X.A (eval b X.env) (λu c=>wpAny (model X.prog X.w) X.A (f v u) Q X.xe c) X.xe d) X.xe s:=by
 refine thn (j pins s σ H _ I h) λv s1 ⟨x,H1,l,r1,e⟩=>?_;refine thn (i pins s1 σ H1 _ l e) λu s2 ⟨y,H2,k,r2,q⟩=>?_;exact g v u s2 x y H2 k r1 r2 q
theorem qkG {op:Operator} (l:OpR X (binaryOp op) r) (g:PE X a ta) (e:PE X b tb):PE X (.BinOp a op b pos) (tOp r ta tb):=by refine ⟨?_⟩;intro pins s σ H Q I h;exact wpAny_BinOp (qkF g e I h λv u s2 x y H2 k d c q=>l pins s2 σ H2 x y v u Q k d c q)
theorem qkH {op:UnaryOp} {r:V->Hp->VK->Prop} (l:UnR X (unaryOp op) r) (g:PE X a ta):PE X (.UnaryOp op a pos) (tUn r ta):=by refine ⟨?_⟩;intro pins s σ H Q I h;exact UnaryOp_ (thn (g pins s σ H _ I h) λv s1 ⟨x,H1,d,r1,q⟩=>l pins s1 σ H1 x v Q d r1 q)
theorem opI {f:iB->iB->Sem iB} {C:Int->Int->Prop} {g:Int->Int->Int}
  (r:∀ (i j:Int) (t u:Tok) (s:iF) (Q:iB->iF->Prop) (E:iB->iF->Prop),C i j->Q (.int (g i j) s.toks) { s with toks:=s.toks+1 }->wpAny (model X.prog X.w) X.A (f (.int i t) (.int j u)) Q E s) :
  OpR X f (rI C λi j=>.int (g i j)):=by
 intro pins s σ H x y v u Q I d c h;obtain ⟨i,j,rfl,rfl,a,q⟩:=h;obtain ⟨t,rfl⟩:=d;obtain ⟨t',rfl⟩:=c;exact r i j t t' s _ _ a ⟨.int (g i j),H,I.tok _,⟨_,rfl⟩,q⟩
theorem qlL {f:iB->iB->Sem iB} {g:Int->Int->Int}
  (r:∀ (i j:Int) (t u:Tok) (s:iF) (Q:iB->iF->Prop) (E:iB->iF->Prop),Q (.int (g i j) s.toks) { s with toks:=s.toks+1 }->wpAny (model X.prog X.w) X.A (f (.int i t) (.int j u)) Q E s) :
  OpR X f (rI0 λi j=>.int (g i j)):=by
 intro pins s σ H x y v u Q I d c h;obtain ⟨i,j,rfl,rfl,q⟩:=h;obtain ⟨t,rfl⟩:=d;obtain ⟨t',rfl⟩:=c;exact r i j t t' s _ _ ⟨.int (g i j),H,I.tok _,⟨_,rfl⟩,q⟩
theorem qj9 {f:iB->iB->Sem iB} {g:Int->Int->Bool}
  (r:∀ (i j:Int) (t u:Tok) (s:iF) (Q:iB->iF->Prop) (E:iB->iF->Prop),Q (.bool (g i j)) s->wpAny (model X.prog X.w) X.A (f (.int i t) (.int j u)) Q E s) :
  OpR X f (rI0 λi j=>.bl (g i j)):=by
 intro pins s σ H x y v u Q I d c h;obtain ⟨i,j,rfl,rfl,q⟩:=h;obtain ⟨t,rfl⟩:=d;obtain ⟨t',rfl⟩:=c;exact r i j t t' s _ _ ⟨.bl (g i j),H,I,rfl,q⟩
def qgg (i j:Int):Prop:=0 < j/\j < 1073741824
def qh2 (i j:Int):Prop:=0<=j/\j<=1000000/\i.natAbs < 2 ^ 64
def CMul (i j:Int):Prop:=(-(2 ^ 64) < i/\i < 2 ^ 64)\/(-(2 ^ 64) < j/\j < 2 ^ 64)
theorem CMul.ok {i j:Int} (h:CMul i j):IntMulOk i j:=by
 rcases h with ⟨h1,h2⟩ | ⟨h1,h2⟩
 ·exact .of_left (intBits_le_64 h1 h2)
 ·exact .of_right (intBits_le_64 h1 h2)
theorem qio:OpR X (binaryOp .Add) (rI0 λi j=>.int (i+j)):=qlL λ_ _ _ _ _ _ _ q=>add_int q
theorem qip:OpR X (binaryOp .Sub) (rI0 λi j=>.int (i - j)):=qlL λ_ _ _ _ _ _ _ q=>sub_int q
theorem qiq:OpR X (binaryOp .Mult) (rI CMul λi j=>.int (i * j)):=opI λ_ _ _ _ _ _ _ d q=>mul_int q d.ok
theorem qgh:OpR X (binaryOp .FloorDiv) (rI qgg λi j=>.int (i / j)):=opI λi j _ _ _ _ _ d q=>by have h1:(0:Int) < j:=d.1;have h2:j < 1073741824:=d.2;exact floordiv_int (by lia) (by rw [Int.fdiv_eq_ediv_of_nonneg i (by lia)]; exact q) (.inl (PyProof.noPylong_small (by lia)))
theorem qir:OpR X (binaryOp .Mod) (rI (λ_ j=>0 < j) λi j=>.int (i % j)):=opI λi j _ _ _ _ _ d q=>by have h1:(0:Int) < j:=d;exact mod_int' (by lia) (by rw [Int.fmod_eq_emod_of_nonneg i (by lia)]; exact q)
theorem qfj:OpR X (binaryOp .Pow) (rI qh2 λi j=>.int (i ^ j.toNat)):=opI λ_ _ _ _ _ _ _ d q=>pow_int_small d.1 d.2.1 d.2.2 q
theorem unI {f:iB->Sem iB} {g:Int->Int}
  (r:∀ (i:Int) (t:Tok) (s:iF) (Q:iB->iF->Prop) (E:iB->iF->Prop),Q (.int (g i) s.toks) { s with toks:=s.toks+1 }->wpAny (model X.prog X.w) X.A (f (.int i t)) Q E s) :
  UnR X f (rU λi=>.int (g i)):=by
 intro pins s σ H x v Q I d h;obtain ⟨i,rfl,q⟩:=h;obtain ⟨t,rfl⟩:=d;exact r i t s _ _ ⟨.int (g i),H,I.tok _,⟨_,rfl⟩,q⟩
theorem qis:UnR X (unaryOp .USub) (rU λi=>.int (-i)):=unI λ_ _ _ _ _ q=>neg_int q
end
variable {op op':CmpOp} {r':R2}
section
variable {a b:Expr} {tb tc:TE}
theorem XW {Q:VK} {k k':Bool} (I:Inv X pins σ H s) (q:Q (.bl k) H) (e:k=k'):EP X pins σ Q (.bool k') s:=by subst e;exact ⟨.bl k,H,I,rfl,q⟩
theorem qkI:OpR X (compareOp .Lt) (rI0 λi j=>.bl (decide (i < j))):=qj9 λ_ _ _ _ _ _ _ q=>lt_int q
theorem qkJ:OpR X (compareOp .LtE) (rI0 λi j=>.bl (decide (i<=j))):=qj9 λ_ _ _ _ _ _ _ q=>le_int q
theorem qkK:OpR X (compareOp .Gt) (rI0 λi j=>.bl (decide (j < i))):=qj9 λ_ _ _ _ _ _ _ q=>gt_int q
theorem qkL:OpR X (compareOp .GtE) (rI0 λi j=>.bl (decide (j<=i))):=qj9 λ_ _ _ _ _ _ _ q=>ge_int q
theorem qaK:OpR X (compareOp .Lt) (λx y H Q=>∃ i j,x=.str i/\y=.str j/\Q (.bl (decide (i.cps.toList < j.cps.toList))) H):=by intro pins s σ H x y v u Q I d c h;obtain ⟨i,j,rfl,rfl,q⟩:=h;obtain ⟨t,rfl⟩:=d;obtain ⟨t',rfl⟩:=c;exact lt_str (XW I q rfl)
theorem qit:OpR X (compareOp .Is) (λx y H Q=>y=.non/\Q (.bl (decide (x=.non))) H):=by
 intro pins s σ H x y v u Q I d c h;obtain ⟨rfl,q⟩:=h;cases c;refine is_none_gen (XW I q ?_);cases x <;> first
  | (cases d; rfl)
  | (obtain ⟨t,rfl⟩:=d; rfl)
theorem qgi:OpR X (compareOp .IsNot) (λx y H Q=>y=.non/\Q (.bl (!decide (x=.non))) H):=by
 intro pins s σ H x y v u Q I d c h;obtain ⟨rfl,q⟩:=h;cases c;refine isnot_none_gen (XW I q ?_);cases x <;> first
  | (cases d; rfl)
  | (obtain ⟨t,rfl⟩:=d; rfl)
theorem qfk (b:Expr) (h:op≠.In:=by decide) (h2:op≠.NotIn:=by decide):behindInMarks op b=false:=by
 have e1:(op == CmpOp.In)=false:=by cases op <;> first | rfl | exact absurd rfl h
 have i:(op == CmpOp.NotIn)=false:=by cases op <;> first | rfl | exact absurd rfl h2
 cases b <;> simp [behindInMarks,e1,i]
theorem qgj (l:OpR X (compareOp op) r) (g:PE X a ta) (e:PE X b tb) (m:behindInMarks op b=iE):PE X (.Compare a [op] [b] pos) (tOp r ta tb):=by refine ⟨?_⟩;intro pins s σ H Q I h;exact wpAny_Compare1 (qkF g e I h λv u s2 x y H2 k d c q=>l pins s2 σ H2 x y v u Q k d c q) m
def qiu (t:TE):TT:=λσ H Q=>t σ H λx H'=>∃ k,x=.bl k/\Q k H'
theorem qgk (l:OpR X (compareOp op) r) (i:PE X a ta) (g:PE X b tb) (m:behindInMarks op b=iE):PT X (.Compare a [op] [b] pos) (qiu (tOp r ta tb)):=by
 refine ⟨?_⟩;intro pins s σ H Q I h;refine wpAny_isTrue_Compare1 (thn (i pins s σ H _ I h) λv s1 ⟨x,H1,o,r1,f⟩=>thn (g pins s1 σ H1 _ o f) λu s2 ⟨y,H2,n,r2,d⟩=>
  thn (l pins s2 σ H2 x y v u _ n r1 r2 d) λc s3 ⟨z,p,j,r3,k,e,q⟩=>?_) m
 subst e;cases r3;exact iU ⟨p,j,q⟩
def qaL (r r':R2) (ta tb tc:TE):TE:=λσ H Q=>ta σ H λx H1=>tb σ H1 λy H2=>r x y H2 λz b=>∃ k,z=.bl k /\
 (if k=iC then tc σ b λT a=>r' y T a Q else Q (.bl iE) b)
theorem qdw (o:OpR X (compareOp op) r) (f:OpR X (compareOp op') r') (A:PE X a ta) (w:PE X b tb) (t:PE X c tc)
  (n:lastMarks [op,op'] [b,c]=false:=by with_unfolding_all rfl):PE X (.Compare a [op,op'] [b,c] pos) (qaL r r' ta tb tc):=by
 refine ⟨?_⟩;intro pins s σ H Q I h;refine Compare_chain (thn (A pins s σ H _ I h) λv s1 ⟨x,H1,D,r1,m⟩=>chain_link (thn (w pins s1 σ H1 _ D m) λu s2 ⟨y,H2,C,r2,l⟩=>
  thn (o pins s2 σ H2 x y v u _ C r1 r2 l) λd s3 ⟨z,g,j,r3,k,e,q⟩=>?_)) n
 subst e;cases r3;refine iU ?_;cases k with
 | false=>exact ite_ff ⟨.bl iE,g,j,rfl,q⟩
 | true=>exact ite_tt (chain_last (thn (t pins s3 σ g _ j q) λT s4 ⟨p,E,B,r4,i⟩=>f pins s4 σ E y p u T Q B r2 r4 i))
theorem qdx (t:OpR X (compareOp op) r) (f:OpR X (compareOp op') r') (C:PE X a ta) (B:PE X b tb) (A:PE X c tc)
  (w:lastMarks [op,op'] [b,c]=false:=by with_unfolding_all rfl):PT X (.Compare a [op,op'] [b,c] pos) (qiu (qaL r r' ta tb tc)):=by
 refine ⟨?_⟩;intro pins s σ H Q I h;refine isTrue_chain (thn (C pins s σ H _ I h) λv s1 ⟨x,H1,L,r1,n⟩=>test_link (thn (B pins s1 σ H1 _ L n) λu s2 ⟨y,H2,K,r2,m⟩=>
  thn (t pins s2 σ H2 x y v u _ K r1 r2 m) λd s3 ⟨z,g,j,r3,k,e,q⟩=>?_)) w
 subst e;cases r3;refine iU ?_;cases k with
 | false=>obtain ⟨k',E,o⟩:=q;cases E;exact ite_ff ⟨g,j,o⟩
 | true=>refine ite_tt (test_last (thn (A pins s3 σ g _ j q) λT s4 ⟨p,M,J,r4,l⟩=>thn (f pins s4 σ M y p u T _ J r2 r4 l) λd' s5 ⟨N,R,G,r5,k2,D,i⟩=>?_));subst D;cases r5;exact iU ⟨R,G,i⟩
def qkM (K:Frag) (x:V) (H:Hp) (k:Bool):Prop:=
 match x with
 | .non=>k=iE
 | .bl b=>k=b
 | .int i=>k=(i != 0)
 | .str y=>y.length<=sizeLine/\k=((y.length:Int) != 0)
 | .byt y=>y.size<=sizeLine/\k=((y.size:Int) != 0)
 | .ref p=>(∃ xs,SqL K H p xs/\k=!xs.isEmpty)\/(∃ xs,SqT K H p xs/\k=!xs.isEmpty)\/∃ kvs,H p=iu (.dK kvs)/\k=!kvs.isEmpty
 | _=>False
theorem GG {κ:Type} {kvs:List (κ×V)} {vs:List (κ×iB)} (r:KV kvs vs):(!vs.isEmpty)=!kvs.isEmpty:=by cases r <;> rfl
theorem Ky {its:List iB} (r:Vals xs its):(!its.toArray.isEmpty)=!xs.isEmpty:=by cases r <;> simp
theorem Kz:(sizeLine:Nat) < 2 ^ 63:=by rw [iL]; decide
theorem qiv:qmp X (λx H Q=>∃ k,qkM X.K x H k/\Q k H):=by
 intro pins s σ H x v Q I d h;obtain ⟨k,e,q⟩:=h;have hl:=Kz;have c:sizeLine=16777216:=iL;cases x with
 | non=>cases d;have a:k=false:=e;subst a;exact truthy_none ⟨H,I,q⟩
 | bl b=>cases d;have a:k=b:=e;subst a;exact iU ⟨H,I,q⟩
 | int i=>obtain ⟨t,rfl⟩:=d;have a:k=(i != 0):=e;subst a;exact PySem.P.truthy_int ⟨H,I,q⟩
 | str y=>obtain ⟨t,rfl⟩:=d;obtain ⟨hy,a⟩:y.length<=sizeLine/\k=((y.length:Int) != 0):=e;subst a;exact PySem.P.truthy_str (by lia) ⟨H,I.tok _,q⟩
 | byt y=>obtain ⟨t,rfl⟩:=d;obtain ⟨hy,a⟩:y.size<=sizeLine/\k=((y.size:Int) != 0):=e;subst a;exact PySem.W.truthy_bytes (by lia) ⟨H,I.tok _,q⟩
 | ref p=>
  cases d;have a:(∃ xs,SqL X.K H p xs/\k=!xs.isEmpty)\/(∃ xs,SqT X.K H p xs/\k=!xs.isEmpty)\/∃ kvs,H p=iu (.dK kvs)/\k=!kvs.isEmpty:=e;rcases a with ⟨xs,hx,a⟩ | ⟨xs,hx,a⟩ | ⟨kvs,hx,a⟩
  ·subst a;obtain ⟨its,r,pl,z⟩:=I.list hx;have n:=r.length;exact wpAny_truthy_list pl.isList (by simp only [aw]; lia) ⟨H,I.tok _,by rw [Ky r]; exact q⟩
  ·subst a;obtain ⟨its,r,pl,z⟩:=I.tuple hx;have n:=r.length;exact truthy_tuple pl (by simp only [aw]; lia) ⟨H,I.tok _,by rw [Ky r]; exact q⟩
  ·subst a;obtain ⟨z,hS,vs,r,m⟩:kvs.length<=sizeLine/\(p == sysModules)=iE/\∃ vs,KV kvs vs/\s.heap.DictOf (jf X.prog X.w) p vs:=I.hok p _ hx;have n:kvs.length=vs.length:=fN r;exact wpAny_truthy_dict hS m (by lia) ⟨H,I.tok _,by rw [GG r]; exact q⟩
 | _=>exact (show False from e).elim
theorem qdy (g:PE X a ta) (i:∀ whole,isTrue a X.env whole=(do let v <-whole; standAt a.pos; holding [v] (truthy v))):PT X a (λσ H Q=>ta σ H λx H'=>∃ k,qkM X.K x H' k/\Q k H'):=by refine ⟨?_⟩;intro pins s σ H Q I h;exact isTrue_plain (thn (g pins s σ H _ I h) λv s1 ⟨x,H1,d,r1,q⟩=>qiv pins s1 σ H1 x v Q d r1 q) (i _)
theorem GH:OpR X (binaryOp .Add) (λx y H Q=>∃ i j,x=.str i/\y=.str j/\i.length+j.length<=sizeLine/\Q (.str (i++j)) H):=by intro pins s σ H x y v u Q I d c h;obtain ⟨i,j,rfl,rfl,z,q⟩:=h;obtain ⟨t,rfl⟩:=d;obtain ⟨t',rfl⟩:=c;exact add_str (λt' tk=>⟨.str (i++j),H,I.tok _,⟨_,rfl⟩,q⟩) z
theorem xw {x:V} (r:Vals [x] us):∃ u,us=[u]/\RelV x u:=by
 cases r with
 | cons r1 r2=>cases r2; exact ⟨_,rfl,r1⟩
theorem qgl {x y:V} (r:Vals [x,y] us):∃ u T,us=[u,T]/\RelV x u/\RelV y T:=by
 cases r with
 | cons r1 r2=>
  cases r2 with
  | cons r3 r4=>cases r4; exact ⟨_,_,rfl,r1,r3⟩
theorem qaM (d:X.calm=iC):xu X (.builtin "max") (λxs H Q=>∃ i j,xs=[.int i,.int j]/\Q (.int (if j > i then j else i)) H):=by
 intro pins s σ H xs us Q I r h;obtain ⟨i,j,rfl,q⟩:=h;obtain ⟨u,T,rfl,⟨t,rfl⟩,⟨t',rfl⟩⟩:=qgl r;refine max_two_ints (I.ok.hd d) λh' tk k=>⟨_,H,I.kept k,?_,q⟩
 by_cases G:j > i;·rw [if_pos G,if_pos G]; exact ⟨_,rfl⟩
 ·rw [if_neg G,if_neg G]; exact ⟨_,rfl⟩
theorem qaN (d:X.calm=iC):xu X (.builtin "min") (λxs H Q=>∃ i j,xs=[.int i,.int j]/\Q (.int (if j < i then j else i)) H):=by
 intro pins s σ H xs us Q I r h;obtain ⟨i,j,rfl,q⟩:=h;obtain ⟨u,T,rfl,⟨t,rfl⟩,⟨t',rfl⟩⟩:=qgl r;refine min_two_ints (I.ok.hd d) λh' tk k=>⟨_,H,I.kept k,?_,q⟩
 by_cases G:j < i;·rw [if_pos G,if_pos G]; exact ⟨_,rfl⟩
 ·rw [if_neg G,if_neg G]; exact ⟨_,rfl⟩
def qmq (K:Frag) (x:V) (H:Hp) (n:Nat):Prop:=
 match x with
 | .str y=>y.length<=sizeLine/\n=y.length
 | .byt y=>y.size<=sizeLine/\n=y.size
 | .ref p=>(∃ xs,SqL K H p xs/\n=xs.length)\/∃ xs,SqT K H p xs/\n=xs.length
 | _=>False
theorem Vn:xu X (.builtin "len") (λxs H Q=>∃ x n,xs=[x]/\qmq X.K x H n/\Q (.int n) H):=by
 intro pins s σ H xs us Q I r h;obtain ⟨x,n,rfl,e,q⟩:=h;obtain ⟨u,rfl,d⟩:=xw r;have hl:=Kz;have c:sizeLine=16777216:=iL;cases x with
 | str y=>obtain ⟨t,rfl⟩:=d;obtain ⟨hy,b⟩:y.length<=sizeLine/\n=y.length:=e;subst b;exact len_str (by lia) ⟨.int _,H,I.tok _,⟨_,rfl⟩,q⟩
 | byt y=>obtain ⟨t,rfl⟩:=d;obtain ⟨hy,b⟩:y.size<=sizeLine/\n=y.size:=e;subst b;exact PySem.W.len_bytes (by lia) ⟨.int _,H,I.tok _,⟨_,rfl⟩,q⟩
 | ref p=>
  cases d;have b:(∃ xs,SqL X.K H p xs/\n=xs.length)\/∃ xs,SqT X.K H p xs/\n=xs.length:=e;rcases b with ⟨xs,hx,b⟩ | ⟨xs,hx,b⟩
  ·subst b;obtain ⟨its,r',pl,z⟩:=I.list hx;have a:=r'.length;exact Calls.call_len_list pl.isList (by simp only [aw]; lia) ⟨.int xs.length,H,I.tok _,⟨_,by simp only [aw]; rw [a]⟩,q⟩
  ·subst b;obtain ⟨its,r',pl,z⟩:=I.tuple hx;have a:=r'.length;exact len_tuple pl (by simp only [aw]; lia) ⟨.int xs.length,H,I.tok _,⟨_,by simp only [aw]; rw [a]⟩,q⟩
 | _=>exact (show False from e).elim
end
structure ObjM (h:Heap) (x dx C:Addr) (mA:Str->Option iB):Prop where
 obj:h.get? x=iu (cS C dx)
 ns:h.Ns1 dx mA
 ne:dx≠x
variable {dx:Addr} {mA:Str->Option iB}
theorem qaO (n:h.Ns1 dx mA):∃ od,h.get? dx=iu od/\∀ name,f9 name od=iu (mA name):=by
 obtain ⟨o,es,ep,l,hd,k,_,c⟩:=n;refine ⟨o,l,λname=>?_⟩;have e:=c name;unfold nsFind findBy at e;rw [<-Array.find?_toList] at e;unfold f9;rw [hd];dsimp only;split;·rename_i y q;rw [q] at e;exact congrArg iu e
 ·rename_i q;rw [q] at e;have a:es.toList.any (·.refKey)=false:=by rw [List.any_eq_false];intro y D;obtain ⟨z,t,b⟩:=k y (Array.mem_toList_iff.mp D);simp [DictEntry.refKey,b]
  have d:¬es.toList.any (·.refKey)=true:=by rw [a]; exact be
  rw [if_neg d];exact congrArg iu e
variable {C:Addr}
theorem ObjM.look {x:Addr} (I:ObjM h x dx C mA):∃ od,PySem.W.InstAt h x (cS C dx) C (iu od)/\∀ name,f9 name od=iu (mA name):=
 let ⟨od,l,hl⟩:=qaO I.ns
 ⟨od,⟨I.obj,rfl,rfl,l⟩,hl⟩
theorem RelO.some_of {o:Option iB} (r:RelO (iu v) o):∃ u,o=iu u/\RelV v u:=by
 cases o with
 | none=>exact (show False from r).elim
 | some u=>exact ⟨u,rfl,r⟩
section
variable {fs:List (Str×V)} {f:Str}
theorem Inv.made (I:Inv X pins σ H s):Inv X pins σ (upd (upd H s.heap.objs.size (.own (s.heap.objs.size+1))) (s.heap.objs.size+1) (.ins C s.heap.objs.size []))
  { s with heap:=(s.heap.push bX).push (cS C s.heap.objs.size) }:=by
 have e1:(s.heap.push bX).get? s.heap.objs.size=iu bX:=au s.heap rfl;have c:((s.heap.push bX).push (cS C s.heap.objs.size)).get? (s.heap.objs.size+1)=iu (cS C s.heap.objs.size):=by have:=au (s.heap.push bX) (o:=cS C s.heap.objs.size) rfl;rwa [bS] at this
 have E:(s.heap.push bX).Ns s.heap.objs.size (λ_=>iw):=⟨bX,#[],_,e1,rfl,(λe i=>absurd i (by simp)),λ_=>rfl⟩
 have d:=I.laid (a:=s.heap.objs.size) (o:=.own (s.heap.objs.size+1)) (h':=s.heap.push bX) (t':=s.toks) (λb u q=>af _ q) (aB _) ⟨_,e1⟩;refine d.laid (a:=s.heap.objs.size+1) (o:=.ins C s.heap.objs.size []) (t':=s.toks) (λb u q=>af _ q) (eJ (bS _ _)) ?_;have ne:s.heap.objs.size≠s.heap.objs.size+1:=aE (Nat.lt_succ_self _);refine ⟨by rw [qA ne,qu],br _,ne,c,λ_=>iw,(Heap.Ns1.of_empty E).at λo q=>af _ q,λ_=>dI,λy D=>absurd rfl D⟩
end
structure Room (k:Nat) (A:iK):Prop where
 hd:A.handled=iw
 dp:A.depth+3 * k+5 < recursionLimit
 un:A.units+16 * k+200 < cLine
theorem Room.mono {j k:Nat} (r:Room k A) (h:j<=k):Room j A:=⟨r.hd,by have:=r.dp; lia,by have:=r.un; lia⟩
theorem Room.deeper {k:Nat} (r:Room (k+1) A) (env:Env):Room k (A.deeper env):=
 ⟨r.hd,by have:=r.dp; show A.depth+1+3 * k+5 < _; lia,by have:=r.un; show A.units+3+16 * k+200 < _; lia⟩
theorem Room.in1 {k:Nat} (r:Room (k+1) A):Room k A.in1:=
 ⟨r.hd,by have:=r.dp; show A.depth+3 * k+5 < _; lia,by have:=r.un; show A.units+1+16 * k+200 < _; lia⟩
theorem Room.depth {k:Nat} (r:Room k A):A.depth < recursionLimit:=by have:=r.dp; lia
theorem Room.units {k:Nat} (r:Room k A):A.units+64 < cLine:=by have:=r.un; lia
def qkN:TA:=λ_ H Q=>Q [] H
def qdz (ta:TE) (tr:TA):TA:=λσ H Q=>ta σ H λx H1=>tr σ H1 λxs H2=>Q (x::xs) H2
section
variable {t:TA}
theorem jO:PA X [] qkN:=⟨λ_ _ _ _ H Q I h=>fH ⟨[],H,I,.nil,h⟩⟩
theorem qX (g:PE X e te) (hr:PA X es t) (c:starEach (e::es) X.env=(iE,eval e X.env)::starEach es X.env:=by rfl):PA X (e::es) (qdz te t):=by refine ⟨?_⟩;intro pos pins s σ H Q I h;rw [c];show wpAny _ _ (spliced ((iE,eval e X.env)::backTo pos (starEach es X.env))) _ _ s;refine d7 (thn (g pins s σ H _ I h) λu s1 ⟨x,H1,a,r1,q⟩=>?_);exact thn (hr pos pins s1 σ H1 _ a q) λus s2 ⟨xs,H2,k,r2,d⟩=>⟨x::xs,H2,k,.cons r1 r2,d⟩
def qmr (t:TA):TE:=λσ H Q=>t σ H λxs H1=>xs.length<=sizeLine/\∀ p,H1 p=iw->Q (.ref p) (upd H1 p (.tup xs))
def qms (t:TA):TE:=λσ H Q=>t σ H λxs H1=>xs.length<=sizeLine/\∀ p,H1 p=iw->Q (.ref p) (upd H1 p (.lst xs))
theorem qiw {x1} (h:PA X es t):PE X (.Tuple es x1 pos) (qmr t):=by refine ⟨?_⟩;intro pins s σ H Q I hq;refine wpAny_Tuple_spliced (thn (h pos pins s σ H _ I hq) λus s1 ⟨xs,H1,d,r,z,q⟩=>⟨by rw [<-r.length]; exact z,?_⟩);have f:H1 s1.heap.objs.size=none:=d.hok.fresh (aB _);refine ⟨.ref s1.heap.objs.size,upd H1 s1.heap.objs.size (.tup xs),d.laid (t':=s1.toks) (λb u e=>af _ e) (aB _) ?_,rfl,q _ f⟩;exact ⟨⟨z,_,au _ rfl,rfl⟩,us,r,⟨_,au _ rfl,rfl,_,rfl⟩⟩
theorem qix (h:PA X es t):PE X (.List es pos) (qms t):=by refine ⟨?_⟩;intro pins s σ H Q I hq;refine wpAny_List_spliced (thn (h pos pins s σ H _ I hq) λus s1 ⟨xs,H1,d,r,z,q⟩=>⟨by rw [<-r.length]; exact z,?_⟩);have f:H1 s1.heap.objs.size=none:=d.hok.fresh (aB _);refine ⟨.ref s1.heap.objs.size,upd H1 s1.heap.objs.size (.lst xs),d.laid (t':=s1.toks) (λb u e=>af _ e) (aB _) ?_,rfl,q _ f⟩;exact ⟨z,us,0,r,au _ rfl⟩
end
abbrev Sp:=List V->Hp->VK->XK->Prop
abbrev CXT:=List Env->Hp->iF->XK->iB->iF->Prop
structure Env0 (P:iH) (w:iI) (K:Frag) (mg:Str->Option iB) (base:Heap) (A:iK) (outer:List Env) (s:iF) (H:Hp):Prop where
 frames:A.frames=iu outer
 mod:Mod K mg base
 bs:∀ b o,base.get? b=iu o->s.heap.get? b=iu o/\H b=iw
 bsz:base.objs.size<=s.heap.objs.size
 funs:s.heap.FunFrames base outer
 frf:∀ b∈frs outer,H b=iw
 hok:HOk P w H s.heap
 bare:lh s.gens
def CE (outer:List Env) (P:iH) (w:iI) (H:Hp) (s:iF) (Q:VK) (u:iB) (s':iF):Prop:=
 ∃ v H',s'.os=s.os/\lh s'.gens/\Un (frs outer) [] H H' s.heap s'.heap/\HOk P w H' s'.heap/\RelV v u/\Q v H'
def CR (CX:CXT) (outer:List Env) (P:iH) (w:iI) (H:Hp) (s:iF) (Q:VK) (E:XK) (r:lH) (s':iF):Prop:=
 match r with
 | .ok (.ret u)=>CE outer P w H s Q u s'
 | .ok _=>False
 | .error e=>CX outer H s E e s'
structure FnOk (P:iH) (w:iI) (K:Frag) (mg:Str->Option iB) (base:Heap) (CX:CXT) (k:Nat) (f:Addr) (fd:j6) (ps:List Str) (sp:Sp):Prop where
 len:∀ vs H Q E,sp vs H Q E->vs.length=ps.length
 run:∀ (A:iK) (outer:List Env) (s:iF) (H:Hp) (args:Args) (us:List iB) (vs:List V) (Q:VK) (E:XK),Room k A->Env0 P w K mg base A outer s H->lI s fd args (ps.zip us)->Vals vs us->sp vs H Q E ->codeAny (model P w) A (.call (.ref f) args) (CR CX outer P w H s Q E) s
variable {f:Addr} {mg:Str->Option iB} {base:Heap} {CX:CXT} {fd:j6} {ps:List Str} {sp:Sp}
theorem FnOk.imp {k:Nat} {a:Sp} (F:FnOk P w K mg base CX k f fd ps sp)
  (h:∀ vs H Q E,a vs H Q E->sp vs H Q E):FnOk P w K mg base CX k f fd ps a:=
 ⟨λvs H Q E q=>F.len vs H Q E (h _ _ _ _ q),λA outer s H args us vs Q E hr i d c b=>F.run A outer s H args us vs Q E hr i d c (h _ _ _ _ b)⟩
theorem Env0.in1 {outer:List Env} (e:Env0 P w K mg base A outer s H):Env0 P w K mg base A.in1 outer s H:=⟨e.frames,e.mod,e.bs,e.bsz,e.funs,e.frf,e.hok,e.bare⟩
section
theorem Inv.env0 (I:Inv X pins σ H s):Env0 X.prog X.w X.K X.mg X.base X.A X.stack s H:=
 ⟨I.ok.frames,I.ok.mod,I.bs,bv I.ok.bsz I.sz,I.stack,I.stkFree,I.hok,I.bare⟩
theorem Inv.after {Q:VK} (I:Inv X pins σ H s) (h:CE X.stack X.prog X.w H s Q u s'):EP X pins σ Q u s':=by obtain ⟨v,H',os,bare,un,hok,r,q⟩:=h;obtain ⟨a,g,d,t,o⟩:=s';obtain rfl:o=s.os:=os;exact ⟨v,H',I.call (h':=a) (g':=g) (d':=d) (t':=t) (ch:=[]) un hok bare (λb z=>absurd z (by simp)),r,q⟩
end
def qkO (sp:Sp) (dvs:List V) (E:XK) (t:TA):TE:=λσ H Q=>t σ H λvs H1=>sp (vs++dvs) H1 Q E
def Binds (K:Frag) (fd:j6) (ps:List Str) (ds:List iB):Prop:=
 ∀ (s:iF) (us:List iB),K.In s.heap->(us++ds).length=ps.length->lI s fd ⟨us,[]⟩ (ps.zip (us++ds))
theorem Binds.all (h:∀ us:List iB,us.length=ps.length->bindArgs fd ⟨us,[]⟩=pure (ps.zip us)):Binds K fd ps []:=λs us _ hl=>by rw [bh] at hl ⊢;exact .of_eq (h us hl)
def zd (CX:CXT) (X:Cx) (E:XK):Prop:=∀ (pins:Pns) (σ:St) (H:Hp) (s:iF) (e:iB) (s':iF),Inv X pins σ H s->CX X.stack H s E e s'->X.xe e s'
variable {apos:Pos}
section
variable {k:Nat} {dvs:List V} {ds:List iB} {E:XK} {m:Str} {o:Expr} {t:TA}
theorem qiy {pins:Pns} {σ:St} {H:Hp} {s:iF} {Q:VK} {us:List iB} {vs:List V} (F:FnOk X.prog X.w X.K X.mg X.base CX k f fd ps sp) (hr:Room k X.A) (d:Binds X.K fd ps ds) (hd:Vals dvs ds) (hx:zd CX X E)
  (I:Inv X pins σ H s) (r:Vals vs us) (h:sp (vs++dvs) H Q E):wpAny (model X.prog X.w) X.A (call (.ref f) us) (EP X pins σ Q) X.xe s:=by
 have r2:Vals (vs++dvs) (us++ds):=r.append hd;have hl:(us++ds).length=ps.length:=by rw [<-r2.length]; exact F.len _ _ _ _ h
 refine wpAny_call (li (F.run X.A X.stack s H ⟨us,[]⟩ (us++ds) (vs++dvs) Q E hr I.env0 (d s us I.kIn hl) r2 h) λr s' hq=>?_);cases r with
 | error e=>exact hx pins σ H s e s' I hq
 | ok l=>
  cases l with
  | ret u=>exact I.after hq
  | next=>exact dJ hq
  | brk=>exact dJ hq
  | cont=>exact dJ hq
theorem qgm (F:FnOk X.prog X.w X.K X.mg X.base CX k f fd ps sp) (hr:Room k X.A) (hg:Gl X x) (c:X.mg x=iu (.ref f)) (a:keepIn X.K (.ref f)=iC) (g:Binds X.K fd ps ds) (hd:Vals dvs ds) (hx:zd CX X E)
  (j:PA X (e::es) t) (b:Dbg x:=by decide) (i:starEach (e::es) X.env=(iE,eval e X.env)::starEach es X.env:=by rfl) (l:(backTo pos (starEach es X.env)).any (·.1)=false:=by rfl) :
  PE X (.Call (.Name x p) (e::es) [] pos) (qkO sp dvs E t):=by
 refine ⟨?_⟩;intro pins s σ H Q I h;refine j0 (Vm I hg c ?_ b);refine PySem.W.callWith_K (h₀:=X.base) I.ok.mod.kin a (thn (j pos pins s σ H _ I h) λus s1 ⟨vs,H1,d,r,q⟩=>⟨d.kIn,?_⟩) i l;exact qiy F hr g hd hx d r q
structure Mk (K:Frag) (C f:Addr):Prop where
 makes:PySem.W.makesIn K C=iC
 init:PySem.W.findIn K (.ref C) "__init__"=iu (iu (.ref f))
 fn:PySem.W.isFn K (.ref f)=iC
 kp:keepIn K (.ref C)=iC
end
section
variable {k:Nat} {ks:List Str} {E:XK} {m:Str} {kpos:Pos} {o:Expr} {kws:List iY} {t tk:TA} {nm:Option Str}
variable {g:List iB->List iB->List iB} {gV:List V->List V->List V}
end
structure FnScope (N P:List Str) (sc:lf):Prop where
 kind:sc.kind=.function
 co:sc.isCoroutine=iE
 gen:sc.isGenerator=iE
 nd:N.Nodup
 pre:N.take P.length=P
 par:∀ x∈P,sc.names.lookup x=iu .local\/sc.names.lookup x=iu .cell
 nofree:∀ y∈sc.names,y.2≠.free
variable {kindOf:Str->Option i8}
theorem WJ:∀ {binds:List (Str×iB)} {m:Str->Option iB},(∀ v,(x,v)∉binds)->bindL kindOf binds m x=m x
 | [],_,_=>rfl
 | (n,v)::r,m,h=>by
  unfold bindL;rw [WJ λw a=>h w (aa _ a)];split
  ·have:x≠n:=by rintro rfl; exact h v ae
   simp [this]
  ·rfl
theorem WK:∀ {binds:List (Str×iB)} {m:Str->Option iB},(∀ v,(x,v)∉binds)->bindC kindOf binds m x=m x
 | [],_,_=>rfl
 | (n,v)::r,m,h=>by
  unfold bindC;rw [WK λw a=>h w (aa _ a)];split;·rfl
  ·have:x≠n:=by rintro rfl; exact h v ae
   simp [this]
theorem WL {kindOf:Str->Option i8} {x:Str} {v:iB}:∀ {P:List Str} {vs:List iB} {i:Nat} {m:Str->Option iB},P.Nodup->P[i]?=iu x->vs[i]?=iu v->kindOf x=iu .local ->bindL kindOf (P.zip vs) m x=iu v
 | [],_,_,_,_,h,_,_=>by simp at h
 | _::_,[],_,_,_,_,h,_=>by simp at h
 | p::P,w::vs,0,m,nd,h1,h2,hk=>by simp at h1 h2; subst h1; subst h2;show bindL kindOf ((p,w)::P.zip vs) m p=_;unfold bindL;rw [WJ λv c=>(aN.mp nd).1 (fW c).1,if_pos hk];simp
 | p::P,w::vs,i+1,m,nd,h1,h2,hk=>by show bindL kindOf ((p,w)::P.zip vs) m x=_;unfold bindL;exact WL (i:=i) (aN.mp nd).2 (by simpa using h1) (by simpa using h2) hk
theorem WM {kindOf:Str->Option i8} {x:Str} {v:iB}:∀ {P:List Str} {vs:List iB} {i:Nat} {m:Str->Option iB},P.Nodup->P[i]?=iu x->vs[i]?=iu v->kindOf x≠iu .local ->bindC kindOf (P.zip vs) m x=iu v
 | [],_,_,_,_,h,_,_=>by simp at h
 | _::_,[],_,_,_,_,h,_=>by simp at h
 | p::P,w::vs,0,m,nd,h1,h2,hk=>by simp at h1 h2; subst h1; subst h2;show bindC kindOf ((p,w)::P.zip vs) m p=_;unfold bindC;rw [WK λv c=>(aN.mp nd).1 (fW c).1,if_neg hk];simp
 | p::P,w::vs,i+1,m,nd,h1,h2,hk=>by show bindC kindOf ((p,w)::P.zip vs) m x=_;unfold bindC;exact WM (i:=i) (aN.mp nd).2 (by simpa using h1) (by simpa using h2) hk
noncomputable def ze (N:List Str) (vs:List V):St:=vs.map iu++bE (N.length - vs.length) iw
def qgn (CX:CXT) (P:iH) (w:iI) (K:Frag) (mg:Str->Option iB) (base:Heap) (N:List Str) (qual:Str) (scope:lf) (f:Addr) (cd:iB) (A:iK) (outer:List Env) (s:iF) (H:Hp) (E:XK):Cx where
 prog:=P
 w:=w
 K:=K
 mg:=mg
 base:=base
 A:=A.deeper (envOfC qual scope s.heap.objs.size f cd)
 N:=N
 s₀:=s
 H₀:=H
 env:=envOfC qual scope s.heap.objs.size f cd
 outer:=outer
 stack:=envOfC qual scope s.heap.objs.size f cd::outer
 ex:=[]
 calm:=iC
 fn:=λ_=>iC
 pn:=[]
 xe:=λe s'=>wpAny (model P w) (A.deeper (envOfC qual scope s.heap.objs.size f cd)) (leaving (envOfC qual scope s.heap.objs.size f cd) e) (λ_ a=>CX outer H s E e a) (λb a=>CX outer H s E b a) s'
theorem XX {sc:lf} {n:Nat} (h:sc.names.lookup x=iu .cell):∃ c,(cellsFrom n sc.names []).lookup x=iu c:=by have q:=PySem.W.cellsFrom_some sc.names n [] (.inl h);exact Option.isSome_iff_exists.mp q
theorem qaP {CX:CXT} {P:iH} {w:iI} {K:Frag} {mg:Str->Option iB} {base:Heap} {N ps:List Str} {qual:Str} {scope:lf} {f:Addr} {cd:iB} {A:iK} {outer:List Env} {s s1:iF} {H:Hp} {E:XK} {us:List iB} {vs:List V}
  (S:FnScope N ps scope) (hd:A.handled=iw) (e0:Env0 P w K mg base A outer s H) (hl:vs.length=ps.length) (r:Vals vs us)
  (x:InCallC s s.heap.objs.size (bindL (envOfC qual scope s.heap.objs.size f cd).kindOf (ps.zip us) λ_=>iw) (cellsFrom (s.heap.objs.size+1) scope.names []) (bindC (envOfC qual scope s.heap.objs.size f cd).kindOf (ps.zip us) λ_=>iw) s1) :
  Inv (qgn CX P w K mg base N qual scope f cd A outer s H E) [] (ze N vs) H s1:=by
 have o:ps.length<=N.length:=by have:=congrArg g5 S.pre; rw [List.length_take] at this; lia
 obtain ⟨h1,tk,rfl,l⟩:=x.done;have d:∀ b:Addr,b∉(qgn CX P w K mg base N qual scope f cd A outer s H E).ex:=λb z=>absurd (show b∈([]:List Addr) from z) (by simp);refine ⟨⟨e0.mod,S.kind,rfl,rfl,aB _,λy z c h1 h2=>?_,λy D=>?_,λy c _ h=>?_,λ_=>hd,Around.frames_deeper e0.frames,.inr ⟨rfl,rfl⟩,λb z=>absurd z (d b),e0.bs,e0.bsz,λb _ _=>d b,λb z=>absurd z (d b),e0.funs,e0.frf⟩,rfl,e0.bare,Un.kept l,⟨_,x.toInCall.ns,λi y v h1 h2 B=>?_⟩,λy c h=>⟨_,x.cell y c h⟩,e0.hok.fresh (aB _),λy c h=>?_,λp hp=>absurd (show p∈([]:Pns) from hp) (by simp),e0.hok.kept l,?_⟩;·exact name_of_addr x.apart (dg h1) (dg h2)
 ·have D:scope.names.lookup y=iu .cell\/scope.names.lookup y=iu .free:=D;rcases D with D | D;·exact XX D
  ·exact absurd rfl (S.nofree _ (dg D))
 ·exact eI (x.above y c (dg h))
 ·have hi:i < vs.length:=by
   unfold ze at h2;by_cases hi:i < vs.length;·exact hi
   ·rw [bY (by simpa using hi)] at h2;rw [cB] at h2;split at h2 <;> cases h2
  have t:vs[i]?=iu v:=by
   unfold ze at h2;rw [cj (by simpa using hi),aF] at h2;cases e:vs[i]? with
   | none=>rw [e] at h2; cases h2
   | some a=>rw [e] at h2; cases h2; rfl
  obtain ⟨u,j,m⟩:=r.get t;have hp:ps[i]?=iu y:=by rw [<-S.pre,List.getElem?_take_of_lt (by lia)]; exact h1
  have g:ps.Nodup:=by rw [<-S.pre]; exact S.nd.sublist (List.take_sublist _ _)
  refine ⟨u,m,?_⟩;rcases S.par y (aQ hp) with k | k;·exact .inl ⟨k,WL g hp j k⟩
  ·obtain ⟨c,e⟩:=XX (n:=s.heap.objs.size+1) k;refine .inr ⟨.inl k,c,e,?_⟩;have q:=x.cell y c e;rw [WM g hp j (by show scope.names.lookup y≠_; rw [k]; decide)] at q;exact q
 ·exact e0.hok.fresh (eI (x.above y c (dg h)))
 ·unfold ze;show _=N.length;rw [ai,ax,fg]
  lia
theorem qkP {CX:CXT} {P:iH} {w:iI} {K:Frag} {mg:Str->Option iB} {base:Heap} {k:Nat} {f:Addr} {name qual:Str} {params:Arguments} {body:List Stmt} {scope:lf} {i kV doc pm cdv ct oc:iB} {an od:Option Addr}
  {osl:Array (Option iB)} {N ps:List Str} {sp:Sp} (j:K.lookup f=iu ⟨oc,od,.func (cK name qual params body scope i kV doc pm an cdv ct),osl⟩) (g:codeIn K cdv qual=iC) (S:FnScope N ps scope)
  (len:∀ vs H Q E,sp vs H Q E->vs.length=ps.length)
  (a:∀ (A:iK) (outer:List Env) (s:iF) (H:Hp) (vs:List V) (Q:VK) (E:XK),Room k (A.deeper (envOfC qual scope s.heap.objs.size f cdv))->sp vs H Q E ->∃ t,PSs (qgn CX P w K mg base N qual scope f cdv A outer s H E) body t/\t { nx:=λ_ H'=>Q .non H',rt:=Q } (ze N vs) H) :
  FnOk P w K mg base CX (k+1) f (cK name qual params body scope i kV doc pm an cdv ct) ps sp:=by
 refine ⟨len,λA outer s H args us vs Q E hr e0 z r p=>?_⟩;have hl:=len _ _ _ _ p;have X:K.In s.heap:=e0.mod.kin.keeps λb o e=>(e0.bs b o e).1;have l:s.heap.NoLimit:=e0.mod.nolimit.keeps λb o e=>(e0.bs b o e).1;have h:∀ y∈ps.zip us,scope.names.lookup y.1=iu .local\/(scope.names.lookup y.1=iu .cell/\((cellsFrom (s.heap.objs.size+1) scope.names []).lookup y.1).isSome=iC):=λ⟨n,v⟩ D=>by
  rcases S.par n (fW D).1 with q | q;·exact .inl q
  ·exact .inr ⟨q,PySem.W.cellsFrom_some _ _ _ (.inl q)⟩
 refine codeAny_call_function hr.depth (X _ _ j) rfl S.co S.gen rfl (PySem.W.codeRec_of X g) (z _ _ _ _ ?_);refine wpAny_newFunctionEnv_cells S.kind h λenv m s1 x=>?_;subst m;refine ⟨l.keeps x.toInCall.keep,codeAny_func ?_⟩;obtain ⟨t,ht,hq⟩:=a A outer s H vs Q E (hr.deeper _) p;have I:Inv (qgn CX P w K mg base N qual scope f cdv A outer s H E) [] (ze N vs) H s1:=qaP S hr.hd e0 hl r x;refine k4 (ht [] s1 (ze N vs) H _ I hq) (λB s' c=>?_) λe s' c=>c;have fin:∀ {σ':St} {H':Hp} {v:V} {u:iB},Inv (qgn CX P w K mg base N qual scope f cdv A outer s H E) [] σ' H' s'->RelV v u->Q v H'->CE outer P w H s Q u s':=
  λ{σ' H' v u} J d q=>⟨v,H',J.os,J.bare,J.base,J.hok,d,q⟩
 cases B with
 | ret u=>obtain ⟨v,σ',H',J,d,q⟩:=c;exact fin J d q
 | next=>obtain ⟨σ',H',J,q⟩:=c;exact fin (v:=V.non) (u:=cE) J rfl q
 | brk=>obtain ⟨_,_,_,q⟩:=c;exact dJ q
 | cont=>obtain ⟨_,_,_,q⟩:=c;exact dJ q
section
variable {t:TA} {id T:String} {r:List V->Hp->VK->Prop}
def tCB (r:List V->Hp->VK->Prop) (t:TA):TE:=λσ H Q=>t σ H λvs H1=>r vs H1 Q
theorem zf (d:xu X (.builtin id) r) (hg:Gl X x) (m:X.mg x=iw) (c:bootBuiltins x=iu (.builtin id)) (g:PA X (e::es) t) (n:x ≠ "__name__":=by decide) (b:Dbg x:=by decide)
  (i:starEach (e::es) X.env=(iE,eval e X.env)::starEach es X.env:=by rfl) (l:(backTo pos (starEach es X.env)).any (·.1)=false:=by rfl):PE X (.Call (.Name x p) (e::es) [] pos) (tCB r t):=by
 refine ⟨?_⟩;intro pins s σ H Q I h;refine j0 (zc I hg m c ?_ n b);exact PyProof.Rows.callWith_builtin1 (thn (g pos pins s σ H _ I h) λus s1 ⟨vs,H1,a,r1,q⟩=>d pins s1 σ H1 vs us Q a r1 q) i l
theorem uY (d:xu X (.type T) r) (hg:Gl X x) (m:X.mg x=iw) (c:bootBuiltins x=iu (.type T)) (g:PA X (e::es) t) (n:x ≠ "__name__":=by decide) (b:Dbg x:=by decide)
  (i:starEach (e::es) X.env=(iE,eval e X.env)::starEach es X.env:=by rfl) (l:(backTo pos (starEach es X.env)).any (·.1)=false:=by rfl):PE X (.Call (.Name x p) (e::es) [] pos) (tCB r t):=by
 refine ⟨?_⟩;intro pins s σ H Q I h;refine j0 (zc I hg m c ?_ n b);exact bp (thn (g pos pins s σ H _ I h) λus s1 ⟨vs,H1,a,r1,q⟩=>d pins s1 σ H1 vs us Q a r1 q) i l
end
end L2
namespace HT
open PySem PyProof.Rows
theorem Vo (A:iK) (s:iF) (a:Int) (t:Tok) (c:Int) (u:Tok) (prog:iH) (w:iI) (E:iB->iF->Prop) (Q:iB->iF->Prop) (h:Q (.bool (decide (a < c))) s):wpAny (model prog w) A (richCompare .Lt (.int a t) (.int c u)) Q E s:=
 (PyProof.Rows.lt_int h:wpAny (model prog w) A (compareOp .Lt (.int a t) (.int c u)) Q E s)
section
open PySem.SeqAt
open PySem.AutoSeq1 (wpAny_loadPart')
open PySem.MeetsSeq PySem.MeetsSeq2 PySem.MeetsSeq3
end
section
variable {prog:iH} {w:iI} {A:iK} {E:iB->iF->Prop} {s:iF}
theorem cat_tup {t b:Addr} {vs ws:List iB} {Q:iB->iF->Prop} (ht:IsTup s.heap t vs.toArray) (k:IsTup s.heap b ws.toArray) (v:vs≠[])
  (h1:ws=[]->Q (.ref t) s) (h2:ws≠[]->Q (.ref s.heap.objs.size) { s with heap:=s.heap.push { cls:=.type "tuple",data:=.seq (vs++ws).toArray } })
  (hsz:vs.length+ws.length<=sizeLine):wpAny (model prog w) A (binaryOp .Add (.ref t) (.ref b)) Q E s:=by
 obtain ⟨⟨cls,dd,data,sl⟩,l,i,n,hd⟩:=id ht;obtain ⟨⟨j,d,g,a⟩,h,c,n2,hd2⟩:=id k;simp only at i hd c hd2;subst i hd c hd2;have e:vs.toArray++ws.toArray=(vs++ws).toArray:=by simp
 by_cases f:ws=[]
 ·exact lE ⟨_,l,rfl⟩ ⟨_,h,rfl⟩ noFill_tuple_add seq_tuple_add eU d8 (dU _ _)
   (tuple_addW1 t b vs.toArray ws.toArray n n2 dd d sl a (by simpa using v) (by simp [f])) ⟨l,h,h1 f⟩
 ·refine lE ⟨_,l,rfl⟩ ⟨_,h,rfl⟩ noFill_tuple_add seq_tuple_add eU d8 (dU _ _)
   (tuple_addW2 t b vs.toArray ws.toArray n n2 dd d sl a (by simpa using v) (by simpa using f) (by rw [aw,aw]; exact hsz)) ⟨l,h,?_⟩
  rw [e];exact h2 f
theorem slicePart_ {v:iB} {o:Option Int} {Q:Option Int->iF->Prop} (p:ll v o) (h:Q o s):wpAny (model prog w) A (Builtin.Slice.slicePartIndex v) Q E s:=by
 cases p with
 | none=>exact slicePart_none h
 | int i t=>exact slicePart_int h
end
end HT
namespace L2
open PySem PySem.Spec PyProof.Rows
abbrev TO:=St->Hp->(Option Int->Hp->Prop)->Prop
def PO (X:Cx) (e:Option Expr) (t:TO):Prop:=
 ∀ (pins:Pns) (s:iF) (σ:St) (H:Hp) (Q:Option Int->Hp->Prop),Inv X pins σ H s->t σ H Q ->wpAny (model X.prog X.w) X.A (evalPart e X.env) (λu s'=>∃ o H',Inv X pins σ H' s'/\ll u o/\Q o H') X.xe s
def qgo:TO:=λ_ H Q=>Q iw H
def qkQ (t:TE):TO:=λσ H Q=>t σ H λx H1=>∃ i,x=.int i/\Q (iu i) H1
variable {X:Cx} {e:Expr} {pos:Pos} {xs:List V} {us:List iB}
section
variable {te:TE} {lo hi:Option Expr} {tl th:TO} {p2:Pos}
theorem qgp:PO X iw qgo:=by intro pins s σ H Q I h;rw [evalPart_none];exact iG ⟨iw,H,I,.none,h⟩
theorem qgq (h:PE X e te):PO X (iu e) (qkQ te):=by intro pins s σ H Q I w;rw [evalPart_some];refine thn (h pins s σ H _ I w) λu s1 ⟨x,H1,d,r1,a⟩=>?_;obtain ⟨i,rfl,q⟩:=a;obtain ⟨t,rfl⟩:=r1;exact ⟨iu i,H1,d,.int i t,q⟩
def qkR (K:Frag):R2:=λx y H Q=>∃ a b xs ys,x=.ref a/\y=.ref b/\SqT K H a xs/\SqT K H b ys/\xs≠[]/\xs.length+ys.length<=sizeLine /\
 (ys=[]->Q (.ref a) H)/\(ys≠[]->∀ p,H p=iw->Q (.ref p) (upd H p (.tup (xs++ys))))
theorem Vals.nil_iff (r:Vals xs us):us=[]↔xs=[]:=by
 cases r with
 | nil=>simp
 | cons _ _=>simp
theorem qgr:OpR X (binaryOp .Add) (qkR X.K):=by intro pins s σ H x y v u Q I d r h;obtain ⟨a,b,xs,ys,rfl,rfl,j,g,hx,c,f,e⟩:=h;cases d;cases r;obtain ⟨its,r1,p1,_⟩:=I.tuple j;obtain ⟨i,r2,p2,_⟩:=I.tuple g;refine HT.cat_tup p1 p2 (λz=>hx (r1.nil_iff.mp z)) (λz=>⟨.ref a,H,I,rfl,f (r2.nil_iff.mp z)⟩) (λz=>?_) (by rw [<-r1.length,<-r2.length]; exact c);refine ⟨.ref s.heap.objs.size,_,I.laid (t':=s.toks) (o:=.tup (xs++ys)) (λb k q=>af _ q) (aB _) ?_,rfl,e (λw=>z (r2.nil_iff.mpr w)) _ (I.hok.fresh (aB _))⟩;exact ⟨⟨by rw [ai]; exact c,_,au _ rfl,rfl⟩,_,r1.append r2,IsTup.new _ _⟩
end
noncomputable def ixN (n:Nat) (i:Int):Option Nat:=if 0<=i then (if i < n then iu i.toNat else iw) else if -(n:Int)<=i then iu (i+n).toNat else iw
variable {α:Type}
noncomputable def atI (xs:List α) (i:Int):Option α:=(ixN xs.length i).bind λj=>xs[j]?
variable {n j:Nat} {i:Int}
theorem qaQ (h:ixN n i=iu j):seqIndex? i n=iu j/\j < n/\-(n:Int)<=i/\i < n:=by
 unfold ixN at h;by_cases a:0<=i
 ·rw [if_pos a] at h;by_cases h1:i < n;·rw [if_pos h1] at h;have e:i.toNat=j:=aI.inj h;exact ⟨by rw [seqIndex_of a h1,e],by lia,by lia,h1⟩
  ·rw [if_neg h1] at h; cases h
 ·rw [if_neg a] at h;by_cases h1:-(n:Int)<=i;·rw [if_pos h1] at h;have e:(i+n).toNat=j:=aI.inj h;exact ⟨by rw [seqIndex_neg (by lia) h1,e],by lia,h1,by lia⟩
  ·rw [if_neg h1] at h; cases h
theorem Yq {xs:List α} {v:α} (h:atI xs i=iu v):∃ j,seqIndex? i xs.length=iu j/\xs[j]?=iu v/\j < xs.length/\-(xs.length:Int)<=i/\i < xs.length:=by
 unfold atI at h;cases e:ixN xs.length i with
 | none=>rw [e] at h; cases h
 | some j=>rw [e] at h;obtain ⟨h1,h2,b,a⟩:=qaQ e;exact ⟨j,h1,h,h2,b,a⟩
theorem wH {xs:List α} {v:α} (h:xs[j]?=iu v):atI xs (j:Int)=iu v:=by
 have G:j < xs.length:=(aC.mp h).1;have e:ixN xs.length (j:Int)=iu j:=by unfold ixN;rw [if_pos (by lia),if_pos (by lia)]; simp
 unfold atI; rw [e]; exact h
def Vp (b:Expr):Prop:=∀ o i,subscripted b iE o i=operate [o,i] (getItem o i)
def IxR (X:Cx) (r:R2):Prop:=
 ∀ (value e:Expr) (pins:Pns) (s:iF) (σ:St) (H:Hp) (x y:V) (v u:iB) (Q:VK),Inv X pins σ H s->RelV x v->RelV y u->r x y H Q ->subscripted e iE v u=operate [v,u] (getItem v u)->wpAny (model X.prog X.w) X.A (subscriptTail value e v u) (EP X pins σ Q) X.xe s
def MtR (X:Cx) (id:String) (r:V->List V->Hp->VK->Prop):Prop:=
 ∀ (pins:Pns) (s:iF) (σ:St) (H:Hp) (x:V) (xs:List V) (v:iB) (us:List iB) (Q:VK),Inv X pins σ H s->RelV x v->Vals xs us->r x xs H Q ->wpAny (model X.prog X.w) X.A (call (.builtin id) (v::us)) (EP X pins σ Q) X.xe s
variable {pins:Pns} {σ:St} {H:Hp} {s:iF} {p:Addr} {T:String} {x:V}
section
variable {a b:Expr} {ta tb:TE}
theorem IxR.or {r r':R2} (h:IxR X r) (h':IxR X r'):IxR X (λx y H Q=>r x y H Q\/r' x y H Q):=by
 intro value e pins s σ H x y v u Q I d c q a;rcases q with q | q;·exact h value e pins s σ H x y v u Q I d c q a
 ·exact h' value e pins s σ H x y v u Q I d c q a
theorem qiz {r:R2} (hr:IxR X r) (g:PE X a ta) (f:PE X b tb) (e:Vp b):PE X (.Subscript a b pos) (tOp r ta tb):=by refine ⟨?_⟩;intro pins s σ H Q I h;exact Subscript_ (qkF g f I h λv u s2 x y H2 k d c q=>hr a b pins s2 σ H2 x y v u Q k d c q (e _ _))
def qlM (K:Frag):R2:=λx y H Q=>∃ p xs i v,x=.ref p/\y=.int i/\SqL K H p xs/\atI xs i=iu v/\Q v H
def qlN (K:Frag):R2:=λx y H Q=>∃ p xs i v,x=.ref p/\y=.int i/\SqT K H p xs/\atI xs i=iu v/\Q v H
def qlO:R2:=λx y H Q=>∃ z i c,x=.str z/\y=.int i/\z.length<=sizeLine/\atI z.cps.toList i=iu c/\Q (.str ⟨#[c]⟩) H
theorem ix_list:IxR X (qlM X.K):=by
 intro value e pins s σ H x y v u Q I g f h c;obtain ⟨p,xs,i,z,rfl,rfl,hq,k,q⟩:=h;cases g;obtain ⟨t,rfl⟩:=f;obtain ⟨its,r,pl,n⟩:=I.list hq;obtain ⟨j,h1,h2,A,m,l⟩:=Yq k;obtain ⟨w,d,a⟩:=r.get h2;have hl:=r.length;have o:=Kz;have fin:EP X pins σ Q w s:=⟨z,H,I,a,q⟩
 by_cases b:0<=i
 ·have G:i.toNat=j:=by rw [seqIndex_of b l] at h1;exact aI.inj h1
  exact item_listR pl.isList b (by lia) (by rw [G]; simpa using d) fin c
 ·have G:(i+(its.toArray.size:Int)).toNat=j:=by rw [seqIndex_neg (by lia) m] at h1;rw [aw,<-hl];exact aI.inj h1
  exact subscriptTail_builtinR (x:=w) pl.isList.typeIs slot_list_getitem.lookup
   (wpAny_getItem_list_neg (Q:=λr s'=>r=w/\EP X pins σ Q r s') pl.isList (by lia) (by rw [aw] <;> lia) (by lia) (by rw [G]; simpa using d) ⟨rfl,fin⟩) c
theorem ix_tup:IxR X (qlN X.K):=by
 intro value e pins s σ H x y v u Q I d c h b;obtain ⟨p,xs,i,z,rfl,rfl,hq,f,q⟩:=h;cases d;obtain ⟨t,rfl⟩:=c;obtain ⟨its,r,pl,k⟩:=I.tuple hq;obtain ⟨j,h1,h2,o,m,l⟩:=Yq f;obtain ⟨w,g,a⟩:=r.get h2;have hl:=r.length;have n:=Kz;have fin:EP X pins σ Q w s:=⟨z,H,I,a,q⟩
 exact subscriptTail_builtinR (x:=w) pl.typeIs slot_tuple_getitem.lookup
  (getItem_tuple (j:=j) (Q:=λr s'=>r=w/\EP X pins σ Q r s') pl (by lia) (by lia) (by rw [aw,<-hl]; exact h1) (by simpa using g) ⟨rfl,fin⟩) b
theorem qiA:IxR X qlO:=by
 intro value e pins s σ H x y v u Q I d r h a;obtain ⟨z,i,c,rfl,rfl,k,b,q⟩:=h;obtain ⟨t,rfl⟩:=d;obtain ⟨t',rfl⟩:=r;obtain ⟨j,h1,h2,m,f,l⟩:=Yq b;have hl:z.cps.toList.length=z.length:=by simp [h8]
 rw [hl] at h1 f l;have n:=Kz;exact tail_any (typeIs_str s z t) slot_str_getitem.lookup (getItem_str (c:=c) (by have e1:decide (i < -(2 ^ 63:Int))=false:=decide_eq_false (by lia);have g:decide (i ≥ 2 ^ 63)=false:=decide_eq_false (by lia);rw [e1,g,Bool.or_false]) (by rw [h1]; simpa using h2) ⟨.str ⟨#[c]⟩,H,I.tok _,⟨_,rfl⟩,q⟩) a
def rIx (K:Frag):R2:=λx y H Q=>qlM K x y H Q\/qlN K x y H Q\/qlO x y H Q
theorem qiB:IxR X (rIx X.K):=ix_list.or (ix_tup.or qiA)
theorem GI (its:List iB) (n j:Nat) (u:iB):c6 (·.setIfInBounds j u) { cls:=.type "list",data:=.seq its.toArray n }={ cls:=.type "list",data:=.seq (its.set j u).toArray n }:=by simp [c6]
theorem Inv.lst (I:Inv X pins σ H s) (h:H p=iu (.lst xs)):∃ (its:List iB) (n:Nat),Vals xs its/\s.heap.get? p=iu { cls:=.type "list",data:=.seq its.toArray n }/\xs.length<=sizeLine:=by obtain ⟨z,its,n,r,e⟩:=I.hok p _ h;exact ⟨its,n,r,e,z⟩
theorem Inv.lstUpd {ys:List V} {its its':List iB} {n c:Nat} {f:Obj->Obj} (I:Inv X pins σ H s) (h:H p=iu (.lst xs))
  (l:s.heap.get? p=iu { cls:=.type "list",data:=.seq its.toArray n }) (a:f { cls:=.type "list",data:=.seq its.toArray n }={ cls:=.type "list",data:=.seq its'.toArray c }) (r:Vals ys its') (z:ys.length<=sizeLine) (t:Nat) :
  Inv X pins σ (upd H p (.lst ys)) { s with heap:=s.heap.update p f,toks:=t }:=by
 have e:(s.heap.update p f).get? p=iu { cls:=.type "list",data:=.seq its'.toArray c }:=by rw [aS f l (by rw [a] <;> rfl),a]
 refine I.write (x:=p) (e:=p) (by rw [h]; trivial) (.inl rfl) (λb u d q=>(bb _ _ (bo d)).trans q) ⟨_,e⟩ ?_;exact ⟨z,its',c,r,e⟩
def qkS:V->V->V->Hp->(Hp->Prop)->Prop:=λo i v H Q=>∃ p xs k j,o=.ref p/\i=.int k/\H p=iu (.lst xs)/\ixN xs.length k=iu j/\Q (upd H p (.lst (xs.set j v)))
theorem qdA:qlJ X qkS:=by
 intro pins s σ H o i v w x u Q I g m f h;obtain ⟨p,xs,k,j,rfl,rfl,hp,G,q⟩:=h;cases g;obtain ⟨t,rfl⟩:=m;obtain ⟨its,n,r,l,z⟩:=I.lst hp;obtain ⟨h1,h2,c,b⟩:=qaQ G;have hl:=r.length;have y:=Kz;have e:Inv X pins σ (upd H p (.lst (xs.set j v))) { s with heap:=s.heap.update p (c6 (·.setIfInBounds j u)) }:=
  I.lstUpd hp l (GI its n j u) (r.set f j) (by rw [cF]; exact z) s.toks
 by_cases d:0<=k
 ·have a:k.toNat=j:=by rw [seqIndex_of d b] at h1;exact aI.inj h1
  exact PySem.W.ki_setAt l d (by lia) (by rw [aw,<-hl]; exact b) (by rw [a]; exact ⟨_,e,q⟩)
 ·have a:(k+(its.toArray.size:Int)).toNat=j:=by rw [seqIndex_neg (by lia) c] at h1;rw [aw,<-hl];exact aI.inj h1
  exact PySem.W.ki_setBack l (by lia) (by rw [aw,<-hl]; exact c) (by lia) (by rw [a]; exact ⟨_,e,q⟩)
theorem gI:xu X (.type "list") (λxs H Q=>∃ p ys,xs=[.ref p]/\(SqL X.K H p ys\/SqT X.K H p ys)/\∀ l,H l=iw->Q (.ref l) (upd H l (.lst ys))):=by
 intro pins s σ H xs us Q I r h;obtain ⟨p,ys,rfl,hq,q⟩:=h;obtain ⟨u,rfl,x⟩:=xw r;cases x;have fin:∀ (its:List iB),Vals ys its->ys.length<=sizeLine->∀ (h':Heap) (U:Nat),(∀ b o',s.heap.get? b=iu o'->h'.get? b=iu o') ->h'.get? s.heap.objs.size=iu { cls:=.type "list",dict:=iw,data:=.seq its.toArray U,slots:=#[] }->EP X pins σ Q (.ref s.heap.objs.size) { s with heap:=h' }:=λits r' z h' U kp e=>
  ⟨.ref s.heap.objs.size,_,I.laid (t':=s.toks) kp (aB _) (show ObjOk X.prog X.w _ h' _ (.lst ys) from ⟨z,its,U,r',e⟩),rfl,q _ (I.hok.fresh (aB _))⟩
 rcases hq with hq | hq;·obtain ⟨its,r',pl,z⟩:=I.list hq;have a:=r'.length;obtain ⟨o,c,d,n,hd⟩:=pl.isList;exact call_list_seq p (.inl rfl) c d hd (λh' U kp e=>fin its r' z h' U kp e) (by simp only [aw] <;> lia)
 ·obtain ⟨its,r',pl,z⟩:=I.tuple hq;have a:=r'.length;obtain ⟨o,c,d,n,hd⟩:=pl;exact call_list_seq p (.inr rfl) c d hd (λh' U kp e=>fin its r' z h' U kp e) (by simp only [aw] <;> lia)
theorem zg:xu X (.type "tuple") (λxs H Q=>∃ p ys,xs=[.ref p]/\((SqL X.K H p ys/\∀ l,H l=iw->Q (.ref l) (upd H l (.tup ys)))\/(SqT X.K H p ys/\Q (.ref p) H))):=by
 intro pins s σ H xs us Q I r h;obtain ⟨p,ys,rfl,h⟩:=h;obtain ⟨u,rfl,x⟩:=xw r;cases x;rcases h with ⟨hq,q⟩ | ⟨hq,q⟩
 ·obtain ⟨its,r',pl,z⟩:=I.list hq;have n:=r'.length;refine call_tuple_list pl.isList (λh' kp=>?_) (by simp only [aw] <;> lia);have d:Inv X pins σ H { s with heap:=h' }:=I.kept (t':=s.toks) kp;have k:Inv X pins σ (upd H h'.objs.size (.tup ys)) { s with heap:=h'.push { cls:=.type "tuple",data:=.seq its.toArray } }:=
   d.laid (t':=s.toks) (λb o e=>af _ e) (aB _) (show ObjOk X.prog X.w _ _ _ (.tup ys) from ⟨⟨z,_,au _ rfl,rfl⟩,its,r',IsTup.new _ _⟩)
  exact ⟨.ref h'.objs.size,_,k,rfl,q _ (d.hok.fresh (aB _))⟩
 ·obtain ⟨its,r',pl,z⟩:=I.tuple hq;exact call_tuple_same pl ⟨.ref p,H,I,rfl,q⟩
def tyV (K:Frag) (T:String) (x:V) (H:Hp):Prop:=match x with
 | .str _=>T = "str"
 | .int _=>T = "int"
 | .ref p=>(T = "list"/\∃ xs,SqL K H p xs)\/(T = "tuple"/\∃ o,K.lookup p=iu o/\o.cls=.type "tuple"/\o.dict=iw) \/
   (T = "dict"/\((∃ kvs,H p=iu (.dK kvs))\/∃ kvs,H p=iu (.dT kvs)))\/(T = "set"/\∃ S n,H p=iu (.set S n))
 | _=>False
theorem qiC {v:iB} (I:Inv X pins σ H s) (r:RelV x v) (ty:tyV X.K T x H):s.TypeIs v T/\∀ a,v=.ref a->∃ d,s.heap.get? a=iu d/\d.dict=none:=by
 cases x with
 | str z=>obtain ⟨t,rfl⟩:=r;cases (show T = "str" from ty);exact ⟨typeIs_str s z t,λ_ e=>nomatch e⟩
 | int i=>obtain ⟨t,rfl⟩:=r;cases (show T = "int" from ty);exact ⟨typeIs_int s i t,λ_ e=>nomatch e⟩
 | ref p=>
  cases r;rcases ty with ⟨rfl,xs,hq⟩ | ⟨rfl,o,k,h,hd⟩ | ⟨rfl,k⟩ | ⟨rfl,S,n,k⟩
  ·obtain ⟨its,_,pl,_⟩:=I.list hq;refine ⟨pl.isList.typeIs,λa e=>?_⟩;cases e;obtain ⟨o,n,e,c,hd,_⟩:=pl;exact ⟨o,e,hd⟩
  ·refine ⟨⟨o,I.kIn p o k,h⟩,λa e=>?_⟩;cases e;exact ⟨o,I.kIn _ o k,hd⟩
  ·have z:∃ o,s.heap.get? p=iu o/\o.ExactDict:=by
    rcases k with ⟨kvs,k⟩ | ⟨kvs,k⟩
    ·obtain ⟨_,_,_,_,o,_,_,e,ex,_⟩:=I.hok p _ k;exact ⟨o,e,ex⟩
    ·obtain ⟨_,_,_,_,o,_,_,e,ex,_⟩:=I.hok p _ k;exact ⟨o,e,ex⟩
   obtain ⟨o,e,ex⟩:=z;refine ⟨⟨o,e,ex.1⟩,λa b=>?_⟩;cases b;exact ⟨o,e,ex.2.1⟩
  ·obtain ⟨o,_,_,_,e,ex,_⟩:=I.hok p _ k;refine ⟨⟨o,e,ex.1⟩,λa b=>?_⟩;cases b;exact ⟨o,e,ex.2.1⟩
 | _=>exact dJ ty
def tBM (K:Frag) (T:String) (r:V->List V->Hp->VK->Prop) (to:TE) (t:TA):TE:=λσ H Q=>to σ H λx H1=>tyV K T x H1/\t σ H1 λxs H2=>r x xs H2 Q
variable {o:Expr} {es:List Expr} {to:TE} {t:TA} {name:Str} {apos cpos:Pos} {id:String} {r:V->List V->Hp->VK->Prop}
theorem qaR (p:PlainAttrs T) (slot:Slot T name id) (y:typeOf (.builtin id)=pure (.type "method_descriptor")) (m:MtR X id r) (l:PE X o to) (g:PA X (e::es) t)
  (b:attributeBase o name X.env (eval o X.env)=eval o X.env:=by rfl)
  (w:((backTo cpos (starEach (e::es) X.env)).all (λx=>!x.1)&&(backToKw cpos (keywordEach [] X.env)).all (λx=>x.1.isSome)
   && decide ((e::es).length+([]:List iY).length+(if ([]:List iY).isEmpty then 0 else 1) < 30))=true:=by rfl)
  (a:(apos.endLine == cpos.line)=true:=by rfl) (f:starEach (e::es) X.env=(iE,eval e X.env)::starEach es X.env:=by rfl) (n:(backTo cpos (starEach es X.env)).any (·.1)=false:=by rfl) :
  PE X (.Call (.Attribute o name apos) (e::es) [] cpos) (tBM X.K T r to t):=by
 refine ⟨?_⟩;intro pins s σ H Q I h;refine wpAny_Call_method_late b w a rfl (thn (l pins s σ H _ I h) λv s1 ⟨x,H1,d,r1,ty,c⟩=>?_);obtain ⟨h1,h2⟩:=qiC d r1 ty;refine ⟨T,id,p,slot,y,h1,h2,?_⟩;have hA:=g cpos pins s1 σ H1 _ d c;rw [f] at hA ⊢;refine Calls.callWith_builtin (by show (iE||(backTo cpos (starEach es X.env)).any (·.1))=iE; rw [n] <;> rfl) (fy ?_);exact thn hA λus s2 ⟨vs,H2,k,r2,q⟩=>m pins s2 σ H2 x vs v us Q k r1 r2 q
end
def MtM (X:Cx) (id:String) (r:V->List V->Hp->VK->Prop):Prop:=
 ∀ (pins:Pns) (s:iF) (σ:St) (H:Hp) (x:V) (xs:List V) (v:iB) (us:List iB) (Q:VK),Inv X pins σ H s->RelV x v->Vals xs us->r x xs H Q ->wpAny (model X.prog X.w) X.A (call (.builtin id) (v::us)) (EP X pins σ Q) X.xe s
theorem Vals.one (h:Vals [x] us):∃ u,us=[u]/\RelV x u:=by
 cases h with
 | cons r t=>cases t;exact ⟨_,rfl,r⟩
theorem Vals.two {y:V} (h:Vals [x,y] us):∃ u v,us=[u,v]/\RelV x u/\RelV y v:=by
 cases h with
 | cons r t=>obtain ⟨u,rfl,q⟩:=Vals.one t;exact ⟨_,u,rfl,r,q⟩
theorem Vals.zero:∀ {us:List iB},Vals [] us->us=[]
 | _,.nil=>rfl
theorem Vals.dropLast (h:Vals xs us):Vals xs.dropLast us.dropLast:=by
 induction h with
 | nil=>exact .nil
 | cons r t j=>
  cases t with
  | nil=>exact .nil
  | cons q t'=>exact .cons r j
theorem Vals.eraseIdx:∀ {xs:List V} {us:List iB} (i:Nat),Vals xs us->Vals (xs.eraseIdx i) (us.eraseIdx i)
 | _,_,_,.nil=>.nil
 | _,_,0,.cons _ t=>t
 | _,_,i+1,.cons r t=>.cons r (Vals.eraseIdx i t)
theorem Vals.reverse (h:Vals xs us):Vals xs.reverse us.reverse:=by
 induction h with
 | nil=>exact .nil
 | cons r t j=>rw [cC,cC]; exact Vals.append j (.cons r .nil)
theorem Vals.rep (h:Vals xs us):∀ k:Nat,Vals (bE k xs).flatten (bE k us).flatten
 | 0=>.nil
 | k+1=>by rw [List.replicate_succ,List.replicate_succ,List.flatten_cons,List.flatten_cons];exact Vals.append h (Vals.rep h k)
theorem WN:∀ (l:List α) (i:Nat),(l.eraseIdx i).length<=l.length
 | [],_=>aB _
 | _::_,0=>fI _
 | _::r,i+1=>Nat.succ_le_succ (WN r i)
section
variable {l b:Addr} {ys zs:List V}
theorem Inv.lset {its its':List iB} {n:Nat} {f:Array iB->Array iB} {t':Nat} (I:Inv X pins σ H s) (b:H l=iu (.lst xs))
  (e:s.heap.get? l=iu { cls:=.type "list",data:=.seq its.toArray n }) (a:f its.toArray=its'.toArray) (c:Vals ys its') (z:ys.length<=sizeLine) :
  Inv X pins σ (upd H l (.lst ys)) { s with heap:=s.heap.update l (c6 f),toks:=t' }:=by
 have q:=PySem.IsL.update e f;rw [a] at q;refine I.write (x:=l) (e:=l) (by rw [b]; exact trivial) (.inl rfl) (λg u d h=>(bb s.heap (c6 f) (bo d)).trans h) ⟨_,q⟩ ?_;exact ⟨z,its',_,c,q⟩
theorem Inv.lnew {its:List iB} {t':Nat} (I:Inv X pins σ H s) (c:Vals ys its) (z:ys.length<=sizeLine):Inv X pins σ (upd H s.heap.objs.size (.lst ys)) { s with heap:=s.heap.push { cls:=.type "list",data:=.seq its.toArray },toks:=t' }:=
 I.laid (λ_ _ q=>af _ q) (aB _) ⟨z,its,0,c,au _ rfl⟩
theorem Inv.fresh (I:Inv X pins σ H s):H s.heap.objs.size=none:=I.hok.fresh (aB _)
theorem Inv.lstM (I:Inv X pins σ H s) (b:H l=iu (.lst xs)):xs.length<=sizeLine/\∃ (its:List iB) (n:Nat),Vals xs its/\xs.length=its.length/\s.heap.get? l=iu { cls:=.type "list",data:=.seq its.toArray n }:=by obtain ⟨z,its,n,r,e⟩:=I.hok l _ b;exact ⟨z,its,n,r,r.length,e⟩
theorem qdB (h:n<=sizeLine):dW n=false:=by unfold dW;exact decide_eq_false (by lia)
end
section
def Yr:V->List V->Hp->VK->Prop:=λx vs H Q=>∃ l xs y,x=.ref l/\vs=[y]/\H l=iu (.lst xs)/\xs.length < sizeLine/\Q .non (upd H l (.lst (xs++[y])))
theorem WO:MtM X "list.append" Yr:=by
 intro pins s σ H x vs v us Q I d a h;obtain ⟨l,xs,y,rfl,rfl,b,c,q⟩:=h;cases d;obtain ⟨u,rfl,B⟩:=a.one;obtain ⟨z,its,n,r,hl,e⟩:=I.lstM b;refine lq F.slot_list_append ⟨_,e,rfl⟩ F.entry_list_append (F.args_list_append_2 _ _) (PySem.list_append l its.toArray n u (by rw [aw]; lia)) ⟨e,?_⟩;refine ⟨.non,_,I.lset (its':=its++[u]) b e (by simp) (r.append (.cons B .nil)) ?_,rfl,q⟩;rw [ai,List.length_singleton]
 lia
def qgs:V->List V->Hp->VK->Prop:=λx vs H Q=>∃ l b xs zs,x=.ref l/\vs=[.ref b]/\H l=iu (.lst xs)/\H b=iu (.lst zs)/\xs.length+zs.length<=sizeLine/\Q .non (upd H l (.lst (xs++zs)))
theorem qaS:MtM X "list.extend" qgs:=by
 intro pins s σ H x vs v us Q I d c h;obtain ⟨l,b,xs,zs,rfl,rfl,a,j,m,q⟩:=h;cases d;obtain ⟨u,rfl,B⟩:=c.one;cases B;obtain ⟨z,its,n,r,hl,e⟩:=I.lstM a;obtain ⟨N,i,n2,r2,f,k⟩:=I.lstM j;have hsz:its.toArray.size+i.toArray.size<=sizeLine:=by rw [aw,aw]; lia
 have g:¬(!its.toArray.isEmpty&&dW (its.toArray.size+i.toArray.size))=true:=by rw [qdB hsz,Bool.and_false];exact be
 refine lq F.slot_list_extend ⟨_,e,rfl⟩ F.entry_list_extend (F.args_list_extend_2 _ _)
  (AutoSeq1.list_extend_list_list_0 l its.toArray n b i.toArray n2 g (by rw [aw]; lia) (by lia)) ⟨e,k,?_⟩
 refine ⟨.non,_,I.lset (its':=its++i) a e (by simp) (r.append r2) ?_,rfl,q⟩;rw [ai]
 lia
def qiD:V->List V->Hp->VK->Prop:=λx vs H Q=>∃ l xs i k y,x=.ref l/\vs=[.int i]/\H l=iu (.lst xs)/\-(2 ^ 63)<=i/\i < 2 ^ 63/\seqIndex? i xs.length=iu k/\xs[k]?=iu y/\Q y (upd H l (.lst (xs.eraseIdx k)))
theorem qdC:MtM X "list.pop" qiD:=by
 intro pins s σ H x vs v us Q I d c h;obtain ⟨l,xs,i,k,y,rfl,rfl,b,h1,h2,g,D,q⟩:=h;cases d;obtain ⟨u,rfl,B⟩:=c.one;obtain ⟨t,rfl⟩:=B;obtain ⟨z,its,n,r,hl,e⟩:=I.lstM b;obtain ⟨w,f,a⟩:=r.get D;refine lq F.slot_list_pop ⟨_,e,rfl⟩ F.entry_list_pop (F.args_list_pop_2 _ _)
  (MeetsSeq.list_pop_at l its.toArray n i t k w (fitsIndex_both h1 h2) (by rw [aw,<-hl]; exact g) (by rw [<-bR]; exact f) (by rw [aw]; lia)) ⟨e,?_⟩
 refine ⟨y,_,I.lset (its':=its.eraseIdx k) b e ?_ (r.eraseIdx k) ?_,a,q⟩;·show its.toArray.eraseIdxIfInBounds k=(its.eraseIdx k).toArray;rw [List.eraseIdxIfInBounds_toArray]
 ·have:=WN xs k
  lia
end
end L2
namespace Att
open PySem PySem.W PySem.Calls PyProof.Rows
theorem QY {P:lj} {h:Heap}:∀ (ns:List Int) (vs:List iB),WellAll P h vs (ns.map WData.int)->IntsAre vs ns:=by
 intro ns
 induction ns with
 | nil=>intro vs w;rw [bU] at w;cases w;exact .nil
 | cons n ns j=>
  intro vs w;rw [aD] at w;cases w with
  | cons a b=>cases a;exact .cons _ _ (j _ b)
theorem qaT {l:OpenLaw} {n:Nat} (s:l.most=iu n) {P:lj} {h:Heap} {args:List WData} {v:List iB}
  (e:l.row.toRowW.claim.pre args=iC) (i:WellAll P h v args) :
  ∃ a vs ns,v=[cr a]/\args=[WData.list (ns.map WData.int)]/\h.get? a=iu { cls:=.type "list",data:=.seq vs.toArray }/\IntsAre vs ns/\ns.length<=n:=by
 have j:WShape.hasAll [] args [.list .int]=true:=(pre_splitW e).1;have k:l.pre.holds [] { args:=args }=true:=(pre_splitW e).2;obtain ⟨d,r,rfl,h1,h2⟩:=hasAllW_cons j;obtain rfl:=hasAllW_nil h2;obtain ⟨xs,rfl,t⟩:=hasW_list h1;obtain ⟨ns,rfl⟩:=items_int t;have b:ns.length<=n:=by
  unfold OpenLaw.pre at k;have g:(WTm.not (.lt (.lit (.int (n:Int))) (.len (.arg 0)))).holds [] { args:=[.list (ns.map .int)] }=true:=by have g:=(holds_andW k).1;rw [s] at g;exact g
  have f:=condW_of g (w_not (w_lt w_lit (w_len_list (w_arg rfl))));rw [ax] at f;refine Nat.le_of_not_lt λq=>?_;have m:(n:Int) < ((ns.length:Nat):Int):=by omega
  first
   | (rw [decide_eq_true m] at f; exact absurd f (by decide))
   | (simp at f; omega)
 cases i with
 | cons p w=>
  cases w;cases p with
  | list o c=>exact ⟨_,_,ns,rfl,rfl,o,QY ns _ c,b⟩
theorem qaU (l:OpenLaw) (args:List WData):l.row.toRowW.claim.post args (.bool iC) args=true:=
 postW_of (r:=l.row.toRowW) (X:=(iC == iC))
  (show WShape.has [] (.bool iC) .bool=iC by first | rfl | decide | simp [WShape.has,WShape.arms,WShape.armsAll])
  (show (WTm.eq .res (.lit (.bool iC))).value [] { args:=args,res:=iu (.bool iC),after:=args }=iu (.bool (iC == iC)) from w_eq_bool (w_res rfl) w_lit) rfl
theorem attach_call {l:OpenLaw} {n:Nat} {q:iH} {loose:List Str} {XP:(Str->Option iB)->Heap->Prop} {YP:iI->Heap->Prop} {d:DefRec}
  (p:l.most=iu n) (hdf:d.params.defaults=[])
  (call:∀ (w:iI) (s₀ s:iF) (mg mb:Str->Option iB) (fa:Addr) (o:Obj) (pm cd doc:iB) (a:Addr) (vs:List iB) (ns:List Int),Ground q loose [] XP w s₀ mg mb s.heap->YP w s.heap ->s.heap.get? fa=iu o->o.data=.func (docDef d.name d.params d.body d.scope pm cd doc)->s.heap.CodeRec cd d.name->mg d.name=iu (.ref fa) ->s.heap.get? a=iu { cls:=.type "list",data:=.seq vs.toArray }->IntsAre vs ns->ns.length<=n->s.gens=#[] ->codeAny (model l.prog w) callerA (.call (.ref fa) ⟨[.ref a],[]⟩) (λr s'=>r=.ok (.ret (.bool iC))/\OldK s.heap s'.heap/\s'.os=s.os/\lh s'.gens) s) :
  WalkO q loose XP YP l.row.toRowW d [] (λf vs=>iq f vs):=by
 intro w s₀ s mg mb G Y fa o pm cd doc V kV m hd c D g hg args v as e y k i u;obtain rfl:V=.none:=Dflts.none D hdf;obtain rfl:kV=.none:=Dflts.noKw D;obtain ⟨a,vs,ns,rfl,rfl,j,h,b⟩:=qaT p e i;refine enter_call (li (call w s₀ s mg mb fa o pm cd doc a vs ns G Y m (fd_plain hd) c g j h b hg) λr s' hq=>?_);obtain ⟨rfl,h2,z,x⟩:=hq;exact ⟨.inl ⟨.bool iC,.bool iC,[],rfl,λ_=>rfl,.bool iC,qaU l _,λ_=>⟨eX,λ_ t=>(nomatch t)⟩⟩,h2,z,x⟩
end Att
namespace L2
open PySem PySem.Spec PyProof.Rows
theorem WP:∀ {vs:List iB} {ns:List Int},IntsAre vs ns->Vals (ns.map V.int) vs
 | _,_,.nil=>.nil
 | _,_,.cons n t h=>.cons ⟨t,rfl⟩ (WP h)
def qkT (H:Hp):Prop:=∀ b,H b=iw\/∃ o xs,H b=iu (.frz o (.lst xs))
theorem qdD {P:iH} {w:iI} {K:Frag} {mg mb:Str->Option iB} {CX:CXT} {k:Nat} {fa a:Addr} {fd:j6} {x:Str} {sp:Sp} {c:iF} {vs:List iB} {ns:List Int}
  (N:K.In c.heap) (A:c.heap.Ns mainGlobals mg) (g:c.heap.Ns builtinsNs mb) (J:∀ x:Str,x ≠ "__name__"->mb x=bootBuiltins x) (B:c.heap.NoLimit) (hg:c.gens=#[])
  (D:c.heap.get? a=iu { cls:=.type "list",data:=.seq vs.toArray }) (hi:IntsAre vs ns) (hl:ns.length<=sizeLine) (hr:Room k callerA)
  (F:∀ base:Heap,K.In base->base.Ns mainGlobals mg->FnOk P w K mg base CX k fa fd [x] sp) (l:∀ (s:iF) (u:iB),lI s fd ⟨[u],[]⟩ [(x,u)])
  (G:∀ H:Hp,qkT H->SqL K H a (ns.map V.int)->sp [.ref a] H (λv _=>v=.bl iC) λ_ _ _=>False)
  (X:∀ H e s',CX [] H c (λ_ _ _=>False) e s'->False) :
  codeAny (model P w) callerA (.call (.ref fa) ⟨[.ref a],[]⟩) (λr s'=>r=.ok (.ret (.bool iC))/\OldK c.heap s'.heap/\s'.os=c.os/\lh s'.gens) c:=by
 have M:=WP hi;have t:=hi.length;have j:∀ H:Hp,qkT H->SqL K H a (ns.map V.int)->HOk P w H c.heap->(∀ b,H b≠iw->b=a)->(H a≠iw->K.lookup a=iw) ->codeAny (model P w) callerA (.call (.ref fa) ⟨[.ref a],[]⟩) (λr s'=>r=.ok (.ret (.bool iC))/\OldK c.heap s'.heap/\s'.os=c.os/\lh s'.gens) c:=by
  intro H O S hok hA U;have f:∀ {b:Addr} {o:Obj},c.heap.get? b=iu o->H b=iw->(qdq c.heap H).get? b=iu o:=λe n=>qdr e n;have E:∀ {b:Addr} {o:Obj} {es:Array lF} {ep:Nat},c.heap.get? b=iu o->o.data=.dict es ep->H b=none:=λ{b o es ep} e d=>by
   cases q:H b with
   | none=>rfl
   | some u=>have L:b=a:=hA b (by rw [q]; simp);subst L;rw [D] at e; cases e;have d':Data.seq vs.toArray _=Data.dict es ep:=d;cases d'
  have i:∀ {b:Addr} {m:Str->Option iB},c.heap.Ns b m->(qdq c.heap H).Ns b m:=λ{b m} ⟨o,es,ep,e,d,r⟩=>⟨o,es,ep,f e (E e d),d,r⟩
  have C:K.In (qdq c.heap H):=λb o e=>f (N b o e) (by
   cases q:H b with
   | none=>rfl
   | some u=>have L:b=a:=hA b (by rw [q]; simp);subst L;rw [U (by rw [q]; simp)] at e; cases e)
  have T:Mod K mg (qdq c.heap H):=⟨C,i A,⟨mb,i g,J⟩,let ⟨mc,h1,h2⟩:=B; ⟨mc,i h1,h2⟩⟩
  have e0:Env0 P w K mg (qdq c.heap H) callerA [] c H:=⟨rfl,T,λb o e=>qf7 e,eJ (qaD _ _),trivial,λb g=>absurd (show b∈([]:List Addr) from g) (by simp),hok,.of_eq hg⟩
  refine li ((F _ C (i A)).run callerA [] c H ⟨[.ref a],[]⟩ [.ref a] [.ref a] _ _ hr e0 (l c (.ref a)) (.cons rfl .nil) (G H O S)) λr s' h=>?_;cases r with
  | error e=>exact (X H e s' h).elim
  | ok W=>
   cases W with
   | next=>exact dJ h
   | brk=>exact dJ h
   | cont=>exact dJ h
   | ret u=>
    obtain ⟨v,H',os,bare,un,y,r',q⟩:=h;have R:v=.bl true:=q;subst R;obtain rfl:u=dB true:=r';refine ⟨rfl,OldK.of_keep λb o e=>?_,os,bare⟩;cases q:H b with
    | none=>exact un.keep b o e q (by intro z; exact absurd (show b∈([]:List Addr) from z) (by simp)) (by simp)
    | some u=>
     rcases O b with z | ⟨ob,xs,z⟩
     ·rw [q] at z; cases z
     ·have Q:=un.frzs b ob _ z;obtain ⟨e1,_⟩:=hok b _ z;obtain ⟨Y,_⟩:=y b _ Q;rw [e] at e1; cases e1;exact Y
 cases I:K.lookup a with
 | some o=>have e:=N a o I;rw [D] at e;cases e;refine j (λ_=>iw) (λ_=>.inl rfl) (.inr ⟨_,vs.toArray,_,I,rfl,rfl,rfl,by rw [aw,t]; exact hl,by simpa using M⟩) (λb u z=>by have p:(iw:Option HO)=iu u:=z; cases p) (λb z=>absurd rfl z) λz=>absurd rfl z
 | none=>
  refine j (λb=>if b=a then iu (.frz { cls:=.type "list",data:=.seq vs.toArray } (.lst (ns.map V.int))) else iw) (λb=>?_) (.inl (.inr ⟨{ cls:=.type "list",data:=.seq vs.toArray },if_pos rfl⟩)) (λb u z=>?_) (λb z=>?_) λ_=>I
  ·by_cases g:b=a;·exact .inr ⟨_,_,if_pos g⟩
   ·exact .inl (if_neg g)
  ·by_cases g:b=a;·have p:=(if_pos g).symm.trans z;cases p;subst g;exact ⟨D,by rw [ax]; exact hl,vs,_,M,D⟩
   ·have p:=(if_neg g).symm.trans z;cases p
  ·by_cases g:b=a;·exact g
   ·exact absurd (if_neg g) z
theorem qgt {l:fX} {n k:Nat} {q:iH} {loose:List Str} {XP:(Str->Option iB)->Heap->Prop} {YP:iI->Heap->Prop} {d:DefRec} {K:lj->Frag} {CX:iI->CXT} {sp:iI->Sp} {x:Str}
  (z:l.most=iu n) (r:n<=sizeLine) (hdf:d.params.defaults=[]) (hr:Room k callerA)
  (C:∀ (w:iI) (h:Heap),YP w h->(K w.params).In h)
  (F:∀ (w:iI) (mg:Str->Option iB) (fa:Addr) (h:Heap),(K w.params).In h->h.Ns mainGlobals mg->mg d.name=iu (.ref fa) ->∃ fd:j6,(∀ (s:iF) (u:iB),lI s fd ⟨[u],[]⟩ [(x,u)]) /\
    ∀ base:Heap,(K w.params).In base->base.Ns mainGlobals mg->FnOk l.prog w (K w.params) mg base (CX w) k fa fd [x] (sp w))
  (p:∀ (w:iI) (H:Hp) (a:Addr) (ns:List Int),ns.length<=n->qkT H->SqL (K w.params) H a (ns.map V.int)->sp w [.ref a] H (λv _=>v=.bl iC) λ_ _ _=>False)
  (X:∀ (w:iI) (H:Hp) (s:iF) (e:iB) (s':iF),CX w [] H s (λ_ _ _=>False) e s'->False) :
  PySem.W.WalkO q loose XP YP l.row.toRowW d [] (λf vs=>iq f vs):=by
 refine Att.attach_call z hdf λw s₀ j mg mb fa o pm cd doc a vs ns G Y E hd A t m i c hg=>?_;have y:=C w _ Y;obtain ⟨fd,B,D⟩:=F w mg fa _ y G.T.g t;exact qdD y G.T.g G.T.b G.T.builtins G.T.nolimit hg m i (bv c r) hr D B (λH O S=>p w H a ns c O S) λH e s'=>X w H j e s'
noncomputable def uZ (s:Stmt):Arguments:=match s with
 | .FunctionDef _ a _ _ _ _ _ _ _ _=>a
 | _=>{ posonlyargs:=[],args:=[],vararg:=iw,kwonlyargs:=[],kw_defaults:=[],kwarg:=iw,defaults:=[] }
noncomputable def wI (s:Stmt):List Stmt:=match s with
 | .FunctionDef _ _ b _ _ _ _ _ _ _=>b
 | _=>[]
noncomputable def qm (s:Stmt):lf:=match s with
 | .FunctionDef _ _ _ _ _ _ sc _ _ _=>sc
 | _=>{ kind:=.function,names:=[],isGenerator:=iE,isCoroutine:=iE }
structure Fun (K:Frag) (x qual:Str) (st:Stmt) (f:Addr) (fd:j6):Prop where
 ex:∃ (oc:iB) (od:Option Addr) (kV doc pm:iB) (an:Option Addr) (cdv ct:iB) (osl:Array (Option iB)),fd=cK x qual (uZ st) (wI st) (qm st) .none kV doc pm an cdv ct/\K.lookup f=iu ⟨oc,od,.func fd,osl⟩/\codeIn K cdv qual=iC
 kp:keepIn K (.ref f)=iC
variable {P:iH} {w:iI} {K:Frag} {x qual:Str} {st:Stmt} {f:Addr}
section
variable {mg:Str->Option iB} {base:Heap}
theorem Fun.binds {fd:j6} {ps:List Str} (F:Fun K x qual st f fd)
  (h:∀ (kV doc pm:iB) (an:Option Addr) (cdv ct:iB) (us:List iB),us.length=ps.length->bindArgs (cK x qual (uZ st) (wI st) (qm st) .none kV doc pm an cdv ct) ⟨us,[]⟩=pure (ps.zip us)):Binds K fd ps []:=by
 obtain ⟨oc,od,kV,doc,pm,an,cdv,ct,osl,rfl,j,d⟩:=F.ex;exact .all (h kV doc pm an cdv ct)
theorem qaV {oc:iB} {od an:Option Addr} {osl:Array (Option iB)} {kV doc pm cdv ct:iB} (l:K.lookup f=iu ⟨oc,od,.func (cK x qual (uZ st) (wI st) (qm st) .none kV doc pm an cdv ct),osl⟩)
  (c:codeIn K cdv qual=iC) (k:keepIn K (.ref f)=iC):Fun K x qual st f (cK x qual (uZ st) (wI st) (qm st) .none kV doc pm an cdv ct):=⟨⟨oc,od,kV,doc,pm,an,cdv,ct,osl,rfl,l,c⟩,k⟩
end
variable {X:Cx}
section
theorem pv (i:Nat) {pos:Pos} (h:X.N[i]?=iu x:=by rfl) (c:Vis X.env.scope x:=by first | exact bI rfl | exact cx (bI rfl) | exact cx (cx rfl)) (hd:Dbg x:=by decide)
  (d:Cdk x:=by decide):PE X (.Name x pos) (qku i):=xC h c hd d
end
def Same (H H':Hp):Prop:=∀ b o,H b=iu o->H' b=iu o
theorem Same.refl (H:Hp):Same H H:=λ_ _ h=>h
variable {H:Hp}
theorem Same.trans {H1 H2:Hp} (a:Same H H1) (b:Same H1 H2):Same H H2:=λc o h=>b c o (a c o h)
variable {H':Hp}
theorem Same.free (e:Same H H') {l:Addr} (h:H' l=Option.none):H l=Option.none:=by
 cases q:H l with
 | none=>rfl
 | some o=>rw [e l o q] at h;cases h
variable {a:Addr}
theorem Same.seq {xs:List V} (e:Same H H') (h:SqL K H a xs):SqL K H' a xs:=by
 rcases h with (h | ⟨o,h⟩) | h;·exact .inl (.inl (e _ _ h))
 ·exact .inl (.inr ⟨o,e _ _ h⟩)
 ·exact .inr h
variable {o:Option V} {u:iB} {d y:V}
section
variable {κ:Type} [DecidableEq κ]
noncomputable def Yn (kvs:List (κ×V)) (k:κ):Option V:=(kvs.find? λkv=>decide (kv.1=k)).map (·.2)
noncomputable def Kg (kvs:List (κ×V)) (k:κ) (v:V):List (κ×V):=
 if (kvs.any λkv=>decide (kv.1=k))=iC then kvs.map (λkv=>if kv.1=k then (kv.1,v) else kv) else kvs++[(k,v)]
theorem Qm {p:κ×V} {r:List (κ×V)} {k:κ} (e:p.1=k):Yn (p::r) k=iu p.2:=by simp [Yn,dE,e]
theorem zh {p:κ×V} {r:List (κ×V)} {k:κ} (e:¬p.1=k):Yn (p::r) k=Yn r k:=by simp [Yn,dE,e]
theorem Vq (k:κ):∀ kvs:List (κ×V),(kvs.any λkv=>decide (kv.1=k))=(Yn kvs k).isSome
 | []=>rfl
 | p::r=>by
  rw [cL];by_cases e:p.1=k;·simp only [Qm e,decide_eq_true e,Bool.true_or,Option.isSome_some]
  ·rw [zh e,decide_eq_false e,Bool.false_or]; exact Vq k r
theorem xM (kvs:List (κ×V)) (k:κ) (v:V):(Kg kvs k v).length<=kvs.length+1:=by
 unfold Kg;split;·rw [ax]; lia
 ·rw [ai,aq,bj]; lia
theorem RelO.isSome_eq {u:Option iB} (r:RelO o u):o.isSome=u.isSome:=by
 cases o with
 | none=>cases u with
  | none=>rfl
  | some _=>exact (show False from r).elim
 | some _=>cases u with
  | none=>exact (show False from r).elim
  | some _=>rfl
theorem RelO.getD {u:Option iB} {d':iB} (r:RelO o u) (rd:RelV d d'):RelV (o.getD d) (u.getD d'):=by
 cases o with
 | none=>cases u with
  | none=>exact rd
  | some _=>exact (show False from r).elim
 | some _=>cases u with
  | none=>exact (show False from r).elim
  | some _=>exact r
theorem KV.val {kvs:List (κ×V)} {vs:List (κ×iB)} (r:KV kvs vs) (k:κ):RelO (Yn kvs k) (valueAt vs k):=by
 unfold KV at r
 induction r with
 | nil=>exact dI
 | @cons p q ps qs h t ih=>
  obtain ⟨h1,h2⟩:=h;by_cases e:p.1=k
  ·have a:q.1=k:=h1.symm.trans e;have b:valueAt (q::qs) k=iu q.2:=by simp [valueAt,dE,a]
   rw [Qm e,b]; exact h2
  ·have a:¬q.1=k:=λz=>e (h1.trans z);have b:valueAt (q::qs) k=valueAt qs k:=by simp [valueAt,dE,a]
   rw [zh e,b]; exact ih
theorem KV.any {kvs:List (κ×V)} {vs:List (κ×iB)} (r:KV kvs vs) (k:κ):(kvs.any λkv=>decide (kv.1=k))=vs.any λkv=>decide (kv.1=k):=by
 unfold KV at r
 induction r with
 | nil=>rfl
 | cons h t j=>rw [cL,cL,j,h.1]
theorem KV.repl {kvs:List (κ×V)} {vs:List (κ×iB)} (r:KV kvs vs) (k:κ) (c:RelV y u):KV (kvs.map λkv=>if kv.1=k then (kv.1,y) else kv) (vs.map λkv=>if kv.1=k then (kv.1,u) else kv):=by
 unfold KV at r ⊢
 induction r with
 | nil=>exact .nil
 | @cons p q ps qs h t ih=>
  rw [aD,aD];refine .cons ?_ ih;obtain ⟨h1,h2⟩:=h;by_cases e:p.1=k;·rw [if_pos e,if_pos (h1.symm.trans e)]; exact ⟨h1,c⟩
  ·rw [if_neg e,if_neg (λz=>e (h1.trans z))]; exact ⟨h1,h2⟩
theorem KV.put {kvs:List (κ×V)} {vs:List (κ×iB)} (r:KV kvs vs) (k:κ) (c:RelV y u):KV (Kg kvs k y) (stored vs k u):=by
 unfold Kg stored;rw [r.any k];by_cases e:(vs.any λkv=>decide (kv.1=k))=iC;·rw [if_pos e,if_pos e]; exact r.repl k c
 ·rw [if_neg e,if_neg e]; exact Paired.snoc r ⟨rfl,c⟩
theorem KV.keys {kvs:List (κ×V)} {vs:List (κ×iB)} (r:KV kvs vs):kvs.map (·.1)=vs.map (·.1):=by
 unfold KV at r
 induction r with
 | nil=>rfl
 | cons h t j=>rw [aD,aD,j,h.1]
theorem KV.length {kvs:List (κ×V)} {vs:List (κ×iB)} (r:KV kvs vs):kvs.length=vs.length:=fN r
end
theorem GJ {k:Key} (r:RelV (kV k) u):(jf P w).is k u=true:=by
 cases k with
 | inl i=>obtain ⟨t,e⟩:=(show ∃ t,u=g9 i t from r); subst e; exact Yo P w i t
 | inr x=>obtain ⟨t,e⟩:=(show ∃ t,u=hJ x t from r); subst e; exact Yp P w x t
theorem zi:∀ {ks:List Key} {us:List iB},Vals (ks.map kV) us->ItemsAre (jf P w) ks us
 | [],_,r=>by rw [bU] at r; cases r; exact .nil
 | k::ks,_,r=>by
  rw [aD] at r;cases r with
  | cons h t=>exact .cons (GJ h) (zi t)
abbrev KT (H:Hp):List (List Key×V)->List (List Key×Addr×iB)->Prop:=lG λp q=>p.1=q.1/\H q.2.1=iu (.tup (p.1.map kV))/\RelV p.2 q.2.2
variable {xs:List (List Key×Addr×iB)} {kvs:List (List Key×V)}
theorem KT.val (r:KT H kvs xs) (k:List Key):RelO (Yn kvs k) ((atKey xs k).map (·.2)):=by
 induction r with
 | nil=>exact dI
 | @cons p q ps qs h t ih=>
  obtain ⟨h1,_,h2⟩:=h;by_cases e:p.1=k
  ·have a:q.1=k:=h1.symm.trans e;have b:atKey (q::qs) k=iu q.2:=by simp [atKey,dE,a]
   rw [Qm e,b]; exact h2
  ·have a:¬q.1=k:=λz=>e (h1.trans z);have b:atKey (q::qs) k=atKey qs k:=by simp [atKey,dE,a]
   rw [zh e,b]; exact ih
theorem KT.repl (r:KT H kvs xs) (k:List Key) (c:RelV y u):KT H (kvs.map λkv=>if kv.1=k then (kv.1,y) else kv) (xs.map (putAt k u)):=by
 induction r with
 | nil=>exact .nil
 | @cons p q ps qs h t ih=>
  rw [aD,aD];refine .cons ?_ ih;obtain ⟨h1,h2,i⟩:=h;unfold putAt;by_cases e:p.1=k;·rw [if_pos e,if_pos (h1.symm.trans e)]; exact ⟨h1,h2,c⟩
  ·rw [if_neg e,if_neg (λz=>e (h1.trans z))]; exact ⟨h1,h2,i⟩
variable {b:Addr}
theorem KT.put (r:KT H kvs xs) (k:List Key) (d:H b=iu (.tup (k.map kV))) (c:RelV y u):KT H (Kg kvs k y) (storedH xs k b u):=by
 have e:(kvs.any λkv=>decide (kv.1=k))=(atKey xs k).isSome:=by rw [Vq,(r.val k).isSome_eq,fJ]
 unfold Kg storedH;rw [e];by_cases q:(atKey xs k).isSome=iC;·rw [if_pos q,if_pos q]; exact r.repl k c
 ·rw [if_neg q,if_neg q]; exact Paired.snoc r ⟨rfl,d,c⟩
theorem KT.keeps (r:KT H kvs xs) (ht:∀ b ys,H b=iu (.tup ys)->H' b=iu (.tup ys)):KT H' kvs xs:=
 Paired.mapP r λ_ _ z=>⟨z.1,ht _ _ z.2.1,z.2.2⟩
section
variable {h:Heap}
theorem qiE {u:HO} (ok:HOk P w H h) (e:Rd H a u):ObjOk P w H h a u:=e.ok ok
theorem WQ {kvs:List (Key×V)} (ok:HOk P w H h) (e:Rd H a (.dK kvs)):kvs.length<=sizeLine/\(a == sysModules)=iE/\∃ vs,KV kvs vs/\h.DictOf (jf P w) a vs:=
 show ObjOk P w H h a (.dK kvs) from qiE ok e
theorem qkU {kvs:List (Key×V)} (ok:HOk P w H h) (e:H a=iu (.dK kvs)):kvs.length<=sizeLine/\(a == sysModules)=iE/\∃ vs,KV kvs vs/\h.DictOf (jf P w) a vs:=WQ ok (.inl e)
theorem gJ {ks:List Key} (ok:HOk P w H h) (e:H a=iu (.tup (ks.map kV))):(tupleKind (jf P w)).is h ks a:=by
 obtain ⟨_,its,r,o,h1,h2,n,i⟩:=(show ObjOk P w H h a (.tup (ks.map kV)) from ok a _ e)
 exact ⟨o,its.toArray,n,h1,h2,i,by simpa using zi r⟩
theorem Ys (ok:HOk P w H h) (e:Rd H a (.dT kvs)):kvs.length<=sizeLine/\(a == sysModules)=iE /\
  ∃ xs,KT H kvs xs/\h.DictOfH (tupleKind (jf P w)) a xs:=by
 obtain ⟨z,y,xs,r,o,es,ep,h1,h2,i,c,b⟩:=(show ObjOk P w H h a (.dT kvs) from qiE ok e)
 refine ⟨z,y,xs,r,o,es,ep,h1,h2,i,c,λx hx=>?_,b⟩;have all:∀ {l:List (List Key×V)} {m:List (List Key×Addr×iB)},KT H l m->∀ x∈m,(tupleKind (jf P w)).is h x.1 x.2.1:=by
  intro l m q
  induction q with
  | nil=>intro x hx; exact nomatch hx
  | @cons p q ps qs hq t ih=>
   intro x hx;rcases ac.mp hx with e | hx
   ·subst e;exact gJ ok (by rw [<-hq.1]; exact hq.2.1)
   ·exact ih x hx
 exact all r x hx
theorem qkV (ok:HOk P w H h) (e:H a=iu (.dT kvs)):kvs.length<=sizeLine/\(a == sysModules)=iE /\
  ∃ xs,KT H kvs xs/\h.DictOfH (tupleKind (jf P w)) a xs:=Ys ok (.inl e)
end
def DGet (H:Hp) (a:Addr) (y:V) (r:Option V):Prop:=
 (∃ kvs k,Rd H a (.dK kvs)/\y=kV k/\r=Yn kvs k)\/∃ kvs k b,Rd H a (.dT kvs)/\y=.ref b/\H b=iu (.tup (k.map kV))/\r=Yn kvs k
def DPut (H:Hp) (a:Addr) (y v:V) (H':Hp):Prop:=
 (∃ kvs k,H a=iu (.dK kvs)/\y=kV k/\kvs.length < sizeLine/\H'=upd H a (.dK (Kg kvs k v))) \/
 ∃ kvs k b,H a=iu (.dT kvs)/\y=.ref b/\H b=iu (.tup (k.map kV))/\kvs.length < sizeLine/\H'=upd H a (.dT (Kg kvs k v))
theorem DGet.k {kvs:List (Key×V)} {k:Key} (e:H a=iu (.dK kvs)):DGet H a (kV k) (Yn kvs k):=.inl ⟨kvs,k,.inl e,rfl,rfl⟩
theorem DGet.t {k:List Key} (e:H a=iu (.dT kvs)) (J:H b=iu (.tup (k.map kV))):DGet H a (.ref b) (Yn kvs k):=.inr ⟨kvs,k,b,.inl e,rfl,J,rfl⟩
variable {v:V}
theorem DPut.k {kvs:List (Key×V)} {k:Key} (e:H a=iu (.dK kvs)) (hl:kvs.length < sizeLine):DPut H a (kV k) v (upd H a (.dK (Kg kvs k v))):=.inl ⟨kvs,k,e,rfl,hl,rfl⟩
theorem DPut.t {k:List Key} {v:V} (e:H a=iu (.dT kvs)) (J:H b=iu (.tup (k.map kV))) (hl:kvs.length < sizeLine):DPut H a (.ref b) v (upd H a (.dT (Kg kvs k v))):=.inr ⟨kvs,k,b,e,rfl,J,hl,rfl⟩
variable {pins:Pns} {σ:St} {s:iF} {A:iK} {E Q:iB->iF->Prop} {h':Heap}
section
variable {r:iB}
theorem Inv.big (I:Inv X pins σ H s):sysModules < s.heap.objs.size:=by have h:mainGlobals < s.heap.objs.size:=(I.mod.glob.keeps I.bk).lt;exact eY (by decide) h
theorem qaW (j:A.units+1 < cLine) (I:Inv X pins σ H s) (g:DGet H a y (iu v)) (i:RelV y u) (h:∀ T s',Inv X pins σ H s'->RelV v T->Q T s'):wpAny (model X.prog X.w) A (getItem (.ref a) u) Q E s:=by
 rcases g with ⟨kvs,k,e,f,l⟩ | ⟨kvs,k,b,e,f,J,l⟩
 ·subst f;obtain ⟨z,hd,vs,rel,dd⟩:=WQ I.hok e;obtain ⟨T,c,r⟩:=RelO.some_of (v:=v) (o:=valueAt vs k) (by rw [l]; exact rel.val k);exact wpAny_getItem_of (GJ i) dd.mapOf c (h T _ (I.tok _) r)
 ·subst f;cases (show u=cr b from i);obtain ⟨z,hd,xs,rel,dd⟩:=Ys I.hok e;obtain ⟨T,c,r⟩:=RelO.some_of (v:=v) (o:=(atKey xs k).map (·.2)) (by rw [l]; exact rel.val k);obtain ⟨p,hp,d⟩:=aX.mp c;refine wpAny_getItem_heap (j3 j) (gJ I.hok J) dd hp ?_;rw [d];exact h T _ (I.tok _) r
theorem qmt (d:A.units+1 < cLine) (I:Inv X pins σ H s) (g:DGet H a y o) (c:RelV y u) (h:∀ s',Inv X pins σ H s'->Q (.bool o.isSome) s'):wpAny (model X.prog X.w) A (compareOp .In u (.ref a)) Q E s:=by
 rcases g with ⟨kvs,k,e,f,l⟩ | ⟨kvs,k,b,e,f,J,l⟩
 ·subst f;obtain ⟨z,hd,vs,rel,dd⟩:=WQ I.hok e;refine wpAny_in_of (GJ c) hd dd.mapOf ?_;rw [<-(rel.val k).isSome_eq,<-l];exact h _ (I.tok _)
 ·subst f;cases (show u=cr b from c);obtain ⟨z,hd,xs,rel,dd⟩:=Ys I.hok e;refine wpAny_in_heap (j3 d) (gJ I.hok J) hd dd ?_;have q:=(rel.val k).isSome_eq;rw [fJ] at q;rw [<-q,<-l];exact h _ (I.tok _)
theorem qgu (d:A.units+1 < cLine) (I:Inv X pins σ H s) (g:DGet H a y o) (c:RelV y u) (h:∀ s',Inv X pins σ H s'->Q (.bool (!o.isSome)) s'):wpAny (model X.prog X.w) A (compareOp .NotIn u (.ref a)) Q E s:=by
 rcases g with ⟨kvs,k,e,f,l⟩ | ⟨kvs,k,b,e,f,J,l⟩
 ·subst f;obtain ⟨z,hd,vs,rel,dd⟩:=WQ I.hok e;refine wpAny_notIn_of (GJ c) hd dd.mapOf ?_;rw [<-(rel.val k).isSome_eq,<-l];exact h _ (I.tok _)
 ·subst f;cases (show u=cr b from c);obtain ⟨z,hd,xs,rel,dd⟩:=Ys I.hok e;refine wpAny_notIn_heap (j3 d) (gJ I.hok J) hd dd ?_;have q:=(rel.val k).isSome_eq;rw [fJ] at q;rw [<-q,<-l];exact h _ (I.tok _)
theorem qaX {t':Nat} {o:HO} (I:Inv X pins σ H s) (m:Mut (H a)) (c:bK a s.heap h') (i:∃ q,h'.get? a=iu q) (new:ObjOk X.prog X.w (upd H a o) h' a o):Inv X pins σ (upd H a o) { s with heap:=h',toks:=t' }:=
 I.write (x:=a) (e:=a) m (.inl rfl) (λb q d z=>(c.2 b d).trans z) i new
theorem qfl {H':Hp} {kvs:List (Key×V)} {vs:List (Key×iB)} (z:kvs.length<=sizeLine) (hd:(a == sysModules)=iE) (rel:KV kvs vs) (dd:h'.DictOf (jf P w) a vs):ObjOk P w H' h' a (.dK kvs):=⟨z,hd,vs,rel,dd⟩
theorem qaY {Q:Unit->iF->Prop} (t:A.units+1 < cLine) (I:Inv X pins σ H s) (g:DPut H a y v H') (n:RelV y u) (o:RelV v r) (h:∀ s',Inv X pins σ H' s'->Q () s'):wpAny (model X.prog X.w) A (setItem (.ref a) u r) Q E s:=by
 rcases g with ⟨kvs,k,e,j,l,m⟩ | ⟨kvs,k,b,e,j,J,l,m⟩
 ·subst j m;obtain ⟨z,hd,vs,rel,dd⟩:=qkU I.hok e;have f:vs.length<=sizeLine:=by rw [<-rel.length]; exact z
  have hl:(Kg kvs k v).length<=sizeLine:=by have:=xM kvs k v; lia
  refine wpAny_setItem_pairs (hsz:=f) (GJ n) dd λh' d i=>h _ ?_;have x:∃ q,h'.get? a=iu q:=let ⟨q,_,_,hq,_⟩:=d; ⟨q,hq⟩
  exact qaX I (by rw [e]; exact dI) i x (qfl hl hd (rel.put k o) d)
 ·subst j m;cases (show u=cr b from n);obtain ⟨z,hd,xs,rel,dd⟩:=qkV I.hok e;have f:xs.length<=sizeLine:=by rw [<-fN rel]; exact z
  have hl:(Kg kvs k v).length<=sizeLine:=by have:=xM kvs k v; lia
  refine wpAny_setItem_heap (hsz:=f) (j3 t) (gJ I.hok J) dd λh' d i=>h _ ?_;obtain ⟨q,es,ep,hq,h2,D,C,_,B⟩:=d;refine qaX I (by rw [e]; exact dI) i ⟨q,hq⟩ ⟨hl,hd,_,(rel.put k J o).keeps λc ys p=>?_,q,es,ep,hq,h2,D,C,B⟩;rw [qA (qkt p e (λz=>nomatch z))];exact p
end
section
variable {kvs:List (Key×V)} {k:Key}
theorem qkW (I:Inv X pins σ H s) (e:Rd H a (.dK kvs)) (h:∀ t s',Inv X pins σ H s'->Q (.int kvs.length t) s'):wpAny (model X.prog X.w) A (call (.builtin "len") [.ref a]) Q E s:=by obtain ⟨z,hd,vs,rel,dd⟩:=WQ I.hok e;refine call_len_dict hd dd (by rw [<-rel.length]; rw [iL] at z; lia) ?_;rw [<-rel.length];exact h _ _ (I.tok _)
end
theorem Yt (I:Inv X pins σ H s) (g:DGet H a y o):s.TypeIs (.ref a) "dict":=by
 rcases g with ⟨kvs,k,e,_,_⟩ | ⟨kvs,k,b,e,_,_,_⟩
 ·obtain ⟨_,_,vs,_,dd⟩:=WQ I.hok e;exact dd.typeIs
 ·obtain ⟨_,_,xs,_,dd⟩:=Ys I.hok e;exact dd.typeIs
def qkX (td ty tv:TE):TS:=λD σ H=>tv σ H λv H1=>td σ H1 λx H2=>ty σ H2 λy c=>∃ a b,x=.ref a/\DPut c a y v b/\D.nx σ b
variable {pos:Pos}
section
variable {o i e value:Expr} {pos' tpos:Pos} {td ty tv:TE}
theorem qgv (k:X.A.units+1 < cLine) (m:PE X o td) (hi:PE X i ty) (j:PE X value tv) (l:swapsWith value (iu (.Subscript o i pos')) pos.line X.env=pure iE):PS X (.Assign [.Subscript o i pos'] value pos) (qkX td ty tv):=by refine ⟨?_⟩;intro pins s σ H D I h;refine wpAny_Assign_Subscript (thn (j pins s σ H _ I h) λr s1 ⟨v,H1,t,b,f⟩=>thn (m pins s1 σ H1 _ t f) λu s2 ⟨x,H2,p,d,e⟩=>thn (hi pins s2 σ H2 _ p e) λz s3 ⟨y,C,n,c,a,w,ex,g,q⟩=>?_) l;subst ex;obtain rfl:u=cr a:=d;exact qaY k n g c b λs4 B=>⟨σ,w,B,q⟩
end
theorem qdE (h:Heap) (d:sysModules < h.objs.size):ObjOk P w H (h.push { cls:=.type "dict",data:=.dict #[] }) h.objs.size (.dK []):=
 ⟨br _,beq_eq_false_iff_ne.mpr (bo (aE d)),[],.nil,Heap.DictOf.new h⟩
def qiF:TE:=λ_ H Q=>∀ p,H p=iw->Q (.ref p) (upd H p (.dK []))
section
theorem qdF:PE X (.Dict [] [] pos) qiF:=⟨λpins s σ H Q I h=>
 wpAny_Dict_empty ⟨.ref s.heap.objs.size,_,I.laid (a:=s.heap.objs.size) (o:=.dK []) (t':=s.toks) (λ_ _ q=>af _ q) (aB _) (qdE s.heap I.big),rfl,h _ (I.hok.fresh (aB _))⟩⟩
end
structure M1 (X:Cx) (o:Expr) (m:Str) (apos:Pos) (e:Expr) (cpos:Pos):Prop where
 base:attributeBase o m X.env (eval o X.env)=eval o X.env
 few:((backTo cpos (starEach [e] X.env)).all (λx=>!x.1)&&(backToKw cpos (keywordEach [] X.env)).all (λx=>x.1.isSome)
  && decide (([e]:List Expr).length+([]:List iY).length+(if ([]:List iY).isEmpty then 0 else 1) < 30))=iC
 line:(apos.endLine == cpos.line)=iC
 trees:backTo cpos (starEach [e] X.env)=[(iE,eval e X.env)]
structure M2 (X:Cx) (o:Expr) (m:Str) (apos:Pos) (e f:Expr) (cpos:Pos):Prop where
 base:attributeBase o m X.env (eval o X.env)=eval o X.env
 few:((backTo cpos (starEach [e,f] X.env)).all (λx=>!x.1)&&(backToKw cpos (keywordEach [] X.env)).all (λx=>x.1.isSome)
  && decide (([e,f]:List Expr).length+([]:List iY).length+(if ([]:List iY).isEmpty then 0 else 1) < 30))=iC
 line:(apos.endLine == cpos.line)=iC
 trees:backTo cpos (starEach [e,f] X.env)=[(iE,eval e X.env),(iE,eval f X.env)]
def IsD (H:Hp) (a:Addr):Prop:=(∃ kvs,Rd H a (.dK kvs))\/∃ kvs,Rd H a (.dT kvs)
theorem qiG (I:Inv X pins σ H s) (d:IsD H a):s.TypeIs (.ref a) "dict"/\(∀ b,cr a=.ref b->∃ o,s.heap.get? b=iu o/\o.dict=iw)/\(a == sysModules)=false:=by
 rcases d with ⟨kvs,e⟩ | ⟨kvs,e⟩
 ·obtain ⟨_,hd,vs,_,dd⟩:=WQ I.hok e;refine ⟨dd.typeIs,λb q=>?_,hd⟩;cases q;obtain ⟨o,_,_,h1,h2,_⟩:=dd;exact ⟨o,h1,h2.2.1⟩
 ·obtain ⟨_,hd,xs,_,dd⟩:=Ys I.hok e;refine ⟨dd.typeIs,λb q=>?_,hd⟩;cases q;obtain ⟨o,_,_,h1,h2,_⟩:=dd;exact ⟨o,h1,h2.2.1⟩
section
variable {r:iB}
theorem qiH (i:A.units+1 < cLine) (I:Inv X pins σ H s) (g:DGet H a y o) (c:RelV y u) (rd:RelV d r) (h:∀ T s',Inv X pins σ H s'->RelV (o.getD d) T->Q T s'):wpAny (model X.prog X.w) A (call (.builtin "dict.get") [.ref a,u,r]) Q E s:=by
 rcases g with ⟨kvs,k,e,f,l⟩ | ⟨kvs,k,b,e,f,J,l⟩
 ·subst f;obtain ⟨z,hd,vs,rel,dd⟩:=WQ I.hok e;refine call_meetsIn fh dd.typeIs PySem.F.entry_dict_get (PySem.F.args_dict_get_3 _ _ _) (meets_dict_get_default (jf X.prog X.w) a (GJ c) hd r) ⟨_,dd.mapOf,h _ _ (I.tok _) ?_⟩;rw [l];exact (rel.val k).getD rd
 ·subst f;cases (show u=cr b from c);obtain ⟨z,hd,xs,rel,dd⟩:=Ys I.hok e;refine call_meetsIn fh dd.typeIs PySem.F.entry_dict_get (PySem.F.args_dict_get_3 _ _ _) (meetsH_dict_get_default (tupleKind (jf X.prog X.w)) a b hd r) ⟨j3 i,k,xs,gJ I.hok J,dd,h _ _ (I.tok _) ?_⟩;rw [l];exact (rel.val k).getD rd
end
def qiI (td ty tx:TE):TE:=λσ H Q=>td σ H λx H1=>∃ a,x=.ref a/\IsD H1 a/\ty σ H1 λy H2=>tx σ H2 λz b=>∃ o,DGet b a y o/\Q (o.getD z) b
section
variable {o e f:Expr} {apos cpos:Pos} {td ty tx:TE}
theorem qdG (n:X.A.units+1 < cLine) (p:PE X o td) (w:PE X e ty) (v:PE X f tx) (m:M2 X o "get" apos e f cpos):PE X (.Call (.Attribute o "get" apos) [e,f] [] cpos) (qiI td ty tx):=by
 refine ⟨?_⟩;intro pins s σ H Q I h;refine wpAny_Call_method m.base m.few m.line PySem.F.plainAttrs_dict fh PySem.F.type_dict_get (thn (p pins s σ H _ I h) λu s1 ⟨x,H1,b,j,a,ex,d,l⟩=>?_);subst ex;obtain rfl:u=cr a:=j;obtain ⟨c,t,_⟩:=qiG b d;refine ⟨c,t,?_⟩;rw [m.trees];refine Calls.callWith_builtin rfl (fy (d7 (thn (w pins s1 σ H1 _ b l) λJ s2 ⟨y,H2,D,i,k⟩=>
  d7 (thn (v pins s2 σ H2 _ D k) λfv s3 ⟨z,E,C,rz,G,g,q⟩=>fH ?_))))
 exact qiH n C g i rz λT s4 B r=>⟨_,E,B,r,q⟩
end
section
theorem qaZ:xu X (.builtin "len") (λxs H Q=>∃ a kvs,xs=[V.ref a]/\H a=iu (.dK kvs)/\Q (.int kvs.length) H):=by intro pins s σ H xs us Q I r h;obtain ⟨a,kvs,rfl,g,q⟩:=h;obtain ⟨u,rfl,B⟩:=xw r;cases B;exact qkW I (.inl g) λt s' b=>⟨.int kvs.length,H,b,⟨t,rfl⟩,q⟩
end
end L2
namespace L2.D2
open PySem PySem.Spec PyProof.Rows
variable {b:List Nat}
theorem xD {a:List Nat} (h:(a.all λi=>decide (i∈b))=iC):∀ i∈a,i∈b:=λi hi=>of_decide_eq_true (aR.mp h i hi)
theorem zj {i:Nat} (h:decide (i∈b)=iE):i∉b:=of_decide_eq_false h
noncomputable def Yu:Expr->Bool
 | .Starred ..=>iE
 | _=>iC
variable {e:Expr} {env:Env}
theorem jR {es:List Expr} (h:Yu e=iC):starEach (e::es) env=(iE,eval e env)::starEach es env:=by cases e <;> first | rfl | cases h
theorem qO (h:Yu e=iC):starEach [e] env=[(iE,eval e env)]:=jR h
theorem qdH {a b:Expr} (h:Yu a=iC) (k:Yu b=iC):starEach [a,b] env=[(iE,eval a env),(iE,eval b env)]:=by rw [jR h,qO k]
variable {pos:Pos}
theorem Qn:∀ {es:List Expr},es.all Yu=iC->(backTo pos (starEach es env)).any (·.1)=iE
 | [],_=>rfl
 | e::es,h=>by rw [hV,aV] at h;rw [jR h.1];exact Qn h.2
theorem yH (h:Yu e=iC):((backTo pos (starEach [e] env)).all (λx=>!x.1)&&(backToKw pos (keywordEach [] env)).all (λx=>x.1.isSome)
   && decide ([e].length+([]:List iY).length+(if ([]:List iY).isEmpty then 0 else 1) < 30))=true:=by rw [qO h]; rfl
inductive D where
 | non | bl (b:Bool) | int (i:Int) | str (x:Str)
 | tup (xs:List D) | lst (xs:List D) | dct (kvs:List (Key×D)) | raw (v:V)
 | xcp (C:Addr) | ins (C:Addr) (fs:List (Str×D)) | at_ (a:Addr) (xs:List D)
 deriving Inhabited
abbrev Sl:=List (Option D)
inductive Out (α:Type) where
 | ok (a:α) | exc (c:Str) (o:Sl) | bad
variable {α β:Type}
noncomputable def Out.bind (o:Out α) (k:α->Out β):Out β:=match o with
 | .ok a=>k a
 | .exc c o=>.exc c o
 | .bad=>.bad
@[simp] theorem Out.oo (a:α) (k:α->Out β):(Out.ok a).bind k=k a:=rfl
@[simp] theorem Out.exc_bind (c:Str) (o:Sl) (k:α->Out β):(Out.exc c o:Out α).bind k=.exc c o:=rfl
@[simp] theorem Out.bad_bind (k:α->Out β):(Out.bad:Out α).bind k=.bad:=rfl
noncomputable def XY (a C:Addr):HO:=.ext λh=>∃ o vs,h.get? a=iu o/\o.cls=.ref C/\o.data=.fields vs
mutual
/-- the value v is the data d,all its objects in F -/
inductive Is (K:Frag) (F:Hp):V->D->Prop
 | non:Is K F .non .non
 | bl (b:Bool):Is K F (.bl b) (.bl b)
 | int (i:Int):Is K F (.int i) (.int i)
 | str {x:Str} (h:x.length<=sizeLine):Is K F (.str x) (.str x)
 | tup {a:Addr} {xs:List V} {ds:List D} (h:SqT K F a xs) (t:IsL K F xs ds):Is K F (.ref a) (.tup ds)
 | lst {a:Addr} {xs:List V} {ds:List D} (h:SqL K F a xs) (t:IsL K F xs ds):Is K F (.ref a) (.lst ds)
 | dct {a:Addr} {kv:List (Key×V)} {kvs:List (Key×D)} (h:F a=iu (.dK kv)) (t:IsK K F kv kvs):Is K F (.ref a) (.dct kvs)
 | raw (v:V):Is K F v (.raw v)
 | xcp {a C:Addr} (h:F a=iu (XY a C)):Is K F (.ref a) (.xcp C)
 | ins {a C dx:Addr} {fv:List (Str×V)} {fs:List (Str×D)} (h:F a=iu (.ins C dx fv)) (t:IsF K F fv fs):Is K F (.ref a) (.ins C fs)
 | at_ {a:Addr} {xs:List V} {ds:List D} (h:SqL K F a xs) (t:IsL K F xs ds):Is K F (.ref a) (.at_ a ds)
inductive IsL (K:Frag) (F:Hp):List V->List D->Prop
 | nil:IsL K F [] []
 | cons {v:V} {d:D} {vs:List V} {ds:List D} (h:Is K F v d) (t:IsL K F vs ds):IsL K F (v::vs) (d::ds)
inductive IsK (K:Frag) (F:Hp):List (Key×V)->List (Key×D)->Prop
 | nil:IsK K F [] []
 | cons {k:Key} {v:V} {d:D} {vs:List (Key×V)} {ds:List (Key×D)} (h:Is K F v d) (t:IsK K F vs ds):IsK K F ((k,v)::vs) ((k,d)::ds)
inductive IsF (K:Frag) (F:Hp):List (Str×V)->List (Str×D)->Prop
 | nil:IsF K F [] []
 | cons {k:Str} {v:V} {d:D} {vs:List (Str×V)} {ds:List (Str×D)} (h:Is K F v d) (t:IsF K F vs ds):IsF K F ((k,v)::vs) ((k,d)::ds)
end
theorem qW {K:Frag} {H H':Hp} {a:Addr} {xs:List V} (e:Same H H') (h:SqT K H a xs):SqT K H' a xs:=by
 rcases h with (h | ⟨o,h⟩) | h;·exact .inl (.inl (e _ _ h))
 ·exact .inl (.inr ⟨o,e _ _ h⟩)
 ·exact .inr h
mutual
theorem Is.mono {K:Frag} {F F':Hp} (e:Same F F'):∀ {v:V} {d:D},Is K F v d->Is K F' v d
 | _,_,.non=>.non
 | _,_,.bl b=>.bl b
 | _,_,.int i=>.int i
 | _,_,.str h=>.str h
 | _,_,.tup h t=>.tup (qW e h) (IsL.mono e t)
 | _,_,.lst h t=>.lst (e.seq h) (IsL.mono e t)
 | _,_,.dct h t=>.dct (e _ _ h) (IsK.mono e t)
 | _,_,.raw v=>.raw v
 | _,_,.xcp h=>.xcp (e _ _ h)
 | _,_,.ins h t=>.ins (e _ _ h) (IsF.mono e t)
 | _,_,.at_ h t=>.at_ (e.seq h) (IsL.mono e t)
theorem IsL.mono {K:Frag} {F F':Hp} (e:Same F F'):∀ {vs:List V} {ds:List D},IsL K F vs ds->IsL K F' vs ds
 | _,_,.nil=>.nil
 | _,_,.cons h t=>.cons (Is.mono e h) (IsL.mono e t)
theorem IsK.mono {K:Frag} {F F':Hp} (e:Same F F'):∀ {vs:List (Key×V)} {ds:List (Key×D)},IsK K F vs ds->IsK K F' vs ds
 | _,_,.nil=>.nil
 | _,_,.cons h t=>.cons (Is.mono e h) (IsK.mono e t)
theorem IsF.mono {K:Frag} {F F':Hp} (e:Same F F'):∀ {vs:List (Str×V)} {ds:List (Str×D)},IsF K F vs ds->IsF K F' vs ds
 | _,_,.nil=>.nil
 | _,_,.cons h t=>.cons (Is.mono e h) (IsF.mono e t)
end
theorem IsL.length {K:Frag} {F:Hp}:∀ {vs:List V} {ds:List D},IsL K F vs ds->vs.length=ds.length
 | _,_,.nil=>rfl
 | _,_,.cons _ t=>congrArg (·+1) (IsL.length t)
theorem IsL.get {K:Frag} {F:Hp}:∀ {vs:List V} {ds:List D} {i:Nat} {v:V},IsL K F vs ds->vs[i]?=iu v->∃ d,ds[i]?=iu d/\Is K F v d
 | _,_,_,_,.nil,e=>by simp at e
 | _,_,0,_,.cons h _,e=>by simp at e; subst e; exact ⟨_,rfl,h⟩
 | _,_,i+1,v,.cons _ t,e=>by obtain ⟨d,h1,h2⟩:=IsL.get (i:=i) (v:=v) t (by simpa using e);exact ⟨d,by simpa using h1,h2⟩
theorem IsL.getD {K:Frag} {F:Hp}:∀ {vs:List V} {ds:List D} {i:Nat} {d:D},IsL K F vs ds->ds[i]?=iu d->∃ v,vs[i]?=iu v/\Is K F v d
 | _,_,_,_,.nil,e=>by simp at e
 | _,_,0,_,.cons h _,e=>by simp at e; subst e; exact ⟨_,rfl,h⟩
 | _,_,i+1,v,.cons _ t,e=>by obtain ⟨d,h1,h2⟩:=IsL.getD (i:=i) (d:=v) t (by simpa using e);exact ⟨d,by simpa using h1,h2⟩
theorem IsL.append {K:Frag} {F:Hp}:∀ {vs ws:List V} {ds es:List D},IsL K F vs ds->IsL K F ws es->IsL K F (vs++ws) (ds++es)
 | _,_,_,_,.nil,s=>s
 | _,_,_,_,.cons h t,s=>.cons h (IsL.append t s)
theorem IsL.take {K:Frag} {F:Hp}:∀ {vs:List V} {ds:List D} (n:Nat),IsL K F vs ds->IsL K F (vs.take n) (ds.take n)
 | _,_,0,_=>.nil
 | _,_,_+1,.nil=>.nil
 | _,_,n+1,.cons h t=>.cons h (IsL.take n t)
theorem IsL.set {K:Frag} {F:Hp} {v:V} {d:D} (h:Is K F v d):∀ {vs:List V} {ds:List D} (i:Nat),IsL K F vs ds->IsL K F (vs.set i v) (ds.set i d)
 | _,_,_,.nil=>.nil
 | _,_,0,.cons _ t=>.cons h t
 | _,_,i+1,.cons q t=>.cons q (IsL.set h i t)
def OwnIs (K:Frag) (F H:Hp) (a:Addr):D->Prop
 | .lst ds=>∃ xs,H a=iu (.lst xs)/\IsL K F xs ds
 | .dct kvs=>∃ kv,H a=iu (.dK kv)/\IsK K F kv kvs
 | .ins C fs=>∃ dx fv,H a=iu (.ins C dx fv)/\IsF K F fv fs
 | .at_ b ds=>b=a/\∃ xs,H a=iu (.lst xs)/\IsL K F xs ds
 | _=>False
def TopIs (K:Frag) (F H:Hp) (v:V) (d:D):Prop:=Is K F v d\/∃ a,v=.ref a/\OwnIs K F H a d
inductive Mo where
 | sh | fr | any
def MoIs (K:Frag) (m:Mo) (H0 F H:Hp) (v:V) (d:D):Prop:=match m with
 | .sh=>Is K F v d
 | .fr=>∃ a,v=.ref a/\H0 a=iw/\F a=iw/\OwnIs K F H a d
 | .any=>TopIs K F H v d
theorem MoIs.top {K:Frag} {m:Mo} {H0 F H:Hp} {v:V} {d:D} (h:MoIs K m H0 F H v d):TopIs K F H v d:=by
 cases m with
 | sh=>exact .inl h
 | fr=>obtain ⟨a,e,_,_,o⟩:=h; exact .inr ⟨a,e,o⟩
 | any=>exact h
structure Chg (A:Addr->Prop) (F H F' H':Hp):Prop where
 keep:∀ b o,H b=iu o->¬A b->H' b=iu o
 stay:∀ b,H b≠iw->H' b≠iw
 grow:Same F F'
 new:∀ b,F' b≠iw->F b≠iw\/H b=iw\/A b
theorem Chg.refl {A:Addr->Prop} {F H:Hp}:Chg A F H F H:=⟨λ_ _ e _=>e,λ_ h=>h,Same.refl _,λ_ h=>.inl h⟩
theorem Chg.trans {A A1:Addr->Prop} {F H F1 H1 c H2:Hp} (a:Chg A F H F1 H1) (b:Chg A1 F1 H1 c H2) (hA:∀ x,A1 x->A x\/H x=iw):Chg A F H c H2 where
 keep:=λx o e n=>b.keep x o (a.keep x o e n) λz=>(hA x z).elim n λq=>by rw [e] at q; cases q
 stay:=λx h=>b.stay x (a.stay x h)
 grow:=a.grow.trans b.grow
 new:=λx h=>by
  rcases b.new x h with q | q | q;·exact a.new x q
  ·refine .inr (.inl ?_);cases e:H x with
   | none=>rfl
   | some o=>exact absurd q (a.stay x (by rw [e]; simp))
  ·rcases hA x q with z | z;·exact .inr (.inr z)
   ·exact .inr (.inl z)
theorem Chg.trans' {A:Addr->Prop} {F H F1 H1 c H2:Hp} (a:Chg A F H F1 H1) (b:Chg A F1 H1 c H2):Chg A F H c H2:=a.trans b λ_ z=>.inl z
theorem Chg.mono {A c:Addr->Prop} {F H F1 H1:Hp} (a:Chg A F H F1 H1) (h:∀ x,A x->c x):Chg c F H F1 H1:=
 ⟨λb o e n=>a.keep b o e λz=>n (h b z),a.stay,a.grow,λb z=>(a.new b z).imp id (Or.imp id (h b))⟩
abbrev No:Addr->Prop:=λ_=>False
theorem Chg.ofNo {A:Addr->Prop} {F H F1 H1:Hp} (a:Chg No F H F1 H1):Chg A F H F1 H1:=a.mono λ_ z=>z.elim
structure Rep (K:Frag) (own:List Nat) (F H:Hp) (σ:St) (ρ:Sl):Prop where
 sub:Same F H
 len:σ.length=ρ.length
 val:∀ i d,i∉own->ρ[i]?=iu (iu d)->∃ v,σ[i]?=iu (iu v)/\Is K F v d
 ow:∀ i d,i∈own->ρ[i]?=iu (iu d)->∃ a,σ[i]?=iu (iu (.ref a))/\F a=iw/\OwnIs K F H a d
 opn:∀ i,i∈own->∃ d,ρ[i]?=iu (iu d)
 dis:∀ i j a,i∈own->j∈own->σ[i]?=iu (iu (V.ref a))->σ[j]?=iu (iu (V.ref a))->i=j
def OA (own:List Nat) (σ:St):Addr->Prop:=λb=>∃ i∈own,σ[i]?=iu (iu (V.ref b))
theorem OwnIs.there {K:Frag} {F H:Hp} {a:Addr} {d:D} (h:OwnIs K F H a d):H a≠none:=by
 cases d with
 | lst ds=>obtain ⟨xs,e,_⟩:=h; rw [e]; simp
 | dct ds=>obtain ⟨xs,e,_⟩:=h; rw [e]; simp
 | ins C fs=>obtain ⟨dx,xs,e,_⟩:=h; rw [e]; simp
 | at_ b ds=>obtain ⟨_,xs,e,_⟩:=h; rw [e]; simp
 | _=>exact h.elim
theorem OwnIs.grow {K:Frag} {F H F' H':Hp} {a:Addr} {d:D} (h:OwnIs K F H a d) (g:Same F F') (k:∀ o,H a=iu o->H' a=iu o):OwnIs K F' H' a d:=by
 cases d with
 | lst ds=>obtain ⟨xs,e,t⟩:=h; exact ⟨xs,k _ e,t.mono g⟩
 | dct ds=>obtain ⟨xs,e,t⟩:=h; exact ⟨xs,k _ e,t.mono g⟩
 | ins C fs=>obtain ⟨dx,xs,e,t⟩:=h; exact ⟨dx,xs,k _ e,t.mono g⟩
 | at_ b ds=>obtain ⟨J,xs,e,t⟩:=h; exact ⟨J,xs,k _ e,t.mono g⟩
 | _=>exact h.elim
theorem Rep.OA_there {K:Frag} {own:List Nat} {F H:Hp} {σ:St} {ρ:Sl} (r:Rep K own F H σ ρ) {b:Addr} (h:OA own σ b):H b≠iw/\F b=none:=by obtain ⟨i,hi,e⟩:=h;obtain ⟨d,hd⟩:=r.opn i hi;obtain ⟨a,e1,c,o⟩:=r.ow i d hi hd;rw [e] at e1;cases e1;exact ⟨o.there,c⟩
theorem Rep.grow {K:Frag} {own:List Nat} {F H F' H':Hp} {σ:St} {ρ:Sl} (r:Rep K own F H σ ρ) (c:Chg No F H F' H') (s:Same F' H'):Rep K own F' H' σ ρ where
 sub:=s
 len:=r.len
 val:=λi d hi e=>let ⟨v,h1,h2⟩:=r.val i d hi e; ⟨v,h1,h2.mono c.grow⟩
 ow:=λi d hi e=>by
  obtain ⟨a,h1,h2,h⟩:=r.ow i d hi e;refine ⟨a,h1,?_,h.grow c.grow λo q=>c.keep a o q λz=>z⟩;cases q:F' a with
  | none=>rfl
  | some o=>
   rcases c.new a (by rw [q]; simp) with z | z | z;·exact absurd h2 z
   ·exact absurd z h.there
   ·exact z.elim
 opn:=r.opn
 dis:=r.dis
theorem MoIs.grow {K:Frag} {A:Addr->Prop} {m:Mo} {H0 F H F' H':Hp} {v:V} {d:D} (h:MoIs K m H0 F H v d) (f:m≠.any) (c:Chg A F H F' H') (hA:∀ x,A x->H0 x≠iw):MoIs K m H0 F' H' v d:=by
 cases m with
 | sh=>exact Is.mono c.grow h
 | fr=>
  obtain ⟨a,e,b,g,o⟩:=h;have n:¬A a:=λz=>hA a z b;refine ⟨a,e,b,?_,o.grow c.grow λo q=>c.keep a o q n⟩;cases q:F' a with
  | none=>rfl
  | some u=>
   rcases c.new a (by rw [q]; simp) with z | z | z;·exact absurd g z
   ·exact absurd z o.there
   ·exact absurd z n
 | any=>exact absurd rfl f
def qay (K:Frag) (io:List Nat) (F H:Hp) (σ:St) (ρ:Sl):Prop:=∀ i∈io,∃ d a,ρ[i]?=iu (iu d)/\σ[i]?=iu (iu (V.ref a))/\F a=iw/\OwnIs K F H a d
theorem Rep.ioIs {K:Frag} {own io:List Nat} {F H:Hp} {σ:St} {ρ:Sl} (r:Rep K own F H σ ρ) (h:∀ i∈io,i∈own):qay K io F H σ ρ:=λi hi=>by obtain ⟨d,hd⟩:=r.opn i (h i hi);obtain ⟨a,h1,h2,b⟩:=r.ow i d (h i hi) hd;exact ⟨d,a,hd,h1,h2,b⟩
structure Ct where
 K:Frag
 cv:Str->iB
 E:XK
 io:List Nat
 mr:Mo
 ol:List Nat
 ox:List Nat
 oxs:∀ i∈ox,i∈io
abbrev WR:=Out (D×Sl)
def Po (C:Ct) (own:List Nat) (m:Mo) (σ:St) (F H:Hp) (r:WR) (Q:VK):Prop:=match r with
 | .ok (d,ρ')=>∀ v F' H',Rep C.K own F' H' σ ρ'->Chg (OA own σ) F H F' H'->MoIs C.K m H F' H' v d->Q v H'
 | .exc c ρ'=>∀ F' H',Same F' H'->qay C.K C.ox F' H' σ ρ'->Chg (OA own σ) F H F' H'->C.E (C.cv c) iw H'
 | .bad=>False
abbrev je:=Sl->WR
def tE (C:Ct) (own:List Nat) (m:Mo) (f:je):TE:=λσ H Q=>∃ F ρ,Rep C.K own F H σ ρ/\Po C own m σ F H (f ρ) Q
theorem MoIs.back {K:Frag} {m:Mo} {A:Addr->Prop} {H0 F H F1 H1:Hp} {f Ha:Hp} {v:V} {d:D} (c:Chg A f H0 F1 H1) (h:MoIs K m H1 F H v d):MoIs K m H0 F H v d:=by
 cases m with
 | sh=>exact h
 | fr=>
  obtain ⟨a,e,b,r⟩:=h;refine ⟨a,e,?_,r⟩;cases q:H0 a with
  | none=>rfl
  | some o=>exact absurd b (c.stay a (by rw [q]; simp))
 | any=>exact h
theorem Po.shift {C:Ct} {own:List Nat} {m:Mo} {σ:St} {F H F1 H1:Hp} {r:WR} {Q:VK} (h:Po C own m σ F H r Q) (c:Chg (OA own σ) F H F1 H1):Po C own m σ F1 H1 r Q:=by
 cases r with
 | ok p=>exact λv F' H' a U mo=>h v F' H' a (c.trans' U) (MoIs.back (Ha:=H1) c mo)
 | exc x=>exact λF' H' s io U=>h F' H' s io (c.trans' U)
 | bad=>exact h.elim
theorem Po.bind {C:Ct} {own:List Nat} {m ma:Mo} {σ:St} {F H:Hp} {o:WR} {k:D×Sl->WR} {Q R:VK} (hp:Po C own m σ F H (o.bind k) Q)
  (h:∀ v F1 H1 d ρ1,Rep C.K own F1 H1 σ ρ1->Chg (OA own σ) F H F1 H1->MoIs C.K ma H F1 H1 v d->Po C own m σ F1 H1 (k (d,ρ1)) Q->R v H1):Po C own ma σ F H o R:=by
 cases o with
 | ok p=>obtain ⟨d,ρ1⟩:=p;exact λv F1 H1 a c mo=>h v F1 H1 d ρ1 a c mo (Po.shift (show Po C own m σ F H (k (d,ρ1)) Q from hp) c)
 | exc x=>exact hp
 | bad=>exact hp.elim
def PoV (C:Ct) (m:Mo) (F H:Hp) (r:Out D) (Q:VK):Prop:=match r with
 | .ok d=>∀ v F' H',Same F' H'->Chg No F H F' H'->MoIs C.K m H F' H' v d->Q v H'
 | _=>False
def OpD (X:Cx) (C:Ct) (m:Mo) (f:iB->iB->Sem iB) (g:D->D->Out D):Prop:=
 OpR X f (λx y H Q=>∃ F dx d,Same F H/\TopIs C.K F H x dx/\TopIs C.K F H y d/\PoV C m F H (g dx d) Q)
def UnD (X:Cx) (C:Ct) (m:Mo) (f:iB->Sem iB) (g:D->Out D):Prop:=
 UnR X f (λx H Q=>∃ F dx,Same F H/\TopIs C.K F H x dx/\PoV C m F H (g dx) Q)
noncomputable def Out.plain {α:Type}:Out α->Out α
 | .ok a=>.ok a
 | _=>.bad
theorem PoV.of {C:Ct} {own:List Nat} {m:Mo} {σ:St} {F H:Hp} {o:Out D} {ρ:Sl} {Q:VK} (a:Rep C.K own F H σ ρ) (h:Po C own m σ F H (o.plain.bind λd=>.ok (d,ρ)) Q):PoV C m F H o Q:=by
 cases o with
 | ok d=>exact λv F' H' s c mo=>h v F' H' (a.grow c s) c.ofNo mo
 | exc c=>exact h.elim
 | bad=>exact h.elim
noncomputable def d2 (g:D->D->Out D) (fa fb:je):je:=λρ=>(fa ρ).bind λp=>(fb p.2).bind λq=>(g p.1 q.1).plain.bind λd=>.ok (d,q.2)
noncomputable def d1 (g:D->Out D) (fa:je):je:=λρ=>(fa ρ).bind λp=>(g p.1).plain.bind λd=>.ok (d,p.2)
section
variable {X:Cx} {C:Ct} {own:List Nat} {a b:Expr} {fa fb:je} {m ma mb:Mo} {pos:Pos}
theorem WS {g:D->D->Out D} {σ:St} {H:Hp} {Q:VK} (f:ma≠.any) (h:tE C own m (d2 g fa fb) σ H Q):tE C own ma fa σ H λx H1=>tE C own mb fb σ H1 λy H2=>∃ F dx i,Same F H2/\TopIs C.K F H2 x dx/\TopIs C.K F H2 y i/\PoV C m F H2 (g dx i) Q:=by obtain ⟨F,ρ,p,h⟩:=h;refine ⟨F,ρ,p,Po.bind h λv F1 H1 d ρ1 a k c h1=>⟨F1,ρ1,a,Po.bind h1 λw j H2 e ρ2 r c2 b h2=>?_⟩⟩;exact ⟨j,d,e,r.sub,(c.grow f c2 λx z=>(p.OA_there z).1).top,b.top,PoV.of r h2⟩
theorem qdI {g:D->Out D} {σ:St} {H:Hp} {Q:VK} (h:tE C own m (d1 g fa) σ H Q):tE C own ma fa σ H λx H1=>∃ F dx,Same F H1/\TopIs C.K F H1 x dx/\PoV C m F H1 (g dx) Q:=by obtain ⟨F,ρ,r,h⟩:=h;refine ⟨F,ρ,r,Po.bind h λv F1 H1 d ρ1 a k c h1=>?_⟩;exact ⟨F1,d,a.sub,c.top,PoV.of a h1⟩
theorem jU {e:Expr} {t t':TE} (h:PE X e t) (i:∀ σ H Q,t' σ H Q->t σ H Q):PE X e t':=⟨λpins s σ H Q I w=>h pins s σ H Q I (i σ H Q w)⟩
theorem qdJ {e:Expr} {t t':TT} (h:PT X e t) (i:∀ σ H Q,t' σ H Q->t σ H Q):PT X e t':=⟨λpins s σ H Q I w=>h pins s σ H Q I (i σ H Q w)⟩
theorem qQ {op:Operator} {g:D->D->Out D} (l:OpD X C m (binaryOp op) g) (c:PE X a (tE C own ma fa)) (d:PE X b (tE C own mb fb)) (f:ma≠.any:=by decide):PE X (.BinOp a op b pos) (tE C own m (d2 g fa fb)):=
 jU (qkG l c d) λ_ _ _ h=>WS f h
theorem vJ {op:CmpOp} {g:D->D->Out D} (l:OpD X C m (compareOp op) g) (c:PE X a (tE C own ma fa)) (d:PE X b (tE C own mb fb)) (f:ma≠.any:=by decide)
  (k:behindInMarks op b=false:=by first | exact qfk _ | with_unfolding_all rfl):PE X (.Compare a [op] [b] pos) (tE C own m (d2 g fa fb)):=
 jU (qgj l c d k) λ_ _ _ h=>WS f h
theorem qgw {op:UnaryOp} {g:D->Out D} (l:UnD X C m (unaryOp op) g) (b:PE X a (tE C own ma fa)):PE X (.UnaryOp op a pos) (tE C own m (d1 g fa)):=
 jU (qkH l b) λ_ _ _ h=>qdI h
end
instance:DecidableEq Mo:=λa b=>by cases a <;> cases b <;> first | exact isTrue rfl | exact isFalse (by intro h; cases h)
theorem qdK {K:Frag} {own:List Nat} {H0 F H:Hp} {σ:St} {ρ:Sl} {v:V} {d:D} (r:Rep K own F H σ ρ) (hA:∀ b,OA own σ b->H0 b≠iw) (h:MoIs K .fr H0 F H v d):∃ F',Rep K own F' H σ ρ/\Same F F'/\Is K F' v d/\∀ b,F' b≠iw->F b≠iw\/H0 b=none:=by
 obtain ⟨a,rfl,g,j,o⟩:=h;obtain ⟨u,hu⟩:∃ u,H a=iu u:=by
  cases q:H a with
  | none=>exact absurd q o.there
  | some u=>exact ⟨u,rfl⟩
 have gr:Same F (upd F a u):=λb w e=>by rw [qA (qH e j)]; exact e
 have A:Same (upd F a u) H:=λb w e=>by
  by_cases q:b=a;·subst q; rw [qu] at e; cases e; exact hu
  ·rw [qA q] at e; exact r.sub b w e
 refine ⟨upd F a u,⟨A,r.len,λi d hi e=>?_,λi d hi e=>?_,r.opn,r.dis⟩,gr,?_,λb f=>?_⟩;·obtain ⟨v,h1,h2⟩:=r.val i d hi e;exact ⟨v,h1,h2.mono gr⟩
 ·obtain ⟨c,h1,h2,k⟩:=r.ow i d hi e;refine ⟨c,h1,?_,k.grow gr λ_ q=>q⟩;have n:c≠a:=λq=>by subst q; exact hA c ⟨i,hi,h1⟩ g
  rw [qA n]; exact h2
 ·cases d with
  | lst ds=>obtain ⟨xs,e,t⟩:=o; rw [hu] at e; cases e; exact .lst (.inl (.inl qu)) (t.mono gr)
  | dct ds=>obtain ⟨xs,e,t⟩:=o; rw [hu] at e; cases e; exact .dct qu (t.mono gr)
  | ins C fs=>obtain ⟨dx,xs,e,t⟩:=o; rw [hu] at e; cases e; exact .ins qu (t.mono gr)
  | at_ b ds=>obtain ⟨J,xs,e,t⟩:=o; rw [hu] at e; cases e; subst J; exact .at_ (.inl (.inl qu)) (t.mono gr)
  | _=>exact o.elim
 ·by_cases q:b=a;·exact .inr (by rw [q]; exact g)
  ·rw [qA q] at f; exact .inl f
theorem Po.toSh {C:Ct} {own:List Nat} {m:Mo} {σ:St} {F H:Hp} {d:Sl} {r:WR} {Q:VK} (f:Rep C.K own F H σ d) (g:m≠.any) (h:Po C own .sh σ F H r Q):Po C own m σ F H r Q:=by
 cases r with
 | ok p=>
  intro v F' H' a c mo;cases m with
  | sh=>exact h v F' H' a c mo
  | fr=>
   obtain ⟨j,e,gr,is,n⟩:=qdK a (λb z=>(f.OA_there z).1) mo;refine h v j H' e ⟨c.keep,c.stay,c.grow.trans gr,λb i=>?_⟩ is;rcases n b i with z | z;·exact c.new b z
   ·exact .inr (.inl z)
  | any=>exact absurd rfl g
 | exc x=>exact h
 | bad=>exact h.elim
section
variable {X:Cx} {C:Ct} {own:List Nat} {a b e:Expr} {f fa fb:je} {m ma mb:Mo} {pos:Pos}
theorem ya (h:PE X e (tE C own m f)) (c:m≠.any):PE X e (tE C own .sh f):=jU h λ_ _ _ ⟨F,ρ,a,p⟩=>⟨F,ρ,a,p.toSh a c⟩
noncomputable def qe (i:Nat):je:=λρ=>match ρ[i]? with
 | some (iu d)=>.ok (d,ρ)
 | _=>.bad
noncomputable def dC (d:D):je:=λρ=>.ok (d,ρ)
theorem qiJ {i:Nat} {x:Str} (b:X.N[i]?=iu x) (c:Vis X.env.scope x) (l:i∉own) (hd:Dbg x:=by decide) (a:Cdk x:=by decide):PE X (.Name x pos) (tE C own .sh (qe i)):=by
 refine jU (xC b c hd a) λσ H Q ⟨F,ρ,r,h⟩=>?_;unfold qe at h;cases e:ρ[i]? with
 | none=>rw [e] at h; exact h.elim
 | some o=>
  cases o with
  | none=>rw [e] at h; exact h.elim
  | some d=>rw [e] at h;obtain ⟨v,h1,h2⟩:=r.val i d l e;exact ⟨v,h1,h v F H r .refl h2⟩
theorem qgx {i:Nat} {x:Str} (f:X.N[i]?=iu x) (c:Vis X.env.scope x) (l:i∈own) (hd:Dbg x:=by decide) (b:Cdk x:=by decide):PE X (.Name x pos) (tE C own .any (qe i)):=by
 refine jU (xC f c hd b) λσ H Q ⟨F,ρ,r,h⟩=>?_;unfold qe at h;cases e:ρ[i]? with
 | none=>rw [e] at h; exact h.elim
 | some o=>
  cases o with
  | none=>rw [e] at h; exact h.elim
  | some d=>rw [e] at h;obtain ⟨a,h1,h2,g⟩:=r.ow i d l e;exact ⟨_,h1,h _ F H r .refl (.inr ⟨a,rfl,g⟩)⟩
theorem qiK {v:V} {d:D} (h:PE X e (tC v)) (i:∀ F,Is C.K F v d):PE X e (tE C own .sh (dC d)):=jU h λσ H Q ⟨F,ρ,a,h⟩=>h v F H a .refl (i F)
theorem qt {i j pos}:PE X (.Constant (.int i) j pos) (tE C own .sh (dC (.int i))):=qiK qff λ_=>.int i
theorem gb {i j pos}:PE X (.Constant (.bool i) j pos) (tE C own .sh (dC (.bl i))):=qiK qkv λ_=>.bl i
theorem QZ {j pos}:PE X (.Constant .none j pos) (tE C own .sh (dC .non)):=qiK qic λ_=>.non
theorem uQ {x j pos} (h:h8 x<=sizeLine:=by decide):PE X (.Constant (.str x) j pos) (tE C own .sh (dC (.str x))):=qiK qfg λ_=>.str h
theorem qgy {x:Str} {v:V} {d:D} {u:iB} (hg:Gl X x) (c:X.mg x=iu u) (r:RelV v u) (i:∀ F,Is C.K F v d) (hd:Dbg x:=by decide):PE X (.Name x pos) (tE C own .sh (dC d)):=qiK (qf9 hg c r hd) i
noncomputable def wR (g:Int->Int->Out D):D->D->Out D
 | .int i,.int j=>g i j
 | _,_=>.bad
theorem TopIs.int {K:Frag} {F H:Hp} {v:V} {i:Int} (h:TopIs K F H v (.int i)):v=.int i:=by
 rcases h with h | ⟨a,_,h⟩
 ·cases h; rfl
 ·exact h.elim
theorem TopIs.str {K:Frag} {F H:Hp} {v:V} {x:Str} (h:TopIs K F H v (.str x)):v=.str x/\x.length<=sizeLine:=by
 rcases h with h | ⟨a,_,h⟩
 ·cases h; exact ⟨rfl,by assumption⟩
 ·exact h.elim
theorem TopIs.bl {K:Frag} {F H:Hp} {v:V} {x:Bool} (h:TopIs K F H v (.bl x)):v=.bl x:=by
 rcases h with h | ⟨a,_,h⟩
 ·cases h; rfl
 ·exact h.elim
theorem TopIs.non {K:Frag} {F H:Hp} {v:V} (h:TopIs K F H v .non):v=.non:=by
 rcases h with h | ⟨a,_,h⟩
 ·cases h; rfl
 ·exact h.elim
theorem TopIs.raw {K:Frag} {F H:Hp} {v u:V} (h:TopIs K F H v (.raw u)):v=u:=by
 rcases h with h | ⟨a,_,h⟩
 ·cases h; rfl
 ·exact h.elim
theorem TopIs.lst {K:Frag} {F H:Hp} {v:V} {ds:List D} (s:Same F H) (h:TopIs K F H v (.lst ds)):∃ a xs,v=.ref a/\SqL K H a xs/\IsL K F xs ds:=by
 rcases h with h | ⟨a,e,h⟩
 ·cases h with
  | lst h t=>exact ⟨_,_,rfl,s.seq h,t⟩
 ·obtain ⟨xs,i,t⟩:=h;exact ⟨a,xs,e,.inl (.inl i),t⟩
theorem TopIs.tup {K:Frag} {F H:Hp} {v:V} {ds:List D} (s:Same F H) (h:TopIs K F H v (.tup ds)):∃ a xs,v=.ref a/\SqT K H a xs/\IsL K F xs ds:=by
 rcases h with h | ⟨a,e,h⟩
 ·cases h with
  | tup h t=>exact ⟨_,_,rfl,qW s h,t⟩
 ·exact h.elim
theorem TopIs.dct {K:Frag} {F H:Hp} {v:V} {ds:List (Key×D)} (s:Same F H) (h:TopIs K F H v (.dct ds)):∃ a kv,v=.ref a/\H a=iu (.dK kv)/\IsK K F kv ds:=by
 rcases h with h | ⟨a,e,h⟩
 ·cases h with
  | dct h t=>exact ⟨_,_,rfl,s _ _ h,t⟩
 ·obtain ⟨xs,i,t⟩:=h;exact ⟨a,xs,e,i,t⟩
theorem XZ {fn:iB->iB->Sem iB} {P:Int->Int->Prop} [∀ i j,Decidable (P i j)] {g:Int->Int->V} {d:Int->Int->D} (l:OpR X fn (rI P g)) (hg:∀ F i j,Is C.K F (g i j) (d i j)):OpD X C .sh fn (wR λi j=>if P i j then .ok (d i j) else .bad):=by
 intro pins s σ H x y v u Q I r c h;obtain ⟨F,dx,a,A,tx,ty,po⟩:=h;cases dx <;> try exact po.elim
 cases a <;> try exact po.elim
 rename_i i j;have po:PoV C .sh F H (if P i j then .ok (d i j) else .bad) Q:=po;obtain rfl:=tx.int;obtain rfl:=ty.int;by_cases q:P i j;·rw [if_pos q] at po;exact l pins s σ H _ _ v u Q I r c ⟨i,j,rfl,rfl,q,po (g i j) F H A .refl (hg F i j)⟩
 ·rw [if_neg q] at po; exact po.elim
theorem Yv {fn:iB->iB->Sem iB} {g:Int->Int->V} {d:Int->Int->D} (l:OpR X fn (rI0 g)) (hg:∀ F i j,Is C.K F (g i j) (d i j)):OpD X C .sh fn (wR λi j=>.ok (d i j)):=by
 intro pins s σ H x y v u Q I r c h;obtain ⟨F,dx,a,A,tx,ty,po⟩:=h;cases dx <;> try exact po.elim
 cases a <;> try exact po.elim
 rename_i i j;obtain rfl:=tx.int;obtain rfl:=ty.int;exact l pins s σ H _ _ v u Q I r c ⟨i,j,rfl,rfl,po (g i j) F H A .refl (hg F i j)⟩
noncomputable def Za:D->D->Out D:=wR λi j=>.ok (.int (i - j))
theorem zk:OpD X C .sh (binaryOp .Sub) Za:=Yv qip λ_ _ _=>.int _
instance:∀ i j,Decidable (CMul i j):=λi j=>inferInstanceAs (Decidable (_\/_))
instance:∀ i j,Decidable (qgg i j):=λi j=>inferInstanceAs (Decidable (_/\_))
noncomputable def Yw:D->D->Out D:=wR λi j=>if CMul i j then .ok (.int (i * j)) else .bad
theorem KA:OpD X C .sh (binaryOp .Mult) Yw:=XZ qiq λ_ _ _=>.int _
noncomputable def yb:D->D->Out D:=wR λi j=>if 0 < j then .ok (.int (i % j)) else .bad
theorem vh:OpD X C .sh (binaryOp .Mod) yb:=XZ qir λ_ _ _=>.int _
noncomputable def gc:D->D->Out D:=wR λi j=>if qgg i j then .ok (.int (i / j)) else .bad
theorem Ja:OpD X C .sh (binaryOp .FloorDiv) gc:=XZ qgh λ_ _ _=>.int _
noncomputable def vn (x y:Str):Bool:=decide (x.cps.toList < y.cps.toList)
noncomputable def ltD:D->D->Out D
 | .int i,.int j=>.ok (.bl (decide (i < j)))
 | .str x,.str y=>.ok (.bl (vn x y))
 | _,_=>.bad
theorem qiL:OpD X C .sh (compareOp .Lt) ltD:=by
 intro pins s σ H x y v u Q I d c h;obtain ⟨F,dx,a,A,tx,ty,po⟩:=h;cases dx <;> try exact po.elim
 ·cases a <;> try exact po.elim
  obtain rfl:=tx.int;obtain rfl:=ty.int;exact qkI pins s σ H _ _ v u Q I d c ⟨_,_,rfl,rfl,po _ F H A .refl (.bl _)⟩
 ·cases a <;> try exact po.elim
  obtain ⟨rfl,_⟩:=tx.str;obtain ⟨rfl,_⟩:=ty.str;exact qaK pins s σ H _ _ v u Q I d c ⟨_,_,rfl,rfl,po _ F H A .refl (.bl _)⟩
end
noncomputable def eqS (a b:D):Option Bool:=match a with
 | .non=>match b with
  | .non=>iu iC
  | .bl _=>iu iE
  | .int _=>iu iE
  | .str _=>iu iE
  | .tup _=>iu iE
  | .lst _=>iu iE
  | .dct _ | .raw _ | .xcp _ | .ins _ _ | .at_ _ _=>iw
 | .bl x=>match b with
  | .non=>iu iE
  | .bl y=>iu (x == y)
  | .int y=>iu ((if x then 1 else 0) == y)
  | .str _=>iu iE
  | .tup _=>iu iE
  | .lst _=>iu iE
  | .dct _ | .raw _ | .xcp _ | .ins _ _ | .at_ _ _=>iw
 | .int x=>match b with
  | .non=>iu iE
  | .bl y=>iu (x == (if y then 1 else 0))
  | .int y=>iu (x == y)
  | .str _=>iu iE
  | .tup _=>iu iE
  | .lst _=>iu iE
  | .dct _ | .raw _ | .xcp _ | .ins _ _ | .at_ _ _=>iw
 | .str x=>match b with
  | .non=>iu iE
  | .bl _=>iu iE
  | .int _=>iu iE
  | .str y=>iu (x == y)
  | .tup _=>iu iE
  | .lst _=>iu iE
  | .dct _ | .raw _ | .xcp _ | .ins _ _ | .at_ _ _=>iw
 | .tup x=>match b with
  | .non=>iu iE
  | .bl _=>iu iE
  | .int _=>iu iE
  | .str _=>iu iE
  | .tup _=>iw
  | .lst _=>iu iE
  | .dct _ | .raw _ | .xcp _ | .ins _ _ | .at_ _ _=>iw
 | .lst x=>match b with
  | .non=>iu iE
  | .bl _=>iu iE
  | .int _=>iu iE
  | .str _=>iu iE
  | .tup _=>iu iE
  | .lst _=>iw
  | .dct _ | .raw _ | .xcp _ | .ins _ _ | .at_ _ _=>iw
 | .dct _ | .raw _ | .xcp _ | .ins _ _ | .at_ _ _=>iw
noncomputable def wS (f:D->D->Option Bool):List D->List D->Option Bool
 | x::xs,y::ys=>(f x y).bind λa=>(wS f xs ys).bind λb=>iu (a&&b)
 | _,_=>iu iC
noncomputable def eqN:Nat->D->D->Option Bool
 | n+1,.tup xs,.tup ys=>(wS (eqN n) xs ys).map λb=>b&&xs.length == ys.length
 | n+1,.lst xs,.lst ys=>if xs.length=ys.length then wS (eqN n) xs ys else iu iE
 | _,a,b=>eqS a b
theorem Zb {n:Nat} {a b:D} (h1:∀ xs ys,a=.tup xs->b≠.tup ys) (h2:∀ xs ys,a=.lst xs->b≠.lst ys):eqN n a b=eqS a b:=by
 cases n with
 | zero=>rfl
 | succ n=>
  cases a with
  | tup xs=>cases b with
   | tup ys=>exact absurd rfl (h1 xs ys rfl)
   | _=>rfl
  | lst xs=>cases b with
   | lst ys=>exact absurd rfl (h2 xs ys rfl)
   | _=>rfl
  | _=>rfl
noncomputable def itE (f:D->D->Option Bool) (xs ys:List D) (j:Nat):Bool:=((xs[j]?).bind λx=>(ys[j]?).bind λy=>f x y).getD iE
theorem wT {f:D->D->Option Bool}:∀ {xs ys:List D} {b:Bool},wS f xs ys=iu b->b=(aH (min xs.length ys.length)).all (itE f xs ys)
 | [],ys,b,h=>by simp [wS] at h ⊢; exact h
 | x::xs,[],b,h=>by simp [wS] at h ⊢; exact h
 | x::xs,y::ys,b,h=>by
  unfold wS at h;cases e:f x y with
  | none=>rw [e] at h; simp at h
  | some a=>
   cases i:wS f xs ys with
   | none=>rw [e,i] at h; simp at h
   | some c=>
    rw [e,i] at h;have h:(a&&c)=b:=by simpa using h
    have d:=wT i;have m:min (x::xs).length (y::ys).length=min xs.length ys.length+1:=by simp only [aq]; lia
    rw [m,List.range_succ_eq_map,hV,List.all_map];have e0:itE f (x::xs) (y::ys) 0=a:=by simp [itE,e]
    have e1:(itE f (x::xs) (y::ys)) ∘ Nat.succ=itE f xs ys:=by funext j;simp [itE]
    rw [e0,e1,<-d];exact h.symm
theorem qa0 {f:D->D->Option Bool}:∀ {xs ys:List D} {b:Bool},wS f xs ys=iu b->∀ (j:Nat) (x y:D),xs[j]?=iu x->ys[j]?=iu y->f x y=iu (itE f xs ys j)
 | [],ys,b,_,j,x,y,hx,_=>by simp at hx
 | x::xs,[],b,_,j,_,y,_,hy=>by simp at hy
 | x::xs,y::ys,b,h,0,x',y',hx,hy=>by
  simp at hx hy;subst hx hy;unfold wS at h;cases e:f x y with
  | none=>rw [e] at h; simp at h
  | some a=>simp [itE,e]
 | x::xs,y::ys,b,h,j+1,x',y',hx,hy=>by
  unfold wS at h;cases e:f x y with
  | none=>rw [e] at h; simp at h
  | some a=>
   cases i:wS f xs ys with
   | none=>rw [e,i] at h; simp at h
   | some c=>have q:=qa0 i j x' y' (by simpa using hx) (by simpa using hy);rw [q];simp [itE]
section
variable {X:Cx} {pins:Pns} {σ:St} {F H:Hp} {s:iF}
noncomputable def smp:D->Bool
 | .non | .bl _ | .int _ | .str _ | .tup _ | .lst _=>iC
 | .dct _ | .raw _ | .xcp _ | .ins _ _ | .at_ _ _=>iE
theorem qa1 {n:Nat} {d e:D} {b:Bool} (h:eqN n d e=iu b):smp d=true:=by cases d <;> first | rfl | (cases n <;> exact nomatch (show iw=iu b from h))
theorem qkY {n:Nat} {d e:D} {b:Bool} (h:eqN n d e=iu b):smp e=true:=by cases e <;> first | rfl | (cases n <;> cases d <;> exact nomatch (show iw=iu b from h))
theorem qa2 (I:Inv X pins σ H s) (A:Same F H) {a:Addr} {xs ys:List V} (p:SqT X.K F a xs) (q:SqL X.K F a ys):False:=by obtain ⟨_,_,b,_⟩:=I.list (A.seq q);obtain ⟨_,_,d,_⟩:=I.tuple (qW A p);exact absurd rfl (PySem.SeqAt.ne_of_list_tuple b.isList d)
theorem Jb {f:D->D->Option Bool} {x y:D} {xs ys:List D} {b:Bool} (h:wS f (x::xs) (y::ys)=iu b):∃ a c,f x y=iu a/\wS f xs ys=iu c/\b=(a&&c):=by
 unfold wS at h;cases e:f x y with
 | none=>rw [e] at h; cases h
 | some a=>
  cases i:wS f xs ys with
  | none=>rw [e,i] at h; cases h
  | some c=>rw [e,i] at h; exact ⟨a,c,rfl,rfl,(aI.inj h).symm⟩
theorem Yx {n:Nat} {xs ys:List D} {b:Bool} (h:eqN (n+1) (.tup xs) (.tup ys)=iu b):∃ c,wS (eqN n) xs ys=iu c/\b=(c&&xs.length == ys.length):=by
 have h:((wS (eqN n) xs ys).map λb=>b&&xs.length == ys.length)=iu b:=h;cases e:wS (eqN n) xs ys with
 | none=>rw [e] at h; cases h
 | some c=>rw [e] at h; exact ⟨c,rfl,(aI.inj h).symm⟩
theorem qa3 (I:Inv X pins σ H s) (A:Same F H):∀ (n:Nat) {v:V} {d e:D} {b:Bool},Is X.K F v d->Is X.K F v e->eqN n d e=iu b->b=true:=by
 have base:∀ {n:Nat} {v:V} {d e:D} {b:Bool},Is X.K F v d->Is X.K F v e->eqN n d e=iu b->(∀ a xs ds es,Is X.K F (.ref a) (.tup ds)->SqT X.K F a xs->IsL X.K F xs ds->IsL X.K F xs es->eqN n (.tup ds) (.tup es)=iu b->b=iC)->(∀ a xs ds es,SqL X.K F a xs->IsL X.K F xs ds->IsL X.K F xs es->eqN n (.lst ds) (.lst es)=iu b->b=iC)->b=true:=by
  intro n v d e b h1 h2 h ht hl;have s1:=qa1 h;have s2:=qkY h;cases h1 with
  | non=>cases h2 with
   | non=>cases n <;> exact (aI.inj h).symm
   | raw=>cases s2
  | bl x=>cases h2 with
   | bl=>cases n <;> exact (aI.inj h).symm.trans (beq_self_eq_true x)
   | raw=>cases s2
  | int x=>cases h2 with
   | int=>cases n <;> exact (aI.inj h).symm.trans (beq_self_eq_true x)
   | raw=>cases s2
  | str _=>cases h2 with
   | str _=>cases n <;> exact (aI.inj h).symm.trans (beq_self_eq_true _)
   | raw=>cases s2
  | tup p1 f=>cases h2 with
   | tup p2 t=>have q:=I.tuple_inj (qW A p1) (qW A p2);subst q;exact ht _ _ _ _ (.tup p1 f) p1 f t h
   | lst p2 t=>exact (qa2 I A p1 p2).elim
   | _=>cases s2
  | lst p1 f=>cases h2 with
   | lst p2 t=>have q:=I.list_inj (A.seq p1) (A.seq p2);subst q;exact hl _ _ _ _ p1 f t h
   | tup p2 t=>exact (qa2 I A p2 p1).elim
   | _=>cases s2
  | _=>cases s1
 intro n
 induction n with
 | zero=>exact λ{_ _ _ _} h1 h2 h=>base h1 h2 h (λ_ _ _ _ _ _ _ _ h=>nomatch (show iw=iu _ from h)) λ_ _ _ _ _ _ _ h=>nomatch (show iw=iu _ from h)
 | succ n j=>
  have l:∀ {xs:List V} {ds es:List D} {b:Bool},IsL X.K F xs ds->IsL X.K F xs es->wS (eqN n) ds es=iu b->b=true:=by
   intro xs
   induction xs with
   | nil=>intro ds es b h1 h2 h; cases h1; cases h2; exact (aI.inj h).symm
   | cons x xs i=>
    intro ds es b h1 h2 h;cases h1 with
    | cons m f=>
     cases h2 with
     | cons k t=>obtain ⟨a,c,q,g,rfl⟩:=Jb h;rw [j m k q,i f t g];rfl
  intro v d e b h1 h2 h;refine base h1 h2 h (λa xs ds es _ _ f t h=>?_) λa xs ds es _ f t h=>?_;·obtain ⟨c,q,rfl⟩:=Yx h;rw [l f t q,f.length.symm.trans t.length,beq_self_eq_true];rfl
  ·have h:(if ds.length=es.length then wS (eqN n) ds es else iu iE)=iu _:=h;rw [if_pos (f.length.symm.trans t.length)] at h;exact l f t h
end
open PySem.SeqAt
section
variable {X:Cx} {pins:Pns} {σ:St} {F H:Hp} {s:iF}
theorem Vals.getE {xs:List V} {us:List iB} (r:Vals xs us) {j:Nat} (h:j < us.length):∃ x,xs[j]?=iu x/\RelV x us[j]:=by
 have hl:=r.length;have G:j < xs.length:=by lia
 obtain ⟨u,e1,e⟩:=Vals.get (i:=j) (x:=xs[j]) r (by simp [G]);refine ⟨xs[j],by simp [G],?_⟩;rw [aj h] at e1;cases e1;exact e
theorem yI {A:iK} {n:Nat} {xs ys:List V} {ds es:List D} {us ws:List iB} {b:Bool} (g:∀ {v w:V} {d e:D} {u t:iB} {b:Bool},Is X.K F v d->Is X.K F w e->RelV v u->RelV w t->eqN n d e=iu b->EqAt A s u t b)
  (r1:Vals xs us) (r2:Vals ys ws) (i1:IsL X.K F xs ds) (i2:IsL X.K F ys es) (h:wS (eqN n) ds es=iu b) :
  ∀ j (h1:j < us.toArray.size) (h2:j < ws.toArray.size),EqAt A s us.toArray[j] ws.toArray[j] (itE (eqN n) ds es j):=by
 intro j h1 h2;have c:j < us.length:=by simpa using h1
 have a:j < ws.length:=by simpa using h2
 obtain ⟨x,ex,f⟩:=Vals.getE r1 c;obtain ⟨y,l,r⟩:=Vals.getE r2 a;obtain ⟨d,o,i⟩:=i1.get ex;obtain ⟨e,m,k⟩:=i2.get l;have q:=qa0 h j d e o m;simpa using g i k f r q
theorem Zc {A:iK} {n:Nat} {a c:Addr} {xs ys:List V} {ds es:List D} {b:Bool} (I:Inv X pins σ H s) (j:∀ {v w:V} {d e:D} {u t:iB} {b:Bool},Is X.K F v d->Is X.K F w e->RelV v u->RelV w t->eqN n d e=iu b->EqAt A.in1 s u t b)
  (p1:SqT X.K H a xs) (p2:SqT X.K H c ys) (i1:IsL X.K F xs ds) (i2:IsL X.K F ys es) (h:eqN (n+1) (.tup ds) (.tup es)=iu b) (m:A.units < cLine):RcAt A s (.ref a) (.ref c) b:=by
 obtain ⟨us,r1,g,_⟩:=I.tuple p1;obtain ⟨ws,r2,f,_⟩:=I.tuple p2;simp only [eqN] at h;cases q:wS (eqN n) ds es with
 | none=>rw [q] at h; simp at h
 | some k=>
  rw [q] at h;have i:us.toArray.size=ds.length:=by rw [aw,<-r1.length,i1.length]
  have l:ws.toArray.size=es.length:=by rw [aw,<-r2.length,i2.length]
  have z:=RcAt.tuples (A:=A) g f m (yI (A:=A.in1) j r1 r2 i1 i2 q);rw [i,l,<-wT q] at z;have e:b=(k&&ds.length == es.length):=by simpa using h.symm
  rw [e]; exact z
theorem Zd {A:iK} {n:Nat} {a c:Addr} {xs ys:List V} {ds es:List D} {b:Bool} (I:Inv X pins σ H s) (k:∀ {v w:V} {d e:D} {u t:iB} {b:Bool},Is X.K F v d->Is X.K F w e->RelV v u->RelV w t->eqN n d e=iu b->EqAt A.in1 s u t b)
  (p1:SqL X.K H a xs) (p2:SqL X.K H c ys) (i1:IsL X.K F xs ds) (i2:IsL X.K F ys es) (h:eqN (n+1) (.lst ds) (.lst es)=iu b) (j:A.units < cLine):RcAt A s (.ref a) (.ref c) b:=by
 obtain ⟨us,r1,g,_⟩:=I.list p1;obtain ⟨ws,r2,f,_⟩:=I.list p2;have i:us.toArray.size=ds.length:=by rw [aw,<-r1.length,i1.length]
 have l:ws.toArray.size=es.length:=by rw [aw,<-r2.length,i2.length]
 simp only [eqN] at h;by_cases hl:ds.length=es.length;·rw [if_pos hl] at h;have z:=RcAt.lists (A:=A) g.isList f.isList (by lia) j (yI (A:=A.in1) k r1 r2 i1 i2 h);have e:=wT h;rw [i] at z;rw [e,show min ds.length es.length=ds.length by lia];exact z
 ·rw [if_neg hl] at h;cases h;exact RcAt.lists_lengths g.isList f.isList (bne_iff_ne.mpr (by rw [i,l]; exact hl)) j
def Kd (s:iF):D->iB->Prop
 | .non,u=>u=.none
 | .bl b,u=>u=.bool b
 | .int i,u=>∃ t,u=.int i t
 | .str x,u=>∃ t,u=.str x t
 | .tup _,u=>∃ a its,u=.ref a/\s.heap.IsTuple a its
 | .lst _,u=>∃ a its,u=.ref a/\s.heap.IsList a its
 | _,_=>True
theorem GK (I:Inv X pins σ H s) (A:Same F H) {v:V} {d:D} {u:iB} (t:TopIs X.K F H v d) (r:RelV v u):Kd s d u:=by
 cases d with
 | non=>obtain rfl:=t.non; exact r
 | bl=>obtain rfl:=t.bl; exact r
 | int=>obtain rfl:=t.int; exact r
 | str=>obtain ⟨rfl,_⟩:=t.str; exact r
 | tup=>obtain ⟨a,_,rfl,p,_⟩:=t.tup A; obtain ⟨_,_,q,_⟩:=I.tuple p; exact ⟨a,_,r,q⟩
 | lst=>obtain ⟨a,_,rfl,p,_⟩:=t.lst A; obtain ⟨_,_,q,_⟩:=I.list p; exact ⟨a,_,r,q.isList⟩
 | _=>trivial
theorem qiM {A:iK} {d e:D} {u t:iB} {b:Bool} (f:A.units < cLine) (k1:Kd s d u) (k2:Kd s e t) (h:eqS d e=iu b):EqAt A s u t b:=by
 cases d <;> cases e <;> try (cases h; done)
 all_goals
  cases h;first | obtain ⟨_,_,rfl,a⟩:=k1 | obtain ⟨_,rfl⟩:=k1 | cases k1
  first | obtain ⟨_,_,rfl,q⟩:=k2 | obtain ⟨_,rfl⟩:=k2 | cases k2
  with_reducible first | exact EqAt.same _ | exact EqAt.none_bool _ | exact EqAt.none_int _ _ | exact EqAt.none_str _ _ | exact EqAt.bool_none _ | exact EqAt.bool_bool _ _ | exact EqAt.bool_int _ _ _ | exact EqAt.bool_str _ _ _ | exact EqAt.int_none _ _ | exact EqAt.int_bool _ _ _ | exact EqAt.int_int _ _ _ _ | exact EqAt.int_str _ _ _ _ | exact EqAt.str_none _ _ | exact EqAt.str_bool _ _ _ | exact EqAt.str_int _ _ _ _ | exact EqAt.str_str _ _ _ _ | exact EqAt.none_tuple q f | exact EqAt.tuple_none a f | exact EqAt.none_list q f | exact EqAt.list_none a f | exact EqAt.bool_tuple _ q f | exact EqAt.tuple_bool _ a f | exact EqAt.bool_list _ q f | exact EqAt.list_bool _ a f | exact EqAt.int_tuple _ _ q f | exact EqAt.tuple_int _ _ a f | exact EqAt.int_list _ _ q f | exact EqAt.list_int _ _ a f | exact EqAt.str_tuple _ _ q f | exact EqAt.tuple_str _ _ a f | exact EqAt.str_list _ _ q f | exact EqAt.list_str _ _ a f | exact EqAt.tuple_list a q f | exact EqAt.list_tuple a q f
theorem Ze (I:Inv X pins σ H s) (f:Same F H):∀ (n:Nat) {A:iK} {v w:V} {d e:D} {u t:iB} {b:Bool},A.units+n < cLine->Is X.K F v d->Is X.K F w e->RelV v u->RelV w t->eqN n d e=iu b->EqAt A s u t b:=by
 intro n
 induction n with
 | zero=>exact λB h1 h2 x r h=>qiM (by lia) (GK I f (.inl h1) x) (GK I f (.inl h2) r) h
 | succ n p=>
  intro A v w d e u t b B h1 h2 x r h;have j:A.in1.units+n < cLine:=by show A.units+1+n < cLine; lia
  by_cases both:(∃ xs ys,d=.tup xs/\e=.tup ys)\/(∃ xs ys,d=.lst xs/\e=.lst ys)
  ·rcases both with ⟨ds,es,rfl,rfl⟩ | ⟨ds,es,rfl,rfl⟩
   ·have i:=h1;have g:=h2;cases h1 with
    | tup p1 o=>
     cases h2 with
     | tup p2 l=>
      rename_i a xs c ys;cases x;cases r;by_cases ne:a=c;·subst ne;rw [qa3 I f (n+1) i g h];exact EqAt.same _
      ·exact EqAt.of_refs ne (Zc I (λm k z y q=>p j m k z y q) (qW f p1) (qW f p2) o l h (by lia))
   ·have i:=h1;have g:=h2;cases h1 with
    | lst p1 o=>
     cases h2 with
     | lst p2 l=>
      rename_i a xs c ys;cases x;cases r;by_cases ne:a=c;·subst ne;rw [qa3 I f (n+1) i g h];exact EqAt.same _
      ·exact EqAt.of_refs ne (Zd I (λm k z y q=>p j m k z y q) (f.seq p1) (f.seq p2) o l h (by lia))
  ·have e1:eqN (n+1) d e=eqS d e:=Zb (λxs ys m k=>both (.inl ⟨xs,ys,m,k⟩)) (λxs ys m k=>both (.inr ⟨xs,ys,m,k⟩));have C:eqN n d e=eqS d e:=Zb (λxs ys m k=>both (.inl ⟨xs,ys,m,k⟩)) (λxs ys m k=>both (.inr ⟨xs,ys,m,k⟩));exact p (by lia) h1 h2 x r (by rw [C,<-e1]; exact h)
end
end L2.D2
namespace L2.D2
open PySem PySem.Spec PyProof.Rows
open PySem.SeqAt
variable {X:Cx} {A:iK} {n:Nat} {b:Bool}
section
variable {pins:Pns} {σ:St} {F H:Hp} {s:iF}
theorem qdL {a c:Addr} {xs ys:List V} {ds es:List D} (I:Inv X pins σ H s) (j:∀ {v w:V} {d e:D} {u t:iB} {b:Bool},Is X.K F v d->Is X.K F w e->RelV v u->RelV w t->eqN n d e=iu b->EqAt A.in1 s u t b)
  (p1:SqT X.K H a xs) (p2:SqT X.K H c ys) (i1:IsL X.K F xs ds) (i2:IsL X.K F ys es) (h:eqN (n+1) (.tup ds) (.tup es)=iu b) (m:A.units < cLine):RcNeAt A s (.ref a) (.ref c) (!b):=by
 obtain ⟨us,r1,g,_⟩:=I.tuple p1;obtain ⟨ws,r2,f,_⟩:=I.tuple p2;simp only [eqN] at h;cases q:wS (eqN n) ds es with
 | none=>rw [q] at h; simp at h
 | some k=>
  rw [q] at h;have i:us.toArray.size=ds.length:=by rw [aw,<-r1.length,i1.length]
  have l:ws.toArray.size=es.length:=by rw [aw,<-r2.length,i2.length]
  have z:=RcNeAt.tuples (A:=A) g f m (yI (A:=A.in1) j r1 r2 i1 i2 q);rw [i,l,<-wT q] at z;have e:b=(k&&ds.length == es.length):=by simpa using h.symm
  rw [e]; exact z
theorem qdM {a c:Addr} {xs ys:List V} {ds es:List D} (I:Inv X pins σ H s) (k:∀ {v w:V} {d e:D} {u t:iB} {b:Bool},Is X.K F v d->Is X.K F w e->RelV v u->RelV w t->eqN n d e=iu b->EqAt A.in1 s u t b)
  (p1:SqL X.K H a xs) (p2:SqL X.K H c ys) (i1:IsL X.K F xs ds) (i2:IsL X.K F ys es) (h:eqN (n+1) (.lst ds) (.lst es)=iu b) (j:A.units < cLine):RcNeAt A s (.ref a) (.ref c) (!b):=by
 obtain ⟨us,r1,g,_⟩:=I.list p1;obtain ⟨ws,r2,f,_⟩:=I.list p2;have i:us.toArray.size=ds.length:=by rw [aw,<-r1.length,i1.length]
 have l:ws.toArray.size=es.length:=by rw [aw,<-r2.length,i2.length]
 simp only [eqN] at h;by_cases hl:ds.length=es.length;·rw [if_pos hl] at h;have z:=RcNeAt.lists (A:=A) g.isList f.isList (by lia) j (yI (A:=A.in1) k r1 r2 i1 i2 h);have e:=wT h;rw [i] at z;rw [e,show min ds.length es.length=ds.length by lia];exact z
 ·rw [if_neg hl] at h;cases h;exact RcNeAt.lists_lengths g.isList f.isList (bne_iff_ne.mpr (by rw [i,l]; exact hl)) j
theorem qiN (I:Inv X pins σ H s) (i:Same F H) {v w:V} {d e:D} {u t:iB} (m:A.units+n+1 < cLine) (k:TopIs X.K F H v d) (j:TopIs X.K F H w e) (x:RelV v u) (r:RelV w t) (h:eqN (n+1) d e=iu b):RcAt A s u t b:=by
 have f:A.units < cLine:=by lia
 have l:∀ {v w:V} {d e:D} {u t:iB} {b:Bool},Is X.K F v d->Is X.K F w e->RelV v u->RelV w t->eqN n d e=iu b->EqAt A.in1 s u t b:=λB p z y o=>Ze I i n (by show A.units+1+n < cLine; lia) B p z y o;have k1:=GK I i k x;have k2:=GK I i j r;cases d <;> cases e <;> try (cases h; done)
 case tup.tup=>
  obtain ⟨a,xs,rfl,p1,i1⟩:=k.tup i; obtain ⟨c,ys,rfl,p2,i2⟩:=j.tup i; cases x; cases r;exact Zc I l p1 p2 i1 i2 h f
 case lst.lst=>
  obtain ⟨a,xs,rfl,p1,i1⟩:=k.lst i; obtain ⟨c,ys,rfl,p2,i2⟩:=j.lst i; cases x; cases r;exact Zd I l p1 p2 i1 i2 h f
 all_goals
  cases h;clear x r k j;first | obtain ⟨_,_,rfl,g⟩:=k1 | obtain ⟨_,rfl⟩:=k1 | cases k1
  first | obtain ⟨_,_,rfl,q⟩:=k2 | obtain ⟨_,rfl⟩:=k2 | cases k2
  with_reducible first | exact RcAt.none_none | exact RcAt.none_bool _ | exact RcAt.none_int _ _ | exact RcAt.none_str _ _ | exact RcAt.bool_none _ | exact RcAt.bool_bool _ _ | exact RcAt.bool_int _ _ _ | exact RcAt.bool_str _ _ _ | exact RcAt.int_none _ _ | exact RcAt.int_bool _ _ _ | exact RcAt.int_int _ _ _ _ | exact RcAt.int_str _ _ _ _ | exact RcAt.str_none _ _ | exact RcAt.str_bool _ _ _ | exact RcAt.str_int _ _ _ _ | exact RcAt.str_str _ _ _ _ | exact RcAt.none_tuple q f | exact RcAt.tuple_none g f | exact RcAt.none_list q f | exact RcAt.list_none g f | exact RcAt.bool_tuple _ q f | exact RcAt.tuple_bool _ g f | exact RcAt.bool_list _ q f | exact RcAt.list_bool _ g f | exact RcAt.int_tuple _ _ q f | exact RcAt.tuple_int _ _ g f | exact RcAt.int_list _ _ q f | exact RcAt.list_int _ _ g f | exact RcAt.str_tuple _ _ q f | exact RcAt.tuple_str _ _ g f | exact RcAt.str_list _ _ q f | exact RcAt.list_str _ _ g f | exact RcAt.tuple_list g q f | exact RcAt.list_tuple g q f
theorem qiO (I:Inv X pins σ H s) (i:Same F H) {v w:V} {d e:D} {u t:iB} (m:A.units+n+1 < cLine) (k:TopIs X.K F H v d) (j:TopIs X.K F H w e) (x:RelV v u) (r:RelV w t) (h:eqN (n+1) d e=iu b):RcNeAt A s u t (!b):=by
 have f:A.units < cLine:=by lia
 have l:∀ {v w:V} {d e:D} {u t:iB} {b:Bool},Is X.K F v d->Is X.K F w e->RelV v u->RelV w t->eqN n d e=iu b->EqAt A.in1 s u t b:=λB p z y o=>Ze I i n (by show A.units+1+n < cLine; lia) B p z y o;have k1:=GK I i k x;have k2:=GK I i j r;cases d <;> cases e <;> try (cases h; done)
 case tup.tup=>
  obtain ⟨a,xs,rfl,p1,i1⟩:=k.tup i; obtain ⟨c,ys,rfl,p2,i2⟩:=j.tup i; cases x; cases r;exact qdL I l p1 p2 i1 i2 h f
 case lst.lst=>
  obtain ⟨a,xs,rfl,p1,i1⟩:=k.lst i; obtain ⟨c,ys,rfl,p2,i2⟩:=j.lst i; cases x; cases r;exact qdM I l p1 p2 i1 i2 h f
 all_goals
  cases h;clear x r k j;first | obtain ⟨_,_,rfl,g⟩:=k1 | obtain ⟨_,rfl⟩:=k1 | cases k1
  first | obtain ⟨_,_,rfl,q⟩:=k2 | obtain ⟨_,rfl⟩:=k2 | cases k2
  try simp only [Bool.not_true,Bool.not_false]
  with_reducible first | exact RcNeAt.none_none | exact RcNeAt.none_bool _ | exact RcNeAt.none_int _ _ | exact RcNeAt.none_str _ _ | exact RcNeAt.bool_none _ | exact RcNeAt.bool_bool _ _ | exact RcNeAt.bool_int _ _ _ | exact RcNeAt.bool_str _ _ _ | exact RcNeAt.int_none _ _ | exact RcNeAt.int_bool _ _ _ | exact RcNeAt.int_int _ _ _ _ | exact RcNeAt.int_str _ _ _ _ | exact RcNeAt.str_none _ _ | exact RcNeAt.str_bool _ _ _ | exact RcNeAt.str_int _ _ _ _ | exact RcNeAt.str_str _ _ _ _ | exact RcNeAt.none_tuple q f | exact RcNeAt.tuple_none g f | exact RcNeAt.none_list q f | exact RcNeAt.list_none g f | exact RcNeAt.bool_tuple _ q f | exact RcNeAt.tuple_bool _ g f | exact RcNeAt.bool_list _ q f | exact RcNeAt.list_bool _ g f | exact RcNeAt.int_tuple _ _ q f | exact RcNeAt.tuple_int _ _ g f | exact RcNeAt.int_list _ _ q f | exact RcNeAt.list_int _ _ g f | exact RcNeAt.str_tuple _ _ q f | exact RcNeAt.tuple_str _ _ g f | exact RcNeAt.str_list _ _ q f | exact RcNeAt.list_str _ _ g f | exact RcNeAt.tuple_list g q f | exact RcNeAt.list_tuple g q f | with_unfolding_all first | exact RcNeAt.bool_bool _ _ | exact RcNeAt.bool_int _ _ _ | exact RcNeAt.int_bool _ _ _ | exact RcNeAt.int_int _ _ _ _ | exact RcNeAt.str_str _ _ _ _
end
noncomputable def eqD (a b:D):Out D:=match eqN 8 a b with
 | some c=>.ok (.bl c)
 | none=>.bad
noncomputable def neD (a b:D):Out D:=match eqN 8 a b with
 | some c=>.ok (.bl (!c))
 | none=>.bad
section
variable {C:Ct}
theorem uU (a:C.K=X.K) (g:X.A.units+64 < cLine):OpD X C .sh (compareOp .Eq) eqD:=by
 intro pins s σ H x y v u Q I d r h;obtain ⟨F,dx,f,b,tx,ty,po⟩:=h;rw [a] at tx ty;unfold eqD at po;cases e:eqN 8 dx f with
 | none=>rw [e] at po; exact po.elim
 | some c=>rw [e] at po;exact qiN I b (n:=7) (by lia) tx ty d r e _ _ _ _ ⟨.bl c,H,I,rfl,po _ F H b .refl (.bl _)⟩
theorem Ki (a:C.K=X.K) (g:X.A.units+64 < cLine):OpD X C .sh (compareOp .NotEq) neD:=by
 intro pins s σ H x y v u Q I d r h;obtain ⟨F,dx,f,b,tx,ty,po⟩:=h;rw [a] at tx ty;unfold neD at po;cases e:eqN 8 dx f with
 | none=>rw [e] at po; exact po.elim
 | some c=>rw [e] at po;exact qiO I b (n:=7) (by lia) tx ty d r e _ _ _ _ ⟨.bl _,H,I,rfl,po _ F H b .refl (.bl _)⟩
end
end L2.D2
namespace L2.D2
open PySem PySem.Spec PyProof.Rows
open PySem.SeqAt
variable {X:Cx} {pins:Pns} {σ:St} {F H:Hp} {s:iF} {n:Nat} {v:V} {d e:D} {b:Bool}
section
theorem qgz (I:Inv X pins σ H s) (A:Same F H):∀ (n:Nat) {v:V} {d d' e:D} {b g:Bool},Is X.K F v d->Is X.K F v d'->eqN n d e=iu b->eqN n d' e=iu g->b=g:=by
 intro n
 induction n with
 | zero=>
  intro v d d' e b g h1 h2 e1 i;have s1:=qa1 e1;have s2:=qa1 i;cases h1 <;> cases h2 <;> first
   | exact aI.inj (e1.symm.trans i)
   | (cases s1; done)
   | (cases s2; done)
   | exact (qa2 I A (by assumption) (by assumption)).elim
   | exact aI.inj (e1.symm.trans (cJ (by cases e <;> rfl) i))
 | succ n p=>
  have l:∀ {xs:List V} {ds f es:List D} {b g:Bool},IsL X.K F xs ds->IsL X.K F xs f->wS (eqN n) ds es=iu b->wS (eqN n) f es=iu g->b=g:=by
   intro xs
   induction xs with
   | nil=>intro ds f es b g h1 h2 e1 i; cases h1; cases h2; exact aI.inj (e1.symm.trans i)
   | cons x xs m=>
    intro ds f es b g h1 h2 e1 i;cases h1 with
    | cons u h=>
     cases h2 with
     | cons r t=>
      cases es with
      | nil=>exact aI.inj (e1.symm.trans i)
      | cons e es=>obtain ⟨a,c,q,o,rfl⟩:=Jb e1;obtain ⟨w,U,k,j,rfl⟩:=Jb i;rw [p u r q k,m h t o j]
  intro v d d' e b g h1 h2 e1 i;have s1:=qa1 e1;have s2:=qa1 i;cases h1 with
  | tup p1 h=>
   cases h2 with
   | tup p2 t=>
    have q:=I.tuple_inj (qW A p1) (qW A p2);subst q;have hl:=h.length.symm.trans t.length;cases e with
    | tup es=>obtain ⟨c,q,rfl⟩:=Yx e1;obtain ⟨U,k,rfl⟩:=Yx i;rw [l h t q k,hl]
    | _=>exact aI.inj (e1.symm.trans i)
   | lst p2 t=>exact (qa2 I A p1 p2).elim
   | _=>cases s2
  | lst p1 h=>
   cases h2 with
   | lst p2 t=>
    have q:=I.list_inj (A.seq p1) (A.seq p2);subst q;have hl:=h.length.symm.trans t.length;cases e with
    | lst es=>
     have e1:(if _=es.length then wS (eqN n) _ es else iu iE)=iu b:=e1;have i:(if _=es.length then wS (eqN n) _ es else iu iE)=iu g:=i;rw [hl] at e1;split at i;·rw [if_pos (by assumption)] at e1; exact l h t e1 i
     ·rw [if_neg (by assumption)] at e1; exact aI.inj (e1.symm.trans i)
    | _=>exact aI.inj (e1.symm.trans i)
   | tup p2 t=>exact (qa2 I A p2 p1).elim
   | _=>cases s2
  | _=>cases h2 <;> first
   | exact aI.inj (e1.symm.trans i)
   | (cases s1; done)
   | (cases s2; done)
open Classical in
noncomputable def qaz (X:Cx) (F:Hp) (n:Nat) (e:D) (u:iB):Bool:=decide (∃ v d,Is X.K F v d/\RelV v u/\eqN n d e=iu iC)
open Classical in
theorem qa4 (I:Inv X pins σ H s) (A:Same F H) {u:iB} (h:Is X.K F v d) (r:RelV v u) (q:eqN n d e=iu b):qaz X F n e u=b:=by
 unfold qaz;cases b with
 | true=>exact decide_eq_true ⟨v,d,h,r,q⟩
 | false=>refine decide_eq_false ?_;rintro ⟨w,d',h',r',g⟩;have e:=r.inj r';subst e;exact absurd (qgz I A n h h' q g) (by decide)
noncomputable def Qo (n:Nat) (e:D):List D->Option Bool
 | []=>iu iE
 | d::ds=>(eqN n d e).bind λa=>(Qo n e ds).bind λb=>iu (a||b)
theorem WT {ds:List D} (h:Qo n e (d::ds)=iu b):∃ a c,eqN n d e=iu a/\Qo n e ds=iu c/\b=(a||c):=by
 unfold Qo at h;cases q:eqN n d e with
 | none=>rw [q] at h; simp at h
 | some a=>
  cases f:Qo n e ds with
  | none=>rw [q,f] at h; simp at h
  | some c=>rw [q,f] at h; exact ⟨a,c,rfl,rfl,(aI.inj h).symm⟩
theorem qa5 (I:Inv X pins σ H s) (A:Same F H):∀ {vs:List V} {ds:List D} {us:List iB} {b:Bool},IsL X.K F vs ds->Vals vs us->Qo n e ds=iu b->us.any (qaz X F n e)=b/\∀ u∈us,∃ v d a,Is X.K F v d/\RelV v u/\eqN n d e=iu a/\qaz X F n e u=a
 | _,_,_,b,.nil,.nil,h=>⟨by simpa using (aI.inj h),λu f=>nomatch f⟩
 | _,_,_,b,.cons i t,.cons r rs,h=>by
  obtain ⟨a,c,q,k,rfl⟩:=WT h;obtain ⟨j,g⟩:=qa5 I A t rs k;have e1:=qa4 I A i r q;refine ⟨by rw [cL,e1,j],λu f=>?_⟩;rcases ac.mp f with rfl | f;·exact ⟨_,_,a,i,r,q,e1⟩
  ·exact g u f
end
noncomputable def inD (x y:D):Out Bool:=match y with
 | .lst ds=>match Qo 7 x ds with
  | some b=>.ok b
  | none=>.bad
 | .tup ds=>match Qo 7 x ds with
  | some b=>.ok b
  | none=>.bad
 | _=>.bad
noncomputable def qka (x y:D):Out D:=(inD x y).bind λb=>.ok (.bl b)
noncomputable def GL (x y:D):Out D:=(inD x y).bind λb=>.ok (.bl (!b))
theorem TopIs.is {K:Frag} (s:Same F H) (h:TopIs K F H v d):∃ F',Same F F'/\Same F' H/\Is K F' v d:=by
 rcases h with h | ⟨a,rfl,o⟩
 ·exact ⟨F,Same.refl _,s,h⟩
 ·obtain ⟨u,hu⟩:∃ u,H a=iu u:=by
   cases q:H a with
   | none=>exact absurd q o.there
   | some u=>exact ⟨u,rfl⟩
  by_cases D:F a=iw
  ·have gr:Same F (upd F a u):=λb w e=>by rw [qA (qH e D)]; exact e
   refine ⟨upd F a u,gr,λb w e=>?_,?_⟩
   ·by_cases q:b=a;·subst q; rw [qu] at e; cases e; exact hu
    ·rw [qA q] at e; exact s b w e
   ·cases d with
    | lst ds=>obtain ⟨xs,e,t⟩:=o; rw [hu] at e; cases e; exact .lst (.inl (.inl qu)) (t.mono gr)
    | dct ds=>obtain ⟨xs,e,t⟩:=o; rw [hu] at e; cases e; exact .dct qu (t.mono gr)
    | ins C fs=>obtain ⟨dx,xs,e,t⟩:=o; rw [hu] at e; cases e; exact .ins qu (t.mono gr)
    | at_ b ds=>obtain ⟨J,xs,e,t⟩:=o; rw [hu] at e; cases e; subst J; exact .at_ (.inl (.inl qu)) (t.mono gr)
    | _=>exact o.elim
  ·obtain ⟨w,hw⟩:∃ w,F a=iu w:=by
    cases q:F a with
    | none=>exact absurd q D
    | some w=>exact ⟨w,rfl⟩
   have e:=s a w hw;cases d with
   | lst ds=>obtain ⟨xs,c,t⟩:=o; rw [c] at e; cases e; exact ⟨F,Same.refl _,s,.lst (.inl (.inl hw)) t⟩
   | dct ds=>obtain ⟨xs,c,t⟩:=o; rw [c] at e; cases e; exact ⟨F,Same.refl _,s,.dct hw t⟩
   | ins C fs=>obtain ⟨dx,xs,c,t⟩:=o; rw [c] at e; cases e; exact ⟨F,Same.refl _,s,.ins hw t⟩
   | at_ b ds=>obtain ⟨J,xs,c,t⟩:=o; rw [c] at e; cases e; subst J; exact ⟨F,Same.refl _,s,.at_ (.inl (.inl hw)) t⟩
   | _=>exact o.elim
section
variable {C:Ct}
theorem WU {A:iK} {y x:V} {dx:D} {ds:List D} {b:Bool} {u v:iB} {a:Addr} {us:List iB} {xs:List V} (I:Inv X pins σ H s) (l:A.units+64 < cLine) (c:Same F H) (ix:Is X.K F x dx) (f:RelV x v)
  (i:IsL X.K F xs ds) (r:Vals xs us) (h:Qo 7 dx ds=iu b):us.any (qaz X F 7 dx)=b/\∀ w,w∈us.toArray->EqAt A.in1 s w v (qaz X F 7 dx w):=by
 obtain ⟨h1,h2⟩:=qa5 I c i r h;refine ⟨h1,λw g=>?_⟩;obtain ⟨j,d,k,i1,r1,q,e⟩:=h2 w (by simpa using g);rw [e];exact Ze I c 7 (by show A.units+1+7 < cLine; lia) i1 ix r1 f q
theorem qkZ (n:C.K=X.K) (j:X.A.units+64 < cLine):OpD X C .sh (compareOp .In) qka:=by
 intro pins s σ H x y v u Q I g f h;obtain ⟨F,dx,k,d,tx,ty,po⟩:=h;rw [n] at tx ty;unfold qka inD at po;obtain ⟨F',g',c,ix⟩:=tx.is d;cases k with
 | lst ds=>
  cases e:Qo 7 dx ds with
  | none=>simp only [e] at po; exact po.elim
  | some b=>simp only [e] at po;obtain ⟨a,xs,rfl,p,i⟩:=ty.lst d;cases f;obtain ⟨us,r,pl,_⟩:=I.list p;obtain ⟨h1,h2⟩:=WU (A:=X.A) (y:=.non) (a:=a) (u:=.none) I j c ix g (i.mono g') r e;refine in_listAt (qaz X F' 7 dx) pl.isList h2 ⟨.bl b,H,I,by show _=_; rw [<-h1]; simp,po _ F H d .refl (.bl _)⟩
 | tup ds=>
  cases e:Qo 7 dx ds with
  | none=>simp only [e] at po; exact po.elim
  | some b=>simp only [e] at po;obtain ⟨a,xs,rfl,p,i⟩:=ty.tup d;cases f;obtain ⟨us,r,pl,_⟩:=I.tuple p;obtain ⟨h1,h2⟩:=WU (A:=X.A) (y:=.non) (a:=a) (u:=.none) I j c ix g (i.mono g') r e;refine in_tupleAt (qaz X F' 7 dx) pl h2 ⟨.bl b,H,I,by show _=_; rw [<-h1]; simp,po _ F H d .refl (.bl _)⟩
 | _=>exact po.elim
theorem qdN (n:C.K=X.K) (j:X.A.units+64 < cLine):OpD X C .sh (compareOp .NotIn) GL:=by
 intro pins s σ H x y v u Q I g f h;obtain ⟨F,dx,k,d,tx,ty,po⟩:=h;rw [n] at tx ty;unfold GL inD at po;obtain ⟨F',g',c,ix⟩:=tx.is d;cases k with
 | lst ds=>
  cases e:Qo 7 dx ds with
  | none=>simp only [e] at po; exact po.elim
  | some b=>simp only [e] at po;obtain ⟨a,xs,rfl,p,i⟩:=ty.lst d;cases f;obtain ⟨us,r,pl,_⟩:=I.list p;obtain ⟨h1,h2⟩:=WU (A:=X.A) (y:=.non) (a:=a) (u:=.none) I j c ix g (i.mono g') r e;refine notIn_listAt (qaz X F' 7 dx) pl.isList h2 ⟨.bl (!b),H,I,by show _=_; rw [<-h1]; simp,po _ F H d .refl (.bl _)⟩
 | tup ds=>
  cases e:Qo 7 dx ds with
  | none=>simp only [e] at po; exact po.elim
  | some b=>simp only [e] at po;obtain ⟨a,xs,rfl,p,i⟩:=ty.tup d;cases f;obtain ⟨us,r,pl,_⟩:=I.tuple p;obtain ⟨h1,h2⟩:=WU (A:=X.A) (y:=.non) (a:=a) (u:=.none) I j c ix g (i.mono g') r e;refine notIn_tupleAt (qaz X F' 7 dx) pl h2 ⟨.bl (!b),H,I,by show _=_; rw [<-h1]; simp,po _ F H d .refl (.bl _)⟩
 | _=>exact po.elim
end
end L2.D2
namespace L2.D2
open PySem PySem.Spec PyProof.Rows
def PoT (C:Ct) (own:List Nat) (σ:St) (F H:Hp) (r:Out (Bool×Sl)) (Q:Bool->Hp->Prop):Prop:=match r with
 | .ok (b,ρ')=>∀ F' H',Rep C.K own F' H' σ ρ'->Chg (OA own σ) F H F' H'->Q b H'
 | .exc c ρ'=>∀ F' H',Same F' H'->qay C.K C.ox F' H' σ ρ'->Chg (OA own σ) F H F' H'->C.E (C.cv c) iw H'
 | .bad=>False
abbrev uX:=Sl->Out (Bool×Sl)
def tT (C:Ct) (own:List Nat) (f:uX):TT:=λσ H Q=>∃ F ρ,Rep C.K own F H σ ρ/\PoT C own σ F H (f ρ) Q
variable {C:Ct} {own:List Nat} {σ:St} {F H F1 H1:Hp} {Q:Bool->Hp->Prop}
theorem PoT.shift {r:Out (Bool×Sl)} (h:PoT C own σ F H r Q) (c:Chg (OA own σ) F H F1 H1):PoT C own σ F1 H1 r Q:=by
 cases r with
 | ok p=>exact λF' H' a U=>h F' H' a (c.trans' U)
 | exc x=>exact λF' H' s io U=>h F' H' s io (c.trans' U)
 | bad=>exact h.elim
theorem PoT.bindV {ma:Mo} {o:WR} {k:D×Sl->Out (Bool×Sl)} {R:VK} (hp:PoT C own σ F H (o.bind k) Q)
  (h:∀ v F1 H1 d ρ1,Rep C.K own F1 H1 σ ρ1->Chg (OA own σ) F H F1 H1->MoIs C.K ma H F1 H1 v d->PoT C own σ F1 H1 (k (d,ρ1)) Q->R v H1):Po C own ma σ F H o R:=by
 cases o with
 | ok p=>obtain ⟨d,ρ1⟩:=p;exact λv F1 H1 a c mo=>h v F1 H1 d ρ1 a c mo (PoT.shift (show PoT C own σ F H (k (d,ρ1)) Q from hp) c)
 | exc x=>exact hp
 | bad=>exact hp.elim
variable {o:Out (Bool×Sl)}
theorem PoT.bindT {k:Bool×Sl->Out (Bool×Sl)} {R:Bool->Hp->Prop} (hp:PoT C own σ F H (o.bind k) Q)
  (h:∀ F1 H1 b ρ1,Rep C.K own F1 H1 σ ρ1->Chg (OA own σ) F H F1 H1->PoT C own σ F1 H1 (k (b,ρ1)) Q->R b H1):PoT C own σ F H o R:=by
 cases o with
 | ok p=>obtain ⟨d,ρ1⟩:=p;exact λF1 H1 a c=>h F1 H1 d ρ1 a c (PoT.shift (show PoT C own σ F H (k (d,ρ1)) Q from hp) c)
 | exc x=>exact hp
 | bad=>exact hp.elim
variable {m:Mo}
theorem Po.bindT {k:Bool×Sl->WR} {Q:VK} {R:Bool->Hp->Prop} (hp:Po C own m σ F H (o.bind k) Q)
  (h:∀ F1 H1 b ρ1,Rep C.K own F1 H1 σ ρ1->Chg (OA own σ) F H F1 H1->Po C own m σ F1 H1 (k (b,ρ1)) Q->R b H1):PoT C own σ F H o R:=by
 cases o with
 | ok p=>obtain ⟨d,ρ1⟩:=p;exact λF1 H1 a c=>h F1 H1 d ρ1 a c (Po.shift (show Po C own m σ F H (k (d,ρ1)) Q from hp) c)
 | exc x=>exact hp
 | bad=>exact hp.elim
noncomputable def qaA:D->Out Bool
 | .non=>.ok iE
 | .bl b=>.ok b
 | .int i=>.ok (i != 0)
 | .str x=>.ok ((x.length:Int) != 0)
 | .tup xs=>.ok (!xs.isEmpty)
 | .lst xs=>.ok (!xs.isEmpty)
 | .dct xs=>.ok (!xs.isEmpty)
 | .raw _=>.bad
 | .xcp _=>.bad
 | .ins _ _=>.bad
 | .at_ _ _=>.bad
noncomputable def xE (f:je):uX:=λρ=>(f ρ).bind λp=>(qaA p.1).bind λb=>.ok (b,p.2)
variable {K:Frag} {vs:List V} {ds:List D}
theorem IsL.isEmpty (h:IsL K F vs ds):vs.isEmpty=ds.isEmpty:=by cases h <;> rfl
theorem IsK.isEmpty {vs:List (Key×V)} {ds:List (Key×D)} (h:IsK K F vs ds):vs.isEmpty=ds.isEmpty:=by cases h <;> rfl
variable {v:V} {d:D}
theorem qgA {b:Bool} (s:Same F H) (h:TopIs K F H v d) (e:qaA d=.ok b):qkM K v H b:=by
 cases d with
 | non=>obtain rfl:=h.non; cases e; rfl
 | bl x=>obtain rfl:=h.bl; cases e; rfl
 | int x=>obtain rfl:=h.int; cases e; rfl
 | str x=>obtain ⟨rfl,q⟩:=h.str; cases e; exact ⟨q,rfl⟩
 | tup x=>obtain ⟨a,xs,rfl,p,t⟩:=h.tup s; cases e; exact .inr (.inl ⟨xs,p,by rw [t.isEmpty]⟩)
 | lst x=>obtain ⟨a,xs,rfl,p,t⟩:=h.lst s; cases e; exact .inl ⟨xs,p,by rw [t.isEmpty]⟩
 | dct x=>obtain ⟨a,xs,rfl,p,t⟩:=h.dct s; cases e; exact .inr (.inr ⟨xs,p,by rw [t.isEmpty]⟩)
 | raw x=>cases e
 | xcp x=>cases e
 | ins x y=>cases e
 | at_ x y=>cases e
noncomputable def qU (f:je):uX:=λρ=>(f ρ).bind λp=>match p.1 with
 | .bl b=>.ok (b,p.2)
 | _=>.bad
variable {X:Cx} {c e:Expr} {ma mb:Mo} {pos:Pos} {op op':CmpOp} {ρ:Sl} {g':D->D->Out D}
section
variable {a b:Expr} {f fa fb fc:je} {ft fu:uX} {mc:Mo} {rest:List Expr}
theorem qgB (n:C.K=X.K) (h:PE X e (tE C own m f)) (i:∀ whole,isTrue e X.env whole=(do let v <-whole; standAt e.pos; holding [v] (truthy v))):PT X e (tT C own (xE f)):=by
 refine qdJ (qdy h i) λσ H Q ⟨F,ρ,r,h⟩=>⟨F,ρ,r,PoT.bindV h λv F1 H1 d ρ1 a g c h1=>?_⟩
 cases q:qaA d with
 | ok k=>have h1:PoT C own σ F1 H1 ((qaA d).bind λb=>.ok (b,ρ1)) Q:=h1;rw [q] at h1;exact ⟨k,by rw [<-n]; exact qgA a.sub c.top q,h1 F1 H1 a .refl⟩
 | exc x=>have h1:PoT C own σ F1 H1 ((qaA d).bind λb=>.ok (b,ρ1)) Q:=h1;cases d <;> cases q
 | bad=>have h1:PoT C own σ F1 H1 ((qaA d).bind λb=>.ok (b,ρ1)) Q:=h1;rw [q] at h1;exact h1.elim
theorem qa6 (h:tT C own (qU f) σ H Q):tE C own .sh f σ H λx H'=>∃ k,x=.bl k/\Q k H':=by
 obtain ⟨F,ρ,r,h⟩:=h;refine ⟨F,ρ,r,PoT.bindV h λv F1 H1 d ρ1 a b c h1=>?_⟩;cases d with
 | bl k=>have c:Is C.K F1 v (.bl k):=c;cases c;exact ⟨k,rfl,h1 F1 H1 a .refl⟩
 | _=>exact h1.elim
theorem qK {g:D->D->Out D} (l:OpD X C .sh (compareOp op) g) (c:PE X a (tE C own ma fa)) (d:PE X b (tE C own mb fb)) (f:ma≠.any:=by decide)
  (k:behindInMarks op b=false:=by first | exact qfk _ | with_unfolding_all rfl):PT X (.Compare a [op] [b] pos) (tT C own (qU (d2 g fa fb))):=by
 refine qdJ (qgk l c d k) λσ H Q h=>?_;exact WS f (qa6 h)
noncomputable def Qp (ft:uX):uX:=λρ=>(ft ρ).bind λp=>.ok (!p.1,p.2)
theorem js (h:PT X a (tT C own ft)):PT X (.UnaryOp .Not a pos) (tT C own (Qp ft)):=by refine qdJ (qif h) λσ H Q ⟨F,ρ,p,h⟩=>⟨F,ρ,p,PoT.bindT h λF1 H1 b ρ1 r k h1=>h1 F1 H1 r .refl⟩
theorem qiP {e:Expr} {t t':TT} (h:PW X e t) (i:∀ σ H Q,t' σ H Q->t σ H Q):PW X e t':=⟨λw pins s σ H Q I a=>h w pins s σ H Q I (i σ H Q a)⟩
noncomputable def qgC (ft fu:uX):uX:=λρ=>(ft ρ).bind λp=>if p.1=iC then fu p.2 else .ok (iE,p.2)
noncomputable def dOr (ft fu:uX):uX:=λρ=>(ft ρ).bind λp=>if p.1=iC then .ok (iC,p.2) else fu p.2
theorem kD {op} (h:PT X a (tT C own ft)):PW X (.BoolOp op [a] pos) (tT C own ft):=by
 cases op;·exact qgb h
 ·exact qid h
theorem qa7 (g:PT X a (tT C own ft)) (d:PW X (.BoolOp .And (b::rest) pos) (tT C own fu)):PW X (.BoolOp .And (a::b::rest) pos) (tT C own (qgC ft fu)):=by
 refine qiP (qie g d) λσ H Q ⟨F,ρ,p,h⟩=>⟨F,ρ,p,PoT.bindT h λF1 H1 k ρ1 r c h1=>?_⟩
 cases k with
 | true=>exact ⟨F1,ρ1,r,h1⟩
 | false=>exact h1 F1 H1 r .refl
theorem yc (g:PT X a (tT C own ft)) (d:PW X (.BoolOp .Or (b::rest) pos) (tT C own fu)):PW X (.BoolOp .Or (a::b::rest) pos) (tT C own (dOr ft fu)):=by
 refine qiP (qkw g d) λσ H Q ⟨F,ρ,p,h⟩=>⟨F,ρ,p,PoT.bindT h λF1 H1 k ρ1 r c h1=>?_⟩
 cases k with
 | true=>exact h1 F1 H1 r .refl
 | false=>exact ⟨F1,ρ1,r,h1⟩
noncomputable def WV (fa fb:je):je:=λρ=>(fa ρ).bind λp=>match p.1 with
 | .bl iC=>fb p.2
 | .bl iE=>.ok (.bl iE,p.2)
 | _=>.bad
noncomputable def qlP (fa fb:je):je:=λρ=>(fa ρ).bind λp=>match p.1 with
 | .bl iC=>.ok (.bl iC,p.2)
 | .bl iE=>fb p.2
 | _=>.bad
theorem Zf {op} (h:PE X a (tE C own m f)):PE X (.BoolOp op [a] pos) (tE C own m f):=qig h
theorem WW (g:PE X a (tE C own .sh fa)) (e:PE X (.BoolOp .And (b::rest) pos) (tE C own .sh fb)):PE X (.BoolOp .And (a::b::rest) pos) (tE C own .sh (WV fa fb)):=by
 refine jU (qih g e) λσ H Q ⟨F,ρ,p,h⟩=>⟨F,ρ,p,Po.bind h λv F1 H1 d ρ1 r f c h1=>?_⟩
 cases d with
 | bl k=>
  have c:Is C.K F1 v (.bl k):=c;cases c;refine ⟨k,rfl,?_⟩;cases k with
  | true=>exact ⟨F1,ρ1,r,h1⟩
  | false=>exact h1 _ F1 H1 r .refl (.bl _)
 | _=>exact h1.elim
noncomputable def dIf (ft:uX) (fa fb:je):je:=λρ=>(ft ρ).bind λp=>if p.1=iC then fa p.2 else fb p.2
theorem Yy {t:Expr} (ht:PT X t (tT C own ft)) (g:PE X a (tE C own ma fa)) (d:PE X b (tE C own mb fb)) (h1:ma≠.any:=by decide) (h2:mb≠.any:=by decide):PE X (.IfExp t a b pos) (tE C own .sh (dIf ft fa fb)):=by
 refine jU (qds ht (ya g h1) (ya d h2)) λσ H Q ⟨F,ρ,p,h⟩=>⟨F,ρ,p,Po.bindT h λF1 H1 k ρ1 r c h1=>?_⟩
 cases k with
 | true=>exact ⟨F1,ρ1,r,h1⟩
 | false=>exact ⟨F1,ρ1,r,h1⟩
noncomputable def yd (g g':D->D->Out D) (fa fb fc:je):je:=λρ=>(fa ρ).bind λp=>(fb p.2).bind λq=>(g p.1 q.1).plain.bind λz=>match z with
 | .bl iC=>(fc q.2).bind λr=>(g' q.1 r.1).plain.bind λd=>.ok (d,r.2)
 | .bl iE=>.ok (.bl iE,q.2)
 | _=>.bad
theorem PoV.bind {o:Out D} {k:D->WR} {Q R:VK} (a:Rep C.K own F H σ ρ) (h:Po C own m σ F H (o.plain.bind k) Q)
  (b:∀ v F1 H1 d,Rep C.K own F1 H1 σ ρ->Chg No F H F1 H1->MoIs C.K ma H F1 H1 v d->Po C own m σ F1 H1 (k d) Q->R v H1):PoV C ma F H o R:=by
 cases o with
 | ok d=>exact λv F1 H1 s c mo=>b v F1 H1 d (a.grow c s) c mo (Po.shift (show Po C own m σ F H (k d) Q from h) c.ofNo)
 | exc c=>exact h.elim
 | bad=>exact h.elim
theorem Zg {g:D->D->Out D} {Q:VK} (s:ma≠.any) (l:mb≠.any) (h:tE C own .sh (yd g g' fa fb fc) σ H Q):qaL (λx y H Q=>∃ F dx n,Same F H/\TopIs C.K F H x dx/\TopIs C.K F H y n/\PoV C .sh F H (g dx n) Q) (λx y H Q=>∃ F dx n,Same F H/\TopIs C.K F H x dx/\TopIs C.K F H y n/\PoV C .sh F H (g' dx n) Q)
   (tE C own ma fa) (tE C own mb fb) (tE C own mc fc) σ H Q:=by
 obtain ⟨F,ρ,A,h⟩:=h;refine ⟨F,ρ,A,Po.bind h λv F1 H1 d ρ1 i O q h1=>⟨F1,ρ1,i,Po.bind h1 λw N H2 e ρ2 f c2 j h2=>?_⟩⟩;have oa:∀ x,OA own σ x->H x≠none:=λx z=>(A.OA_there z).1;have o:∀ x,OA own σ x->H1 x≠none:=λx z=>(i.OA_there z).1;refine ⟨N,d,e,f.sub,(q.grow s c2 oa).top,j.top,PoV.bind (m:=.sh) f h2 λz u L G c J a t=>?_⟩;cases G with
 | bl k=>
  have a:Is C.K u z (.bl k):=a;cases a;refine ⟨k,rfl,?_⟩;cases k with
  | true=>refine ⟨u,ρ2,c,Po.bind t λT M P r B b I p E=>?_⟩;exact ⟨M,e,r,b.sub,((j.grow l (J.ofNo) o).grow l I o).top,p.top,PoV.of b E⟩
  | false=>exact t _ u L c .refl (.bl _)
 | _=>exact t.elim
theorem Zh {g:D->D->Out D} (o:OpD X C .sh (compareOp op) g) (d:OpD X C .sh (compareOp op') g') (j:PE X a (tE C own ma fa)) (i:PE X b (tE C own mb fb)) (e:PE X c (tE C own mc fc)) (f:ma≠.any:=by decide) (l:mb≠.any:=by decide)
  (m:lastMarks [op,op'] [b,c]=false:=by with_unfolding_all rfl):PE X (.Compare a [op,op'] [b,c] pos) (tE C own .sh (yd g g' fa fb fc)):=jU (qdw o d j i e m) λ_ _ _ h=>Zg f l h
theorem Jc {g:D->D->Out D} (o:OpD X C .sh (compareOp op) g) (d:OpD X C .sh (compareOp op') g') (j:PE X a (tE C own ma fa)) (i:PE X b (tE C own mb fb)) (e:PE X c (tE C own mc fc)) (f:ma≠.any:=by decide) (l:mb≠.any:=by decide)
  (m:lastMarks [op,op'] [b,c]=false:=by with_unfolding_all rfl):PT X (.Compare a [op,op'] [b,c] pos) (tT C own (qU (yd g g' fa fb fc))):=qdJ (qdx o d j i e m) λ_ _ _ h=>Zg f l (qa6 h)
theorem qa8:OpR X (compareOp .LtE) (λx y H Q=>∃ i j,x=.str i/\y=.str j/\Q (.bl (!vn j i)) H):=by intro pins s σ H x y v u Q I d c h;obtain ⟨i,j,rfl,rfl,q⟩:=h;obtain ⟨t,rfl⟩:=d;obtain ⟨t',rfl⟩:=c;exact PySem.P.le_str (XW I q (by simp [vn]))
noncomputable def leD:D->D->Out D
 | .int i,.int j=>.ok (.bl (decide (i<=j)))
 | .str x,.str y=>.ok (.bl (!vn y x))
 | _,_=>.bad
theorem Vr:OpD X C .sh (compareOp .LtE) leD:=by
 intro pins s σ H x y v u Q I d c h;obtain ⟨F,dx,a,A,tx,ty,po⟩:=h;cases dx <;> try exact po.elim
 ·cases a <;> try exact po.elim
  obtain rfl:=tx.int;obtain rfl:=ty.int;exact qkJ pins s σ H _ _ v u Q I d c ⟨_,_,rfl,rfl,po _ F H A .refl (.bl _)⟩
 ·cases a <;> try exact po.elim
  obtain ⟨rfl,_⟩:=tx.str;obtain ⟨rfl,_⟩:=ty.str;exact qa8 pins s σ H _ _ v u Q I d c ⟨_,_,rfl,rfl,po _ F H A .refl (.bl _)⟩
noncomputable def gtD:D->D->Out D:=wR λi j=>.ok (.bl (decide (j < i)))
theorem qgD:OpD X C .sh (compareOp .Gt) gtD:=Yv qkK λ_ _ _=>.bl _
noncomputable def geD:D->D->Out D:=wR λi j=>.ok (.bl (decide (j<=i)))
theorem qgE:OpD X C .sh (compareOp .GtE) geD:=Yv qkL λ_ _ _=>.bl _
noncomputable def qfm:D->D->Out D
 | .non,.non=>.ok (.bl iC)
 | .raw _,.non=>.bad
 | _,.non=>.ok (.bl iE)
 | _,_=>.bad
noncomputable def qa9:D->D->Out D
 | .non,.non=>.ok (.bl iE)
 | .raw _,.non=>.bad
 | _,.non=>.ok (.bl iC)
 | _,_=>.bad
theorem TopIs.notN (h:TopIs K F H v d) (h1:d≠.non) (h2:∀ u,d≠.raw u):v≠.non:=by
 rintro rfl;rcases h with h | ⟨a,e,_⟩
 ·cases h;·exact h1 rfl
  ·exact h2 _ rfl
 ·cases e
theorem qba:OpD X C .sh (compareOp .Is) qfm:=by
 intro pins s σ H x y v u Q I r c h;obtain ⟨F,dx,d,A,tx,ty,po⟩:=h;have D:d=.non:=by cases d <;> first | rfl | (cases dx <;> exact po.elim)
 subst D;obtain rfl:=ty.non;refine qit pins s σ H x .non v u Q I r c ⟨rfl,?_⟩;cases dx with
 | non=>obtain rfl:=tx.non; exact po _ F H A .refl (.bl _)
 | raw _=>exact po.elim
 | _=>rw [decide_eq_false (tx.notN (by intro z; cases z) (by intro _ z; cases z))]; exact po _ F H A .refl (.bl _)
theorem qbb:OpD X C .sh (compareOp .IsNot) qa9:=by
 intro pins s σ H x y v u Q I r c h;obtain ⟨F,dx,d,A,tx,ty,po⟩:=h;have D:d=.non:=by cases d <;> first | rfl | (cases dx <;> exact po.elim)
 subst D;obtain rfl:=ty.non;refine qgi pins s σ H x .non v u Q I r c ⟨rfl,?_⟩;cases dx with
 | non=>obtain rfl:=tx.non; exact po _ F H A .refl (.bl _)
 | raw _=>exact po.elim
 | _=>rw [decide_eq_false (tx.notN (by intro z; cases z) (by intro _ z; cases z))]; exact po _ F H A .refl (.bl _)
end
inductive Fl where
 | nx | rt (d:D) | bk | ct
structure Nx (C:Ct) (own own':List Nat) (σ:St) (F H:Hp) (ρ':Sl) (σ':St) (F' H':Hp):Prop where
 rep:Rep C.K own' F' H' σ' ρ'
 chg:Chg (OA own σ) F H F' H'
 oa:∀ b,OA own' σ' b->OA own σ b\/H b=iw
 io:∀ i∈C.io,σ'[i]?=σ[i]?
def PoS (C:Ct) (own own':List Nat) (σ:St) (F H:Hp) (r:Out (Fl×Sl)) (D:Ends):Prop:=match r with
 | .ok (.nx,ρ')=>∀ σ' F' H',Nx C own own' σ F H ρ' σ' F' H'->D.nx σ' H'
 | .ok (.rt d,ρ')=>∀ v σ' F' H',Same F' H'->qay C.K C.io F' H' σ' ρ'->Chg (OA own σ) F H F' H'->(∀ i∈C.io,σ'[i]?=σ[i]?)->MoIs C.K C.mr H F' H' v d->D.rt v H'
 | .ok (.bk,ρ')=>∀ σ' F' H',Nx C own C.ol σ F H ρ' σ' F' H'->D.bk σ' H'
 | .ok (.ct,ρ')=>∀ σ' F' H',Nx C own C.ol σ F H ρ' σ' F' H'->D.ct σ' H'
 | .exc c ρ'=>∀ F' H',Same F' H'->qay C.K C.ox F' H' σ ρ'->Chg (OA own σ) F H F' H'->C.E (C.cv c) iw H'
 | .bad=>False
abbrev qV:=Sl->Out (Fl×Sl)
def tSt (C:Ct) (own own':List Nat) (f:qV):TS:=λD σ H=>∃ F ρ,Rep C.K own F H σ ρ/\PoS C own own' σ F H (f ρ) D
variable {o1 o2 o3:List Nat} {σ1:St} {ρ1:Sl}
theorem Nx.then {c:St} {d H2:Hp} {ρ2:Sl} (a:Nx C o1 o2 σ F H ρ1 σ1 F1 H1) (b:Nx C o2 o3 σ1 F1 H1 ρ2 c d H2):Nx C o1 o3 σ F H ρ2 c d H2 where
 rep:=b.rep
 chg:=a.chg.trans b.chg a.oa
 oa:=λx h=>by
  rcases b.oa x h with z | z;·exact a.oa x z
  ·refine .inr ?_;cases q:H x with
   | none=>rfl
   | some o=>exact absurd z (a.chg.stay x (by rw [q]; simp))
 io:=λi hi=>(b.io i hi).trans (a.io i hi)
theorem PoS.shift {r:Out (Fl×Sl)} {D:Ends} (h:PoS C o1 o3 σ F H r D) (a:Nx C o1 o2 σ F H ρ1 σ1 F1 H1):PoS C o2 o3 σ1 F1 H1 r D:=by
 cases r with
 | ok p=>
  obtain ⟨l,ρ'⟩:=p;cases l with
  | nx=>exact λσ' F' H' n=>h σ' F' H' (a.then n)
  | rt d=>exact λv σ' F' H' s io c e mo=>h v σ' F' H' s io (a.chg.trans c a.oa) (λi hi=>(e i hi).trans (a.io i hi)) (MoIs.back (Ha:=H1) a.chg mo)
  | bk=>exact λσ' F' H' n=>h σ' F' H' (a.then n)
  | ct=>exact λσ' F' H' n=>h σ' F' H' (a.then n)
 | exc c=>exact λF' H' s io U=>h F' H' s (λi hi=>by obtain ⟨d,b,e1,f,E⟩:=io i hi;exact ⟨d,b,e1,by rw [<-a.io i (C.oxs i hi)]; exact f,E⟩) (a.chg.trans U a.oa)
 | bad=>exact h.elim
theorem Nx.ofE (r:Rep C.K own F1 H1 σ ρ1) (c:Chg (OA own σ) F H F1 H1):Nx C own own σ F H ρ1 σ F1 H1:=⟨r,c,λ_ h=>.inl h,λ_ _=>rfl⟩
variable {own':List Nat}
theorem PoS.bindE {m:Mo} {o:WR} {k:D×Sl->Out (Fl×Sl)} {D:Ends} {R:VK} (hp:PoS C own own' σ F H (o.bind k) D)
  (h:∀ v F1 H1 d ρ1,Rep C.K own F1 H1 σ ρ1->Chg (OA own σ) F H F1 H1->MoIs C.K m H F1 H1 v d->PoS C own own' σ F1 H1 (k (d,ρ1)) D->R v H1):Po C own m σ F H o R:=by
 cases o with
 | ok p=>obtain ⟨d,ρ1⟩:=p;exact λv F1 H1 a c mo=>h v F1 H1 d ρ1 a c mo (PoS.shift (show PoS C own own' σ F H (k (d,ρ1)) D from hp) (.ofE a c))
 | exc x=>exact hp
 | bad=>exact hp.elim
theorem PoS.bindT {k:Bool×Sl->Out (Fl×Sl)} {D:Ends} {R:Bool->Hp->Prop} (hp:PoS C own own' σ F H (o.bind k) D)
  (h:∀ F1 H1 b ρ1,Rep C.K own F1 H1 σ ρ1->Chg (OA own σ) F H F1 H1->PoS C own own' σ F1 H1 (k (b,ρ1)) D->R b H1):PoT C own σ F H o R:=by
 cases o with
 | ok p=>obtain ⟨d,ρ1⟩:=p;exact λF1 H1 a c=>h F1 H1 d ρ1 a c (PoS.shift (show PoS C own own' σ F H (k (d,ρ1)) D from hp) (.ofE a c))
 | exc x=>exact hp
 | bad=>exact hp.elim
variable {b a:Addr} {t':TS} {st:Stmt} {i:Nat} {x:Str} {pos':Pos}
section
variable {sts rest:List Stmt} {f g:qV} {fe:je} {ft:uX}
theorem Kj {t:TS} (h:PS X st t) (i:∀ D σ H,t' D σ H->t D σ H):PS X st t':=⟨λpins s σ H D I w=>h pins s σ H D I (i D σ H w)⟩
theorem qbc {t:TS} (h:PSs X sts t) (i:∀ D σ H,t' D σ H->t D σ H):PSs X sts t':=⟨λpins s σ H D I w=>h pins s σ H D I (i D σ H w)⟩
noncomputable def jE:qV:=λρ=>.ok (.nx,ρ)
noncomputable def qM (f g:qV):qV:=λρ=>(f ρ).bind λp=>match p.1 with
 | .nx=>g p.2
 | fl=>.ok (fl,p.2)
theorem Nx.refl (r:Rep C.K own F H σ ρ):Nx C own own σ F H ρ σ F H:=.ofE r .refl
theorem qP:PSs X [] (tSt C own own jE):=qbc qaE λD σ H ⟨F,ρ,a,h⟩=>h σ F H (.refl a)
theorem qiQ {D:Ends} (h:tSt C o1 o3 (qM f g) D σ H):tSt C o1 o2 f { D with nx:=tSt C o2 o3 g D } σ H:=by
 obtain ⟨F,ρ,a,h⟩:=h;refine ⟨F,ρ,a,?_⟩;unfold qM at h;cases q:f ρ with
 | ok p=>
  rw [q] at h;obtain ⟨l,ρ1⟩:=p;cases l with
  | nx=>exact λσ' F' H' n=>⟨F',ρ1,n.rep,PoS.shift (show PoS C o1 o3 σ F H (g ρ1) D from h) n⟩
  | rt d=>exact h
  | bk=>exact h
  | ct=>exact h
 | exc c=>rw [q] at h; exact h
 | bad=>rw [q] at h; exact h.elim
theorem qg (h1:PS X st (tSt C o1 o2 f)) (h2:PSs X rest (tSt C o2 o3 g)):PSs X (st::rest) (tSt C o1 o3 (qM f g)):=qbc (qdt h1 h2) λD σ H h=>qiQ h
theorem ql (h1:PS X st (tSt C o1 o2 f)):PSs X [st] (tSt C o1 o2 f):=qgc h1
theorem Rep.weak {K:Frag} {F H:Hp} {σ:St} {ρ:Sl}:∀ (drop:List Nat) {own own':List Nat},(∀ i,i∈own'↔i∈own/\i∉drop)->Rep K own F H σ ρ->∃ F',Rep K own' F' H σ ρ/\Chg (OA own σ) F H F' H
 | [],own,own',hs,rp=>⟨F,⟨rp.sub,rp.len,λi d hi=>rp.val i d λz=>hi ((hs i).mpr ⟨z,by simp⟩),λi d hi=>rp.ow i d ((hs i).mp hi).1,λi hi=>rp.opn i ((hs i).mp hi).1,λi j a hi G=>rp.dis i j a ((hs i).mp hi).1 ((hs j).mp G).1⟩,.refl⟩
 | k::r,own,own',hs,rp=>by
  obtain ⟨F1,c,n⟩:=Rep.weak r (own:=own) (own':=own.filter λi=>decide (i∉r)) (λi=>by simp) rp;by_cases f:k∈own/\k∉r
  ·obtain ⟨d,hd⟩:=c.opn k (by simp [f.1,f.2]);obtain ⟨a,h1,h2,g⟩:=c.ow k d (by simp [f.1,f.2]) hd;obtain ⟨u,hu⟩:∃ u,H a=iu u:=by
    cases q:H a with
    | none=>exact absurd q g.there
    | some u=>exact ⟨u,rfl⟩
   have gr:Same F1 (upd F1 a u):=λb w e=>by rw [qA (qH e h2)]; exact e
   refine ⟨upd F1 a u,⟨λb w e=>?_,c.len,λi d' hi e=>?_,λi d' hi e=>?_,λi hi=>?_,λi j b hi G=>?_⟩,?_⟩
   ·by_cases q:b=a;·subst q; rw [qu] at e; cases e; exact hu
    ·rw [qA q] at e; exact c.sub b w e
   ·by_cases q:i=k
    ·subst q;rw [hd] at e; cases e;refine ⟨_,h1,?_⟩;cases d with
     | lst ds=>obtain ⟨xs,e,t⟩:=g; rw [hu] at e; cases e; exact .lst (.inl (.inl qu)) (t.mono gr)
     | dct ds=>obtain ⟨xs,e,t⟩:=g; rw [hu] at e; cases e; exact .dct qu (t.mono gr)
     | ins C fs=>obtain ⟨dx,xs,e,t⟩:=g; rw [hu] at e; cases e; exact .ins qu (t.mono gr)
     | at_ b ds=>obtain ⟨J,xs,e,t⟩:=g; rw [hu] at e; cases e; subst J; exact .at_ (.inl (.inl qu)) (t.mono gr)
     | _=>exact g.elim
    ·obtain ⟨v,o,p⟩:=c.val i d' (λz=>by simp at z; exact hi ((hs i).mpr ⟨z.1,by simp [q,z.2]⟩)) e;exact ⟨v,o,p.mono gr⟩
   ·have h:=(hs i).mp hi;have s:i≠k:=λz=>h.2 (by simp [z]);have m:i∉r:=λz=>h.2 (by simp [z]);obtain ⟨b,o,p,y⟩:=c.ow i d' (by simp [h.1,m]) e;refine ⟨b,o,?_,y.grow gr λ_ z=>z⟩;have A:b≠a:=λz=>by subst z; exact s (c.dis i k b (by simp [h.1,m]) (by simp [f.1,f.2]) o h1)
    rw [qA A]; exact p
   ·have h:=(hs i).mp hi;exact c.opn i (by simp [h.1]; exact λz=>h.2 (by simp [z]))
   ·have h:=(hs i).mp hi;have l:=(hs j).mp G;exact c.dis i j b (by simp [h.1]; exact λz=>h.2 (by simp [z])) (by simp [l.1]; exact λz=>l.2 (by simp [z]))
   ·refine ⟨n.keep,n.stay,n.grow.trans gr,λb x=>?_⟩;by_cases q:b=a;·exact .inr (.inr ⟨k,f.1,by rw [q]; exact h1⟩)
    ·rw [qA q] at x; exact n.new b x
  ·refine ⟨F1,⟨c.sub,c.len,λi d hi=>c.val i d λz=>?_,λi d hi=>c.ow i d ?_,λi hi=>c.opn i ?_,λi j a hi G=>c.dis i j a ?_ ?_⟩,n⟩;·simp at z;refine hi ((hs i).mpr ⟨z.1,?_⟩);simp only [ac,not_or];exact ⟨λq=>f (by subst q; exact z),z.2⟩
   all_goals
    first
     | (have q:=(hs _).mp hi; simp only [aG,decide_eq_true_eq]; exact ⟨q.1,λz=>q.2 (by simp [z])⟩)
     | (have q:=(hs _).mp G; simp only [aG,decide_eq_true_eq]; exact ⟨q.1,λz=>q.2 (by simp [z])⟩)
theorem OA.sub (h:∀ i∈own',i∈own) (q:OA own' σ b):OA own σ b:=let ⟨i,hi,e⟩:=q; ⟨i,h i hi,e⟩
theorem Nx.drop (drop:List Nat) (h:∀ i,i∈own'↔i∈own/\i∉drop) (r:Rep C.K own F H σ ρ):∃ F',Nx C own own' σ F H ρ σ F' H:=by obtain ⟨F',a,c⟩:=Rep.weak drop h r;exact ⟨F',a,c,λb q=>.inl (OA.sub (λi hi=>((h i).mp hi).1) q),λ_ _=>rfl⟩
noncomputable def wJ (own drop:List Nat):List Nat:=own.filter λi=>decide (i∉drop)
theorem jg {own drop:List Nat} (i:Nat):i∈wJ own drop↔i∈own/\i∉drop:=by simp [wJ]
theorem ka (drop:List Nat) (h:PSs X sts (tSt C (wJ own drop) o2 f)):PSs X sts (tSt C own o2 f):=qbc h λD σ H ⟨F,ρ,a,h⟩=>by obtain ⟨F',n⟩:=Nx.drop (C:=C) drop (λi=>jg (own:=own) i) a;exact ⟨F',ρ,n.rep,h.shift n⟩
noncomputable def sIf (ft:uX) (f g:qV):qV:=λρ=>(ft ρ).bind λp=>if p.1=iC then f p.2 else g p.2
theorem jh {a b:List Stmt} (d:PT X c (tT C own ft)) (i:PSs X a (tSt C own own' f)) (e:PSs X b (tSt C own own' g)):PS X (.If c a b pos) (tSt C own own' (sIf ft f g)):=by
 refine Kj (qkA d i e) λD σ H ⟨F,ρ,p,h⟩=>⟨F,ρ,p,PoS.bindT h λF1 H1 k ρ1 r j h1=>?_⟩
 cases k with
 | true=>exact ⟨F1,ρ1,r,h1⟩
 | false=>exact ⟨F1,ρ1,r,h1⟩
noncomputable def vo (fe:je):qV:=λρ=>(fe ρ).bind λp=>.ok (.nx,p.2)
theorem jD (i:PE X e (tE C own m fe)) (s:swapsWith e iw pos.line X.env=pure false:=by rfl):PS X (.Expr e pos) (tSt C own own (vo fe)):=by refine Kj (qgd i s) λD σ H ⟨F,ρ,r,h⟩=>⟨F,ρ,r,PoS.bindE h λv F1 H1 d ρ1 a k c h1=>h1 σ F1 H1 (.refl a)⟩
noncomputable def jB (fe:je):qV:=λρ=>(fe ρ).bind λp=>.ok (.rt p.1,p.2)
theorem qgF (b:PE X e (tE C own C.mr fe)) (o:∀ i∈C.io,i∈own:=by exact xD rfl):PS X (.Return (iu e) pos) (tSt C own own' (jB fe)):=by
 refine Kj (qii b) λD σ H ⟨F,ρ,r,h⟩=>⟨F,ρ,r,?_⟩
 unfold jB at h;cases q:fe ρ with
 | ok p=>rw [q] at h;obtain ⟨d,ρ1⟩:=p;exact λv F1 H1 a k m=>h v σ F1 H1 a.sub (a.ioIs o) k (λ_ _=>rfl) m
 | exc c=>rw [q] at h; exact h
 | bad=>rw [q] at h; exact h.elim
theorem qo (h:PE X e (tE C own m fe)) (c:m≠.any:=by decide) (hr:C.mr=.sh:=by rfl) (o:∀ i∈C.io,i∈own:=by exact xD rfl):PS X (.Return (iu e) pos) (tSt C own own' (jB fe)):=qgF (by rw [hr]; exact ya h c) o
theorem Rep.put (r:Rep K own F H σ ρ) (hi:i < ρ.length) (is:Is K F v d):Rep K (wJ own [i]) F H (σ.set i (iu v)) (ρ.set i (iu d)) where
 sub:=r.sub
 len:=by simp [r.len]
 val:=λj d' G e=>by
  by_cases q:j=i;·subst q;rw [aJ hi] at e;cases e;exact ⟨v,aJ (by rw [r.len]; exact hi),is⟩
  ·rw [ay (bo q)] at e;obtain ⟨w,h1,h2⟩:=r.val j d' (λz=>G ((jg j).mpr ⟨z,by simp [q]⟩)) e;exact ⟨w,by rw [ay (bo q)]; exact h1,h2⟩
 ow:=λj d' G e=>by have l:=(jg j).mp G;have q:j≠i:=λz=>l.2 (by simp [z]);rw [ay (bo q)] at e;obtain ⟨a,h1,h2⟩:=r.ow j d' l.1 e;exact ⟨a,by rw [ay (bo q)]; exact h1,h2⟩
 opn:=λj G=>by have l:=(jg j).mp G;have q:j≠i:=λz=>l.2 (by simp [z]);obtain ⟨d',e⟩:=r.opn j l.1;exact ⟨d',by rw [ay (bo q)]; exact e⟩
 dis:=λj k a G c e1 b=>by have l:=(jg j).mp G;have h:=(jg k).mp c;rw [ay (λz=>l.2 (by simp [z]))] at e1;rw [ay (λz=>h.2 (by simp [z]))] at b;exact r.dis j k a l.1 h.1 e1 b
theorem OA.put (h:OA (wJ own [i]) (σ.set i (iu v)) b):OA own σ b:=by obtain ⟨j,G,e⟩:=h;have l:=(jg j).mp G;rw [ay (λz=>l.2 (by simp [z]))] at e;exact ⟨j,l.1,e⟩
noncomputable def jl (i:Nat) (fe:je):qV:=λρ=>(fe ρ).bind λp=>if i < p.2.length then .ok (.nx,p.2.set i (iu p.1)) else .bad
theorem qgG (l:X.N.Nodup) (hi:X.N[i]?=iu x) (hx:Loc X.env.scope x) (k:PE X e (tE C own m fe)) (f:m≠.any:=by decide) (o:i∉C.io:=by exact zj rfl) (s:swapsWith e (iu (.Name x pos')) pos.line X.env=pure false:=by rfl)
  (g:X.fn x=iC\/X.env.scope.names.lookup x=iu .local:=by first | exact .inl rfl | exact .inr rfl):PS X (.Assign [.Name x pos'] e pos) (tSt C own (wJ own [i]) (jl i fe)):=by
 refine Kj (qfi l hi hx (ya k f) s g) λD σ H ⟨F,ρ,r,h⟩=>⟨F,ρ,r,PoS.bindE h λv F1 H1 d ρ1 a n c h1=>?_⟩
 by_cases q:i < ρ1.length;·have h1:PoS C own (wJ own [i]) σ F1 H1 (if i < ρ1.length then .ok (.nx,ρ1.set i (iu d)) else .bad) D:=h1;rw [if_pos q] at h1;exact h1 _ F1 H1 ⟨a.put q c,.refl,λb z=>.inl (OA.put z),λj G=>ay λz=>o (by rw [z]; exact G)⟩
 ·have h1:PoS C own (wJ own [i]) σ F1 H1 (if i < ρ1.length then .ok (.nx,ρ1.set i (iu d)) else .bad) D:=h1;rw [if_neg q] at h1;exact h1.elim
theorem Rep.putO (r:Rep K own F H σ ρ) (hi:i < ρ.length) (D:F a=iw) (n:¬OA own σ a) (o:OwnIs K F H a d):Rep K (i::wJ own [i]) F H (σ.set i (iu (.ref a))) (ρ.set i (iu d)) where
 sub:=r.sub
 len:=by simp [r.len]
 val:=λj d' G e=>by have q:j≠i:=λz=>G (by simp [z]);rw [ay (bo q)] at e;obtain ⟨w,h1,h2⟩:=r.val j d' (λz=>G (aa _ ((jg j).mpr ⟨z,by simp [q]⟩))) e;exact ⟨w,by rw [ay (bo q)]; exact h1,h2⟩
 ow:=λj d' G e=>by
  by_cases q:j=i;·subst q;rw [aJ hi] at e;cases e;exact ⟨a,aJ (by rw [r.len]; exact hi),D,o⟩
  ·have l:=(jg j).mp ((ac.mp G).resolve_left q);rw [ay (bo q)] at e;obtain ⟨b,h1,h2⟩:=r.ow j d' l.1 e;exact ⟨b,by rw [ay (bo q)]; exact h1,h2⟩
 opn:=λj G=>by
  by_cases q:j=i;·subst q; exact ⟨d,aJ hi⟩
  ·have l:=(jg j).mp ((ac.mp G).resolve_left q);obtain ⟨d',e⟩:=r.opn j l.1;exact ⟨d',by rw [ay (bo q)]; exact e⟩
 dis:=λj k b G p e1 f=>by
  have m:i < σ.length:=by rw [r.len]; exact hi
  by_cases g:j=i
  ·by_cases c:k=i;·rw [g,c]
   ·subst g;have h:=(jg k).mp ((ac.mp p).resolve_left c);rw [aJ m] at e1;cases e1;rw [ay (bo c)] at f;exact absurd ⟨k,h.1,f⟩ n
  ·have l:=(jg j).mp ((ac.mp G).resolve_left g);by_cases c:k=i;·subst c;rw [aJ m] at f;cases f;rw [ay (bo g)] at e1;exact absurd ⟨j,l.1,e1⟩ n
   ·have h:=(jg k).mp ((ac.mp p).resolve_left c);rw [ay (bo g)] at e1;rw [ay (bo c)] at f;exact r.dis j k b l.1 h.1 e1 f
theorem qdO (w:X.N.Nodup) (hi:X.N[i]?=iu x) (hx:Loc X.env.scope x) (u:PE X e (tE C own .fr fe)) (f:i∉C.io:=by exact zj rfl) (s:swapsWith e (iu (.Name x pos')) pos.line X.env=pure false:=by rfl)
  (t:X.fn x=iC\/X.env.scope.names.lookup x=iu .local:=by first | exact .inl rfl | exact .inr rfl):PS X (.Assign [.Name x pos'] e pos) (tSt C own (i::wJ own [i]) (jl i fe)):=by
 refine Kj (qfi w hi hx u s t) λD σ H ⟨F,ρ,k,h⟩=>⟨F,ρ,k,?_⟩
 unfold jl at h;cases q:fe ρ with
 | ok p=>
  rw [q] at h;obtain ⟨d,ρ1⟩:=p;intro v F1 H1 r B m;obtain ⟨a,rfl,n,A,o⟩:=m;by_cases z:i < ρ1.length
  ·have h1:PoS C own (i::wJ own [i]) σ F H (if i < ρ1.length then .ok (.nx,ρ1.set i (iu d)) else .bad) D:=h;rw [if_pos z] at h1;refine h1 _ F1 H1 ⟨r.putO z A (λy=>(k.OA_there y).1 n) o,B,λb y=>?_,λj G=>ay λy=>f (by rw [y]; exact G)⟩;obtain ⟨j,G,e⟩:=y;by_cases g:j=i;·subst g;rw [aJ (by rw [r.len]; exact z)] at e;cases e;exact .inr n
   ·have l:=(jg j).mp ((ac.mp G).resolve_left g);rw [ay (bo g)] at e;exact .inl ⟨j,l.1,e⟩
  ·have h1:PoS C own (i::wJ own [i]) σ F H (if i < ρ1.length then .ok (.nx,ρ1.set i (iu d)) else .bad) D:=h;rw [if_neg z] at h1;exact h1.elim
 | exc c=>rw [q] at h; exact h
 | bad=>rw [q] at h; exact h.elim
end
inductive AK where
 | vl | sl (i:Nat) | fr
 deriving DecidableEq
def ArgV (K:Frag) (H0 F H:Hp) (σ:St):List AK->List V->List D->Prop
 | [],[],[]=>True
 | .vl::as,v::vs,d::ds=>Is K F v d/\ArgV K H0 F H σ as vs ds
 | .sl i::as,v::vs,d::ds=>σ[i]?=iu (iu v)/\d=.non/\ArgV K H0 F H σ as vs ds
 | .fr::as,v::vs,d::ds=>MoIs K .fr H0 F H v d/\ArgV K H0 F H σ as vs ds
 | _,_,_=>False
variable {H0 F' H':Hp}
theorem ArgV.grow {A:Addr->Prop} (c:Chg A F H F' H') (hA:∀ x,A x->H0 x≠iw):∀ {as:List AK} {vs:List V} {ds:List D},ArgV K H0 F H σ as vs ds->ArgV K H0 F' H' σ as vs ds
 | [],[],[],h=>trivial
 | .vl::as,v::vs,d::ds,h=>⟨h.1.mono c.grow,ArgV.grow c hA h.2⟩
 | .sl i::as,v::vs,d::ds,h=>⟨h.1,h.2.1,ArgV.grow c hA h.2.2⟩
 | .fr::as,v::vs,d::ds,h=>⟨h.1.grow (by decide) c hA,ArgV.grow c hA h.2⟩
 | [],_::_,_,h=>h.elim
 | [],[],_::_,h=>h.elim
 | .vl::_,[],_,h=>h.elim
 | .vl::_,_::_,[],h=>h.elim
 | .sl _::_,[],_,h=>h.elim
 | .sl _::_,_::_,[],h=>h.elim
 | .fr::_,[],_,h=>h.elim
 | .fr::_,_::_,[],h=>h.elim
theorem ArgV.back {A:Addr->Prop} {F0:Hp} (c:Chg A F0 H0 F1 H1):∀ {as:List AK} {vs:List V} {ds:List D},ArgV K H1 F H σ as vs ds->ArgV K H0 F H σ as vs ds
 | [],[],[],h=>trivial
 | .vl::as,v::vs,d::ds,h=>⟨h.1,ArgV.back c h.2⟩
 | .sl i::as,v::vs,d::ds,h=>⟨h.1,h.2.1,ArgV.back c h.2.2⟩
 | .fr::as,v::vs,d::ds,h=>⟨MoIs.back (Ha:=H1) c h.1,ArgV.back c h.2⟩
 | [],_::_,_,h=>h.elim
 | [],[],_::_,h=>h.elim
 | .vl::_,[],_,h=>h.elim
 | .vl::_,_::_,[],h=>h.elim
 | .sl _::_,[],_,h=>h.elim
 | .sl _::_,_::_,[],h=>h.elim
 | .fr::_,[],_,h=>h.elim
 | .fr::_,_::_,[],h=>h.elim
def PoA (C:Ct) (own:List Nat) (as:List AK) (σ:St) (F H:Hp) (r:Out (List D×Sl)) (Q:List V->Hp->Prop):Prop:=match r with
 | .ok (ds,ρ')=>∀ vs F' H',Rep C.K own F' H' σ ρ'->Chg (OA own σ) F H F' H'->ArgV C.K H F' H' σ as vs ds->Q vs H'
 | .exc c ρ'=>∀ F' H',Same F' H'->qay C.K C.ox F' H' σ ρ'->Chg (OA own σ) F H F' H'->C.E (C.cv c) iw H'
 | .bad=>False
abbrev uV:=Sl->Out (List D×Sl)
def tAr (C:Ct) (own:List Nat) (as:List AK) (f:uV):TA:=λσ H Q=>∃ F ρ,Rep C.K own F H σ ρ/\PoA C own as σ F H (f ρ) Q
variable {as:List AK}
theorem PoA.bindV {ma:Mo} {o:WR} {k:D×Sl->Out (List D×Sl)} {Q:List V->Hp->Prop} {R:VK} (hp:PoA C own as σ F H (o.bind k) Q)
  (h:∀ v F1 H1 d ρ1,Rep C.K own F1 H1 σ ρ1->Chg (OA own σ) F H F1 H1->MoIs C.K ma H F1 H1 v d->PoA C own as σ F H (k (d,ρ1)) Q->R v H1):Po C own ma σ F H o R:=by
 cases o with
 | ok p=>obtain ⟨d,ρ1⟩:=p;exact λv F1 H1 a c mo=>h v F1 H1 d ρ1 a c mo hp
 | exc x=>exact hp
 | bad=>exact hp.elim
theorem Po.bindA {as:List AK} {o:Out (List D×Sl)} {k:List D×Sl->WR} {Q:VK} {R:List V->Hp->Prop} (hp:Po C own m σ F H (o.bind k) Q)
  (h:∀ vs F1 H1 ds ρ1,Rep C.K own F1 H1 σ ρ1->Chg (OA own σ) F H F1 H1->ArgV C.K H F1 H1 σ as vs ds->Po C own m σ F1 H1 (k (ds,ρ1)) Q->R vs H1):PoA C own as σ F H o R:=by
 cases o with
 | ok p=>obtain ⟨d,ρ1⟩:=p;exact λvs F1 H1 a c v=>h vs F1 H1 d ρ1 a c v (Po.shift (show Po C own m σ F H (k (d,ρ1)) Q from hp) c)
 | exc x=>exact hp
 | bad=>exact hp.elim
noncomputable def qx:uV:=λρ=>.ok ([],ρ)
noncomputable def qd (fe:je) (fr:uV):uV:=λρ=>(fe ρ).bind λp=>(fr p.2).bind λq=>.ok (p.1::q.1,q.2)
noncomputable def kb (fr:uV):uV:=λρ=>(fr ρ).bind λq=>.ok (D.non::q.1,q.2)
variable {es:List Expr} {p:Addr} {u:HO}
section
variable {fe:je} {fr:uV}
theorem qgH {t t':TA} (h:PA X es t) (i:∀ σ H Q,t' σ H Q->t σ H Q):PA X es t':=⟨λpos pins s σ H Q I w=>h pos pins s σ H Q I (i σ H Q w)⟩
theorem qf:PA X [] (tAr C own [] qx):=qgH jO λσ H Q ⟨F,ρ,a,h⟩=>h [] F H a .refl trivial
theorem WX {a:AK} {Q:List V->Hp->Prop} {v:V} (h:∀ x,OA own σ x->H x≠iw) (e:Rep C.K own F1 H1 σ ρ1) (k:Chg (OA own σ) F H F1 H1) (hp:PoA C own (a::as) σ F H ((fr ρ1).bind λq=>.ok (d::q.1,q.2)) Q)
  (g:∀ b H2 vs ds,Chg (OA own σ) F1 H1 b H2->ArgV C.K H b H2 σ as vs ds->ArgV C.K H b H2 σ (a::as) (v::vs) (d::ds)):tAr C own as fr σ H1 λxs H2=>Q (v::xs) H2:=by
 refine ⟨F1,ρ1,e,?_⟩;cases q:fr ρ1 with
 | ok p=>rw [q] at hp;obtain ⟨ds,ρ2⟩:=p;exact λvs b H2 r c2 f=>hp (v::vs) b H2 r (k.trans' c2) (g b H2 vs ds c2 (ArgV.back k f))
 | exc c=>rw [q] at hp; exact λF' H' s io U=>hp F' H' s io (k.trans' U)
 | bad=>rw [q] at hp; exact hp.elim
theorem qc (g:PE X e (tE C own m fe)) (hr:PA X es (tAr C own as fr)) (b:m≠.any:=by decide) (s:starEach (e::es) X.env=(iE,eval e X.env)::starEach es X.env:=by exact jR rfl):PA X (e::es) (tAr C own (.vl::as) (qd fe fr)):=by
 refine qgH (qX (ya g b) hr s) λσ H Q ⟨F,ρ,r,h⟩=>⟨F,ρ,r,PoA.bindV h λv F1 H1 d ρ1 a k c h1=>?_⟩
 exact WX (λx z=>(r.OA_there z).1) a k h1 λi H2 vs ds c2 f=>⟨Is.mono c2.grow c,f⟩
theorem kO {px:Pos} (e:X.N[i]?=iu x) (c:Vis X.env.scope x) (l:i∈own) (hr:PA X es (tAr C own as fr)) (s:starEach (.Name x px::es) X.env=(iE,eval (.Name x px) X.env)::starEach es X.env:=by rfl)
  (hd:Dbg x:=by decide) (b:Cdk x:=by decide):PA X (.Name x px::es) (tAr C own (.sl i::as) (kb fr)):=by
 refine qgH (qX (xC e c hd b) hr s) λσ H Q ⟨F,ρ,r,h⟩=>?_;obtain ⟨d,hd⟩:=r.opn i l;obtain ⟨a,h1,h2,f⟩:=r.ow i d l hd;exact ⟨_,h1,WX (λx z=>(r.OA_there z).1) r .refl h λg H2 vs ds c2 v=>⟨h1,rfl,v⟩⟩
theorem ArgV.isL:∀ {as:List AK} {vs:List V} {ds:List D},(as.all λa=>decide (a=.vl))=iC->ArgV K H0 F H σ as vs ds->IsL K F vs ds
 | [],[],[],_,_=>.nil
 | .vl::as,v::vs,d::ds,h,a=>.cons a.1 (ArgV.isL (by simpa using h) a.2)
 | .sl i::as,_,_,h,a=>by simp at h
 | .fr::as,_,_,h,a=>by simp at h
 | [],_::_,_,_,h=>h.elim
 | [],[],_::_,_,h=>h.elim
 | .vl::_,[],_,_,h=>h.elim
 | .vl::_,_::_,[],_,h=>h.elim
noncomputable def xF (fr:uV):je:=λρ=>(fr ρ).bind λp=>if p.1.length<=sizeLine then .ok (.tup p.1,p.2) else .bad
noncomputable def gK (fr:uV):je:=λρ=>(fr ρ).bind λp=>if p.1.length<=sizeLine then .ok (.lst p.1,p.2) else .bad
theorem qiR (a:Rep C.K own F H σ ρ) (hp:H p=iw):Rep C.K own (upd F p u) (upd H p u) σ ρ/\Chg No F H (upd F p u) (upd H p u):=by
 have D:F p=none:=by
  cases q:F p with
  | none=>rfl
  | some o=>rw [a.sub p o q] at hp; cases hp
 have c:Chg No F H (upd F p u) (upd H p u):=⟨λb o e _=>by rw [qA (qH e hp)]; exact e,λb e=>by
  by_cases q:b=p;·rw [q,qu]; simp
  ·rw [qA q]; exact e,λb o e=>by rw [qA (qH e D)]; exact e,λb e=>by
  by_cases q:b=p;·exact .inr (.inl (by rw [q]; exact hp))
  ·rw [qA q] at e; exact .inl e⟩
 refine ⟨a.grow c λb o e=>?_,c⟩;by_cases q:b=p;·subst q; rw [qu] at e ⊢; exact e
 ·rw [qA q] at e ⊢; exact a.sub b o e
theorem qbd (a:Rep C.K own F H σ ρ) (hp:H p=iw):Rep C.K own F (upd H p u) σ ρ/\Chg No F H F (upd H p u)/\F p=none:=by
 have D:F p=none:=by
  cases q:F p with
  | none=>rfl
  | some o=>rw [a.sub p o q] at hp; cases hp
 have c:Chg No F H F (upd H p u):=⟨λb o e _=>by rw [qA (qH e hp)]; exact e,λb e=>by
  by_cases q:b=p;·rw [q,qu]; simp
  ·rw [qA q]; exact e,Same.refl _,λb e=>.inl e⟩
 exact ⟨a.grow c λb o e=>by rw [qA (qH e D)]; exact a.sub b o e,c,D⟩
theorem vm {x1} (h:PA X es (tAr C own as fr)) (g:(as.all λa=>decide (a=.vl))=true:=by decide):PE X (.Tuple es x1 pos) (tE C own .sh (xF fr)):=by
 refine jU (qiw h) λσ H Q ⟨F,ρ,c,h⟩=>⟨F,ρ,c,Po.bindA h λvs F1 H1 ds ρ1 b k v h1=>?_⟩
 have i:=v.isL g;have h1:Po C own .sh σ F1 H1 (if ds.length<=sizeLine then .ok (.tup ds,ρ1) else .bad) Q:=h1;by_cases z:ds.length<=sizeLine;·rw [if_pos z] at h1;refine ⟨by rw [i.length]; exact z,λp hp=>?_⟩;obtain ⟨r,c2⟩:=qiR (u:=.tup vs) b hp;exact h1 _ _ _ r c2.ofNo (.tup (.inl (.inl qu)) (i.mono c2.grow))
 ·rw [if_neg z] at h1; exact h1.elim
theorem kB (h:PA X es (tAr C own as fr)) (g:(as.all λa=>decide (a=.vl))=true:=by decide):PE X (.List es pos) (tE C own .fr (gK fr)):=by
 refine jU (qix h) λσ H Q ⟨F,ρ,c,h⟩=>⟨F,ρ,c,Po.bindA h λvs F1 H1 ds ρ1 b k v h1=>?_⟩
 have i:=v.isL g;have h1:Po C own .fr σ F1 H1 (if ds.length<=sizeLine then .ok (.lst ds,ρ1) else .bad) Q:=h1;by_cases z:ds.length<=sizeLine;·rw [if_pos z] at h1;refine ⟨by rw [i.length]; exact z,λp hp=>?_⟩;obtain ⟨r,c2,D⟩:=qbd (u:=.lst vs) b hp;exact h1 _ _ _ r c2.ofNo ⟨p,rfl,hp,D,vs,qu,i⟩
 ·rw [if_neg z] at h1; exact h1.elim
theorem Vs:PE X (.Dict [] [] pos) (tE C own .fr (dC (.dct []))):=by refine jU qdF λσ H Q ⟨F,ρ,a,h⟩ p hp=>?_;obtain ⟨r,c2,D⟩:=qbd (u:=.dK []) a hp;exact h _ _ _ r c2.ofNo ⟨p,rfl,hp,D,[],qu,.nil⟩
noncomputable def ixD:D->D->Out D
 | .lst xs,.int i=>match atI xs i with
  | some d=>.ok d
  | none=>.bad
 | .tup xs,.int i=>match atI xs i with
  | some d=>.ok d
  | none=>.bad
 | .str x,.int i=>match atI x.cps.toList i with
  | some c=>.ok (.str ⟨#[c]⟩)
  | none=>.bad
 | .dct kvs,.str x=>match (kvs.find? λkv=>decide (kv.1=bu x)) with
  | some kv=>.ok kv.2
  | none=>.bad
 | .dct kvs,.int x=>match (kvs.find? λkv=>decide (kv.1=fq x)) with
  | some kv=>.ok kv.2
  | none=>.bad
 | _,_=>.bad
theorem IsL.atI {i:Int} (h:IsL K F vs ds) (e:L2.atI ds i=iu d):∃ v,L2.atI vs i=iu v/\Is K F v d:=by
 unfold L2.atI at e ⊢;rw [h.length];cases q:ixN ds.length i with
 | none=>rw [q] at e; cases e
 | some j=>rw [q] at e;exact h.getD e
theorem IsK.find {k:Key}:∀ {vs:List (Key×V)} {ds:List (Key×D)} {d:Key×D},IsK K F vs ds->(ds.find? λkv=>decide (kv.1=k))=iu d->∃ v,Yn vs k=iu v/\Is K F v d.2
 | _,_,_,.nil,e=>by simp at e
 | _,_,d,.cons (k:=k') (vs:=vs) h t,e=>by
  by_cases q:k'=k;·rw [bL (by simp [q])] at e;cases e;exact ⟨_,Qm q,h⟩
  ·rw [bC (by simp [q])] at e;obtain ⟨v,h1,h2⟩:=IsK.find t e;exact ⟨v,by rw [zh q]; exact h1,h2⟩
theorem Zi (c:Nat):(⟨#[c]⟩:Str).length<=sizeLine:=by show 1<=sizeLine;rw [iL]; decide
def qlQ (K:Frag):R2:=λx y H Q=>rIx K x y H Q\/∃ a v,x=.ref a/\DGet H a y (iu v)/\Q v H
theorem qfn (f:X.A.units+1 < cLine):IxR X (qlQ X.K):=by
 refine IxR.or qiB ?_;intro value e pins s σ H x y v u Q I d c h b;obtain ⟨a,w,rfl,g,q⟩:=h;cases d;obtain ⟨T,ht⟩:∃ T,s.TypeIs (.ref a) T/\T = "dict":=⟨_,Yt I g,rfl⟩
 obtain ⟨ht,rfl⟩:=ht;exact tail_any ht PySem.slot_dict_getitem.lookup (qaW f I g c λj s' i r=>⟨w,H,i,r,q⟩) b
end
variable {T:String}
section
variable {a b:Expr} {f fa fb:je}
theorem qfo {σ:St} {x y:V} {dx b:D} {Q:VK} (n:C.K=X.K) (A:Same F H) (tx:TopIs C.K F H x dx) (ty:TopIs C.K F H y b) (po:PoV C .sh F H (ixD dx b) Q):qlQ X.K x y H Q:=by
 rw [n] at tx ty;cases dx with
 | lst xs=>
  cases b <;> try exact po.elim
  rename_i i;obtain rfl:=ty.int;obtain ⟨a,vs,rfl,p,t⟩:=tx.lst A;unfold ixD at po;cases e:L2.atI xs i with
  | none=>simp only [e] at po; exact po.elim
  | some d=>simp only [e] at po;obtain ⟨v,h1,h2⟩:=t.atI e;exact .inl (.inl ⟨a,vs,i,v,rfl,rfl,p,h1,po v F H A .refl (by rw [n]; exact h2)⟩)
 | tup xs=>
  cases b <;> try exact po.elim
  rename_i i;obtain rfl:=ty.int;obtain ⟨a,vs,rfl,p,t⟩:=tx.tup A;unfold ixD at po;cases e:L2.atI xs i with
  | none=>simp only [e] at po; exact po.elim
  | some d=>simp only [e] at po;obtain ⟨v,h1,h2⟩:=t.atI e;exact .inl (.inr (.inl ⟨a,vs,i,v,rfl,rfl,p,h1,po v F H A .refl (by rw [n]; exact h2)⟩))
 | str z=>
  cases b <;> try exact po.elim
  rename_i i;obtain rfl:=ty.int;obtain ⟨rfl,h⟩:=tx.str;unfold ixD at po;cases e:L2.atI z.cps.toList i with
  | none=>simp only [e] at po; exact po.elim
  | some c=>simp only [e] at po;exact .inl (.inr (.inr ⟨z,i,c,rfl,rfl,h,e,po _ F H A .refl (.str (Zi c))⟩))
 | dct kvs=>
  obtain ⟨a,kv,rfl,p,t⟩:=tx.dct A;cases b with
  | int i=>
   obtain rfl:=ty.int;unfold ixD at po;cases e:(kvs.find? λkv=>decide (kv.1=fq i)) with
   | none=>simp only [e] at po; exact po.elim
   | some d=>simp only [e] at po;obtain ⟨v,h1,h2⟩:=t.find e;exact .inr ⟨a,v,rfl,by rw [<-h1]; exact DGet.k (k:=fq i) p,po v F H A .refl (by rw [n]; exact h2)⟩
  | str z=>
   obtain ⟨rfl,_⟩:=ty.str;unfold ixD at po;cases e:(kvs.find? λkv=>decide (kv.1=bu z)) with
   | none=>simp only [e] at po; exact po.elim
   | some d=>simp only [e] at po;obtain ⟨v,h1,h2⟩:=t.find e;exact .inr ⟨a,v,rfl,by rw [<-h1]; exact DGet.k (k:=bu z) p,po v F H A .refl (by rw [n]; exact h2)⟩
  | _=>exact po.elim
 | _=>exact po.elim
theorem qk0 (u:C.K=X.K) (D:X.A.units+64 < cLine) (t:PE X a (tE C own ma fa)) (o:PE X b (tE C own mb fb)) (n:Vp b) (j:ma≠.any:=by decide):PE X (.Subscript a b pos) (tE C own .sh (d2 ixD fa fb)):=by
 refine jU (qiz (qfn (by lia)) t o n) λσ H Q h=>?_;obtain ⟨F,ρ,l,h⟩:=WS (mb:=mb) j h;refine ⟨F,ρ,l,?_⟩;cases q:fa ρ with
 | ok p=>
  rw [q] at h;obtain ⟨d,ρ1⟩:=p;intro v F1 H1 f x i;obtain ⟨B,ρ2,e,h2⟩:=h v F1 H1 f x i;refine ⟨B,ρ2,e,?_⟩;cases g:fb ρ2 with
  | ok p=>rw [g] at h2;obtain ⟨d',k⟩:=p;intro w z y r J m;obtain ⟨M,dx,E,s,tx,ty,po⟩:=h2 w z y r J m;exact qfo (σ:=σ) u s tx ty po
  | exc c=>rw [g] at h2; exact h2
  | bad=>rw [g] at h2; exact h2.elim
 | exc c=>rw [q] at h; exact h
 | bad=>rw [q] at h; exact h.elim
def Jd (X:Cx) (C:Ct) (m:Mo) (f:iB) (g:D->Out D):Prop:=xu X f (λxs H Q=>∃ x F dx,xs=[x]/\Same F H/\TopIs C.K F H x dx/\PoV C m F H (g dx) Q)
theorem ge {Q:VK} {g:D->Out D} (h:tE C own m (d1 g fa) σ H Q):qdz (tE C own ma fa) qkN σ H λxs H1=>∃ x F dx,xs=[x]/\Same F H1/\TopIs C.K F H1 x dx/\PoV C m F H1 (g dx) Q:=by
 obtain ⟨F,ρ,r,h⟩:=qdI (ma:=ma) h;refine ⟨F,ρ,r,?_⟩;cases q:fa ρ with
 | ok p=>rw [q] at h;obtain ⟨d,ρ1⟩:=p;intro v F1 H1 a k b;obtain ⟨e,dx,A,tx,po⟩:=h v F1 H1 a k b;exact ⟨v,e,dx,rfl,A,tx,po⟩
 | exc c=>rw [q] at h; exact h
 | bad=>rw [q] at h; exact h.elim
theorem qy {id:String} {p:Pos} {g:D->Out D} (d:Jd X C m (.builtin id) g) (hg:Gl X x) (a:X.mg x=iw) (c:bootBuiltins x=iu (.builtin id)) (f:PE X e (tE C own ma fa)) (n:x ≠ "__name__":=by decide) (b:Dbg x:=by decide)
  (i:starEach [e] X.env=[(iE,eval e X.env)]:=by exact qO rfl):PE X (.Call (.Name x p) [e] [] pos) (tE C own m (d1 g fa)):=
 jU (zf d hg a c (qX f jO i) n b (by rw [i]; rfl) rfl) λ_ _ _ h=>ge h
theorem ju {p:Pos} {g:D->Out D} (d:Jd X C m (.type T) g) (hg:Gl X x) (a:X.mg x=iw) (c:bootBuiltins x=iu (.type T)) (f:PE X e (tE C own ma fa)) (n:x ≠ "__name__":=by decide) (b:Dbg x:=by decide)
  (i:starEach [e] X.env=[(iE,eval e X.env)]:=by exact qO rfl):PE X (.Call (.Name x p) [e] [] pos) (tE C own m (d1 g fa)):=
 jU (uY d hg a c (qX f jO i) n b (by rw [i]; rfl) rfl) λ_ _ _ h=>ge h
noncomputable def kC:D->Out D
 | .str x=>.ok (.int x.length)
 | .lst xs=>.ok (.int xs.length)
 | .tup xs=>.ok (.int xs.length)
 | .dct xs=>.ok (.int xs.length)
 | _=>.bad
theorem IsK.length:∀ {vs:List (Key×V)} {ds:List (Key×D)},IsK K F vs ds->vs.length=ds.length
 | _,_,.nil=>rfl
 | _,_,.cons _ t=>congrArg (·+1) (IsK.length t)
theorem ji (n:C.K=X.K):Jd X C .sh (.builtin "len") kC:=by
 intro pins s σ H xs us Q I r h;obtain ⟨x,F,dx,rfl,A,tx,po⟩:=h;cases dx with
 | str z=>obtain ⟨rfl,b⟩:=tx.str;exact Vn pins s σ H _ us Q I r ⟨_,_,rfl,⟨b,rfl⟩,po _ F H A .refl (.int _)⟩
 | lst ds=>obtain ⟨a,vs,rfl,p,t⟩:=tx.lst A;exact Vn pins s σ H _ us Q I r ⟨_,ds.length,rfl,.inl ⟨vs,by rw [<-n]; exact p,t.length.symm⟩,po _ F H A .refl (.int _)⟩
 | tup ds=>obtain ⟨a,vs,rfl,p,t⟩:=tx.tup A;exact Vn pins s σ H _ us Q I r ⟨_,ds.length,rfl,.inr ⟨vs,by rw [<-n]; exact p,t.length.symm⟩,po _ F H A .refl (.int _)⟩
 | dct ds=>obtain ⟨a,vs,rfl,p,t⟩:=tx.dct A;refine qaZ pins s σ H _ us Q I r ⟨a,vs,rfl,p,?_⟩;rw [t.length];exact po _ F H A .refl (.int _)
 | _=>exact po.elim
noncomputable def vK:D->D->Out D
 | .int i,.int j=>.ok (.int (i+j))
 | .str x,.str y=>if x.length+y.length<=sizeLine then .ok (.str (x++y)) else .bad
 | .lst xs,.lst ys=>if xs.length+ys.length<=sizeLine then .ok (.lst (xs++ys)) else .bad
 | .tup xs,.tup ys=>if xs.length+ys.length<=sizeLine then .ok (.tup (xs++ys)) else .bad
 | _,_=>.bad
theorem xN (A:Same F H) (hp:H p=iw):Same (upd F p u) (upd H p u)/\Chg No F H (upd F p u) (upd H p u):=by
 have D:F p=none:=by
  cases q:F p with
  | none=>rfl
  | some o=>rw [A p o q] at hp; cases hp
 refine ⟨λb o e=>?_,⟨λb o e _=>by rw [qA (qH e hp)]; exact e,λb e=>?_,λb o e=>by rw [qA (qH e D)]; exact e,λb e=>?_⟩⟩
 ·by_cases q:b=p;·subst q; rw [qu] at e ⊢; exact e
  ·rw [qA q] at e ⊢; exact A b o e
 ·by_cases q:b=p;·rw [q,qu]; simp
  ·rw [qA q]; exact e
 ·by_cases q:b=p;·exact .inr (.inl (by rw [q]; exact hp))
  ·rw [qA q] at e; exact .inl e
theorem wK (A:Same F H) (hp:H p=iw):Same F (upd H p u)/\Chg No F H F (upd H p u)/\F p=none:=by
 have D:F p=none:=by
  cases q:F p with
  | none=>rfl
  | some o=>rw [A p o q] at hp; cases hp
 refine ⟨λb o e=>by rw [qA (qH e D)]; exact A b o e,⟨λb o e _=>by rw [qA (qH e hp)]; exact e,λb e=>?_,Same.refl _,λb e=>.inl e⟩,D⟩;by_cases q:b=p;·rw [q,qu]; simp
 ·rw [qA q]; exact e
theorem Yz (x y:Str):(x++y).length=x.length+y.length:=by show (x.cps++y.cps).size=_;simp [h8]
theorem qgI:OpR X (binaryOp .Add) (λx y H Q=>∃ l b xs zs,x=.ref l/\y=.ref b/\SqL X.K H l xs/\SqL X.K H b zs/\xs.length+zs.length<=sizeLine/\∀ p,H p=iw->Q (.ref p) (upd H p (.lst (xs++zs)))):=by
 intro pins s σ H x y v u Q I k r h;obtain ⟨l,b,xs,zs,rfl,rfl,h1,h2,z,q⟩:=h;cases k;cases r;obtain ⟨its,r1,p1,_⟩:=I.list h1;obtain ⟨i,r2,p2,_⟩:=I.list h2;obtain ⟨⟨cls,dd,data,sl⟩,o,f,n,hd⟩:=id p1.isList;obtain ⟨⟨j,e,g,d⟩,a,c,n2,hd2⟩:=id p2.isList;simp only at f hd c hd2;subst f hd c hd2;have t:=r1.length;have m:=r2.length;refine lE ⟨_,o,rfl⟩ ⟨_,a,rfl⟩ noFill_list_add seq_list_add PySem.F.slot_list_add PySem.F.entry_list_add (PySem.F.args_list_add_2 _ _)
  (list_addW l b its.toArray i.toArray n n2 dd e sl d (by simp only [aw]; lia)) ⟨o,a,?_⟩
 have w:its.toArray++i.toArray=(its++i).toArray:=by simp
 rw [w];exact ⟨.ref _,_,I.lnew (t':=s.toks) (r1.append r2) (by rw [ai]; exact z),rfl,q _ I.fresh⟩
theorem qgJ:OpR X (binaryOp .Add) (λx y H Q=>∃ a b ys,x=.ref a/\y=.ref b/\SqT X.K H a []/\SqT X.K H b ys/\Q (.ref b) H):=by
 intro pins s σ H x y v u Q I m r h;obtain ⟨a,b,ys,rfl,rfl,h1,h2,q⟩:=h;cases m;cases r;obtain ⟨its,r1,p1,_⟩:=I.tuple h1;obtain ⟨i,r2,p2,_⟩:=I.tuple h2;cases r1;obtain ⟨⟨cls,dd,data,sl⟩,l,j,n,hd⟩:=id p1;obtain ⟨⟨k,f,g,e⟩,c,d,n2,hd2⟩:=id p2;simp only at j hd d hd2;subst j hd d hd2;exact lE ⟨_,l,rfl⟩ ⟨_,c,rfl⟩ noFill_tuple_add seq_tuple_add eU d8 (dU _ _)
  (tuple_addW0 a b _ _ n n2 dd f sl e rfl) ⟨l,c,⟨.ref b,H,I,rfl,q⟩⟩
theorem jH (n:C.K=X.K):OpD X C .sh (binaryOp .Add) vK:=by
 intro pins s σ H x y v u Q I d r h;obtain ⟨F,dx,f,A,tx,ty,po⟩:=h;cases dx with
 | int i=>
  cases f <;> try exact po.elim
  obtain rfl:=tx.int;obtain rfl:=ty.int;exact qio pins s σ H _ _ v u Q I d r ⟨_,_,rfl,rfl,po _ F H A .refl (.int _)⟩
 | str a=>
  cases f <;> try exact po.elim
  rename_i b;obtain ⟨rfl,_⟩:=tx.str;obtain ⟨rfl,_⟩:=ty.str;have po:PoV C .sh F H (if a.length+b.length<=sizeLine then .ok (.str (a++b)) else .bad) Q:=po;by_cases z:a.length+b.length<=sizeLine;·rw [if_pos z] at po;exact GH pins s σ H _ _ v u Q I d r ⟨_,_,rfl,rfl,z,po _ F H A .refl (.str (by rw [Yz]; exact z))⟩
  ·rw [if_neg z] at po; exact po.elim
 | lst xs=>
  cases f <;> try exact po.elim
  rename_i ys;obtain ⟨a,vs,rfl,p1,c⟩:=tx.lst A;obtain ⟨b,ws,rfl,p2,t⟩:=ty.lst A;have po:PoV C .sh F H (if xs.length+ys.length<=sizeLine then .ok (.lst (xs++ys)) else .bad) Q:=po;by_cases z:xs.length+ys.length<=sizeLine;·rw [if_pos z] at po;refine qgI pins s σ H _ _ v u Q I d r ⟨a,b,vs,ws,rfl,rfl,by rw [<-n]; exact p1,by rw [<-n]; exact p2,by rw [c.length,t.length]; exact z,λp hp=>?_⟩;obtain ⟨s2,c2⟩:=xN (u:=.lst (vs++ws)) A hp;exact po _ _ _ s2 c2 (.lst (.inl (.inl qu)) ((c.append t).mono c2.grow))
  ·rw [if_neg z] at po; exact po.elim
 | tup xs=>
  cases f <;> try exact po.elim
  rename_i ys;obtain ⟨a,vs,rfl,p1,c⟩:=tx.tup A;obtain ⟨b,ws,rfl,p2,t⟩:=ty.tup A;have po:PoV C .sh F H (if xs.length+ys.length<=sizeLine then .ok (.tup (xs++ys)) else .bad) Q:=po;by_cases z:xs.length+ys.length<=sizeLine
  ·rw [if_pos z] at po;cases vs with
   | nil=>
    cases c;rcases ty with ty | ⟨_,_,ty⟩
    ·exact qgJ pins s σ H _ _ v u Q I d r ⟨a,b,ws,rfl,rfl,by rw [<-n]; exact p1,by rw [<-n]; exact p2,po _ F H A .refl ty⟩
    ·exact ty.elim
   | cons g vs=>
    refine qgr pins s σ H _ _ v u Q I d r ⟨a,b,g::vs,ws,rfl,rfl,by rw [<-n]; exact p1,by rw [<-n]; exact p2,by simp,by rw [c.length,t.length]; exact z,λe=>?_,λe p hp=>?_⟩
    ·subst e;cases t;rcases tx with tx | ⟨_,_,tx⟩
     ·refine po _ F H A .refl ?_;rw [bh];exact tx
     ·exact tx.elim
    ·obtain ⟨s2,c2⟩:=xN (u:=.tup (g::vs++ws)) A hp;exact po _ _ _ s2 c2 (.tup (.inl (.inl qu)) ((c.append t).mono c2.grow))
  ·rw [if_neg z] at po; exact po.elim
 | _=>exact po.elim
end
inductive PM where
 | val | io | tk
 deriving DecidableEq
noncomputable def Qf:List PM->List V->List Addr
 | .val::ms,_::vs=>Qf ms vs
 | .io::ms,.ref a::vs=>a::Qf ms vs
 | .tk::ms,.ref a::vs=>a::Qf ms vs
 | _::ms,_::vs=>Qf ms vs
 | _,_=>[]
def ArgsIs (K:Frag) (F H:Hp):List PM->List V->List D->Prop
 | [],[],[]=>True
 | .val::ms,v::vs,d::ds=>Is K F v d/\ArgsIs K F H ms vs ds
 | .io::ms,v::vs,d::ds=>(∃ a,v=.ref a/\F a=iw/\OwnIs K F H a d)/\ArgsIs K F H ms vs ds
 | .tk::ms,v::vs,d::ds=>(∃ a,v=.ref a/\F a=iw/\OwnIs K F H a d)/\ArgsIs K F H ms vs ds
 | _,_,_=>False
def zl (K:Frag) (F H:Hp):List PM->List V->List D->Prop
 | [],_,_=>True
 | .io::ms,v::vs,d::ds=>(∃ a,v=.ref a/\F a=iw/\OwnIs K F H a d)/\zl K F H ms vs ds
 | _::ms,_::vs,_::ds=>zl K F H ms vs ds
 | _,_,_=>False
abbrev LA (ms:List PM) (vs:List V):Addr->Prop:=λb=>b∈Qf ms vs
def PoG (K:Frag) (cv:Str->iB) (ms:List PM) (mr:Mo) (vs:List V) (F H:Hp) (Q:VK) (E:XK) (o:Out (D×List D)):Prop:=match o with
 | .ok (d,outs)=>∀ v F' H',Same F' H'->Chg (LA ms vs) F H F' H'->zl K F' H' ms vs outs->MoIs K mr H F' H' v d->Q v H'
 | .exc c o=>∀ F' H',Same F' H'->Chg (LA ms vs) F H F' H'->zl K F' H' ms vs (o.map (·.getD .non))->E (cv c) iw H'
 | .bad=>False
abbrev jz:=List D->Out (D×List D)
def spD (K:Frag) (cv:Str->iB) (ms:List PM) (mr:Mo) (G:jz):Sp:=λvs H Q E=>∃ F ds,Same F H/\ArgsIs K F H ms vs ds/\(Qf ms vs).Nodup/\PoG K cv ms mr vs F H Q E (G ds)
theorem ArgsIs.length:∀ {ms:List PM} {vs:List V} {ds:List D},ArgsIs K F H ms vs ds->vs.length=ms.length/\ds.length=ms.length
 | [],[],[],_=>⟨rfl,rfl⟩
 | .val::ms,v::vs,d::ds,h=>by have:=ArgsIs.length h.2; simp [this]
 | .io::ms,v::vs,d::ds,h=>by have:=ArgsIs.length h.2; simp [this]
 | .tk::ms,v::vs,d::ds,h=>by have:=ArgsIs.length h.2; simp [this]
 | [],_::_,_,h=>h.elim
 | [],[],_::_,h=>h.elim
 | .val::_,[],_,h=>h.elim
 | .val::_,_::_,[],h=>h.elim
 | .io::_,[],_,h=>h.elim
 | .io::_,_::_,[],h=>h.elim
 | .tk::_,[],_,h=>h.elim
 | .tk::_,_::_,[],h=>h.elim
noncomputable def kE (n:Nat):List PM->List Nat
 | []=>[]
 | .val::ms=>kE (n+1) ms
 | _::ms=>n::kE (n+1) ms
noncomputable def GM (n:Nat):List PM->List Nat
 | []=>[]
 | .io::ms=>n::GM (n+1) ms
 | _::ms=>GM (n+1) ms
variable {n:Nat}
theorem zm:∀ {ms:List PM} {i:Nat},i∈kE n ms->n<=i/\i < n+ms.length:=by
 intro ms
 induction ms generalizing n with
 | nil=>intro i h; simp [kE] at h
 | cons m ms j=>
  intro i h;cases m with
  | val=>have:=j (n:=n+1) h; simp only [aq]; lia
  | io=>
   rcases ac.mp h with e | h;·simp only [aq]; lia
   ·have:=j (n:=n+1) h; simp only [aq]; lia
  | tk=>
   rcases ac.mp h with e | h;·simp only [aq]; lia
   ·have:=j (n:=n+1) h; simp only [aq]; lia
theorem qdP:∀ {ms:List PM} {i:Nat},i∈GM n ms->i∈kE n ms:=by
 intro ms
 induction ms generalizing n with
 | nil=>intro i h; simp [GM] at h
 | cons m ms j=>
  intro i h;cases m with
  | val=>exact j (n:=n+1) h
  | io=>
   rcases ac.mp h with e | h;·exact ac.mpr (.inl e)
   ·exact aa _ (j (n:=n+1) h)
  | tk=>exact aa _ (j (n:=n+1) h)
theorem GN:∀ {ms:List PM} {vs:List V} {ds:List D} {n:Nat},ArgsIs K F H ms vs ds ->(∀ j d,ds[j]?=iu d->n+j∉kE n ms->∃ v,vs[j]?=iu v/\Is K F v d) /\
  (∀ j d,ds[j]?=iu d->n+j∈kE n ms->∃ a,vs[j]?=iu (.ref a)/\F a=iw/\OwnIs K F H a d):=by
 intro ms
 induction ms with
 | nil=>intro vs ds n h; cases vs <;> cases ds <;> first | exact h.elim | (refine ⟨λj d e=>?_,λj d e=>?_⟩ <;> simp at e)
 | cons m ms i=>
  intro vs ds n h;cases vs with
  | nil=>cases m <;> exact h.elim
  | cons v vs=>
   cases ds with
   | nil=>cases m <;> exact h.elim
   | cons d ds=>
    cases m with
    | val=>
     obtain ⟨h1,h2⟩:=h;obtain ⟨i1,i2⟩:=i (n:=n+1) h2;refine ⟨λj e G b=>?_,λj e G b=>?_⟩
     ·cases j with
      | zero=>simp at G; subst G; exact ⟨v,rfl,h1⟩
      | succ j=>simpa using i1 j e (by simpa using G) (by rw [show n+1+j=n+(j+1) by lia]; exact b)
     ·cases j with
      | zero=>have:=zm (n:=n+1) b; lia
      | succ j=>simpa using i2 j e (by simpa using G) (by rw [show n+1+j=n+(j+1) by lia]; exact b)
    | io=>
     obtain ⟨⟨a,rfl,h1⟩,h2⟩:=h;obtain ⟨i1,i2⟩:=i (n:=n+1) h2;refine ⟨λj e G b=>?_,λj e G b=>?_⟩
     ·cases j with
      | zero=>exact absurd (ac.mpr (.inl rfl)) b
      | succ j=>simpa using i1 j e (by simpa using G) (λz=>b (aa _ (by rw [show n+(j+1)=n+1+j by lia]; exact z)))
     ·cases j with
      | zero=>simp at G; subst G; exact ⟨a,rfl,h1⟩
      | succ j=>
       have c:n+1+j∈kE (n+1) ms:=by
        rcases ac.mp b with z | z
        ·lia
        ·rw [show n+1+j=n+(j+1) by lia]; exact z
       simpa using i2 j e (by simpa using G) c
    | tk=>
     obtain ⟨⟨a,rfl,h1⟩,h2⟩:=h;obtain ⟨i1,i2⟩:=i (n:=n+1) h2;refine ⟨λj e G b=>?_,λj e G b=>?_⟩
     ·cases j with
      | zero=>exact absurd (ac.mpr (.inl rfl)) b
      | succ j=>simpa using i1 j e (by simpa using G) (λz=>b (aa _ (by rw [show n+(j+1)=n+1+j by lia]; exact z)))
     ·cases j with
      | zero=>simp at G; subst G; exact ⟨a,rfl,h1⟩
      | succ j=>
       have c:n+1+j∈kE (n+1) ms:=by
        rcases ac.mp b with z | z
        ·lia
        ·rw [show n+1+j=n+(j+1) by lia]; exact z
       simpa using i2 j e (by simpa using G) c
theorem qbe:∀ {ms:List PM} {vs:List V} {j:Nat} {a:Addr},n+j∈kE n ms->vs[j]?=iu (.ref a)->a∈Qf ms vs:=by
 intro ms
 induction ms generalizing n with
 | nil=>intro vs j a h; simp [kE] at h
 | cons m ms i=>
  intro vs j a h e;cases vs with
  | nil=>simp at e
  | cons v vs=>
   cases j with
   | zero=>
    simp at e; subst e;cases m with
    | val=>have:=zm (n:=n+1) h; omega
    | io=>exact ac.mpr (.inl rfl)
    | tk=>exact ac.mpr (.inl rfl)
   | succ j=>
    have b:vs[j]?=iu (.ref a):=by simpa using e
    have sub:n+1+j∈kE (n+1) ms:=by
     rw [show n+1+j=n+(j+1) by omega];cases m with
     | val=>exact h
     | io=>exact (ac.mp h).resolve_left (by omega)
     | tk=>exact (ac.mp h).resolve_left (by omega)
    have q:=i (n:=n+1) sub b;cases m <;> cases v <;> first | exact q | exact aa _ q
theorem qbf:∀ {ms:List PM} {vs:List V} {a:Addr},a∈Qf ms vs->∃ j,n+j∈kE n ms/\vs[j]?=iu (.ref a):=by
 intro ms
 induction ms generalizing n with
 | nil=>intro vs a h; cases vs <;> simp [Qf] at h
 | cons m ms i=>
  intro vs a h;cases vs with
  | nil=>cases m <;> simp [Qf] at h
  | cons v vs=>
   have up:∀ {b},b∈Qf ms vs->∃ j,n+j∈kE n (m::ms)/\(v::vs)[j]?=iu (.ref b):=λd=>by
    obtain ⟨j,h1,h2⟩:=i (n:=n+1) d;refine ⟨j+1,?_,by simpa using h2⟩;rw [show n+(j+1)=n+1+j by lia];cases m with
    | val=>exact h1
    | io=>exact aa _ h1
    | tk=>exact aa _ h1
   cases m with
   | val=>exact up (by cases v <;> exact h)
   | io=>
    cases v with
    | ref c=>
     rcases ac.mp h with e | h;·subst e; exact ⟨0,ac.mpr (.inl rfl),rfl⟩
     ·exact up h
    | _=>exact up h
   | tk=>
    cases v with
    | ref c=>
     rcases ac.mp h with e | h;·subst e; exact ⟨0,ac.mpr (.inl rfl),rfl⟩
     ·exact up h
    | _=>exact up h
theorem qdQ:∀ {ms:List PM} {vs:List V} {i j:Nat} {a:Addr},(Qf ms vs).Nodup->n+i∈kE n ms->n+j∈kE n ms->vs[i]?=iu (.ref a)->vs[j]?=iu (.ref a)->i=j:=by
 intro ms
 induction ms generalizing n with
 | nil=>intro vs i j a _ h; simp [kE] at h
 | cons m ms f=>
  intro vs i j a nd hi G e1 e;cases vs with
  | nil=>simp at e1
  | cons v vs=>
   have sub:∀ {k},n+(k+1)∈kE n (m::ms)->n+1+k∈kE (n+1) ms:=λ{k} h=>by
    rw [show n+1+k=n+(k+1) by lia];cases m with
    | val=>exact h
    | io=>exact (ac.mp h).resolve_left (by lia)
    | tk=>exact (ac.mp h).resolve_left (by lia)
   have d:(Qf ms vs).Nodup:=by cases m <;> cases v <;> first | exact nd | exact (aN.mp nd).2
   have c:∀ {k b},n+0∈kE n (m::ms)->v=.ref b->n+(k+1)∈kE n (m::ms)->vs[k]?=iu (.ref b)->False:=λ{k b} o g l p=>by
    subst g;have q:=qbe (n:=n+1) (sub l) p;cases m with
    | val=>have:=zm (n:=n+1) o; lia
    | io=>exact (aN.mp nd).1 q
    | tk=>exact (aN.mp nd).1 q
   cases i with
   | zero=>
    cases j with
    | zero=>rfl
    | succ j=>exact (c hi (by simpa using e1) G (by simpa using e)).elim
   | succ i=>
    cases j with
    | zero=>exact (c G (by simpa using e) hi (by simpa using e1)).elim
    | succ j=>exact congrArg (·+1) (f (n:=n+1) d (sub hi) (sub G) (by simpa using e1) (by simpa using e))
noncomputable def qv (N:List Str) (ds:List D):Sl:=ds.map iu++bE (N.length - ds.length) iw
variable {α:Type} {N:List Str}
theorem get_start {xs:List α} {x:α}:(xs.map iu++bE (N.length - xs.length) iw)[i]?=iu (iu x)↔xs[i]?=iu x:=by
 by_cases h:i < xs.length
 ·rw [cj (by simpa using h),aF];cases e:xs[i]? with
  | none=>simp
  | some y=>simp
 ·rw [bY (by simpa using h),cB];have e:xs[i]?=none:=bM.mpr (by lia);rw [e];split <;> simp
variable {ms:List PM}
theorem qbg (A:Same F H) (r:ArgsIs K F H ms vs ds) (nd:(Qf ms vs).Nodup):Rep K (kE 0 ms) F H (ze N vs) (qv N ds):=by
 obtain ⟨h1,h2⟩:=GN (n:=0) r;obtain ⟨c,l⟩:=r.length;refine ⟨A,by simp [ze,qv,c,l],λi d hi e=>?_,λi d hi e=>?_,λi hi=>?_,λi j a hi G e1 f=>?_⟩;·obtain ⟨v,a,b⟩:=h1 i d (get_start.mp e) (by simpa using hi);exact ⟨v,get_start.mpr a,b⟩
 ·obtain ⟨v,a,b⟩:=h2 i d (get_start.mp e) (by simpa using hi);exact ⟨v,get_start.mpr a,b⟩
 ·have q:=zm hi;have hl:i < ds.length:=by lia
  exact ⟨ds[i],get_start.mpr (by simp [hl])⟩
 ·exact qdQ (n:=0) nd (by simpa using hi) (by simpa using G) (get_start.mp e1) (get_start.mp f)
theorem oa_start:OA (kE 0 ms) (ze N vs) b↔LA ms vs b:=by
 constructor;·rintro ⟨i,hi,e⟩;exact qbe (n:=0) (by simpa using hi) (get_start.mp e)
 ·intro h;obtain ⟨j,h1,h2⟩:=qbf (n:=0) h;exact ⟨j,by simpa using h1,get_start.mpr h2⟩
noncomputable def ke (ρ:Sl):Nat->List PM->List D
 | _,[]=>[]
 | n,.io::ms=>((ρ[n]?).getD iw).getD .non::ke ρ (n+1) ms
 | n,_::ms=>.non::ke ρ (n+1) ms
theorem qgK {σ:St} {N:List Str}:∀ {ms:List PM} {vs:List V} {n:Nat},vs.length=ms.length->(∀ i∈GM n ms,∃ d a,ρ[i]?=iu (iu d)/\vs[i - n]?=iu (V.ref a)/\F a=iw/\OwnIs K F H a d)->zl K F H ms vs (ke ρ n ms):=by
 intro ms
 induction ms with
 | nil=>intro vs n _ _; trivial
 | cons m ms j=>
  intro vs n hl h;cases vs with
  | nil=>simp at hl
  | cons v vs=>
   have rest:(∀ i∈GM (n+1) ms,i∈GM n (m::ms))->zl K F H ms vs (ke ρ (n+1) ms):=λc=>by refine j (by simpa using hl) λi hi=>?_;obtain ⟨d,a,e1,e,E⟩:=h i (c i hi);have q:=zm (qdP hi);refine ⟨d,a,e1,?_,E⟩;rw [show i - n=(i - (n+1))+1 by lia] at e;simpa using e
   cases m with
   | val=>exact rest λi hi=>hi
   | io=>obtain ⟨d,a,e1,e,E⟩:=h n (ac.mpr (.inl rfl));refine ⟨⟨a,by simpa using e,E.1,?_⟩,rest λi hi=>aa _ hi⟩;rw [e1];exact E.2
   | tk=>exact rest λi hi=>hi
noncomputable def Fl.val:Fl->Option D
 | .nx=>iu .non
 | .rt d=>iu d
 | _=>iw
noncomputable def jS (N:List Str) (ms:List PM) (f:qV) (ds:List D):Out (D×List D):=match f (qv N ds) with
 | .ok (.nx,ρ)=>.ok (.non,ke ρ 0 ms)
 | .ok (.rt d,ρ)=>.ok (d,ke ρ 0 ms)
 | .ok _=>.bad
 | .exc c ρ=>.exc c ((ke ρ 0 ms).map iu)
 | .bad=>.bad
theorem Zj:∀ (l:List D),(l.map iu).map (λx:Option D=>x.getD .non)=l
 | []=>rfl
 | a::l=>congrArg (a::·) (Zj l)
def Out.le {α:Type} (a b:Out α):Prop:=a=.bad\/a=b
theorem qgL {f:qV} {Q:VK} {o:Out (D×List D)} (j:C.io=GM 0 ms) (l:C.ox=C.io) (r:C.mr=.sh\/∀ ρ,(f (qv N ds))≠.ok (.nx,ρ)) (g:∀ i∈GM 0 ms,i∈own') (A:Same F H) (t:ArgsIs C.K F H ms vs ds) (nd:(Qf ms vs).Nodup)
  (G:Out.le o (jS N ms f ds)) (h:PoG C.K C.cv ms C.mr vs F H Q C.E o):tSt C (kE 0 ms) own' f { nx:=λ_ H'=>Q .non H',rt:=Q } (ze N vs) H:=by
 refine ⟨F,qv N ds,qbg A t nd,?_⟩;have hl:=t.length.1;have ch:∀ {F' H'},Chg (OA (kE 0 ms) (ze N vs)) F H F' H'->Chg (LA ms vs) F H F' H':=λc=>c.mono λx z=>oa_start.mp z;have b:∀ {σ':St} {ρ':Sl} {F' H':Hp},qay C.K C.io F' H' σ' ρ'->(∀ i∈C.io,σ'[i]?=(ze N vs)[i]?)->zl C.K F' H' ms vs (ke ρ' 0 ms):=λ{σ' ρ' F' H'} io e=>by
  refine qgK (N:=N) (σ:=σ') hl λi hi=>?_;have k:i∈C.io:=by rw [j]; exact hi
  obtain ⟨d,a,e1,m,y⟩:=io i k;refine ⟨d,a,e1,?_,y⟩;rw [e i k] at m;exact get_start.mp m
 rcases G with e | e;·subst e; exact h.elim
 ·subst e;unfold jS at h;cases q:f (qv N ds) with
  | ok p=>
   rw [q] at h;obtain ⟨w,ρ'⟩:=p;cases w with
   | nx=>have u:C.mr=.sh:=r.resolve_right λz=>z ρ' q;exact λσ' F' H' n=>h .non F' H' n.rep.sub (ch n.chg) (b (n.rep.ioIs (by rw [j]; exact g)) n.io) (by rw [u]; exact .non)
   | rt d=>exact λv σ' F' H' s io c e mo=>h v F' H' s (ch c) (b io e) mo
   | bk=>exact h.elim
   | ct=>exact h.elim
  | exc c ρ'=>rw [q] at h;exact λF' H' s io U=>h F' H' s (ch U) (by rw [Zj]; exact b (σ':=ze N vs) (by rw [<-l]; exact io) λ_ _=>rfl)
  | bad=>rw [q] at h; exact h.elim
def qk1 (K:Frag) (cv:Str->iB) (E:XK) (ms:List PM) (mr:Mo):Ct:=⟨K,cv,E,GM 0 ms,mr,[],GM 0 ms,λ_ h=>h⟩
theorem qlR {P:iH} {w:iI} {K:Frag} {mg:Str->Option iB} {base:Heap} {CX:CXT} {x qual:Str} {st:Stmt} {f:Addr} {fd:j6} {N ps:List Str} {k:Nat} {cv:Str->iB} {ms:List PM} {mr:Mo} {own':List Nat} {fb:qV} {G:jz}
  (F:Fun K x qual st f fd) (S:FnScope N ps (qm st)) (hl:ms.length=ps.length) (g:∀ i∈GM 0 ms,i∈own') (r:mr=.sh\/∀ ds ρ,(fb (qv N ds))≠.ok (.nx,ρ))
  (a:∀ (cdv:iB) (A:iK) (outer:List Env) (s:iF) (H:Hp) (E:XK),Room k (A.deeper (envOfC qual (qm st) s.heap.objs.size f cdv)) ->PSs (qgn CX P w K mg base N qual (qm st) f cdv A outer s H E) (wI st) (tSt (qk1 K cv E ms mr) (kE 0 ms) own' fb))
  (e:∀ ds,Out.le (G ds) (jS N ms fb ds)):FnOk P w K mg base CX (k+1) f fd ps (spD K cv ms mr G):=by
 obtain ⟨oc,od,kV,doc,pm,an,cdv,ct,osl,rfl,j,d⟩:=F.ex;refine qkP j d S (λvs H Q E h=>?_) λA outer s H vs Q E hr p=>?_;·obtain ⟨F,ds,_,b,_⟩:=h;rw [b.length.1,hl]
 ·obtain ⟨F1,ds,c,b,nd,h⟩:=p;refine ⟨_,a cdv A outer s H E hr,?_⟩;exact qgL (C:=qk1 K cv E ms mr) rfl rfl (r.imp id λz ρ=>z ds ρ) g c b nd (e ds) h
noncomputable def WB:AK->PM
 | .vl=>.val
 | .sl _=>.io
 | .fr=>.tk
noncomputable def vf:List AK->List D->Sl->Option (List D)
 | [],[],_=>iu []
 | .sl i::as,_::ds,ρ=>match ρ[i]? with
  | some (iu d)=>(vf as ds ρ).map (d::·)
  | _=>iw
 | .vl::as,d::ds,ρ=>(vf as ds ρ).map (d::·)
 | .fr::as,d::ds,ρ=>(vf as ds ρ).map (d::·)
 | _,_,_=>iw
noncomputable def Qq:List AK->List D->Sl->Sl
 | .sl i::as,d::outs,ρ=>Qq as outs (ρ.set i (iu d))
 | _::as,_::outs,ρ=>Qq as outs ρ
 | _,_,ρ=>ρ
noncomputable def jv:List AK->List Nat
 | []=>[]
 | .sl i::as=>i::jv as
 | _::as=>jv as
noncomputable def frA:List AK->Nat
 | []=>0
 | .fr::as=>frA as+1
 | _::as=>frA as
section
theorem zn:∀ {as:List AK} {vs:List V} {ds f:List D},Rep K own F H σ ρ->(∀ i∈jv as,i∈own)->ArgV K H0 F H σ as vs ds->vf as ds ρ=iu f->ArgsIs K F H (as.map WB) vs f
 | [],vs,ds,f,rp,hs,av,e=>by cases vs <;> cases ds <;> first | exact av.elim | (simp [vf] at e; subst e; trivial)
 | a::as,[],ds,f,rp,hs,av,e=>by cases a <;> exact av.elim
 | a::as,v::vs,[],f,rp,hs,av,e=>by cases a <;> exact av.elim
 | .vl::as,v::vs,d::ds,f,rp,hs,av,e=>by
  cases q:vf as ds ρ with
  | none=>simp [vf,q] at e
  | some l=>
   have e:d::l=f:=by simpa [vf,q] using e
   subst e;exact ⟨av.1,zn rp hs av.2 q⟩
 | .fr::as,v::vs,d::ds,f,rp,hs,av,e=>by
  cases q:vf as ds ρ with
  | none=>simp [vf,q] at e
  | some l=>
   have e:d::l=f:=by simpa [vf,q] using e
   subst e;obtain ⟨a,h1,_,h2,h⟩:=av.1;exact ⟨⟨a,h1,h2,h⟩,zn rp hs av.2 q⟩
 | .sl i::as,v::vs,d::ds,f,rp,hs,av,e=>by
  obtain ⟨h1,_,b⟩:=av;have hi:i∈own:=hs i (ac.mpr (.inl rfl));obtain ⟨d',hd⟩:=rp.opn i hi;obtain ⟨a,e1,c,E⟩:=rp.ow i d' hi hd;rw [h1] at e1;cases e1;cases q:vf as ds ρ with
  | none=>simp [vf,q,hd] at e
  | some l=>
   have e:d'::l=f:=by simpa [vf,q,hd] using e
   subst e;exact ⟨⟨a,rfl,c,E⟩,zn rp (λj G=>hs j (aa _ G)) b q⟩
theorem vL:∀ {as:List AK} {vs:List V} {ds:List D} {b:Addr},ArgV K H0 F H σ as vs ds->b∈Qf (as.map WB) vs->(∃ i∈jv as,σ[i]?=iu (iu (V.ref b)))\/(H0 b=iw/\frA as≠0/\H b≠iw/\F b=iw)
 | [],vs,ds,b,av,h=>by cases vs <;> simp [Qf] at h
 | a::as,[],ds,b,av,h=>by cases a <;> exact av.elim
 | a::as,v::vs,[],b,av,h=>by cases a <;> exact av.elim
 | .vl::as,v::vs,d::ds,b,av,h=>by
  have h:b∈Qf (as.map WB) vs:=by cases v <;> exact h
  exact vL (as:=as) av.2 h
 | .fr::as,v::vs,d::ds,b,av,h=>by
  obtain ⟨⟨a,rfl,g,f,o⟩,c⟩:=av;have h:b∈a::Qf (as.map WB) vs:=h;rcases ac.mp h with e | h;·subst e; exact .inr ⟨g,by simp [frA],o.there,f⟩
  ·rcases vL c h with z | ⟨z,_,z2⟩
   ·exact .inl z
   ·exact .inr ⟨z,by simp [frA],z2⟩
 | .sl i::as,v::vs,d::ds,b,av,h=>by
  obtain ⟨h1,_,c⟩:=av;have up:b∈Qf (as.map WB) vs->(∃ j∈jv (.sl i::as),σ[j]?=iu (iu (V.ref b)))\/(H0 b=iw/\frA (.sl i::as)≠0/\H b≠iw/\F b=iw):=λh=>by
   rcases vL c h with ⟨j,hj,e⟩ | z;·exact .inl ⟨j,aa _ hj,e⟩
   ·exact .inr z
  cases v with
  | ref a=>
   have h:b∈a::Qf (as.map WB) vs:=h;rcases ac.mp h with e | h;·subst e; exact .inl ⟨i,ac.mpr (.inl rfl),h1⟩
   ·exact up h
  | _=>exact up h
theorem yJ:∀ {as:List AK} {vs:List V} {ds:List D},Rep K own F H σ ρ->(∀ x,OA own σ x->H0 x≠iw)->(∀ i∈jv as,i∈own)->(jv as).Nodup->frA as<=1->ArgV K H0 F H σ as vs ds->(Qf (as.map WB) vs).Nodup
 | [],vs,ds,rp,h0,hs,nd,hf,av=>by cases vs <;> simp [Qf]
 | a::as,[],ds,rp,h0,hs,nd,hf,av=>by cases a <;> exact av.elim
 | a::as,v::vs,[],rp,h0,hs,nd,hf,av=>by cases a <;> exact av.elim
 | .vl::as,v::vs,d::ds,rp,h0,hs,nd,hf,av=>by have q:=yJ (as:=as) rp h0 hs nd hf av.2;cases v <;> exact q
 | .fr::as,v::vs,d::ds,rp,h0,hs,nd,hf,av=>by
  have f:frA as=0:=by simp only [frA] at hf; lia
  obtain ⟨⟨a,rfl,k,l,o⟩,b⟩:=av;show (a::Qf (as.map WB) vs).Nodup;refine aN.mpr ⟨λz=>?_,yJ rp h0 hs nd (by lia) b⟩;rcases vL b z with ⟨i,hi,e⟩ | ⟨_,n,_⟩
  ·exact h0 a ⟨i,hs i hi,e⟩ k
  ·exact n f
 | .sl i::as,v::vs,d::ds,rp,h0,hs,nd,hf,av=>by
  obtain ⟨h1,_,b⟩:=av;have h:∀ j∈jv as,j∈own:=λj G=>hs j (aa _ G);have hi:i∈own:=hs i (ac.mpr (.inl rfl));obtain ⟨g,c⟩:=aN.mp nd;have q:=yJ rp h0 h c hf b;cases v with
  | ref a=>
   show (a::Qf (as.map WB) vs).Nodup;refine aN.mpr ⟨λz=>?_,q⟩;rcases vL b z with ⟨j,G,e⟩ | ⟨n,_⟩
   ·exact g (by rw [rp.dis i j a hi (h j G) h1 e]; exact G)
   ·exact h0 a ⟨i,hi,h1⟩ n
  | _=>exact q
theorem uc:∀ {as:List AK} {b:List D} {ρ:Sl} {i:Nat},i∉jv as->(Qq as b ρ)[i]?=ρ[i]?
 | [],b,ρ,i,h=>by cases b <;> rfl
 | a::as,[],ρ,i,h=>by cases a <;> rfl
 | .vl::as,d::b,ρ,i,h=>uc (as:=as) h
 | .fr::as,d::b,ρ,i,h=>uc (as:=as) h
 | .sl j::as,d::b,ρ,i,h=>by
  have h':i≠j/\i∉jv as:=by simpa [jv] using h
  show (Qq as b (ρ.set j (iu d)))[i]?=_;rw [uc h'.2,ay (bo h'.1)]
theorem Qr:∀ {as:List AK} {b:List D} {ρ:Sl},(Qq as b ρ).length=ρ.length
 | [],b,ρ=>by cases b <;> rfl
 | a::as,[],ρ=>by cases a <;> rfl
 | .vl::as,d::b,ρ=>Qr (as:=as)
 | .fr::as,d::b,ρ=>Qr (as:=as)
 | .sl j::as,d::b,ρ=>by show (Qq as b (ρ.set j (iu d))).length=_;rw [Qr,cF]
theorem Vt {F' H':Hp}:∀ {as:List AK} {vs:List V} {ds b:List D} {ρ:Sl},(jv as).Nodup->(∀ i∈jv as,i < ρ.length)->ArgV K H0 F H σ as vs ds->zl K F' H' (as.map WB) vs b->∀ i∈jv as,∃ d a,(Qq as b ρ)[i]?=iu (iu d)/\σ[i]?=iu (iu (V.ref a))/\F' a=iw/\OwnIs K F' H' a d
 | [],vs,ds,b,ρ,nd,hl,av,o,i,hi=>by simp [jv] at hi
 | a::as,[],ds,b,ρ,nd,hl,av,o,i,hi=>by cases a <;> exact av.elim
 | a::as,v::vs,[],b,ρ,nd,hl,av,o,i,hi=>by cases a <;> exact av.elim
 | a::as,v::vs,d::ds,[],ρ,nd,hl,av,o,i,hi=>by cases a <;> exact o.elim
 | .vl::as,v::vs,d::ds,u::b,ρ,nd,hl,av,o,i,hi=>Vt (as:=as) nd hl av.2 o i hi
 | .fr::as,v::vs,d::ds,u::b,ρ,nd,hl,av,o,i,hi=>Vt (as:=as) nd hl av.2 o i hi
 | .sl j::as,v::vs,d::ds,u::b,ρ,nd,hl,av,o,i,hi=>by
  obtain ⟨g,n⟩:=aN.mp nd;obtain ⟨h1,_,c⟩:=av;obtain ⟨⟨a,e,f,ow⟩,o2⟩:=o;subst e;rcases ac.mp hi with e | hi;·subst e;refine ⟨u,a,?_,h1,f,ow⟩;show (Qq as b (ρ.set i (iu u)))[i]?=_;rw [uc g,aJ (hl i (ac.mpr (.inl rfl)))]
  ·exact Vt (as:=as) (ρ:=ρ.set j (iu u)) n (λk h=>by rw [cF]; exact hl k (aa _ h)) c o2 i hi
end
noncomputable def qr (as:List AK) (G:jz) (fr:uV):je:=λρ=>(fr ρ).bind λp=>match vf as p.1 p.2 with
 | some ds=>match G ds with
  | .ok q=>.ok (q.1,Qq as q.2 p.2)
  | .exc c o=>.exc c (Qq as (o.map (·.getD .non)) p.2)
  | .bad=>.bad
 | none=>.bad
variable {mr:Mo} {f:Addr} {ps:List Str}
section
variable {G:jz} {fr:uV}
theorem Zk {F' H':Hp} {b:List D} (r:Rep C.K own F H σ ρ) (m:∀ x,OA own σ x->H0 x≠iw) (h:∀ i∈jv as,i∈own) (nd:(jv as).Nodup) (k:ArgV C.K H0 F H σ as vs ds)
  (A:Same F' H') (c:Chg (LA (as.map WB) vs) F H F' H') (o:zl C.K F' H' (as.map WB) vs b):Rep C.K own F' H' σ (Qq as b ρ):=by
 have pin:=Vt (ρ:=ρ) nd (λi hi=>by obtain ⟨d,e⟩:=r.opn i (h i hi);exact (aC.mp e).1) k o;refine ⟨A,by rw [Qr]; exact r.len,λi d hi e=>?_,λi d hi e=>?_,λi hi=>?_,r.dis⟩;·rw [uc (λz=>hi (h i z))] at e;obtain ⟨v,h1,h2⟩:=r.val i d hi e;exact ⟨v,h1,h2.mono c.grow⟩
 ·by_cases q:i∈jv as;·obtain ⟨d',a,e1,s,E,p⟩:=pin i q;rw [e1] at e;cases e;exact ⟨a,s,E,p⟩
  ·rw [uc q] at e;obtain ⟨a,h1,h2,f⟩:=r.ow i d hi e;have l:¬LA (as.map WB) vs a:=λz=>by
    rcases vL k z with ⟨j,G,t⟩ | ⟨n,_⟩
    ·exact q (by rw [r.dis i j a hi (h j G) h1 t]; exact G)
    ·exact m a ⟨i,hi,h1⟩ n
   refine ⟨a,h1,?_,f.grow c.grow λo' g=>c.keep a o' g l⟩;cases g:F' a with
   | none=>rfl
   | some u=>
    rcases c.new a (by rw [g]; simp) with z | z | z;·exact absurd h2 z
    ·exact absurd z f.there
    ·exact absurd z l
 ·by_cases q:i∈jv as;·obtain ⟨d',a,e1,_⟩:=pin i q;exact ⟨d',e1⟩
  ·rw [uc q];exact r.opn i hi
theorem qgM {Q:VK} (l:∀ i∈C.ox,i∈own) (s:∀ i∈jv as,i∈own) (nd:(jv as).Nodup) (u:frA as<=1) (h:tE C own mr (qr as G fr) σ H Q):tAr C own as fr σ H λvs H1=>spD C.K C.cv (as.map WB) mr G (vs++[]) H1 Q C.E:=by
 obtain ⟨F,ρ,t,h⟩:=h;have m:∀ x,OA own σ x->H x≠none:=λx z=>(t.OA_there z).1;refine ⟨F,ρ,t,?_⟩;unfold qr at h;cases k:fr ρ with
 | ok p=>
  rw [k] at h;obtain ⟨ds,ρ1⟩:=p;intro vs F1 H1 a r g;rw [bh];have h1:Po C own mr σ F H (match vf as ds ρ1 with | some ds=>(match G ds with | .ok q=>.ok (q.1,Qq as q.2 ρ1) | .exc c o=>.exc c (Qq as (o.map (·.getD .non)) ρ1) | .bad=>.bad) | none=>.bad) Q:=h;cases q:vf as ds ρ1 with
  | none=>simp only [q] at h1; exact h1.elim
  | some f=>
   simp only [q] at h1;have lo:∀ x,LA (as.map WB) vs x->OA own σ x\/H x=none:=λx z=>by
    rcases vL g z with ⟨i,hi,e⟩ | ⟨n,_⟩
    ·exact .inl ⟨i,s i hi,e⟩
    ·exact .inr n
   refine ⟨F1,f,a.sub,zn a s g q,yJ a m s nd u g,?_⟩;cases j:G f with
   | ok p=>rw [j] at h1;obtain ⟨d,b⟩:=p;exact λv F' H' A c o mo=>h1 v F' H' (Zk a m s nd g A c o) (r.trans c lo) (MoIs.back (Ha:=H1) r mo)
   | exc x o=>rw [j] at h1; exact λF' H' A c b=>h1 F' H' A ((Zk a m s nd g A c b).ioIs l) (r.trans c lo)
   | bad=>rw [j] at h1; exact h1.elim
 | exc c=>rw [k] at h; exact h
 | bad=>rw [k] at h; exact h.elim
theorem qgN {CX:CXT} {k:Nat} {fd:j6} {p pos:Pos} (F:FnOk X.prog X.w X.K X.mg X.base CX k f fd ps (spD C.K C.cv ms mr G)) (hr:Room k X.A) (hg:Gl X x) (m:X.mg x=iu (.ref f)) (a:keepIn X.K (.ref f)=iC) (j:Binds X.K fd ps []) (hx:zd CX X C.E)
  (n:PA X (e::es) (tAr C own as fr)) (s:ms=as.map WB:=by rfl) (c:∀ i∈jv as,i∈own:=by decide) (nd:(jv as).Nodup:=by decide) (d:frA as<=1:=by decide) (o:∀ i∈C.ox,i∈own:=by exact xD rfl) (b:Dbg x:=by decide) (g:starEach (e::es) X.env=(iE,eval e X.env)::starEach es X.env:=by exact jR rfl)
  (l:(backTo pos (starEach es X.env)).any (·.1)=false:=by exact Qn rfl):PE X (.Call (.Name x p) (e::es) [] pos) (tE C own mr (qr as G fr)):=by
 subst s;exact jU (qgm F hr hg m a j .nil hx n b g l) λσ H Q h=>qgM o c nd d h
end
structure ItIs (K:Frag) (F:Hp) (J:It) (ds:List D):Prop where
 go:∀ i H,i < ds.length->Same F H->J.go i H
 yld:∀ i Fi H x H' d,ds[i]?=iu d->Same F Fi->Same Fi H->J.yld i H x H'->∃ F',Chg No Fi H F' H'/\Same F' H'/\Is K F' x d
 stop:∀ i H,ds.length<=i->Same F H->J.stop i H
def PoI (C:Ct) (own:List Nat) (σ:St) (F H:Hp) (r:Out (List D×Sl)) (R:It->Hp->Prop):Prop:=match r with
 | .ok (ds,ρ')=>∀ J F' H',Rep C.K own F' H' σ ρ'->Chg (OA own σ) F H F' H'->ItIs C.K F' J ds->R J H'
 | .exc c ρ'=>∀ F' H',Same F' H'->qay C.K C.ox F' H' σ ρ'->Chg (OA own σ) F H F' H'->C.E (C.cv c) iw H'
 | .bad=>False
def tIt (C:Ct) (own:List Nat) (f:uV):TI:=λσ H R=>∃ F ρ,Rep C.K own F H σ ρ/\PoI C own σ F H (f ρ) R
noncomputable def GO:D->Out (List D)
 | .lst xs=>.ok xs
 | .tup xs=>.ok xs
 | _=>.bad
noncomputable def qmu (f:je):uV:=λρ=>(f ρ).bind λp=>(GO p.1).bind λds=>.ok (ds,p.2)
theorem PoI.bindV {m:Mo} {o:WR} {k:D×Sl->Out (List D×Sl)} {Q:It->Hp->Prop} {R:VK} (hp:PoI C own σ F H (o.bind k) Q)
  (h:∀ v F1 H1 d ρ1,Rep C.K own F1 H1 σ ρ1->Chg (OA own σ) F H F1 H1->MoIs C.K m H F1 H1 v d->PoI C own σ F H (k (d,ρ1)) Q->R v H1):Po C own m σ F H o R:=by
 cases o with
 | ok p=>exact λv F1 H1 a c mo=>h v F1 H1 p.1 p.2 a c mo hp
 | exc x=>exact hp
 | bad=>exact hp.elim
variable {g:D->Sl->Out Sl} {tg iter:Expr} {xs:List V} {gs:List D->Sl->Out Sl}
section
variable {f:je}
theorem GP {t t':TI} (h:PI X tg e t) (i:∀ σ H Q,t' σ H Q->t σ H Q):PI X tg e t':=⟨λpins s σ H R I w=>h pins s σ H R I (i σ H R w)⟩
theorem qiS (p:SqL K F a xs) (t:IsL K F xs ds):ItIs K F (Itl K a) ds where
 go:=λi H hi s=>by
  have hx:i < xs.length:=by rw [t.length]; exact hi
  exact ⟨xs,xs[i],s.seq p,by simp [hx]⟩
 yld:=λi Fi H x H' d e s1 s2 y=>by obtain ⟨rfl,y⟩:=y;obtain ⟨v,h1,h2⟩:=t.getD e;have q:=y xs ((s1.trans s2).seq p);rw [h1] at q;cases q;exact ⟨Fi,.refl,s2,h2.mono s1⟩
 stop:=λi H hi s=>⟨xs,s.seq p,by rw [t.length]; exact hi⟩
theorem qiT (p:SqT K F a xs) (t:IsL K F xs ds):ItIs K F (Itt K a) ds where
 go:=λi H hi s=>by
  have hx:i < xs.length:=by rw [t.length]; exact hi
  exact ⟨xs,xs[i],qW s p,by simp [hx]⟩
 yld:=λi Fi H x H' d e s1 s2 y=>by obtain ⟨rfl,y⟩:=y;obtain ⟨v,h1,h2⟩:=t.getD e;have q:=y xs (qW (s1.trans s2) p);rw [h1] at q;cases q;exact ⟨Fi,.refl,s2,h2.mono s1⟩
 stop:=λi H hi s=>⟨xs,qW s p,by rw [t.length]; exact hi⟩
noncomputable def gL (lo:Int) (n:Nat):List D:=(aH n).map λk=>.int (lo+(k:Nat))
theorem qfp {lo:Int}:ItIs K F (Itr lo n) (gL lo n) where
 go:=λi H hi _=>by
  have:i < n:=by simpa [gL] using hi
  exact this
 yld:=λi Fi H x H' d e s1 s2 y=>by
  obtain ⟨rfl,rfl⟩:=y;have e:d=.int (lo+i):=by
   unfold gL at e;rw [aF] at e;cases q:(aH n)[i]? with
   | none=>rw [q] at e; cases e
   | some k=>
    rw [q] at e;have h:k=i:=by have:=aC.mp q;obtain ⟨_,z⟩:=this;simpa using z.symm
    subst h;exact (aI.inj e).symm
  subst e;exact ⟨Fi,.refl,s2,.int _⟩
 stop:=λi H hi _=>by
  have:n<=i:=by simpa [gL] using hi
  exact this
noncomputable def kf (f:je):uV:=λρ=>(f ρ).bind λp=>match p.1 with
 | .int j=>if -(2 ^ 62)<=j/\j < 2 ^ 62 then .ok (gL 0 j.toNat,p.2) else .bad
 | _=>.bad
theorem vE {p:Pos} (hg:Gl X "range") (b:X.mg "range"=iw) (h:PE X e (tE C own m f)) (s:starEach [e] X.env=[(iE,eval e X.env)]:=by exact qO rfl):PI X tg (.Call (.Name "range" p) [e] [] pos) (tIt C own (kf f)):=by
 refine GP (qaH hg b (qX h jO s) s) λσ H R ⟨F,ρ,r,h⟩=>⟨F,ρ,r,PoI.bindV h λv F1 H1 d ρ1 a k c h1=>?_⟩
 cases d with
 | int j=>
  obtain rfl:=c.top.int;have h1:PoI C own σ F H (if -(2 ^ 62)<=j/\j < 2 ^ 62 then .ok (gL 0 j.toNat,ρ1) else .bad) R:=h1;by_cases z:-(2 ^ 62)<=j/\j < 2 ^ 62;·rw [if_pos z] at h1;exact ⟨j,rfl,z.1,z.2,h1 _ F1 H1 a k qfp⟩
  ·rw [if_neg z] at h1; exact h1.elim
 | _=>exact h1.elim
def tGd (C:Ct) (own:List Nat) (g:D->Sl->Out Sl):TG:=λv σ H Q=>∃ F ρ d,Rep C.K own F H σ ρ/\Is C.K F v d/\∃ ρ',g d ρ=.ok ρ'/\∀ σ',Rep C.K own F H σ' ρ'->(∀ b,OA own σ' b->OA own σ b)->(∀ i∈C.io,σ'[i]?=σ[i]?)->Q σ' H
def qkb (C:Ct) (own:List Nat) (g:List D->Sl->Out Sl):TGs:=λvs σ H Q=>∃ F ρ ds,Rep C.K own F H σ ρ/\IsL C.K F vs ds/\∃ ρ',g ds ρ=.ok ρ'/\∀ σ',Rep C.K own F H σ' ρ'->(∀ b,OA own σ' b->OA own σ b)->(∀ i∈C.io,σ'[i]?=σ[i]?)->Q σ' H
theorem qiU {t t':TG} (h:PG X e t) (i:∀ v σ H Q,t' v σ H Q->t v σ H Q):PG X e t':=⟨λpins s σ H v u Q I r w=>h pins s σ H v u Q I r (i v σ H Q w)⟩
theorem qfq {t t':TGs} (h:PGs X es t) (i:∀ v σ H Q,t' v σ H Q->t v σ H Q):PGs X es t':=⟨λpins s σ H v u Q I r w=>h pins s σ H v u Q I r (i v σ H Q w)⟩
noncomputable def gNm (i:Nat):D->Sl->Out Sl:=λd ρ=>if i < ρ.length then .ok (ρ.set i (iu d)) else .bad
theorem KB {own:List Nat} (h:i∉own):wJ own [i]=own:=by unfold wJ;rw [fA];intro j G;simp only [ap,decide_eq_true_eq];exact λz=>h (by rw [<-z]; exact G)
theorem Zl (c:X.N.Nodup) (hi:X.N[i]?=iu x) (hx:Loc X.env.scope x) (l:i∉own:=by decide) (o:i∉C.io:=by exact zj rfl) (h:X.fn x=iC\/X.env.scope.names.lookup x=iu .local:=by first | exact .inl rfl | exact .inr rfl):PG X (.Name x pos) (tGd C own (gNm i)):=by
 refine qiU (qge c hi hx h) λv σ H Q ⟨F,ρ,d,a,is,ρ',e,k⟩=>?_;unfold gNm at e;by_cases z:i < ρ.length
 ·rw [if_pos z] at e;cases e;have r2:=a.put z is;rw [KB l] at r2;refine k _ r2 (λb q=>?_) λj G=>ay λq=>o (by rw [q]; exact G);have g:OA (wJ own [i]) (σ.set i (iu v)) b:=by rw [KB l]; exact q
  exact g.put
 ·rw [if_neg z] at e; cases e
noncomputable def jF:List D->Sl->Out Sl
 | [],ρ=>.ok ρ
 | _::_,_=>.bad
noncomputable def qw (g:D->Sl->Out Sl) (gs:List D->Sl->Out Sl):List D->Sl->Out Sl
 | d::ds,ρ=>(g d ρ).bind λρ1=>gs ds ρ1
 | [],_=>.bad
theorem jT:PGs X [] (qkb C own jF):=by
 refine qfq qgf λvs σ H Q ⟨F,ρ,ds,a,is,ρ',e,k⟩=>?_;cases is with
 | nil=>cases e; exact ⟨rfl,k σ a (λ_ z=>z) λ_ _=>rfl⟩
 | cons _ _=>cases e
theorem qF (h1:PG X e (tGd C own g)) (h2:PGs X es (qkb C own gs)) (s:(assignEach (e::es) X.env).map (·.2)=assign e X.env::(assignEach es X.env).map (·.2):=by rfl):PGs X (e::es) (qkb C own (qw g gs)):=by
 refine qfq (qdu h1 h2 s) λvs σ H Q ⟨F,ρ,ds,p,is,ρ',e,k⟩=>?_;cases is with
 | nil=>cases e
 | @cons v d vs ds a t=>
  have e:(g d ρ).bind (λρ1=>gs ds ρ1)=.ok ρ':=e;cases q:g d ρ with
  | ok ρ1=>rw [q] at e;exact ⟨v,vs,rfl,F,ρ,d,p,a,ρ1,q,λσ1 h j m=>⟨F,ρ1,ds,h,t,ρ',e,λf r o l=>k f r (λb z=>j b (o b z)) λi hi=>(l i hi).trans (m i hi)⟩⟩
  | exc c=>rw [q] at e; cases e
  | bad=>rw [q] at e; cases e
noncomputable def jG (n:Nat) (gs:List D->Sl->Out Sl):D->Sl->Out Sl
 | .tup ds,ρ=>if ds.length=n then gs ds ρ else .bad
 | _,_=>.bad
theorem vg {k:Nat} (g:C.K=X.K) (f:X.calm=iC) (h:PGs X es (qkb C own gs)) (b:(assignEach es X.env).length=n:=by rfl) (c:(assignEach es X.env).findIdx? (·.1)=none:=by rfl):PG X (.Tuple es k pos) (tGd C own (jG n gs)):=by
 refine qiU (qik f h b c) λv σ H Q ⟨F,ρ,d,r,is,ρ',e,k⟩=>?_;cases is with
 | @tup a xs ds p t=>
  have e:(if ds.length=n then gs ds ρ else .bad)=.ok ρ':=e;by_cases z:ds.length=n;·rw [if_pos z] at e;exact ⟨a,xs,rfl,by rw [<-g]; exact qW r.sub p,by rw [t.length]; exact z,F,ρ,ds,r,t,ρ',e,k⟩
  ·rw [if_neg z] at e; cases e
 | _=>cases e
noncomputable def qk2 (fe:je) (g:D->Sl->Out Sl):qV:=λρ=>(fe ρ).bind λp=>match g p.1 p.2 with
 | .ok ρ'=>.ok (.nx,ρ')
 | _=>.bad
theorem qgO (k:PE X e (tE C own m f)) (hg:PG X tg (tGd C own g)) (j:m≠.any:=by decide) (s:swapsWithSole [tg] e pos.line X.env=pure false:=by rfl) (w:swappedStores [tg] e X.env=pure none:=by rfl)
  (h1:(assignEach [tg] X.env).map (·.2)=[assign tg X.env]:=by rfl):PS X (.Assign [tg] e pos) (tSt C own own (qk2 f g)):=by
 refine Kj (qfh (ya k j) hg s w h1) λD σ H ⟨F,ρ,p,h⟩=>⟨F,ρ,p,PoS.bindE h λv F1 H1 d ρ1 a l i h1=>?_⟩
 cases q:g d ρ1 with
 | ok ρ'=>simp only [q] at h1;exact ⟨F1,ρ1,d,a,i,ρ',q,λσ' r oa io=>h1 σ' F1 H1 ⟨r,.refl,λb z=>.inl (oa b z),io⟩⟩
 | exc c=>simp only [q] at h1; exact h1.elim
 | bad=>simp only [q] at h1; exact h1.elim
noncomputable def vF (g:D->Sl->Out Sl) (fb:qV):List D->qV
 | [],ρ=>.ok (.nx,ρ)
 | d::ds,ρ=>(g d ρ).plain.bind λρ1=>(fb ρ1).bind λp=>match p.1 with
  | .nx=>vF g fb ds p.2
  | .ct=>vF g fb ds p.2
  | .bk=>.ok (.nx,p.2)
  | .rt v=>.ok (.rt v,p.2)
noncomputable def KC (fi:uV) (g:D->Sl->Out Sl) (fb:qV):qV:=λρ=>(fi ρ).bind λp=>vF g fb p.1 p.2
theorem jV {body:List Stmt} {fi:uV} {fb:qV} (hp:PassesOwn (model X.prog X.w) X.A X.env X.xe) (T:X.calm=iC) (hi:PI X tg iter (tIt C own fi)) (hg:PG X tg (tGd C own g))
  (U:PSs X body (tSt { C with ol:=own } own own fb)) (R:∀ x,foldedSetIterable iter X.env x=pure x:=by intro _; rfl):PS X (.For tg iter body [] pos) (tSt C own own (KC fi g fb)):=by
 refine Kj (qin hp T hi hg U R) λD σ H ⟨F,ρ,Q,h⟩=>⟨F,ρ,Q,?_⟩
 unfold KC at h;cases I:fi ρ with
 | exc c=>rw [I] at h; exact h
 | bad=>rw [I] at h; exact h.elim
 | ok p=>
  rw [I] at h;obtain ⟨ds,ρ1⟩:=p;intro J F1 H1 u P it;have h:PoS C own own σ F H (vF g fb ds ρ1) D:=h;refine ⟨λi m σ' H'=>m=ds.length - i/\i<=ds.length/\∃ F' ρ',Nx C own own σ F H ρ' σ' F' H'/\Same F1 F'/\PoS C own own σ' F' H' (vF g fb (ds.drop i) ρ') D,⟨ds.length,by simp,br _,F1,ρ1,.ofE u P,Same.refl _,h.shift (.ofE u P)⟩,?_⟩;rintro i m σ' H' ⟨rfl,S,F',ρ',nx,gr,po⟩;by_cases t:i < ds.length
  ·have hd:ds.drop i=ds[i]::ds.drop (i+1):=List.drop_eq_getElem_cons t;rw [hd] at po;have po:PoS C own own σ' F' H' ((g ds[i] ρ').plain.bind λρ1=>(fb ρ1).bind λp=>match p.1 with | .nx=>vF g fb (ds.drop (i+1)) p.2 | .ct=>vF g fb (ds.drop (i+1)) p.2 | .bk=>.ok (.nx,p.2) | .rt v=>.ok (.rt v,p.2)) D:=po;refine .inr ⟨it.go i H' t (gr.trans nx.rep.sub),λl H2=>ds.length - (i+1)=ds.length - (i+1)/\i+1<=ds.length/\∃ F' ρ',Nx C own own σ F H ρ' l F' H2/\Same F1 F'/\PoS C own own l F' H2 (vF g fb (ds.drop (i+1)) ρ') D,λl H2 q=>⟨ds.length - (i+1),by omega,q⟩,λx H2 y=>?_⟩;obtain ⟨o,c2,s2,N⟩:=it.yld i F' H' x H2 ds[i] (by simp [t]) gr nx.rep.sub y;cases E:g ds[i] ρ' with
   | exc c=>rw [E] at po; exact po.elim
   | bad=>rw [E] at po; exact po.elim
   | ok ρ2=>
    rw [E] at po;refine ⟨o,ρ',ds[i],nx.rep.grow c2 s2,N,ρ2,E,λj r K O=>⟨o,ρ2,r,?_⟩⟩;have L:Nx C own own σ' F' H' ρ2 j o H2:=⟨r,c2.ofNo,λb z=>.inl (K b z),O⟩
    have a:=PoS.shift (show PoS C own own σ' F' H' ((fb ρ2).bind λp=>match p.1 with | .nx=>vF g fb (ds.drop (i+1)) p.2 | .ct=>vF g fb (ds.drop (i+1)) p.2 | .bk=>.ok (.nx,p.2) | .rt v=>.ok (.rt v,p.2)) D from po) L;have up:∀ {B f M k},Nx { C with ol:=own } own own j o H2 B f M k->Nx C own own j o H2 B f M k:=λz=>⟨z.rep,z.chg,z.oa,z.io⟩
    cases G:fb ρ2 with
    | exc c=>rw [G] at a; exact a
    | bad=>rw [G] at a; exact a.elim
    | ok p=>
     rw [G] at a;obtain ⟨V,B⟩:=p;cases V with
     | nx=>exact λf M k n=>⟨rfl,t,M,B,(nx.then L).then (up n),(gr.trans c2.grow).trans n.chg.grow,PoS.shift (show PoS C own own j o H2 (vF g fb (ds.drop (i+1)) B) D from a) (up n)⟩
     | ct=>exact λf M k n=>⟨rfl,t,M,B,(nx.then L).then (up n),(gr.trans c2.grow).trans n.chg.grow,PoS.shift (show PoS C own own j o H2 (vF g fb (ds.drop (i+1)) B) D from a) (up n)⟩
     | bk=>exact λf M k n=>a f M k (up n)
     | rt d=>exact λv f M k s io c e mo=>a v f M k s io c e mo
  ·have e:i=ds.length:=by omega
   subst e;rw [List.drop_length] at po;exact .inl ⟨it.stop _ H' (aB _) (gr.trans nx.rep.sub),po σ' F' H' (.refl nx.rep)⟩
noncomputable def jm (ft:uX) (fb:qV):Nat->qV
 | 0,_=>.bad
 | n+1,ρ=>(ft ρ).bind λq=>if q.1=iC then (fb q.2).bind λp=>match p.1 with
  | .nx=>jm ft fb n p.2
  | .ct=>jm ft fb n p.2
  | .bk=>.ok (.nx,p.2)
  | .rt v=>.ok (.rt v,p.2)
  else .ok (.nx,q.2)
theorem Je {t:Expr} {body:List Stmt} {ft:uX} {fb:qV} (n:Nat) (hp:PassesOwn (model X.prog X.w) X.A X.env X.xe) (ht:PT X t (tT C own ft)) (x:PSs X body (tSt { C with ol:=own } own own fb)):PS X (.While t body [] pos) (tSt C own own (jm ft fb n)):=by
 refine Kj (qdv hp ht x) λD σ H ⟨F,ρ,u,h⟩=>?_;refine ⟨λm σ' H'=>∃ F' ρ',Rep C.K own F' H' σ' ρ'/\PoS C own own σ' F' H' (jm ft fb m ρ') D,⟨n,F,ρ,u,h⟩,?_⟩;rintro m σ1 H1 ⟨F1,ρ1,j,po⟩;refine ⟨F1,ρ1,j,?_⟩;cases m with
 | zero=>exact po.elim
 | succ m=>
  have po:PoS C own own σ1 F1 H1 ((ft ρ1).bind λq=>if q.1=iC then (fb q.2).bind λp=>match p.1 with | .nx=>jm ft fb m p.2 | .ct=>jm ft fb m p.2 | .bk=>.ok (.nx,p.2) | .rt v=>.ok (.rt v,p.2) else .ok (.nx,q.2)) D:=po;refine PoS.bindT po λi H2 k ρ2 r c2 h2=>?_;cases k with
  | false=>exact h2 σ1 i H2 (.refl r)
  | true=>
   refine ⟨λb o=>∃ F' ρ',Rep C.K own F' o b ρ'/\PoS C own own b F' o (jm ft fb m ρ') D,λb o q=>⟨m,by omega,q⟩,i,ρ2,r,?_⟩;have h2:PoS C own own σ1 i H2 ((fb ρ2).bind λp=>match p.1 with | .nx=>jm ft fb m p.2 | .ct=>jm ft fb m p.2 | .bk=>.ok (.nx,p.2) | .rt v=>.ok (.rt v,p.2)) D:=h2;have up:∀ {B f M a},Nx { C with ol:=own } own own σ1 i H2 B f M a->Nx C own own σ1 i H2 B f M a:=λz=>⟨z.rep,z.chg,z.oa,z.io⟩
   cases l:fb ρ2 with
   | exc c=>rw [l] at h2; exact h2
   | bad=>rw [l] at h2; exact h2.elim
   | ok p=>
    rw [l] at h2;obtain ⟨y,B⟩:=p;cases y with
    | nx=>exact λf M a g=>⟨M,B,g.rep,PoS.shift (show PoS C own own σ1 i H2 (jm ft fb m B) D from h2) (up g)⟩
    | ct=>exact λf M a g=>⟨M,B,g.rep,PoS.shift (show PoS C own own σ1 i H2 (jm ft fb m B) D from h2) (up g)⟩
    | bk=>exact λf M a g=>h2 f M a (up g)
    | rt d=>exact λv f M a s io c e mo=>h2 v f M a s io c e mo
end
noncomputable def WC (cells:List (Str×Addr)):List (Str×i8)->List (Str×Addr)->List (Str×Addr)
 | [],acc=>acc
 | (n,k)::r,acc=>if (k == .free)=iC then WC cells r ((n,(cells.lookup n).getD 0)::acc) else WC cells r acc
variable {env:Env}
theorem ye:∀ (names:List (Str×i8)) (acc:List (Str×Addr)),(∀ x∈names,x.2=.free->∃ c,env.cells.lookup x.1=iu c) ->(forIn names acc λ(x:Str×i8) (cs:List (Str×Addr))=>if (x.2 == bF)=iC then (do let a <-cellOf env x.1; pure (cG ((x.1,a)::cs))) else pure (cG cs):Sem (List (Str×Addr)))=pure (WC env.cells names acc)
 | [],acc,_=>rfl
 | (n,k)::r,acc,h=>by
  rw [List.forIn_cons];by_cases q:(k == bF)=iC
  ·obtain ⟨c,d⟩:=h (n,k) ae (by simpa using q);have e:cellOf env n=pure c:=by unfold cellOf; rw [d]
   simp only [q,if_true,e];have j:=ye r ((n,c)::acc) (λx hx=>h x (aa _ hx));simp only [WC,q,if_true,d,Option.getD_some];exact j
  ·simp only [q,if_false,WC];exact ye r acc (λx hx=>h x (aa _ hx))
variable {scope:lf}
theorem KF (h:∀ x∈scope.names,x.2=.free->∃ c,env.cells.lookup x.1=iu c):closureFor scope env=pure (WC env.cells scope.names []):=by have:=ye scope.names [] h;unfold closureFor;simp only [bind_pure];exact this
variable {cells:List (Str×Addr)}
theorem xO:∀ {names:List (Str×i8)} {acc:List (Str×Addr)} {x:Str} {c:Addr},(∀ y∈names,y.2=.free->∃ c,cells.lookup y.1=iu c)->(WC cells names acc).lookup x=iu c->cells.lookup x=iu c\/acc.lookup x=iu c
 | [],acc,x,c,_,h=>.inr h
 | (n,k)::r,acc,x,c,hf,h=>by
  unfold WC at h;by_cases q:(k == bF)=iC
  ·rw [if_pos q] at h;obtain ⟨U,d⟩:=hf (n,k) ae (by simpa using q);rcases xO (λy D=>hf y (aa _ D)) h with z | z;·exact .inl z
   ·rw [fk] at z;have d:cells.lookup n=iu U:=d;by_cases e:(x == n)=iC
    ·rw [e] at z;simp only [d,Option.getD_some] at z;have:x=n:=by simpa using e
     subst this;rw [d]; exact .inl z
    ·have e:(x == n)=false:=by simpa using e
     rw [e] at z;exact .inr z
  ·rw [if_neg q] at h;exact xO (λy D=>hf y (aa _ D)) h
theorem Vu:∀ {names:List (Str×i8)} {acc:List (Str×Addr)} {x:Str},(∃ c,acc.lookup x=iu c)->∃ c,(WC cells names acc).lookup x=iu c
 | [],_,_,h=>h
 | (n,k)::r,acc,x,h=>by
  unfold WC;by_cases q:(k == bF)=iC
  ·rw [if_pos q];refine Vu ?_;obtain ⟨c,d⟩:=h;rw [fk];by_cases e:(x == n)=iC;·rw [e]; exact ⟨_,rfl⟩
   ·have e:(x == n)=false:=by simpa using e
    rw [e]; exact ⟨c,d⟩
  ·rw [if_neg q]; exact Vu h
theorem Qs:∀ {names:List (Str×i8)} {acc:List (Str×Addr)} {x:Str},(x,bF)∈names->∃ c,(WC cells names acc).lookup x=iu c
 | (n,k)::r,acc,x,h=>by
  unfold WC;rcases ac.mp h with e | h
  ·cases e;rw [if_pos (by rfl)];refine Vu ?_;rw [fk,beq_self_eq_true];exact ⟨_,rfl⟩
  ·by_cases q:(k == bF)=iC;·rw [if_pos q]; exact Qs h
   ·rw [if_neg q]; exact Qs h
noncomputable def jC (X:Cx) (scope:lf) (N:List Str) (fp:List Addr) (L:Addr) (s:iF) (H:Hp):Cx:=
 { X with N:=N,s₀:=s,H₀:=H,env:=compEnvC scope (WC X.env.cells scope.names []) L X.env,outer:=X.stack,stack:=X.stack,ex:=fp,fn:=λ_=>iE,pn:=[],xe:=λ_ _=>False }
structure ScOk (X:Cx) (scope:lf):Prop where
 kind:scope.kind=.function
 nocell:∀ y∈scope.names,y.2≠.cell
 names:∀ y∈scope.names,y.2=.local->scope.names.lookup y.1=iu .local
 free:∀ y∈scope.names,y.2=.free->X.env.kindOf y.1=iu .cell\/X.env.kindOf y.1=iu .free
 frl:∀ y∈scope.names,y.2=.free->scope.names.lookup y.1=iu .free
theorem yK {a:α}:∀ {l:List (Str×α)},l.lookup x=iu a->(x,a)∈l
 | [],h=>by simp at h
 | (n,k)::r,h=>by
  rw [fk] at h;by_cases e:(x == n)=iC
  ·rw [e] at h;have h:iu k=iu a:=h;cases h;have:x=n:=by simpa using e
   subst this;exact ae
  ·have e:(x == n)=false:=by simpa using e
   rw [e] at h;exact aa _ (yK h)
theorem gM {k:i8} (h:(relabel scope env).names.lookup x=iu k) (b:k=.cell\/k=.free) (a:∀ y∈scope.names,y.2≠.cell):(x,bF)∈scope.names:=by
 have m:=yK h;obtain ⟨⟨n,k'⟩,c,e⟩:=ah.mp m;dsimp only at e;by_cases q:(k' == bF&&env.scope.kind == .function&&env.kindOf n == iu .cell)=iC
 ·rw [if_pos q] at e;cases e;have:k'=.free:=by rw [aV,aV] at q;simpa using q.1.1
  subst this;exact c
 ·rw [if_neg q] at e;cases e;rcases b with rfl | rfl;·exact absurd rfl (a _ c)
  ·exact c
theorem WY (h:Vis (relabel scope env) x):∃ k,(x,k)∈scope.names:=by
 have go:∀ {k:i8},(relabel scope env).names.lookup x=iu k->∃ k,(x,k)∈scope.names:=λ{k} h=>by
  obtain ⟨⟨n,k'⟩,c,e⟩:=ah.mp (yK h);dsimp only at e;by_cases q:(k' == bF&&env.scope.kind == .function&&env.kindOf n == iu .cell)=iC;·rw [if_pos q] at e;cases e;exact ⟨_,c⟩
  ·rw [if_neg q] at e;cases e;exact ⟨_,c⟩
 rcases h with h | h | h <;> exact go h
variable {pins:Pns} {σc:St} {s s':iF} {fp:List Addr} {h':Heap}
section
theorem Jf (I:Inv X pins σ H s) (S:ScOk X scope):∀ y∈scope.names,y.2=.free->∃ c,X.env.cells.lookup y.1=iu c:=λy D e=>I.ok.has y.1 (S.free y D e)
theorem qdR (I:Inv X pins σ H s) (S:ScOk X scope) (J:∀ b∈fp,Ym X pins H b) (T:∀ b∈fp,b < s.heap.objs.size) (C:h'.Ns s.heap.objs.size (λ_=>iw))
  (w:∀ b o,s.heap.get? b=iu o->h'.get? b=iu o) (hl:σc.length=N.length)
  (B:∀ (j:Nat) (x:Str) (v:V),N[j]?=iu x->σc[j]?=iu (iu v)->(∃ k,(x,k)∈scope.names)->∃ i:Nat,X.N[i]?=iu x/\σ[i]?=iu (iu v)/\Vis X.env.scope x/\(x,bF)∈scope.names) {t:Nat} :
  Inv (jC X scope N fp s.heap.objs.size s H) [] σc H { s with heap:=h',toks:=t }:=by
 have G:=Jf I S;have cl:∀ x c,(WC X.env.cells scope.names []).lookup x=iu c->X.env.cells.lookup x=iu c:=λx c e=>(xO G e).resolve_right (by simp);have A:∀ b∈fp,b∉frs X.stack:=λb g z=>by
  obtain ⟨f0,f1,f2,_⟩:=J b g;rcases ac.mp (I.stkSub b z) with e | e;·exact f1 e
  ·exact f2 e
 refine ⟨⟨I.ok.mod,?_,I.ok.glob,I.ok.blt,aB _,λx y c h1 h2=>I.ok.inj x y c (cl x c h1) (cl y c h2),λx hx=>?_,λx c h=>absurd h (by show ¬(iE=iC); exact be),I.ok.hd,I.ok.frames,.inl rfl,λb g=>⟨aE (T b g),λx c e z=>?_⟩,I.bs,bv I.ok.bsz I.sz,λb o e g=>?_,A,I.stack,I.stkFree⟩,rfl,I.bare,Un.kept w,⟨_,C,λj x v e1 l Q=>?_⟩,λx c e=>?_,I.hok.fresh (aB _),λx c e=>I.freeC x c (cl x c e),λp hp=>absurd (show p∈([]:Pns) from hp) (by simp),I.hok.kept w,hl⟩;·exact S.kind
 ·refine Qs ?_;rcases hx with hx | hx;·exact gM hx (.inl rfl) S.nocell
  ·exact gM hx (.inr rfl) S.nocell
 ·exact (J b g).2.2.2.2.1 x c (cl x c e) z
 ·rcases (J b g).2.2.2.1 with z | z;·exact I.ok.noex b o e z
  ·have D:=aA e;exact absurd (aK D (bv I.ok.bsz z)) (cw _)
 ·obtain ⟨i,g1,Y,W,L⟩:=B j x v e1 l (WY Q);obtain ⟨m,Z,E⟩:=I.loc;obtain ⟨u,r,look⟩:=E i x v g1 Y W;refine ⟨u,r,?_⟩;obtain ⟨M,f⟩:=Qs (cells:=X.env.cells) (acc:=[]) L;have K:=cl x M f;have kd:(jC X scope N fp s.heap.objs.size s H).env.kindOf x=iu .cell\/(jC X scope N fp s.heap.objs.size s H).env.kindOf x=iu .free\/(jC X scope N fp s.heap.objs.size s H).env.kindOf x=iu .local:=by
   rcases Q with z | z | z;·exact .inr (.inr z)
   ·exact .inl z
   ·exact .inr (.inl z)
  rcases look with ⟨k,_⟩ | ⟨k,c,P,z⟩
  ·rcases S.free _ L rfl with q | q;·have q:X.env.kindOf x=iu .cell:=q;rw [k] at q; cases q
   ·have q:X.env.kindOf x=iu .free:=q;rw [k] at q; cases q
  ·rw [K] at P;cases P;obtain ⟨oc,d,a⟩:=z;rcases kd with q | q | q;·exact .inr ⟨.inl q,M,f,⟨oc,w _ _ d,a⟩⟩
   ·exact .inr ⟨.inr q,M,f,⟨oc,w _ _ d,a⟩⟩
   ·refine absurd q ?_;intro q;have R:=yK (show (relabel scope X.env).names.lookup x=iu .local from q);obtain ⟨⟨n,k'⟩,U,e⟩:=ah.mp R;dsimp only at e;by_cases O:(k' == bF&&X.env.scope.kind == .function&&X.env.kindOf n == iu .cell)=iC;·rw [if_pos O] at e; cases e
    ·rw [if_neg O] at e;cases e;have e1:=S.names _ U rfl;have l:=S.frl _ L rfl;have e1:scope.names.lookup x=iu .local:=e1;have l:scope.names.lookup x=iu .free:=l;rw [e1] at l;cases l
 ·obtain ⟨v,oc,d,a⟩:=I.cell x c (cl x c e);exact ⟨v,oc,w _ _ d,a⟩
theorem qdS {H1:Hp} {s1:iF} {L:Addr} (I:Inv X pins σ H s) (h:∀ b∈fp,Ym X pins H b) (J:Inv (jC X scope N fp s.heap.objs.size s H) [] σc H' s') (A:bK s.heap.objs.size s'.heap h'):Inv X pins σ H' { s' with heap:=h' }:=by
 have a:H' s.heap.objs.size=none:=J.free;have ne:∀ b o,s.heap.get? b=iu o->b≠s.heap.objs.size:=λb o e=>aE (aA e);have U:Un (frs X.stack) fp H H' s.heap s'.heap:=J.base;refine I.call' (s':={ s' with heap:=h' }) (ch:=fp) J.os ⟨λb o e n h1 h2=>(A.2 b (ne b o e)).trans (U.keep b o e n h1 h2),λb o e n h1 h2=>?_,U.free,λb o e h2=>?_,U.tups,U.frzs,U.tbls⟩ (λb u e=>?_) J.bare λb f=>?_;·obtain ⟨sl,q⟩:=U.slot b o e n h1 h2;exact ⟨sl,(A.2 b (ne b o e)).trans q⟩
 ·obtain ⟨o',q⟩:=U.there b o e h2;exact ⟨o',(A.2 b (ne b o e)).trans q⟩
 ·refine (J.hok b u e).stay (λc w d q=>(A.2 c ?_).trans q) (λ_ q=>q) λ_ _ q=>q;rintro rfl;rcases d with z | z;·rw [<-z,a] at e; cases e
  ·rw [a] at z; cases z
 ·obtain ⟨f0,f1,f2,t,f4,g⟩:=h b f;exact ⟨t,f1,f4,g⟩
end
theorem Vv {prog:iH} {w:iI} {A:iK} {R:lH->iF->Prop} {s:iF} {elt target iter:Expr} {ifs:List Expr} {scope:lf} {pos:Pos} {it acc:iB} {env:Env} (I:Nat->iF->Prop)
  (turn:∀ n s,I n s->wpAny (model prog w) A (pyNext it) (λr d=>match r with
   | none=>R (.ok .next) d
   | some v=>wpAny (model prog w) A (letOwnedTupleGo target it v) (λ_ e=>wpAny (model prog w) A (assign target env v) (λ_ i=>
     wpAny (model prog w) A (forIn ifs iC λc r=>if r=iC then do let ok <-isTrue c env (eval c env); pure (cG ok) else pure (cG r)) (λok b=>
      if ok=iC then wpAny (model prog w) A (eval elt env) (λx g=>
       wpAny (model prog w) A (call (.builtin "list.append") [acc,x]) (λ_ f=>∃ m,m < n/\I m f) (λ_ _=>False) g) (λ_ _=>False) b
      else ∃ m,m < n/\I m b) (λ_ _=>False) i) (λ_ _=>False) e) (λ_ _=>False) d) (λ_ _=>False) s)
  (n:Nat) (h:I n s):codeAny (model prog w) A (.compLoop (.ListComp elt [⟨target,iter,ifs,0⟩] scope pos) 0 it acc env) R s:=by
 have no:∀ {α:Type} {t:Sem α} {Q u:α->iF->Prop} {E:iB->iF->Prop} {s:iF},wpAny (model prog w) A t Q (λ_ _=>False) s->(∀ a s,Q a s->u a s)->wpAny (model prog w) A t u E s:=λh k=>k4 h k λ_ _ z=>z.elim;refine codeAny_loop rfl I (λn s y=>?_) n h;show wpAny _ A ((compTurn (.ListComp elt [⟨target,iter,ifs,0⟩] scope pos) 0 it acc env).onRaise (λx=>do noteFrame x env; theTreesLotGoes x)) _ _ s;refine wpAny_noted ?_;rw [compTurn_list];refine iA (wpAny_standAt (iA (no (turn n s y) λr d h₁=>?_)));cases r with
 | none=>exact iG h₁
 | some v=>
  refine iA (no h₁ λ_ e l=>iA (no l λ_ i q=>iA (no q λok b j=>?_)));cases ok with
  | false=>exact iG ⟨rfl,j⟩
  | true=>exact iA (iA (no j λx g p=>iA (no p λ_ f o=>iG (iG ⟨rfl,o⟩))))
structure PTs (Y:Cx) (ifs:List Expr) (t:TT):Prop where
 run:∀ (pins:Pns) (s:iF) (σ:St) (H:Hp) (Q:Bool->Hp->Prop),Inv Y pins σ H s->t σ H Q ->wpAny (model Y.prog Y.w) Y.A (forIn ifs iC λc r=>if r=iC then do let ok <-isTrue c Y.env (eval c Y.env); pure (cG ok) else pure (cG r)) (TP Y pins σ Q) Y.xe s
instance {Y:Cx} {ifs:List Expr} {t:TT}:CoeFun (PTs Y ifs t) (λ_=>∀ (pins:Pns) (s:iF) (σ:St) (H:Hp) (Q:Bool->Hp->Prop),Inv Y pins σ H s->t σ H Q ->wpAny (model Y.prog Y.w) Y.A (forIn ifs iC λc r=>if r=iC then do let ok <-isTrue c Y.env (eval c Y.env); pure (cG ok) else pure (cG r)) (TP Y pins σ Q) Y.xe s):=⟨λh=>h.run⟩
variable {Y:Cx}
theorem qgP:PTs Y [] (λ_ H Q=>Q iC H):=⟨λ_ _ _ H _ I h=>wpAny_tests_nil ⟨H,I,h⟩⟩
theorem gf {t:TT} (h:PT Y c t):PTs Y [c] t:=⟨λpins s σ H Q I q=>wpAny_tests_one (h pins s σ H Q I q)⟩
variable {ifs:List Expr} {te:TE} {E:iB->iF->Prop}
section
variable {it:Addr} {tn:Nat->Heap->Prop} {J:It} {elt:Expr} {g:TG} {tt:TT}
theorem qdT (I:Inv X pins σ H s) (P:X.calm=iC) (S:ScOk X scope) (T:Turn X.prog X.w X.K tg J fp it tn) (st0:tn 0 s.heap) (hf:∀ b∈fp,Ym X pins H b)
  (hg:∀ fp L s' H',PG (jC X scope N fp L s' H') tg g) (ht:∀ fp L s' H',PTs (jC X scope N fp L s' H') ifs tt) (he:∀ fp L s' H',PE (jC X scope N fp L s' H') elt te) (hl:σc.length=N.length)
  (hσ:∀ (j:Nat) (x:Str) (v:V),N[j]?=iu x->σc[j]?=iu (iu v)->(∃ k,(x,k)∈scope.names)->∃ i:Nat,X.N[i]?=iu x/\σ[i]?=iu (iu v)/\Vis X.env.scope x/\(x,bF)∈scope.names)
  (W:Addr->Nat->Nat->St->Hp->Prop) (Fin:Addr->Hp->Prop) (w0:∀ p,H p=iw->∃ m,W p 0 m σc (upd H p (.lst [])))
  (turn:∀ p i m σ1 H1,W p i m σ1 H1->(J.stop i H1/\Fin p H1)\/(J.go i H1/\∀ x H2,J.yld i H1 x H2->g x σ1 H2 λB H3=>tt B H3 λb H4=>if b=iC then te B H4 λy H5=>∃ xs,H5 p=iu (.lst xs)/\xs.length < sizeLine/\∃ f,f < m/\W p (i+1) f B (upd H5 p (.lst (xs++[y]))) else ∃ f,f < m/\W p (i+1) f B H4))
  (RR:iB->Addr->lH->iF->Prop)
  (hRR:∀ p L H' s',Fin p H'->(∃ m,s'.heap.Ns L m)->Ym X pins H' L->(∀ h',bK L s'.heap h'->Inv X pins σ H' { s' with heap:=h' })->RR (.ref p) L (.ok .next) s') :
  wpAny (model X.prog X.w) X.A (newList []) (λacc s₃=>wpAny (model X.prog X.w) X.A (newFunctionEnv scope X.env.globals (WC X.env.cells scope.names []) [] X.env.qual iw .none (iu X.env)) (λG F=>
   codeAny (model X.prog X.w) X.A (.compStart (.ListComp elt [⟨tg,iter,ifs,0⟩] scope pos) 0 (.ref it) acc { G with scope:=relabel scope X.env }) (RR acc G.locals) F) E s₃) E s:=by
 have hfo:∀ b∈fp,b < s.heap.objs.size:=λb h=>let ⟨o,e,_⟩:=T.obj 0 _ st0 b h; aA e;have D:=I.fresh;have I3:Inv X pins σ (upd H s.heap.objs.size (.lst [])) { s with heap:=s.heap.push { cls:=.type "list",data:=.seq ([]:List iB).toArray } }:=I.lnew (t':=s.toks) (ys:=[]) (its:=[]) .nil (br _);have O:∀ b∈fp,Ym X pins (upd H s.heap.objs.size (.lst [])) b:=λb h=>⟨by rw [qA (aE (hfo b h))]; exact (hf b h).1,(hf b h).2⟩
 have st3:tn 0 (s.heap.push { cls:=.type "list",data:=.seq ([]:List iB).toArray }):=T.keep 0 _ _ st0 λb h o e=>af _ e;refine iJ (wpAny_newFunctionEnv S.nocell (λy hy=>by simp at hy) (λh₁ c a=>?_) S.kind);dsimp only at c a ⊢;generalize hs3:({ s with heap:=s.heap.push { cls:=.type "list",data:=.seq ([]:List iB).toArray } }:iF)=s3 at I3;have e3:s3.heap=s.heap.push { cls:=.type "list",data:=.seq ([]:List iB).toArray }:=by rw [<-hs3]
 rw [<-e3] at c a st3 ⊢;have keep:∀ b o,s3.heap.get? b=iu o->h₁.get? b=iu o:=λb o e=>(a.2 b (aE (aA e))).trans (af _ e);have ho3:∀ b∈fp,b < s3.heap.objs.size:=λb h=>by rw [e3,bS]; exact fK (hfo b h)
 have J1:Inv (jC X scope N fp s3.heap.objs.size s3 (upd H s.heap.objs.size (.lst []))) [] σc (upd H s.heap.objs.size (.lst [])) { s3 with heap:=h₁,toks:=s.toks+0 }:=
  qdR I3 S O ho3 (by simpa using c) keep hl hσ
 have st4:tn 0 h₁:=T.keep 0 _ _ st3 λb h o e=>keep b o e;have loop:∀ s4:iF,s4={ s3 with heap:=h₁,toks:=s.toks+0 }->codeAny (model X.prog X.w) X.A (.compLoop (.ListComp elt [⟨tg,iter,ifs,0⟩] scope pos) 0 (.ref it) (.ref s.heap.objs.size) (compEnvC scope (WC X.env.cells scope.names []) s3.heap.objs.size X.env)) (RR (.ref s.heap.objs.size) s3.heap.objs.size) s4:=by
  rintro s4 rfl;generalize C:jC X scope N fp s3.heap.objs.size s3 (upd H s.heap.objs.size (.lst []))=Y at J1;have eP:Y.prog=X.prog:=by rw [<-C]; rfl
  have ew:Y.w=X.w:=by rw [<-C]; rfl
  have eA:Y.A=X.A:=by rw [<-C]; rfl
  have ee:Y.env=compEnvC scope (WC X.env.cells scope.names []) s3.heap.objs.size X.env:=by rw [<-C]; rfl
  have eK:Y.K=X.K:=by rw [<-C]; rfl
  have ec:Y.calm=true:=by rw [<-C]; exact P
  have ex:Y.xe=λ_ _=>False:=by rw [<-C]; rfl
  have hgY:PG Y tg g:=by rw [<-C]; exact hg fp _ _ _
  have htY:PTs Y ifs tt:=by rw [<-C]; exact ht fp _ _ _
  have heY:PE Y elt te:=by rw [<-C]; exact he fp _ _ _
  have t:∀ {H1:Hp},(∀ b∈fp,H1 b=iw)->∀ b∈fp,Ym Y [] H1 b:=λhn b h=>by have q:=J1.ok.exf b (by rw [<-C]; exact h);refine ⟨hn b h,q.1,J1.ok.exfs b (by rw [<-C]; exact h),.inl (by rw [<-C]; exact h),q.2,λp hp=>?_⟩;rw [<-C] at hp;exact absurd (show p∈([]:Pns) from hp) (by simp)
  obtain ⟨m0,hm0⟩:=w0 s.heap.objs.size D;refine Vv (λn s'=>∃ i σ1 H1,Inv Y [] σ1 H1 s'/\tn i s'.heap/\(∀ b∈fp,H1 b=iw)/\W s.heap.objs.size i n σ1 H1) ?_ m0 ⟨0,σc,_,J1,st4,λb h=>(O b h).1,hm0⟩;rintro n s5 ⟨i,σ1,H1,J5,st5,fr5,w5⟩;rw [<-eP,<-ew,<-eA,<-ee];have TY:Turn Y.prog Y.w Y.K tg J fp it tn:=by rw [eP,ew,eK]; exact T
  rcases turn _ i n σ1 H1 w5 with ⟨stop,fin⟩ | ⟨go,step⟩
  ·refine thn (TY.done Y rfl rfl rfl ec i [] s5 σ1 H1 _ J5 (t fr5) st5 stop) λr s6 ⟨hr,J6⟩=>?_;subst hr;have Q:Inv (jC X scope N fp s3.heap.objs.size s3 (upd H s.heap.objs.size (.lst []))) [] σ1 H1 s6:=by rw [C]; exact J6
   exact hRR _ _ H1 s6 fin (let ⟨m,hn,_⟩:=Q.loc; ⟨m,hn⟩) (I3.fpOk (aB _) Q.free) λh' sb=>qdS (s1:=s6) (H1:=H1) (L:=0) I3 O Q sb
  ·refine thn (TY.item Y rfl rfl rfl ec i [] s5 σ1 H1 _ J5 (t fr5) st5 go) λr s6 ⟨u,hr,h6⟩=>?_;subst hr;refine thn h6 λ_ s7 ⟨x,H7,J7,r7,y7,M,fr7⟩=>?_;have J7':=J7.pinned (t fr7) (TY.obj _ _ M);have back:∀ {l:St} {Z:Hp} {R:iF},Inv Y ([]++WH fp s7.heap) l Z R->(∃ f,f < n/\W s.heap.objs.size (i+1) f l Z)->∃ m,m < n/\∃ i σ1 H1,Inv Y [] σ1 H1 R/\tn i R.heap/\(∀ b∈fp,H1 b=iw)/\W s.heap.objs.size i m σ1 H1:=λ{l Z R} U ⟨f,hm,w9⟩=>by refine ⟨f,hm,i+1,l,Z,U.unpinned,TY.keep _ _ _ M λb h o e=>(U.pin (b,o) (aP _ (aP _ (yG h e)))).1,λb h=>?_,w9⟩;obtain ⟨o,e,d⟩:=TY.obj _ _ M b h;exact (U.pin (b,o) (aP _ (aP _ (yG h e)))).2.1
   rw [<-ex];refine thn (hgY _ s7 σ1 H7 x u _ J7' r7 (step x H7 y7)) λ_ s8 ⟨z,H8,J8,q8⟩=>?_;refine thn (htY _ s8 z H8 _ J8 q8) λok R ⟨Z,U,q9⟩=>?_;cases ok with
   | false=>exact back U q9
   | true=>refine thn (heY _ R z Z _ U q9) λv s10 ⟨y,H10,J10,r10,xs,hx,hlen,q10⟩=>?_;exact thn (WO _ s10 z H10 (.ref s.heap.objs.size) [y] (.ref s.heap.objs.size) [v] (λ_ H11=>∃ f,f < n/\W s.heap.objs.size (i+1) f z H11) J10 rfl (.cons r10 .nil) ⟨_,xs,y,rfl,rfl,hx,hlen,q10⟩) λ_ s11 ⟨_,H11,J11,_,q11⟩=>back J11 q11
 have e4:({ heap:=h₁,gens:=s.gens,drawn:=s.drawn,toks:=s.toks+([]:List (Str×iB)).length,os:=s.os }:iF)={ s3 with heap:=h₁,toks:=s.toks+0 }:=by rw [<-hs3]; rfl
 exact codeAny_compStart_list (loop _ e4) (T.self _ 0 _ _ _ st4 (loop _ e4))
end
noncomputable def vp (nt:Nat) (cap:List Nat) (ρ:List (Option α)):List (Option α):=bE nt iw++cap.map λk=>(ρ[k]?).getD iw
noncomputable def uW (own:List Nat):Nat->List Nat->List Nat
 | _,[]=>[]
 | n,k::cap=>if k∈own then n::uW own (n+1) cap else uW own (n+1) cap
noncomputable def ioC (nt len:Nat):List Nat:=(aH len).map (nt + ·)
noncomputable def jI (own:List Nat) (ρc:Sl):Nat->List Nat->Sl->Sl
 | _,[],ρ=>ρ
 | n,k::cap,ρ=>if k∈own then jI own ρc (n+1) cap (ρ.set k ((ρc[n]?).getD iw)) else jI own ρc (n+1) cap ρ
variable {nt:Nat} {cap:List Nat}
theorem get_cap {ρ:List (Option α)} {d:α}:(vp nt cap ρ)[i]?=iu (iu d)↔∃ j k,i=nt+j/\cap[j]?=iu k/\ρ[k]?=iu (iu d):=by
 unfold vp;constructor
 ·intro h;by_cases hi:i < nt;·rw [cj (by simpa using hi),cB] at h;split at h <;> cases h
  ·rw [bY (by simpa using hi),fg,aF] at h;cases q:cap[i - nt]? with
   | none=>rw [q] at h; cases h
   | some k=>
    rw [q] at h;have h:(ρ[k]?).getD iw=iu d:=aI.inj h;refine ⟨i - nt,k,by lia,q,?_⟩;cases a:ρ[k]? with
    | none=>rw [a] at h; cases h
    | some o=>rw [a] at h; exact congrArg iu h
 ·rintro ⟨j,k,rfl,h1,h2⟩;rw [bY (by simp),fg,aF,show nt+j - nt=j by lia,h1];simp [h2]
theorem mem_ownC {own:List Nat}:∀ {n:Nat} {cap:List Nat} {i:Nat},i∈uW own n cap↔∃ j k,i=n+j/\cap[j]?=iu k/\k∈own
 | n,[],i=>by simp [uW]
 | n,k::cap,i=>by
  have a:=@mem_ownC own (n+1) cap i;unfold uW;by_cases h:k∈own
  ·rw [if_pos h,ac,a];constructor
   ·rintro (rfl | ⟨j,k',e,h1,h2⟩);·exact ⟨0,k,rfl,rfl,h⟩
    ·exact ⟨j+1,k',by lia,by simpa using h1,h2⟩
   ·rintro ⟨j,k',e,h1,h2⟩;cases j with
    | zero=>exact .inl (by lia)
    | succ j=>exact .inr ⟨j,k',by lia,by simpa using h1,h2⟩
  ·rw [if_neg h,a];constructor;·rintro ⟨j,k',e,h1,h2⟩;exact ⟨j+1,k',by lia,by simpa using h1,h2⟩
   ·rintro ⟨j,k',e,h1,h2⟩;cases j with
    | zero=>simp at h1; subst h1; exact absurd h2 h
    | succ j=>exact ⟨j,k',by lia,by simpa using h1,h2⟩
theorem mem_ioC {len:Nat}:i∈ioC nt len↔∃ j,j < len/\i=nt+j:=by
 unfold ioC;rw [ah];constructor;·rintro ⟨j,h1,h2⟩; exact ⟨j,aL.mp h1,h2.symm⟩
 ·rintro ⟨j,h1,h2⟩; exact ⟨j,aL.mpr h1,h2.symm⟩
variable {ρc:Sl}
theorem gh:∀ {n:Nat} {cap:List Nat} {ρ:Sl},(jI own ρc n cap ρ).length=ρ.length
 | _,[],_=>rfl
 | n,k::cap,ρ=>by
  unfold jI;by_cases h:k∈own;·rw [if_pos h,gh,cF]
  ·rw [if_neg h,gh]
theorem vG:∀ {n:Nat} {cap:List Nat} {ρ:Sl} {i:Nat},¬(i∈cap/\i∈own)->(jI own ρc n cap ρ)[i]?=ρ[i]?
 | _,[],_,_,_=>rfl
 | n,k::cap,ρ,i,h=>by
  unfold jI;have h':¬(i∈cap/\i∈own):=λz=>h ⟨aa _ z.1,z.2⟩;by_cases a:k∈own;·rw [if_pos a,vG h',ay (λe=>h ⟨ac.mpr (.inl e.symm),by rw [<-e]; exact a⟩)]
  ·rw [if_neg a,vG h']
theorem zo:∀ {n:Nat} {cap:List Nat} {ρ:Sl} {j k:Nat} {d:D},cap.Nodup->cap[j]?=iu k->k∈own->k < ρ.length->ρc[n+j]?=iu (iu d)->(jI own ρc n cap ρ)[k]?=iu (iu d)
 | _,[],_,_,_,_,_,h,_,_,_=>by simp at h
 | n,k0::cap,ρ,0,k,d,nd,h,hk,hl,e=>by simp at h; subst h;obtain ⟨n1,n2⟩:=aN.mp nd;unfold jI;rw [if_pos hk,vG (λz=>n1 z.1),aJ hl];have e:ρc[n]?=iu (iu d):=e;rw [e]; rfl
 | n,k0::cap,ρ,j+1,k,d,nd,h,hk,hl,e=>by
  obtain ⟨n1,n2⟩:=aN.mp nd;have h:cap[j]?=iu k:=by simpa using h
  have e:ρc[n+1+j]?=iu (iu d):=by rw [show n+1+j=n+(j+1) by lia]; exact e
  unfold jI;by_cases a:k0∈own;·rw [if_pos a]; exact zo n2 h hk (by rw [cF]; exact hl) e
  ·rw [if_neg a]; exact zo n2 h hk hl e
section
theorem YA {ρ:List (Option α)}:(vp nt cap ρ).length=nt+cap.length:=by simp [vp]
theorem qbh {l:List Nat} (h:l.Nodup) {j k:Nat} (a:l[i]?=iu k) (b:l[j]?=iu k):i=j:=by obtain ⟨h1,e1⟩:=aC.mp a;obtain ⟨h2,e⟩:=aC.mp b;exact (fQ h).mp (e1.trans e.symm)
theorem qgQ (r:Rep K own F H σ ρ) (nd:cap.Nodup):Rep K (uW own nt cap) F H (vp nt cap σ) (vp nt cap ρ) where
 sub:=r.sub
 len:=by rw [YA,YA]
 val:=λi d hi e=>by obtain ⟨j,k,rfl,h1,h2⟩:=get_cap.mp e;obtain ⟨v,g1,Y⟩:=r.val k d (λz=>hi (mem_ownC.mpr ⟨j,k,rfl,h1,z⟩)) h2;exact ⟨v,get_cap.mpr ⟨j,k,rfl,h1,g1⟩,Y⟩
 ow:=λi d hi e=>by
  obtain ⟨j,k,rfl,h1,h2⟩:=get_cap.mp e;obtain ⟨f,k',m,c,h⟩:=mem_ownC.mp hi;have:j=f:=by lia
  subst this;rw [h1] at c; cases c;obtain ⟨a,g1,Y⟩:=r.ow k d h h2;exact ⟨a,get_cap.mpr ⟨j,k,rfl,h1,g1⟩,Y⟩
 opn:=λi hi=>by obtain ⟨j,k,rfl,h1,h2⟩:=mem_ownC.mp hi;obtain ⟨d,e⟩:=r.opn k h2;exact ⟨d,get_cap.mpr ⟨j,k,rfl,h1,e⟩⟩
 dis:=λi u a hi g e m=>by
  obtain ⟨j,k,rfl,h1,h2⟩:=mem_ownC.mp hi;obtain ⟨f,k',rfl,c,h⟩:=mem_ownC.mp g;obtain ⟨x,y,t,l,o⟩:=get_cap.mp e;obtain ⟨n,s,p,q,b⟩:=get_cap.mp m;have:x=j:=by lia
  subst this;have:n=f:=by lia
  subst this;rw [h1] at l; cases l;rw [c] at q; cases q;have e:=r.dis k k' a h2 h o b;subst e;rw [qbh nd h1 c]
theorem qbi (o:∀ i∈ioC nt cap.length,σ1[i]?=(vp nt cap σ)[i]?) (h:OA (uW own nt cap) σ1 b):OA own σ b:=by
 obtain ⟨i,hi,e⟩:=h;obtain ⟨j,k,rfl,h1,h2⟩:=mem_ownC.mp hi;rw [o _ (mem_ioC.mpr ⟨j,(aC.mp h1).1,rfl⟩)] at e;obtain ⟨x,y,a,d,q⟩:=get_cap.mp e;have:x=j:=by lia
 subst this;rw [h1] at d; cases d;exact ⟨k,h2,q⟩
theorem qbj (p:Rep K own F H σ ρ) (nd:cap.Nodup) (r:Rep K (uW own nt cap) F' H' σ1 ρ1) (f:∀ i∈ioC nt cap.length,σ1[i]?=(vp nt cap σ)[i]?) (c:Chg (OA (uW own nt cap) σ1) F H F' H'):Rep K own F' H' σ (jI own ρ1 nt cap ρ) where
 sub:=r.sub
 len:=by rw [gh]; exact p.len
 val:=λi d hi e=>by rw [vG (λz=>hi z.2)] at e;obtain ⟨v,h1,h2⟩:=p.val i d hi e;exact ⟨v,h1,h2.mono c.grow⟩
 ow:=λi d hi e=>by
  by_cases q:i∈cap
  ·obtain ⟨j,G⟩:=List.getElem?_of_mem q;have m:nt+j∈uW own nt cap:=mem_ownC.mpr ⟨j,i,rfl,G,hi⟩;obtain ⟨d',h⟩:=r.opn _ m;obtain ⟨w,hd0⟩:=p.opn i hi;rw [zo nd G hi (aC.mp hd0).1 h] at e;cases e;obtain ⟨a,h1,h2⟩:=r.ow _ _ m h;rw [f _ (mem_ioC.mpr ⟨j,(aC.mp G).1,rfl⟩)] at h1;obtain ⟨x,y,t,b,g⟩:=get_cap.mp h1;have:x=j:=by lia
   subst this;rw [G] at b; cases b;exact ⟨a,g,h2⟩
  ·rw [vG (λz=>q z.1)] at e;obtain ⟨a,h1,h2,n⟩:=p.ow i d hi e;have na:¬OA (uW own nt cap) σ1 a:=λz=>by
    obtain ⟨A,l,s⟩:=z;obtain ⟨j,k,rfl,g1,Y⟩:=mem_ownC.mp l;rw [f _ (mem_ioC.mpr ⟨j,(aC.mp g1).1,rfl⟩)] at s;obtain ⟨x,y,t,b,g⟩:=get_cap.mp s;have:x=j:=by lia
    subst this;rw [g1] at b; cases b;have e:=p.dis i k a hi Y h1 g;subst e;exact q (aQ g1)
   refine ⟨a,h1,?_,n.grow c.grow λo z=>c.keep a o z na⟩;cases O:F' a with
   | none=>rfl
   | some u=>
    rcases c.new a (by rw [O]; simp) with z | z | z;·exact absurd h2 z
    ·exact absurd z n.there
    ·exact absurd z na
 opn:=λi hi=>by
  by_cases q:i∈cap;·obtain ⟨j,G⟩:=List.getElem?_of_mem q;have m:nt+j∈uW own nt cap:=mem_ownC.mpr ⟨j,i,rfl,G,hi⟩;obtain ⟨d',h⟩:=r.opn _ m;obtain ⟨w,hd0⟩:=p.opn i hi;exact ⟨d',zo nd G hi (aC.mp hd0).1 h⟩
  ·rw [vG (λz=>q z.1)];exact p.opn i hi
 dis:=p.dis
end
noncomputable def xx (g:D->Sl->Out Sl) (ft:uX) (fe:je) (d:D) (ρ:Sl):Out (Option D×Sl):=
 (g d ρ).plain.bind λρ1=>(ft ρ1).plain.bind λq=>if q.1=iC then (fe q.2).plain.bind λr=>.ok (iu r.1,r.2) else .ok (iw,q.2)
noncomputable def jn (g:D->Sl->Out Sl) (ft:uX) (fe:je):List D->uV
 | [],ρ=>.ok ([],ρ)
 | d::ds,ρ=>(xx g ft fe d ρ).bind λp=>(jn g ft fe ds p.2).bind λq=>.ok (p.1.toList++q.1,q.2)
noncomputable def qZ (own:List Nat) (nt:Nat) (cap:List Nat) (fi:uV) (g:D->Sl->Out Sl) (ft:uX) (fe:je):je:=λρ=>(fi ρ).bind λp=>
 if p.1.length<=sizeLine then (jn g ft fe p.1 (vp nt cap p.2)).bind λq=>.ok (.lst q.1,jI own q.2 nt cap p.2) else .bad
noncomputable def ctC (C:Ct) (nt len:Nat):Ct:=⟨C.K,C.cv,λ_ _ _=>False,ioC nt len,.sh,[],[],λ_ h=>absurd h (by simp)⟩
noncomputable def ftT:uX:=λρ=>.ok (iC,ρ)
theorem Zm:PTs Y [] (tT C own ftT):=⟨λpins s σ H Q I ⟨F,ρ,a,h⟩=>qgP pins s σ H Q I (h F H a .refl)⟩
structure CW (C:Ct) (own:List Nat) (nt:Nat) (cap:List Nat) (σ:St) (F H F0:Hp) (g:D->Sl->Out Sl) (ft:uX) (fe:je) (ds ys:List D) (ρe:Sl) (p:Addr) (i:Nat) (σ1:St) (H1:Hp) (F1:Hp) (ρi:Sl) (accD:List D) (xs:List V) (rest:List D):Prop where
 rep:Rep C.K (uW own nt cap) F1 H1 σ1 ρi
 io:∀ i∈ioC nt cap.length,σ1[i]?=(vp nt cap σ)[i]?
 chg:Chg (OA (uW own nt cap) σ1) F H F1 H1
 gr:Same F0 F1
 at_:H1 p=iu (.lst xs)
 nF:F1 p=iw
 is:IsL C.K F1 xs accD
 le:accD.length<=i
 run:jn g ft fe (ds.drop i) ρi=.ok (rest,ρe)
 all:accD++rest=ys
variable {ρe:Sl}
theorem GQ {ft:uX} {fe:je} {rest:List D} (h:jn g ft fe (d::ds) ρ=.ok (rest,ρe)):∃ ρ1,g d ρ=.ok ρ1/\∃ b ρ2,ft ρ1=.ok (b,ρ2)/\((b=iC/\∃ y k r,fe ρ2=.ok (y,k)/\jn g ft fe ds k=.ok (r,ρe)/\rest=y::r)\/(b=iE/\jn g ft fe ds ρ2=.ok (rest,ρe))):=by
 unfold jn xx at h;cases f:g d ρ with
 | exc c=>rw [f] at h; cases h
 | bad=>rw [f] at h; cases h
 | ok ρ1=>
  rw [f] at h;refine ⟨ρ1,rfl,?_⟩;simp only [Out.plain,Out.oo] at h;cases e:ft ρ1 with
  | exc c=>rw [e] at h; cases h
  | bad=>rw [e] at h; cases h
  | ok p=>
   obtain ⟨b,ρ2⟩:=p;rw [e] at h;refine ⟨b,ρ2,rfl,?_⟩;simp only [Out.plain,Out.oo] at h;cases b with
   | true=>
    refine .inl ⟨rfl,?_⟩;simp only [if_true] at h;cases a:fe ρ2 with
    | exc c=>rw [a] at h; cases h
    | bad=>rw [a] at h; cases h
    | ok p=>
     obtain ⟨y,k⟩:=p;rw [a] at h;simp only [Out.plain,Out.oo] at h;cases q:jn g ft fe ds k with
     | exc c=>rw [q] at h; cases h
     | bad=>rw [q] at h; cases h
     | ok p=>obtain ⟨r,B⟩:=p;rw [q] at h;simp only [Out.oo] at h;cases h;exact ⟨y,k,r,rfl,q,rfl⟩
   | false=>
    refine .inr ⟨rfl,?_⟩;simp only [fF,if_false,Out.oo] at h;cases q:jn g ft fe ds ρ2 with
    | exc c=>rw [q] at h; cases h
    | bad=>rw [q] at h; cases h
    | ok p=>obtain ⟨r,B⟩:=p;rw [q] at h;simp only [Out.oo] at h;cases h;rfl
section
variable {elt:Expr} {fi:uV} {ft:uX} {fe:je} {me:Mo}
structure CapOk (X:Cx) (scope:lf) (N:List Str) (nt:Nat) (cap:List Nat):Prop where
 nd:cap.Nodup
 len:N.length=nt+cap.length
 at_:∀ (j k:Nat),cap[j]?=iu k->∃ x,N[nt+j]?=iu x/\X.N[k]?=iu x/\((Vis X.env.scope x/\(x,bF)∈scope.names)\/∀ k',(x,k')∉scope.names)
theorem WZ {F:Hp} {ρ1:Sl} {it:Addr} {fp:List Addr} {tn:Nat->Heap->Prop} {J:It} {E:iB->iF->Prop} {ds ys:List D} {ρe:Sl} (I:Inv X pins σ H s) (W:X.calm=iC) (S:ScOk X scope) (CO:CapOk X scope N nt cap)
  (T:Turn X.prog X.w X.K tg J fp it tn) (st0:tn 0 s.heap) (hf:∀ b∈fp,Ym X pins H b) (rp:Rep C.K own F H σ ρ1) (O:ItIs C.K F J ds) (hz:ds.length<=sizeLine)
  (hg:∀ fp L s' H',PG (jC X scope N fp L s' H') tg (tGd (ctC C nt cap.length) (uW own nt cap) g)) (ht:∀ fp L s' H',PTs (jC X scope N fp L s' H') ifs (tT (ctC C nt cap.length) (uW own nt cap) ft))
  (he:∀ fp L s' H',PE (jC X scope N fp L s' H') elt (tE (ctC C nt cap.length) (uW own nt cap) me fe)) (hme:me≠.any)
  (hrun:jn g ft fe ds (vp nt cap ρ1)=.ok (ys,ρe)) (RR:iB->Addr->lH->iF->Prop)
  (hRR:∀ p L s' F' H',H p=iw->Rep C.K own F' H' σ (jI own ρe nt cap ρ1)->Chg (OA own σ) F H F' H'->F' p=iw->OwnIs C.K F' H' p (.lst ys)->(∃ m,s'.heap.Ns L m)->Ym X pins H' L->(∀ h',bK L s'.heap h'->Inv X pins σ H' { s' with heap:=h' })->RR (.ref p) L (.ok .next) s') :
  wpAny (model X.prog X.w) X.A (newList []) (λacc s₃=>wpAny (model X.prog X.w) X.A (newFunctionEnv scope X.env.globals (WC X.env.cells scope.names []) [] X.env.qual iw .none (iu X.env)) (λG s₄=>
   codeAny (model X.prog X.w) X.A (.compStart (.ListComp elt [⟨tg,iter,ifs,0⟩] scope pos) 0 (.ref it) acc { G with scope:=relabel scope X.env }) (RR acc G.locals) s₄) E s₃) E s:=by
 have oaH:∀ {σ1:St} {b:Addr},(∀ i∈ioC nt cap.length,σ1[i]?=(vp nt cap σ)[i]?)->OA (uW own nt cap) σ1 b->H b≠none:=λU z=>(rp.OA_there (qbi U z)).1;refine qdT (σc:=vp nt cap σ) I W S T st0 hf hg ht (λfp L s' H'=>ya (he fp L s' H') hme) (by rw [YA,CO.len]) (λj x v e1 e2 e3=>?_)
  (λp i m σ1 H1=>H p=iw/\m=ds.length - i/\i<=ds.length/\∃ F1 ρi accD xs rest,CW C own nt cap σ F H F g ft fe ds ys ρe p i σ1 H1 F1 ρi accD xs rest)
  (λp H1=>H p=iw/\∃ σ1 F1 xs,Rep C.K (uW own nt cap) F1 H1 σ1 ρe/\(∀ i∈ioC nt cap.length,σ1[i]?=(vp nt cap σ)[i]?)/\Chg (OA (uW own nt cap) σ1) F H F1 H1/\H1 p=iu (.lst xs)/\F1 p=iw/\IsL C.K F1 xs ys) (λp hp=>?_) ?_ RR ?_
 ·obtain ⟨j',k,rfl,h1,h2⟩:=get_cap.mp e2;obtain ⟨y,g1,g2,g3⟩:=CO.at_ j' k h1;rw [g1] at e1; cases e1;obtain ⟨k',hk'⟩:=e3;rcases g3 with ⟨g3,g4⟩ | g3;·exact ⟨k,g2,h2,g3,g4⟩
  ·exact absurd hk' (g3 k')
 ·obtain ⟨r1,c1,hF⟩:=qbd (C:=C) (u:=.lst []) (qgQ (nt:=nt) rp CO.nd) hp;exact ⟨ds.length,hp,by simp,br _,F,vp nt cap ρ1,[],[],ys,r1,λ_ _=>rfl,c1.ofNo,Same.refl _,qu,hF,.nil,aB _,by simpa using hrun,rfl⟩
 ·rintro p i m σ1 H1 ⟨hp,rfl,hle,F1,ρi,accD,xs,rest,w⟩;by_cases t:i < ds.length
  ·have hd:ds.drop i=ds[i]::ds.drop (i+1):=List.drop_eq_getElem_cons t;have run:=w.run;rw [hd] at run;obtain ⟨ρa,ea,b,Z,eb,R⟩:=GQ run;have sub1:Same F H1:=w.gr.trans w.rep.sub;refine .inr ⟨O.go i H1 t sub1,λx H2 y=>?_⟩;obtain ⟨F2,c2,s2,is2⟩:=O.yld i F1 H1 x H2 ds[i] (by simp [t]) w.gr w.rep.sub y;have rp2:=w.rep.grow c2 s2;have M:∀ {Y:St},(∀ i∈ioC nt cap.length,Y[i]?=(vp nt cap σ)[i]?)->¬OA (uW own nt cap) Y p:=λU z=>oaH U z hp;have P:∀ {A:Addr->Prop} {Fa Ha Fb Hb:Hp} {zs:List V},Chg A Fa Ha Fb Hb->¬A p->Ha p=iu (.lst zs)->Fa p=iw->Hb p=iu (.lst zs)/\Fb p=none:=λ{A Fa Ha Fb Hb zs} c na e1 e2=>by
    refine ⟨c.keep p _ e1 na,?_⟩;cases q:Fb p with
    | none=>rfl
    | some u=>
     rcases c.new p (by rw [q]; simp) with z | z | z;·exact absurd e2 z
     ·rw [e1] at z; cases z
     ·exact absurd z na
   obtain ⟨at2,nF2⟩:=P c2 (λz=>z) w.at_ w.nF;refine ⟨F2,ρi,ds[i],rp2,is2,ρa,ea,λl rp3 oa3 io3=>?_⟩;have f:∀ i∈ioC nt cap.length,l[i]?=(vp nt cap σ)[i]?:=λi hi=>(io3 i hi).trans (w.io i hi);refine ⟨F2,ρa,rp3,?_⟩;rw [eb];intro F4 H4 rp4 c4;obtain ⟨at4,nF4⟩:=P c4 (M f) at2 nF2;have B:Chg (OA (uW own nt cap) l) F H F4 H4:=by
    have q1:Chg (OA own σ) F H F1 H1:=w.chg.mono λb z=>qbi w.io z;have mv:∀ {b},OA (uW own nt cap) σ1 b->OA (uW own nt cap) l b:=λ{b} z=>by obtain ⟨i',hi',e'⟩:=z;obtain ⟨j,k,rfl,g1,g2⟩:=mem_ownC.mp hi';have hm:nt+j∈ioC nt cap.length:=mem_ioC.mpr ⟨j,(aC.mp g1).1,rfl⟩;exact ⟨nt+j,hi',by rw [f _ hm,<-w.io _ hm]; exact e'⟩
    exact ((w.chg.mono λb z=>mv z).trans' c2.ofNo).trans' c4
   have gr4:Same F F4:=(w.gr.trans c2.grow).trans c4.grow;have Q:IsL C.K F4 xs accD:=(w.is.mono c2.grow).mono c4.grow;rcases R with ⟨rfl,y',ρc,r,ec,er,hr⟩ | ⟨rfl,er⟩
   ·rw [if_pos rfl];refine ⟨F4,Z,rp4,?_⟩;rw [ec];intro v F5 H5 h c5 mo5;obtain ⟨at5,nF5⟩:=P c5 (M f) at4 nF4;have hlen:xs.length=accD.length:=Q.length;refine ⟨xs,at5,by have:=w.le; lia,ds.length - (i+1),by lia,hp,rfl,t,F5,ρc,accD++[y'],xs++[v],r,?_⟩;have cp:Chg (λb=>b=p) F5 H5 F5 (upd H5 p (.lst (xs++[v]))):=⟨λb o e n=>by rw [qA n]; exact e,λb e=>by
     by_cases q:b=p;·rw [q,qu]; simp
     ·rw [qA q]; exact e,Same.refl _,λb e=>.inl e⟩
    have sb5:Same F5 (upd H5 p (.lst (xs++[v]))):=λb o e=>by rw [qA (qH e nF5)]; exact h.sub b o e
    have rp6:Rep C.K (uW own nt cap) F5 (upd H5 p (.lst (xs++[v]))) l ρc:=by
     refine ⟨sb5,h.len,h.val,λi d hi e=>?_,h.opn,h.dis⟩;obtain ⟨a,h1,h2,h3⟩:=h.ow i d hi e;have na:a≠p:=λz=>by subst z; exact M f ⟨i,hi,h1⟩
     exact ⟨a,h1,h2,h3.grow (Same.refl _) λo z=>by rw [qA na]; exact z⟩
    refine ⟨rp6,f,?_,(gr4.trans c5.grow),qu,nF5,(Q.mono c5.grow).append (.cons mo5 .nil),by simp only [ai,aq,bj]; have:=w.le; lia,er,?_⟩;·exact (B.trans' c5).trans cp λb z=>.inr (by rw [z]; exact hp)
    ·rw [aT,<-w.all,hr]; rfl
   ·rw [if_neg be];exact ⟨ds.length - (i+1),by lia,hp,rfl,t,F4,Z,accD,xs,rest,rp4,f,B,gr4,at4,nF4,Q,by have:=w.le; lia,er,w.all⟩
  ·have e:i=ds.length:=by lia
   subst e;have run:=w.run;rw [List.drop_length] at run;unfold jn at run;cases run;have ha:=w.all;rw [bh] at ha;subst ha;exact .inl ⟨O.stop _ H1 (aB _) (w.gr.trans w.rep.sub),hp,σ1,F1,xs,w.rep,w.io,w.chg,w.at_,w.nF,w.is⟩
 ·rintro p L H' s' ⟨hp,σ1,F1,xs,r1,io1,c1,e1,n1,is1⟩ hns hfp hinv;exact hRR p L s' F1 H' hp (qbj rp CO.nd r1 io1 c1) (c1.mono λb z=>qbi io1 z) n1 ⟨xs,e1,is1⟩ hns hfp hinv
theorem YB:∀ (ds:List D) (ρ:Sl) (c:Str) (o:Sl),jn g ft fe ds ρ≠.exc c o:=by
 intro ds
 induction ds with
 | nil=>intro ρ c o z; cases z
 | cons d ds j=>
  intro ρ c o z;unfold jn xx at z;cases e:g d ρ with
  | exc c=>rw [e] at z; cases z
  | bad=>rw [e] at z; cases z
  | ok ρ1=>
   rw [e] at z;simp only [Out.plain,Out.oo] at z;cases b:ft ρ1 with
   | exc c=>rw [b] at z; cases z
   | bad=>rw [b] at z; cases z
   | ok p=>
    rw [b] at z;simp only [Out.plain,Out.oo] at z;by_cases h:p.1=iC
    ·rw [if_pos h] at z;cases a:fe p.2 with
     | exc c=>rw [a] at z; cases z
     | bad=>rw [a] at z; cases z
     | ok r=>
      rw [a] at z;simp only [Out.plain,Out.oo] at z;cases q:jn g ft fe ds r.2 with
      | exc c=>exact j _ _ _ q
      | bad=>rw [q] at z; cases z
      | ok t=>rw [q] at z; cases z
    ·rw [if_neg h] at z;simp only [Out.oo] at z;cases q:jn g ft fe ds p.2 with
     | exc c=>exact j _ _ _ q
     | bad=>rw [q] at z; cases z
     | ok t=>rw [q] at z; cases z
theorem Ua {α:Type} {Z:WR->Prop} (r:Rep C.K own F H σ ρ) (b:¬Z .bad) (hx:∀ c ρ',Z (.exc c ρ')->∀ F' H',Same F' H'->qay C.K C.ox F' H' σ ρ'->Chg (OA own σ) F H F' H'->C.E (C.cv c) iw H') (h:Z (qZ own nt cap fi g ft fe ρ)):tIt C own fi σ H λJ H1=>∃ ds ρ1 ys ρe F1,ds.length<=sizeLine/\jn g ft fe ds (vp nt cap ρ1)=.ok (ys,ρe)/\Rep C.K own F1 H1 σ ρ1/\Chg (OA own σ) F H F1 H1/\ItIs C.K F1 J ds/\Z (.ok (.lst ys,jI own ρe nt cap ρ1)):=by
 refine ⟨F,ρ,r,?_⟩;unfold qZ at h;cases q:fi ρ with
 | exc c=>rw [q] at h; exact hx c _ h
 | bad=>rw [q] at h; exact (b h).elim
 | ok p=>
  obtain ⟨ds,ρ1⟩:=p;rw [q] at h;have h:Z (if ds.length<=sizeLine then (jn g ft fe ds (vp nt cap ρ1)).bind λq=>.ok (.lst q.1,jI own q.2 nt cap ρ1) else .bad):=h;by_cases z:ds.length<=sizeLine
  ·rw [if_pos z] at h;cases d:jn g ft fe ds (vp nt cap ρ1) with
   | exc c=>exact absurd d (YB _ _ _ _)
   | bad=>rw [d] at h; exact (b h).elim
   | ok p=>obtain ⟨ys,ρe⟩:=p;rw [d] at h;exact λJ F1 H1 a k it=>⟨ds,ρ1,ys,ρe,F1,z,d,a,k,it,h⟩
  ·rw [if_neg z] at h; exact (b h).elim
theorem qgR (P:X.calm=iC) (S:ScOk X scope) (R:CapOk X scope N nt cap) (hi:PI X tg iter (tIt C own fi))
  (hg:∀ fp L s' H',PG (jC X scope N fp L s' H') tg (tGd (ctC C nt cap.length) (uW own nt cap) g)) (ht:∀ fp L s' H',PTs (jC X scope N fp L s' H') ifs (tT (ctC C nt cap.length) (uW own nt cap) ft))
  (G:∀ fp L s' H',PE (jC X scope N fp L s' H') elt (tE (ctC C nt cap.length) (uW own nt cap) me fe)) (i:me≠.any:=by decide) (B:∀ x,foldedSetIterable iter X.env x=pure x:=by intro _; rfl) :
  PE X (.ListComp elt [⟨tg,iter,ifs,0⟩] scope pos) (tE C own .fr (qZ own nt cap fi g ft fe)):=by
 refine ⟨?_⟩;intro pins s σ H Q I ⟨F,ρ,l,h⟩;rw [eval_ListComp];have n:=Ua (α:=Unit) (Z:=λr=>Po C own .fr σ F H r Q) l (λz=>z) (λc _ z=>z) h;refine wpAny_comprehension_free (use:=iw) rfl B (KF (Jf I S)) S.kind S.names (thn (hi pins s σ H _ I n) λW s1 h1=>thn h1 λt s2 h2=>?_);obtain ⟨it,fp,tn,J,H2,e,M,T,K,f2,ds,ρ1,ys,ρe,F1,y,a,b,k,O,po⟩:=h2;subst e;refine WZ (RR:=λacc V=>compPost (model X.prog X.w) X.A X.xe iw (EP X pins σ Q) acc V) M P S R T K f2 b O y hg ht G i a λp L s' F' H' hp d U nF o f E v=>?_;obtain ⟨m,D⟩:=f;refine ⟨m,D,λh' j=>⟨.ref p,H',v h' j,rfl,?_⟩⟩;refine po (.ref p) F' H' d (k.trans' U) ⟨p,rfl,?_,nF,o⟩;cases q:H p with
 | none=>rfl
 | some u=>exact absurd hp (k.stay p (by rw [q]; simp))
theorem qdU {pos' spos:Pos} (hN:X.N.Nodup) (V:X.N[i]?=iu x) (hx:Loc X.env.scope x) (P:X.calm=iC) (S:ScOk X scope) (CO:CapOk X scope N nt cap) (hi:PI X tg iter (tIt C own fi))
  (hg:∀ fp L s' H',PG (jC X scope N fp L s' H') tg (tGd (ctC C nt cap.length) (uW own nt cap) g)) (ht:∀ fp L s' H',PTs (jC X scope N fp L s' H') ifs (tT (ctC C nt cap.length) (uW own nt cap) ft))
  (he:∀ fp L s' H',PE (jC X scope N fp L s' H') elt (tE (ctC C nt cap.length) (uW own nt cap) me fe)) (M:me≠.any:=by decide) (W:i∉C.io:=by exact zj rfl)
  (E:swapsWith (.ListComp elt [⟨tg,iter,ifs,0⟩] scope pos) (iu (.Name x pos')) spos.line X.env=pure true:=by rfl) (hs:∀ x,foldedSetIterable iter X.env x=pure x:=by intro _; rfl)
  (Y:X.fn x=iC\/X.env.scope.names.lookup x=iu .local:=by first | exact .inl rfl | exact .inr rfl) :
  PS X (.Assign [.Name x pos'] (.ListComp elt [⟨tg,iter,ifs,0⟩] scope pos) spos) (tSt C own (i::wJ own [i]) (jl i (qZ own nt cap fi g ft fe))):=by
 refine ⟨?_⟩;intro pins s σ H D I ⟨F,ρ,rp,h⟩;rw [exec_Assign_Name_used _ _ _ _ E];refine iA (wpAny_standAt (iA ?_));show wpAny _ X.A (do let _ <-comprehension (.ListComp elt [⟨tg,iter,ifs,0⟩] scope pos) scope X.env _ (newList []) iE (eval iter X.env) (iu (assign (.Name x pos') X.env))) _ _ s;have n:=Ua (α:=Unit) (Z:=λr=>PoS C own (i::wJ own [i]) σ F H (r.bind λp=>if i < p.2.length then .ok (.nx,p.2.set i (iu p.1)) else .bad) D) rp (λz=>z) (λc _ z=>z) h;refine iA (k4 (wpAny_comprehension_free (use:=iu (assign (.Name x pos') X.env)) (Q:=λ_ s'=>SP X pins D .next s') rfl hs (KF (Jf I S)) S.kind S.names (thn (hi pins s σ H _ I n) λxv s1 h1=>thn h1 λitv s2 h2=>?_)) (λ_ s' hq=>iG (iG hq)) λ_ _ e=>e);obtain ⟨it,fp,tn,J,H2,e,I2,T,K,f2,ds,ρ1,ys,ρe,F1,hz,f,t,c1,O,po⟩:=h2;subst e;refine WZ (RR:=λacc C'=>compPost (model X.prog X.w) X.A X.xe (iu (assign (.Name x pos') X.env)) (λ_ s'=>SP X pins D .next s') acc C') I2 P S CO T K f2 t O hz hg ht he M f λp L s' F' H' hp d c' nF o G hfp k=>?_;obtain ⟨m,hn⟩:=G;have I3:Inv X pins σ H' s':=by simpa using k s'.heap (.refl ..)
 have hH:H p=none:=by
  cases q:H p with
  | none=>rfl
  | some u=>exact absurd hp (c1.stay p (by rw [q]; simp))
 show wpAny _ X.A (assign (.Name x pos') X.env (.ref p)) _ _ s';refine wpAny_assign_Name (WG I3 hN V hx (v:=.ref p) rfl (λs4 I4 ⟨a,l,ha⟩=>?_) Y);obtain ⟨f0,f1,f2',f3,f4,f5⟩:=hfp;have nL:L≠a:=by
  rcases ha with z | z;·rw [z]; exact f1
  ·exact λq=>f4 x a z q.symm
 refine ⟨m,hn.sameBut l nL,λh' sb=>?_⟩;have I5:Inv X pins (σ.set i (iu (.ref p))) H' { s4 with heap:=h' }:=by have:=I4.turned (h':=h') (t':=s4.toks) (it:=L) (λb o hb e=>(sb.2 b hb).trans e) f0 f1 f3 f4 f5;exact this
 refine ⟨_,H',I5,?_⟩;have po:PoS C own (i::wJ own [i]) σ F H (if i < (jI own ρe nt cap ρ1).length then .ok (.nx,(jI own ρe nt cap ρ1).set i (iu (.lst ys))) else .bad) D:=po;by_cases z:i < (jI own ρe nt cap ρ1).length
 ·rw [if_pos z] at po;refine po _ F' H' ⟨d.putO z nF (λy=>(rp.OA_there y).1 hH) o,c1.trans' c',λb y=>?_,λj U=>ay λy=>W (by rw [y]; exact U)⟩;obtain ⟨j,U,e⟩:=y;by_cases B:j=i;·subst B;rw [aJ (by rw [d.len]; exact z)] at e;cases e;exact .inr hH
  ·have R:=(jg j).mp ((ac.mp U).resolve_left B);rw [ay (bo B)] at e;exact .inl ⟨j,R.1,e⟩
 ·rw [if_neg z] at po; exact po.elim
end
def Fly (h:Heap) (ex T:Addr) (cls:iB):Prop:=∃ o vs a ts,h.get? ex=iu o/\o.cls=cls/\o.data=.fields vs/\vs[1]?=iu (.ref T)/\T≠ex/\h.get? T=iu a/\a.data=.fields ts/\ts[3]?=iu .none
def CXk (P:iH) (w:iI):CXT:=λouter H s E e s'=>∃ ex T C H',e=.ref ex/\s'.os=s.os/\lh s'.gens/\Un (frs outer) [] H H' s.heap s'.heap/\HOk P w H' s'.heap/\Fly s'.heap ex T (.ref C)/\H' ex=iw/\H' T=iw/\s.heap.get? ex=iw/\s.heap.get? T=iw/\E (.ref C) iw H'
def InB (X:Cx) (H:Hp) (s:iF) (ex:Addr) (cls:iB):Prop:=H ex=iw/\X.s₀.heap.get? ex=iw /\
 ((∃ o vs,s.heap.get? ex=iu o/\o.cls=cls/\o.data=.fields vs/\vs[1]?=iu .none)\/∃ T,Fly s.heap ex T cls/\H T=iw/\X.s₀.heap.get? T=iw)
variable {ex:Addr} {T0:Option Addr} {h2:Heap}
section
variable {cls:iB}
theorem InB.dat (h:InB X H s ex cls):∃ o vs,s.heap.get? ex=iu o/\o.cls=cls/\o.data=.fields vs:=by
 rcases h.2.2 with ⟨o,vs,a,b,c,_⟩ | ⟨T,⟨o,vs,d,ts,a,b,c,_⟩,_⟩
 ·exact ⟨o,vs,a,b,c⟩
 ·exact ⟨o,vs,a,b,c⟩
noncomputable def zp (ex:Addr) (T:Option Addr) (X:Cx):List Addr:=ex::(T.toList++frs X.stack)
theorem zq (I:Inv X pins σ H s) (d:b∈frs X.stack):∃ o,s.heap.get? b=iu o/\∀ vs,o.data≠.fields vs:=(I.stack.mem d).2
theorem Ub (c:X.stack=X.env::X.outer):∀ env∈X.stack,∀ b,env.frame=iu b->b∈frs X.stack:=λenv i b d=>d6.mpr ⟨env,i,d⟩
structure Gone (X:Cx) (H:Hp) (s:iF) (ex:Addr) (cls:iB) (h2:Heap):Prop where
 keep:∀ b o,s.heap.get? b=iu o->H b≠iw\/(X.s₀.heap.get? b≠iw/\b∉frs X.stack)->h2.get? b=iu o
 slot:∀ b o,s.heap.get? b=iu o->b∈frs X.stack->∃ sl,h2.get? b=iu { o with slots:=sl }
 ok:HOk X.prog X.w H h2
 un:Un (frs X.stack) [] H H s.heap h2\/True
theorem qbk {h2:Heap} (I:Inv X pins σ H s) (hex:H ex=iw) (hT:∀ T,T0=iu T->H T=iw) (n1:X.s₀.heap.get? ex=iw) (n2:∀ T,T0=iu T->X.s₀.heap.get? T=iw)
  (st:(bi s.heap (zp ex T0 X)).StaysIn h2) (sl:∀ b o,s.heap.get? b=iu o->(∀ vs,o.data≠.fields vs)->∃ sl,h2.get? b=iu { o with slots:=sl }):Gone X H s ex cls h2:=by
 have keep:∀ b o,s.heap.get? b=iu o->b≠ex->(∀ T,T0=iu T->b≠T)->b∉frs X.stack->h2.get? b=iu o:=λb o e h1 h2 i=>st b o (df _ e λm=>by
  rcases ac.mp m with q | m;·exact h1 q
  ·rcases ao.mp m with q | q;·exact h2 b (Option.mem_toList.mp q) rfl
   ·exact i q)
 have k1:∀ b o,s.heap.get? b=iu o->H b≠iw->h2.get? b=iu o:=λb o e n=>keep b o e (λq=>n (by rw [q]; exact hex)) (λT h q=>n (by rw [q]; exact hT T h)) λq=>n (I.stkFree b q);refine ⟨λb o e d=>?_,λb o e d=>?_,λb u e=>?_,.inr trivial⟩
 ·rcases d with d | ⟨d,hf⟩
  ·exact k1 b o e d
  ·exact keep b o e (λq=>d (by rw [q]; exact n1)) (λT h q=>d (by rw [q]; exact n2 T h)) hf
 ·obtain ⟨o',a,y⟩:=zq I d;rw [e] at a; cases a;exact sl b o e y
 ·refine (I.hok b u e).stay (λc v f q=>k1 c v q ?_) (λ_ q=>q) λ_ _ q=>q;rcases f with z | z;·rw [z,e]; simp
  ·rw [z]; simp
theorem Uc (I:Inv X pins σ H s) (hT:∀ T,T0=iu T->H T=iw) (n2:∀ T,T0=iu T->X.s₀.heap.get? T=iw) (g:Gone X H s ex cls h2) (c:X.ex=[])
  (tr:h2.Traced (bi s.heap (zp ex T0 X)) ex cls):∃ T,Fly h2 ex T cls/\H T=iw/\X.s₀.heap.get? T=none:=by
 obtain ⟨t,vs,T,w,ts,K,J,G,E,p,l,k,j,D⟩:=tr;have a:∀ o,s.heap.get? T=iu o->(∃ q,T0=iu q/\T=q):=λo e=>by
  have m:T∈zp ex T0 X:=by refine bN λA=>?_;rw [df _ e A] at p;cases p
  rcases ac.mp m with q | m;·exact absurd q l
  ·rcases ao.mp m with q | q;·exact ⟨T,Option.mem_toList.mp q,rfl⟩
   ·obtain ⟨o',d,x⟩:=zq I q;obtain ⟨sl,i⟩:=g.slot T o' d q;rw [k] at i;cases i;exact absurd j (x ts)
 refine ⟨T,⟨t,vs,w,ts,K,J,G,E,l,k,j,D⟩,?_,?_⟩
 ·cases q:H T with
  | none=>rfl
  | some u=>
   have B:=I.hok.lt q;obtain ⟨o,e⟩:∃ o,s.heap.get? T=iu o:=by
    have:=(I.hok T u q)
    have st:=this.stay (H':=H) (h':=s.heap) (λb v _ z=>z) (λ_ z=>z) λ_ _ z=>z;cases z:s.heap.get? T with
    | some o=>exact ⟨o,rfl⟩
    | none=>
     exfalso;cases u with
     | lst xs=>obtain ⟨_,_,_,_,e⟩:=st; rw [z] at e; cases e
     | tup xs=>obtain ⟨_,_,_,_,e,_⟩:=st; rw [z] at e; cases e
     | dK kvs=>obtain ⟨_,_,_,_,o,_,_,e,_⟩:=st; rw [z] at e; cases e
     | dT kvs=>obtain ⟨_,_,_,_,o,_,_,e,_⟩:=st; rw [z] at e; cases e
     | set S n=>obtain ⟨o,_,_,_,e,_⟩:=st; rw [z] at e; cases e
     | ins C dx fs=>obtain ⟨_,_,_,e,_⟩:=st; rw [z] at e; cases e
     | own y=>obtain ⟨_,e⟩:=st; rw [z] at e; cases e
     | xd fs=>obtain ⟨_,⟨_,_,_,e,_⟩,_⟩:=st; rw [z] at e; cases e
     | rng lo hi=>obtain ⟨_,_,_,e⟩:=st; rw [z] at e; cases e
     | frz L u=>obtain ⟨e,_⟩:=st; rw [z] at e; cases e
     | tbl ps=>have e:s.heap.get? T=iu _:=st; rw [z] at e; cases e
     | met f y=>have e:s.heap.get? T=iu _:=st; rw [z] at e; cases e
     | ext φ=>obtain ⟨_,⟨_,e⟩,_⟩:=st; rw [z] at e; cases e
   obtain ⟨r,h,rfl⟩:=a o e;rw [hT _ h] at q; cases q
 ·cases q:X.s₀.heap.get? T with
  | none=>rfl
  | some o=>obtain ⟨o',d⟩:=I.base.there T o q (by rw [c]; simp);obtain ⟨r,h,rfl⟩:=a o' d;rw [n2 _ h] at q; cases q
theorem GR {E:iB->iF->Prop} {Q:Unit->iF->Prop} (I:Inv X pins σ H s) (h:X.stack=X.env::X.outer) (r:X.env.frame=iu X.env.locals) (c:X.ex=[]) (x:InB X H s ex cls)
  (k:∀ h2 T,Gone X H s ex cls h2->Fly h2 ex T cls->H T=iw->X.s₀.heap.get? T=iw->Q () { s with heap:=h2 }):wpAny (model X.prog X.w) X.A (leaving X.env (.ref ex)) Q E s:=by
 obtain ⟨hex,n1,hx⟩:=x;have D:X.A.frames=iu (X.env::X.outer):=by rw [I.ok.frames,h]
 have B:∀ as,(bi s.heap as).StaysIn s.heap:=λas b o e=>d4 as e;have hl:∀ T0,s.heap.FunFrames (bi s.heap (zp ex T0 X)) (X.env::X.outer):=λT0=>by rw [<-h];exact PySem.W.funFrames_hide I.stack λenv v b C=>aa _ (aP _ (Ub h env v b C))
 have q:∀ T0,(bi s.heap (zp ex T0 X)).get? ex=none:=λT0=>cU _ (ac.mpr (.inl rfl));rcases hx with ⟨p,vs,m,j,i,y⟩ | ⟨T,⟨p,vs,u,ts,m,j,i,y,L,K,J,G⟩,hT,n2⟩
 ·refine wpAny_leaving_first (base:=bi s.heap (zp ex iw X)) D (hl iw) r m (B _) (q iw) i y λh2 ⟨st,_,tr,sl⟩=>?_;have g:Gone X H s ex cls h2:=qbk I hex (T0:=iw) (λ_ z=>nomatch z) n1 (λ_ z=>nomatch z) st sl;rw [j] at tr;obtain ⟨l,f1,f2,f⟩:=Uc I (T0:=iw) (λ_ z=>nomatch z) (λ_ z=>nomatch z) g c tr;exact k h2 l g f1 f2 f
 ·have d:∀ a,iu T=iu a->H a=none:=λa z=>by cases z; exact hT
  have n:∀ a,iu T=iu a->X.s₀.heap.get? a=none:=λa z=>by cases z; exact n2
  have t:s.heap.Traced (bi s.heap (zp ex (iu T) X)) ex cls:=⟨p,vs,T,u,ts,m,j,i,y,cU _ (aa _ (bW _ (by simp))),L,K,J,G⟩
  refine wpAny_leaving_next (base:=bi s.heap (zp ex (iu T) X)) D (hl (iu T)) r t (B _) (q _) λh2 ⟨st,_,tr,sl⟩=>?_;have g:Gone X H s ex cls h2:=qbk I hex d n1 n st sl;obtain ⟨l,f1,f2,f⟩:=Uc I d n g c tr;exact k h2 l g f1 f2 f
end
variable {A:iK} {P:iH} {w:iI} {mg:Str->Option iB} {base h:Heap} {qual:Str} {outer:List Env} {s0:iF}
section
variable {cd:iB} {E:XK}
abbrev cxk (P:iH) (w:iI) (K:Frag) (mg:Str->Option iB) (base:Heap) (N:List Str) (qual:Str) (scope:lf) (f:Addr) (cd:iB) (A:iK) (outer:List Env) (s0:iF) (H0:Hp) (E:XK):Cx:=qgn (CXk P w) P w K mg base N qual scope f cd A outer s0 H0 E
theorem qiV {C:Addr} (I:Inv (cxk P w K mg base N qual scope f cd A outer s0 H0 E) pins σ H s) (x:InB (cxk P w K mg base N qual scope f cd A outer s0 H0 E) H s ex (.ref C)) (k:E (.ref C) iw H):(cxk P w K mg base N qual scope f cd A outer s0 H0 E).xe (.ref ex) s:=by
 refine GR I rfl rfl rfl x λh2 T g l hT j=>?_;have a:=I.base;have L:∀ b o,s0.heap.get? b=iu o->b≠(cxk P w K mg base N qual scope f cd A outer s0 H0 E).env.locals:=λb o e=>aE (aK (aA e) I.ok.above);have t:∀ b o,s0.heap.get? b=iu o->b∉frs outer->b∉frs (cxk P w K mg base N qual scope f cd A outer s0 H0 E).stack:=λb o e d z=>by
  rcases ac.mp (I.stkSub b z) with q | q;·exact L b o e q
  ·exact d q
 have i:∀ b,b∈frs outer->b∈frs (cxk P w K mg base N qual scope f cd A outer s0 H0 E).stack:=λb d=>by show b∈frs (_::outer);unfold frs;rw [bw];exact aa _ d
 refine ⟨ex,T,C,H,rfl,I.os,I.bare,⟨λb o e n d hx=>?_,λb o e n d hx=>?_,a.free,λb o e hx=>?_,a.tups,a.frzs,a.tbls⟩,g.ok,l,x.1,hT,x.2.1,j,k⟩;·exact g.keep b o (a.keep b o e n d hx) (.inr ⟨by show s0.heap.get? b≠iw; rw [e]; simp,t b o e d⟩)
 ·obtain ⟨sl,q⟩:=a.slot b o e n d hx;obtain ⟨c,h⟩:=g.slot b _ q (i b d);exact ⟨c,h⟩
 ·obtain ⟨o',q⟩:=a.there b o e hx;by_cases d:b∈frs (cxk P w K mg base N qual scope f cd A outer s0 H0 E).stack;·obtain ⟨sl,h⟩:=g.slot b o' q d;exact ⟨_,h⟩
  ·exact ⟨o',g.keep b o' q (.inr ⟨by show s0.heap.get? b≠iw; rw [e]; simp,d⟩)⟩
theorem qgS {e:iB} (c:X.ex=[]) (I:Inv X pins σ H s) (h:CXk X.prog X.w X.stack H s E e s'):∃ ex C H',e=.ref ex/\Inv X pins σ H' s'/\InB X H' s' ex (.ref C)/\E (.ref C) iw H':=by
 obtain ⟨ex,T,C,H',rfl,os,bare,un,hok,l,e1,i,n1,n2,k⟩:=h;have old:∀ b,s.heap.get? b=iw->X.s₀.heap.get? b=none:=λb d=>by
  cases q:X.s₀.heap.get? b with
  | none=>rfl
  | some o=>obtain ⟨o',a⟩:=I.base.there b o q (by rw [c]; simp);rw [d] at a; cases a
 exact ⟨ex,C,H',rfl,I.call' (ch:=[]) os un hok bare (λb z=>absurd z (by simp)),⟨e1,old ex n1,.inr ⟨T,l,i,old T n2⟩⟩,k⟩
theorem qk3:zd (CXk P w) (cxk P w K mg base N qual scope f cd A outer s0 H0 E) E:=λpins σ H s e s' I h=>by obtain ⟨ex,C,H',rfl,b,x,k⟩:=qgS rfl I h;exact qiV b x k
theorem qgT {C:Addr} {b:List iB} {d:String} (kin:K.In h) (c:mg x=iu (.ref C)) (q:dX K C b d=iC):OwnCls x C b d mg h:=by
 refine ⟨c,?_⟩;unfold dX at q;split at q
 case h_2=>cases q
 case h_1 dd cd sl lk=>
  split at q
  case h_2=>cases q
  case h_1 C' bm a0 a1 a2 a3 n a5 em es=>
   have g:=q;simp only [aV,beq_iff_eq,Bool.not_eq_true'] at g;obtain ⟨⟨⟨⟨⟨e1,i⟩,l⟩,tl⟩,k⟩,t⟩:=g;obtain ⟨nm,bs,mro,ns,a,hd,sn,sub,ab,col,del⟩:=cd;dsimp only at em l k t;obtain ⟨s⟩:=sl;dsimp only at es;subst em l es e1 i;exact ⟨bm,ns,nm,a,bs,hd,sn,sub,ab,col,dd,a0,a1,a2,a3,a5,_,kin _ _ lk,.of_isNs (PySem.W.isNs_of_in kin k),PySem.W.nsMap_none_of_in kin k t,PySem.W.tail_of_in kin tl⟩
end
theorem qfr {T:Addr} (hok:HOk P w H h) (q:H T=iu u):∃ o,h.get? T=iu o:=by
 have st:=hok T u q;cases z:h.get? T with
 | some o=>exact ⟨o,rfl⟩
 | none=>
  exfalso;cases u with
  | lst xs=>obtain ⟨_,_,_,_,e⟩:=st; rw [z] at e; cases e
  | tup xs=>obtain ⟨_,_,_,_,e,_⟩:=st; rw [z] at e; cases e
  | dK kvs=>obtain ⟨_,_,_,_,o,_,_,e,_⟩:=st; rw [z] at e; cases e
  | dT kvs=>obtain ⟨_,_,_,_,o,_,_,e,_⟩:=st; rw [z] at e; cases e
  | set S n=>obtain ⟨o,_,_,_,e,_⟩:=st; rw [z] at e; cases e
  | ins C dx fs=>obtain ⟨_,_,_,e,_⟩:=st; rw [z] at e; cases e
  | own y=>obtain ⟨_,e⟩:=st; rw [z] at e; cases e
  | xd fs=>obtain ⟨_,⟨_,_,_,e,_⟩,_⟩:=st; rw [z] at e; cases e
  | rng lo hi=>obtain ⟨_,_,_,e⟩:=st; rw [z] at e; cases e
  | frz b u=>obtain ⟨e,_⟩:=st; rw [z] at e; cases e
  | tbl ps=>have e:h.get? T=iu _:=st; rw [z] at e; cases e
  | met f y=>have e:h.get? T=iu _:=st; rw [z] at e; cases e
  | ext φ=>obtain ⟨_,⟨_,e⟩,_⟩:=st; rw [z] at e; cases e
abbrev bmV:List iB:=[.type "ValueError",.type "Exception",.type "BaseException",.type "object"]
noncomputable def kg (x:Str) (fr:uV):qV:=λρ=>(fr ρ).bind λp=>.exc x p.2
theorem PoS.bindA {as:List AK} {o:Out (List D×Sl)} {k:List D×Sl->Out (Fl×Sl)} {D:Ends} {R:List V->Hp->Prop} (hp:PoS C own own' σ F H (o.bind k) D)
  (h:∀ vs F1 H1 ds ρ1,Rep C.K own F1 H1 σ ρ1->Chg (OA own σ) F H F1 H1->ArgV C.K H F1 H1 σ as vs ds->PoS C own own' σ F1 H1 (k (ds,ρ1)) D->R vs H1):PoA C own as σ F H o R:=by
 cases o with
 | ok p=>obtain ⟨ds,ρ1⟩:=p;exact λvs F1 H1 a c v=>h vs F1 H1 ds ρ1 a c v (PoS.shift (show PoS C own own' σ F H (k (ds,ρ1)) D from hp) (.ofE a c))
 | exc x=>exact hp
 | bad=>exact hp.elim
def Zn (X:Cx) (C:Ct):Prop:=∀ (pins:Pns) (σ:St) (H:Hp) (s:iF) (ex A:Addr),Inv X pins σ H s->InB X H s ex (.ref A)->C.E (.ref A) iw H->X.xe (.ref ex) s
theorem qiW {cd:iB}:Zn (cxk P w K mg base N qual scope f cd A outer s0 H0 C.E) C:=λpins σ H s ex A I x k=>qiV I x k
variable {Cc:Addr}
section
variable {fr:uV} {np cpos:Pos}
theorem ArgV.len:∀ {as:List AK} {vs:List V} {ds:List D},ArgV K H0 F H σ as vs ds->vs.length=as.length
 | [],[],[],_=>rfl
 | .vl::as,v::vs,d::ds,h=>congrArg (·+1) (ArgV.len h.2)
 | .sl i::as,v::vs,d::ds,h=>congrArg (·+1) (ArgV.len h.2.2)
 | .fr::as,v::vs,d::ds,h=>congrArg (·+1) (ArgV.len h.2)
 | [],_::_,_,h=>h.elim
 | [],[],_::_,h=>h.elim
 | .vl::_,[],_,h=>h.elim
 | .vl::_,_::_,[],h=>h.elim
 | .sl _::_,[],_,h=>h.elim
 | .sl _::_,_::_,[],h=>h.elim
 | .fr::_,[],_,h=>h.elim
 | .fr::_,_::_,[],h=>h.elim
theorem qbl (b:X.ex=[]) (ht:Zn X C) (P:X.calm=iC) (hg:Gl X x) (m:X.mg x=iu (.ref Cc)) (v:C.cv x=.ref Cc) (q:dX X.K Cc bmV "ValueError.__new__"=iC) (A:PA X (e::es) (tAr C own as fr)) (hsz:as.length<=1000:=by decide) (f:∀ i∈C.ox,i∈own:=by exact xD rfl) (hd:Dbg x:=by decide)
  (g:starEach (e::es) X.env=(iE,eval e X.env)::starEach es X.env:=by exact jR rfl) (l:(backTo cpos (starEach es X.env)).any (·.1)=false:=by rfl) :
  PS X (.Raise (iu (.Call (.Name x np) (e::es) [] cpos)) iw pos) (tSt C own own' (kg x fr)):=by
 refine ⟨?_⟩;intro pins s σ H D I ⟨F,ρ,r,h⟩;obtain ⟨tl,N,nm,p,bs,hdct,sn,sub,ab,col,dd,k0,k1,k2,k3,k5,mN,hC,B,c,T⟩:=(qgT I.ok.mod.kin m q).obj;refine wpAny_Raise_call_subT (C:=Cc) (nm:=nm) (q:=p) (N:=N) (bs:=bs) (bm:=tl) (hdct:=hdct) (sn:=sn) (sub:=sub) (ab:=ab) (col:=col) (dd:=dd) (k0:=k0) (k1:=k1) (k2:=k2) (k3:=k3) (k5:=k5)
  PySem.F.excBase_ValueError (mN:=mN) (T.hasType PySem.F.excBase_ValueError.hasBase) (I.ok.hd P) (by rw [g]; show (iE||(backTo cpos (starEach es X.env)).any (·.1))=iE; rw [l]; rfl) c (Vm I hg m ⟨rfl,?_⟩ hd)
 have n:tAr C own as fr σ H λvs H1=>vs.length<=sizeLine/\C.E (.ref Cc) iw H1:=by
  refine ⟨F,ρ,r,PoS.bindA h λvs F1 H1 ds ρ1 a O J h1=>⟨?_,?_⟩⟩;·rw [J.len]; exact bv hsz (by rw [iL]; decide)
  ·rw [<-v]; exact h1 F1 H1 a.sub (a.ioIs f) .refl
 have run:=A cpos pins s σ H _ I n;rw [g] at run ⊢;refine fy (k4 run (λus s2 ⟨vs,H2,k,r2,z,G⟩=>?_) λ_ _ y=>y);refine ⟨rfl,by rw [<-r2.length]; exact z,k.bk _ _ hC,B.keeps k.bk,T.keeps k.bk,λh' ex mk=>?_⟩;have L:Inv X pins σ H2 { s2 with heap:=h' }:=k.kept (t':=s2.toks) mk.keeps;obtain ⟨t,h1,h2,M⟩:=mk.there;refine ht pins σ H2 _ ex Cc L ⟨?_,?_,.inl ⟨_,_,h1,rfl,rfl,rfl⟩⟩ G
 ·cases d:H2 ex with
  | none=>rfl
  | some u=>have w:=k.hok.lt d;refine absurd mk.new ?_;obtain ⟨o,e⟩:=qfr k.hok d;rw [e]; simp
 ·cases d:X.s₀.heap.get? ex with
  | none=>rfl
  | some o=>obtain ⟨o',j⟩:=k.base.there ex o d (by rw [b]; simp);rw [mk.new] at j; cases j
end
structure Caught (X:Cx) (pins:Pns) (H:Hp) (s:iF) (ex T Cc:Addr):Prop where
 fly:Fly s.heap ex T (.ref Cc)
 hex:H ex=iw
 hT:H T=iw
 n1:X.s₀.heap.get? ex=iw
 n2:X.s₀.heap.get? T=iw
 pp:∀ p∈X.pn++pins,p.1≠ex/\p.1≠T
variable {xe:iB->iF->Prop}
section
variable {T:Addr}
theorem Caught.dex (c:Caught X pins H s ex T Cc):∃ o vs,s.heap.get? ex=iu o/\o.data=.fields vs:=let ⟨o,vs,a,ts,m,k,z,_⟩:=c.fly; ⟨o,vs,m,z⟩
theorem Caught.dT (c:Caught X pins H s ex T Cc):∃ o vs,s.heap.get? T=iu o/\o.data=.fields vs:=let ⟨o,vs,a,ts,m,b,z,y,q,l,k,_⟩:=c.fly; ⟨a,ts,l,k⟩
theorem Zo {h2:Heap} (I:Inv X pins σ H s) (g:X.stack=X.env::X.outer) (j:X.env.frame=iu X.env.locals) (K:X.ex=[]) (c:Caught X pins H s ex T Cc)
  (keep:∀ b o,s.heap.get? b=iu o->b≠ex->b≠T->b∉frs X.stack->h2.get? b=iu o)
  (slot:∀ b o,s.heap.get? b=iu o->b∈frs X.stack->∃ sl,h2.get? b=iu { o with slots:=sl }):Inv X pins σ H { s with heap:=h2 }:=by
 obtain ⟨Z,ve,N,R⟩:=c.dex;obtain ⟨F,Y,hT,dT⟩:=c.dT;have G:∀ b o,s.heap.get? b=iu o->(∀ vs,o.data≠.fields vs)->b≠ex/\b≠T:=λb o e n=>by
  constructor;·rintro rfl; rw [N] at e; cases e; exact n _ R
  ·rintro rfl; rw [hT] at e; cases e; exact n _ dT
 have W:X.env.locals∈frs X.stack:=by rw [g]; unfold frs; rw [bw,j]; exact ae
 have L:∀ b o,X.s₀.heap.get? b=iu o->b≠X.env.locals:=λb o e=>aE (aK (aA e) I.ok.above);have w:∀ b o,X.s₀.heap.get? b=iu o->b∉X.fs->b∉frs X.stack:=λb o e h z=>by
  rcases ac.mp (I.stkSub b z) with q | q;·exact L b o e q
  ·exact h q
 have y:∀ b,b∈X.fs->b∈frs X.stack:=λb h=>by rw [g]; unfold frs; rw [bw,j]; exact aa _ h
 have f:∀ b o,X.s₀.heap.get? b=iu o->b≠ex/\b≠T:=λb o e=>⟨(by rintro rfl; rw [c.n1] at e; cases e),(by rintro rfl; rw [c.n2] at e; cases e)⟩
 have A:∀ {a:Addr} {v:Option iB},s.heap.IsCell a v->h2.IsCell a v:=λ{a v} ⟨oc,e1,l⟩=>by
  have q:=G a oc e1 λvs z=>by rw [l] at z; cases z
  by_cases h:a∈frs X.stack;·obtain ⟨sl,z⟩:=slot a oc e1 h;exact ⟨_,z,l⟩
  ·exact ⟨oc,keep a oc e1 q.1 q.2 h,l⟩
 refine ⟨I.ok,I.os,I.bare,⟨λb o e n h hx=>?_,λb o e n h hx=>?_,I.base.free,λb o e hx=>?_,I.base.tups,I.base.frzs,I.base.tbls⟩,?_,λx a e=>?_,I.free,I.freeC,λp hp=>?_,λb u e=>?_,I.len⟩;·exact keep b o (I.base.keep b o e n h hx) (f b o e).1 (f b o e).2 (w b o e h)
 ·obtain ⟨sl,q⟩:=I.base.slot b o e n h hx;obtain ⟨t,E⟩:=slot b _ q (y b h);exact ⟨t,E⟩
 ·obtain ⟨o',q⟩:=I.base.there b o e hx;by_cases h:b∈frs X.stack;·obtain ⟨sl,z⟩:=slot b o' q h;exact ⟨_,z⟩
  ·exact ⟨o',keep b o' q (f b o e).1 (f b o e).2 h⟩
 ·obtain ⟨m,⟨o,es,ep,M,r⟩,hl⟩:=I.loc;obtain ⟨sl,P⟩:=slot _ o M W;refine ⟨m,⟨_,es,ep,P,r⟩,λi x v e1 l Q=>?_⟩;obtain ⟨u,D,J⟩:=hl i x v e1 l Q;refine ⟨u,D,?_⟩;rcases J with z | ⟨k,a,e,z⟩
  ·exact .inl z
  ·exact .inr ⟨k,a,e,A z⟩
 ·obtain ⟨v,z⟩:=I.cell x a e;exact ⟨v,A z⟩
 ·obtain ⟨V,U,C,B,S⟩:=I.pin p hp;refine ⟨keep p.1 p.2 V (c.pp p hp).1 (c.pp p hp).2 λz=>?_,U,C,B,S⟩;rcases ac.mp (I.stkSub p.1 z) with q | q;·exact C q
  ·exact B q
 ·refine (I.hok b u e).stay (λd v O q=>?_) (λ_ q=>q) λ_ _ q=>q;have hd:H d≠none:=by
   rcases O with z | z;·rw [z,e]; simp
   ·rw [z]; simp
  exact keep d v q (λz=>hd (by rw [z]; exact c.hex)) (λz=>hd (by rw [z]; exact c.hT)) λz=>hd (I.stkFree d z)
theorem KG {B:iB} (I:Inv X pins σ H s) (h:X.ex=[]) (c:Caught X pins H s ex T Cc) (slot:∀ b o,s.heap.get? b=iu o->b∈frs X.stack->∃ sl,h2.get? b=iu { o with slots:=sl })
  (tr:h2.TracedW (bi s.heap (zp ex (iu T) X)) ex (.ref Cc) B):∃ l,Caught X pins H { s with heap:=h2 } ex l Cc:=by
 obtain ⟨n,vs,l,r,ts,A,⟨z,_⟩,x,w,k,j,g,f,v⟩:=tr;have a:∀ o,s.heap.get? l=iu o->l=T:=λo e=>by
  have m:l∈zp ex (iu T) X:=by refine bN λt=>?_;rw [df _ e t] at k;cases k
  rcases ac.mp m with q | m;·exact absurd q j
  ·rcases ao.mp m with q | q;·simpa using q
   ·obtain ⟨o',d,y⟩:=zq I q;obtain ⟨sl,i⟩:=slot l o' d q;rw [g] at i;cases i;exact absurd f (y ts)
 refine ⟨l,⟨n,vs,r,ts,A,z,x,w,j,g,f,v⟩,c.hex,?_,c.n1,?_,λp hp=>⟨(c.pp p hp).1,?_⟩⟩
 ·cases q:H l with
  | none=>rfl
  | some u=>obtain ⟨o,e⟩:=qfr I.hok q;rw [a o e,c.hT] at q; cases q
 ·cases q:X.s₀.heap.get? l with
  | none=>rfl
  | some o=>obtain ⟨o',d⟩:=I.base.there l o q (by rw [h]; simp);rw [a o' d,c.n2] at q; cases q
 ·rintro rfl;exact (c.pp p hp).2 (a _ (I.pin p hp).1)
theorem KH (st:(bi s.heap (zp ex (iu T) X)).StaysIn h2):∀ b o,s.heap.get? b=iu o->b≠ex->b≠T->b∉frs X.stack->h2.get? b=iu o:=λb o e h1 h2 i=>st b o (df _ e λc=>by
  rcases ac.mp c with q | c;·exact h1 q
  ·rcases ao.mp c with q | q;·exact h2 (by simpa using q)
   ·exact i q)
theorem Ud (c:Caught X pins H s ex T Cc):∃ B,s.heap.TracedW (bi s.heap (zp ex (iu T) X)) ex (.ref Cc) B:=by obtain ⟨o,vs,a,ts,m,d,b,y,q,l,k,j⟩:=c.fly;have z:0 < vs.size:=Nat.lt_of_succ_lt (Array.getElem?_eq_some_iff.mp y).1;exact ⟨vs[0],o,vs,T,a,ts,m,⟨d,by simp [z]⟩,b,y,cU _ (aa _ (bW _ (by simp))),q,l,k,j⟩
theorem KI (I:Inv X pins σ H s) (h:X.stack=X.env::X.outer):s.heap.FunFrames (bi s.heap (zp ex (iu T) X)) (X.env::X.outer):=by rw [<-h];exact PySem.W.funFrames_hide I.stack λenv i b d=>aa _ (aP _ (Ub h env i b d))
theorem qbm {E:iB->iF->Prop} {Q:Unit->iF->Prop} (hA:A.frames=iu X.stack) (I:Inv X pins σ H s) (h:X.stack=X.env::X.outer) (r:X.env.frame=iu X.env.locals) (a:X.ex=[]) (c:Caught X pins H s ex T Cc)
  (k:∀ s' l,Inv X pins σ H s'->Caught X pins H s' ex l Cc->Q () s'):wpAny (model X.prog X.w) A (noteFrame (.ref ex) X.env) (λ_ s1=>wpAny (model X.prog X.w) A (setFlight (.ref ex) iw) Q E s1) E s:=by
 obtain ⟨B,tr⟩:=Ud c;refine wpAny_looks_onW (by rw [hA,h]) r ⟨λb o e=>d4 _ e,cU _ (ac.mpr (.inl rfl)),KI I h,tr⟩ λh1 d j=>?_;refine wpAny_landsW d λh2 g u=>?_;have slot:∀ b o,s.heap.get? b=iu o->b∈frs X.stack->∃ sl,h2.get? b=iu { o with slots:=sl }:=λb o e n=>by obtain ⟨o',i,y⟩:=zq I n;rw [e] at i; cases i;obtain ⟨sl,q⟩:=j b o e y;obtain ⟨f,m⟩:=u b _ q y;exact ⟨f,m⟩
 obtain ⟨l,U⟩:=KG I a c slot g.2.2.2;have p:Inv X pins σ H { s with heap:=h2 }:=Zo I h r a c (KH g.1) slot;exact k { s with heap:=h2 } l p U
theorem YC {A:iK} {E:iB->iF->Prop} {Q:Unit->iF->Prop} (I:Inv X pins σ H s) (h:X.stack=X.env::X.outer) (r:X.env.frame=iu X.env.locals) (a:X.ex=[]) (c:Caught X pins H s ex T Cc)
  (k:∀ s' l,Inv X pins σ H s'->Caught X pins H s' ex l Cc->Q () s'):wpAny (model X.prog X.w) A (setFlight (.ref ex) iw) Q E s:=by
 obtain ⟨B,tr⟩:=Ud c;refine wpAny_setFlight_noneW (base:=bi s.heap (zp ex (iu T) X)) (λb o e=>d4 _ e) (KI I h) tr λh2 st _ t kp=>?_;have slot:∀ b o,s.heap.get? b=iu o->b∈frs X.stack->∃ sl,h2.get? b=iu { o with slots:=sl }:=λb o e f=>by obtain ⟨o',d,y⟩:=zq I f;rw [e] at d; cases d;exact ⟨o.slots,kp b o e y⟩
 obtain ⟨l,U⟩:=KG I a c slot t;exact k _ l (Zo I h r a c (KH st) slot) U
theorem qk4 (I:Inv X pins σ H s) (c:Caught X pins H s ex T Cc):Inv X pins σ (upd H ex (XY ex Cc)) s:=by
 obtain ⟨g,vs,B,ts,f,w,h,_⟩:=c.fly;have y:∀ b o,s.heap.get? b=iu o->(∀ vs,o.data≠.fields vs)->b≠ex:=λb o e n=>by rintro rfl; rw [f] at e; cases e; exact n _ h
 have up:∀ {b:Addr} {u:HO},H b=iu u->upd H ex (XY ex Cc) b=iu u:=λ{b u} e=>by rw [qA (qH e c.hex)]; exact e
 refine ⟨I.ok,I.os,I.bare,⟨I.base.keep,I.base.slot,λb o e n hx=>?_,I.base.there,λb xs e=>up (I.base.tups b xs e),λb o u e=>up (I.base.frzs b o u e),λb ps e=>?_⟩,I.loc,I.cell,?_,λx a e=>?_,λp hp=>?_,λb u e=>?_,I.len⟩;·rw [qA (by rintro rfl; rw [c.n1] at e; cases e)]; exact I.base.free b o e n hx
 ·obtain ⟨more,z⟩:=I.base.tbls b ps e;exact ⟨more,up z⟩
 ·obtain ⟨m,⟨o,es,ep,l,hd,_⟩,_⟩:=I.loc;rw [qA (y _ o l λvs z=>by rw [hd] at z; cases z)]; exact I.free
 ·obtain ⟨v,oc,e1,i⟩:=I.cell x a e;rw [qA (y _ oc e1 λvs z=>by rw [i] at z; cases z)]; exact I.freeC x a e
 ·obtain ⟨A,t,k⟩:=I.pin p hp;refine ⟨A,?_,k⟩;rw [qA (c.pp p hp).1]; exact t
 ·by_cases q:b=ex;·subst q;rw [qu] at e; cases e;refine ⟨⟨g,vs,f,w,h⟩,⟨g,f⟩,λh1 h2 ⟨o1,j,e1,i,E⟩ r=>⟨o1,j,r _ e1,i,E⟩⟩
  ·rw [qA q] at e;exact (I.hok b u e).stay (λ_ _ _ z=>z) (λd z=>up z) λd xs z=>up z
def YD (X:Cx) (pn:Pns) (xe:iB->iF->Prop):Cx:={ X with pn:=pn,xe:=xe }
theorem qgU (I:Inv X pins σ H s):Inv (YD X (X.pn++pins) xe) [] σ H s:=
 ⟨⟨I.ok.mod,I.ok.kind,I.ok.glob,I.ok.blt,I.ok.above,I.ok.inj,I.ok.has,I.ok.cab,I.ok.hd,I.ok.frames,I.ok.stk,I.ok.exf,I.ok.bs,I.ok.bsz,I.ok.noex,I.ok.exfs,I.ok.funs,I.ok.frf⟩,I.os,I.bare,I.base,I.loc,I.cell,I.free,I.freeC,λp hp=>I.pin p (by simpa [YD] using hp),I.hok,I.len⟩
theorem yf {a:Pns} (I:Inv (YD X (X.pn++pins) xe) a σ H s):Inv X pins σ H s:=
 ⟨⟨I.ok.mod,I.ok.kind,I.ok.glob,I.ok.blt,I.ok.above,I.ok.inj,I.ok.has,I.ok.cab,I.ok.hd,I.ok.frames,I.ok.stk,I.ok.exf,I.ok.bs,I.ok.bsz,I.ok.noex,I.ok.exfs,I.ok.funs,I.ok.frf⟩,I.os,I.bare,I.base,I.loc,I.cell,I.free,I.freeC,λp hp=>I.pin p (bW _ hp),I.hok,I.len⟩
noncomputable def qkc (X:Cx) (e:iB):Cx:={ X with A:=X.A.mark (iu e),calm:=iE,xe:=λ_ _=>False }
theorem qfs {e:iB} (I:Inv X pins σ H s):Inv (qkc X e) pins σ H s:=
 ⟨⟨I.ok.mod,I.ok.kind,I.ok.glob,I.ok.blt,I.ok.above,I.ok.inj,I.ok.has,I.ok.cab,λz=>absurd z (by show ¬(iE=iC); exact be),I.ok.frames,I.ok.stk,I.ok.exf,I.ok.bs,I.ok.bsz,I.ok.noex,I.ok.exfs,I.ok.funs,I.ok.frf⟩,I.os,I.bare,I.base,I.loc,I.cell,I.free,I.freeC,I.pin,I.hok,I.len⟩
theorem qgV {e:iB} (hok:X.Ok) (I:Inv (qkc X e) pins σ H s):Inv X pins σ H s:=
 ⟨hok,I.os,I.bare,I.base,I.loc,I.cell,I.free,I.freeC,I.pin,I.hok,I.len⟩
end
def qk5 (C:Ct) (own:List Nat) (E:XK):Ct:=⟨C.K,C.cv,E,own,C.mr,C.ol,own,λ_ h=>h⟩
noncomputable def exC (C:Ct):Ct:=⟨C.K,C.cv,λ_ _ _=>False,[],C.mr,[],[],λ_ h=>h⟩
noncomputable def qh3 (n:Nat) (j:Option Nat) (hit:Str->Option Addr) (fb fs:qV):qV:=λρ=>match fb ρ with
 | .exc c ρe=>match hit c with
  | some Cc=>match fs (match j with | some j=>(bE n iw).set j (iu (.xcp Cc)) | none=>bE n iw) with
   | .ok (.rt d,_)=>.ok (.rt d,ρe)
   | _=>.bad
  | none=>.bad
 | o=>o
def qk6 (C:Ct) (own:List Nat) (σ:St) (F H:Hp) (r:Out (Fl×Sl)):XK:=λcls _ H'=>∃ c ρe F',r=.exc c ρe/\cls=C.cv c/\Same F' H'/\qay C.K own F' H' σ ρe/\Chg (OA own σ) F H F' H'
def qk7 (X:Cx) (pins:Pns) (E:XK):iB->iF->Prop:=λe s'=>∃ σ ex T Cc H',e=.ref ex/\Inv X pins σ H' s'/\Caught X pins H' s' ex T Cc/\E (.ref Cc) iw H'
section
variable {fb fs:qV}
theorem GS {E:XK} (c:X.ex=[]):zd (CXk X.prog X.w) (YD X (X.pn++pins) (qk7 X pins E)) E:=λa σ H s e s' I h=>by
 obtain ⟨ex,T,Cc,H',rfl,os,bare,un,hok,l,e1,i,n1,n2,k⟩:=h;have old:∀ b,s.heap.get? b=iw->X.s₀.heap.get? b=none:=λb f=>by
  cases q:X.s₀.heap.get? b with
  | none=>rfl
  | some o=>obtain ⟨o',d⟩:=I.base.there b o q (by show b∉X.ex; rw [c]; simp);rw [f] at d; cases d
 have g:Inv (YD X (X.pn++pins) (qk7 X pins E)) a σ H' s':=I.call' (ch:=[]) os un hok bare (λb z=>absurd z (by simp));refine ⟨σ,ex,T,Cc,H',rfl,yf g,⟨l,e1,i,old ex n1,old T n2,λp hp=>?_⟩,k⟩;have q:=(I.pin p (bW _ hp)).1;exact ⟨λz=>(by rw [z,n1] at q; cases q),λz=>(by rw [z,n2] at q; cases q)⟩
theorem Nx.untry {E:XK} {σ':St} {ρ':Sl} (g:∀ i∈C.io,i∈own) (n:Nx (qk5 C own E) o1 o2 σ F H ρ' σ' F' H'):Nx C o1 o2 σ F H ρ' σ' F' H':=⟨n.rep,n.chg,n.oa,λi hi=>n.io i (g i hi)⟩
theorem qdV {D:Ends} {j:Option Nat} {hit:Str->Option Addr} (g:∀ i∈C.io,i∈own) (r:Rep C.K own F H σ ρ) (h:PoS C own own' σ F H (qh3 n j hit fb fs ρ) D):tSt (qk5 C own (qk6 C own σ F H (fb ρ))) own own' fb D σ H:=by
 refine ⟨F,ρ,r,?_⟩;unfold qh3 at h;cases q:fb ρ with
 | ok p=>
  rw [q] at h;obtain ⟨l,ρ'⟩:=p;cases l with
  | nx=>exact λσ' F' H' a=>h σ' F' H' (a.untry g)
  | rt d=>exact λv σ' F' H' s io c e mo=>h v σ' F' H' s (λi hi=>io i (g i hi)) c (λi hi=>e i (g i hi)) mo
  | bk=>exact λσ' F' H' a=>h σ' F' H' (a.untry g)
  | ct=>exact λσ' F' H' a=>h σ' F' H' (a.untry g)
 | exc c ρe=>exact λF' H' s io ch=>⟨c,ρe,F',rfl,rfl,s,io,ch⟩
 | bad=>rw [q] at h; exact h.elim
theorem qbn {f e:Hp} {Cc:Addr} {D:Ends} {d:D2.D} {v:V} {w:St} (g:∀ i∈C.io,i∈own) (h:PoS C own own' σ F H (.ok (.rt d,ρe)) D) (n:H1 ex=iw) (A:Same F1 H1) (io:qay C.K own F1 H1 σ ρe) (ch:Chg (OA own σ) F H F1 H1)
  (s3:Same f e) (J:Chg (OA [] w) (upd F1 ex (XY ex Cc)) (upd H1 ex (XY ex Cc)) f e) (mo:MoIs C.K C.mr (upd H1 ex (XY ex Cc)) f e v d):D.rt v e:=by
 obtain ⟨s,c2⟩:=xN (u:=XY ex Cc) A n;have no:∀ {b},OA [] w b->False:=λ⟨i,hi,_⟩=>by simp at hi
 have j:Chg No (upd F1 ex (XY ex Cc)) (upd H1 ex (XY ex Cc)) f e:=J.mono λx z=>no z;have c:Chg No F1 H1 f e:=c2.trans j λ_ z=>z.elim;refine h v σ f e s3 (λi hi=>?_) (ch.trans c λ_ z=>z.elim) (λ_ _=>rfl) (MoIs.back (Ha:=e) (ch.trans c2 λ_ z=>z.elim) mo);obtain ⟨d',a,e1,k,E,p⟩:=io i (g i hi);refine ⟨d',a,e1,k,?_,p.grow c.grow λo q=>c.keep a o q λz=>z⟩;cases q:f a with
 | none=>rfl
 | some u=>
  rcases c.new a (by rw [q]; simp) with z | z | z;·exact absurd E z
  ·exact absurd z p.there
  ·exact z.elim
theorem qdW {G:Str} {np y pos:Pos} {body b:List Stmt} {b0:Stmt} {cls:iB} {n:Nat} {hit:Str->Option Addr} {own2:List Nat} (m:X.ex=[]) (l:X.stack=X.env::X.outer) (B:X.env.frame=iu X.env.locals)
  (hg:Gl X G) (hm:X.mg G=iu cls) (A:∀ c Cc,hit c=iu Cc->C.cv c=.ref Cc/\bT X.K (.ref Cc) cls=iu iC) (hn:X.N.length=n)
  (hb:∀ pn xe E,zd (CXk X.prog X.w) (YD X pn xe) E->PSs (YD X pn xe) body (tSt (qk5 C own E) own own' fb)) (hs:∀ e,PSs (qkc X e) (b0::b) (tSt (exC C) [] own2 fs)) (k:∀ i∈C.io,i∈own:=by exact xD rfl) (hd:Dbg G:=by decide) :
  PS X (.Try body [.ExceptHandler (iu (.Name G np)) iw (b0::b) y] [] [] pos) (tSt C own own' (qh3 n iw hit fb fs)):=by
 refine ⟨?_⟩;intro pins s σ H D I ⟨F,ρ,rp,h⟩;have run:=hb (X.pn++pins) (qk7 X pins (qk6 C own σ F H (fb ρ))) (qk6 C own σ F H (fb ρ)) (GS m) [] s σ H D (qgU I) (qdV k rp h);refine wpAny_Try_except (k4 run (λf s1 g=>?_) λe s1 he=>?_)
 ·cases f with
  | next=>obtain ⟨σ',H',o,q⟩:=g;exact qaE pins s1 σ' H' D (yf o) q
  | brk=>obtain ⟨σ',H',o,q⟩:=g; exact ⟨σ',H',yf o,q⟩
  | cont=>obtain ⟨σ',H',o,q⟩:=g; exact ⟨σ',H',yf o,q⟩
  | ret u=>obtain ⟨v,σ',H',o,r,q⟩:=g; exact ⟨v,σ',H',yf o,r,q⟩
 ·obtain ⟨σ1,ex,T,Cc,H1,rfl,I1,Z,c,ρe,F1,hr,P,t,R,V⟩:=he;refine qbm I1.ok.frames I1 l B m Z λs2 T2 I2 c2=>?_;unfold qh3 at h;rw [hr] at h;cases Q:hit c with
  | none=>simp only [Q] at h; exact h.elim
  | some Ch=>
   simp only [Q] at h;obtain ⟨U,S⟩:=A c Ch Q;rw [U] at P;obtain rfl:Cc=Ch:=by injection P
   refine wpAny_handleBy_cons (codeAny_handlers_test (Vm (X:=qkc X (.ref ex)) (qfs I2) hg hm ?_ hd)) (by intro q; cases q);obtain ⟨oe,vs,oT,ts,a1,a2,a3,_⟩:=id c2.fly;have LT:PySem.W.Looks (model X.prog X.w) s2.heap (typeOf (.ref ex)) (.ref Cc):=by rw [<-a2]; exact (PySem.W.Looks.ld a1).andThen .now
   refine (PySem.W.exm_one I2.kIn LT S) _ _ _ _ (λ_ _ z=>z) ?_;refine codeAny_handlers_suite (YC I2 l B m c2 λs3 T3 I3 Y=>?_);have I4:=qk4 I3 Y;have I6:Inv X pins (bE n iw) (upd H1 ex (XY ex Cc)) s3:=I4.weak (by simp [I3.len,hn]) λi v e=>by rw [cB] at e;split at e <;> cases e
   obtain ⟨L,cc2⟩:=xN (u:=XY ex Cc) t Z.hex;have M:Rep C.K [] (upd F1 ex (XY ex Cc)) (upd H1 ex (XY ex Cc)) (bE n iw) (bE n iw):=by refine ⟨L,by simp,λi d hi e=>?_,λi d hi=>by simp at hi,λi hi=>by simp at hi,λi j a hi=>by simp at hi⟩;rw [cB] at e;split at e <;> cases e
   have x:tSt (exC C) [] own2 fs { nx:=λ_ _=>False,rt:=D.rt } (bE n iw) (upd H1 ex (XY ex Cc)):=by
    refine ⟨_,_,M,?_⟩;cases O:fs (bE n iw) with
    | ok p=>
     obtain ⟨fl,ρ5⟩:=p;rw [O] at h;cases fl with
     | rt d=>exact λv σ' F3 H3 s3 io Y e mo=>qbn (own':=own') (D:=D) (ex:=ex) (Cc:=Cc) k h Z.hex t R V s3 Y mo
     | nx=>exact h.elim
     | bk=>exact h.elim
     | ct=>exact h.elim
    | exc _ _=>rw [O] at h; exact h.elim
    | bad=>rw [O] at h; exact h.elim
   refine k4 (hs (.ref ex) pins s3 _ _ _ (qfs I6) x) (λf s7 g=>?_) λ_ _ z=>z.elim;cases f with
   | next=>obtain ⟨_,_,_,q⟩:=g; exact q.elim
   | brk=>obtain ⟨_,_,_,q⟩:=g; exact q.elim
   | cont=>obtain ⟨_,_,_,q⟩:=g; exact q.elim
   | ret u=>obtain ⟨v,J,H7,I7,r7,q7⟩:=g;exact ⟨v,J,H7,qgV I.ok I7,r7,q7⟩
end
structure RoomQ (k:Nat) (A:iK):Prop where
 dp:A.depth+3 * k+5 < recursionLimit
 un:A.units+16 * k+200 < cLine
theorem RoomQ.mark {k:Nat} (r:RoomQ k A) (e:Option iB):RoomQ k (A.mark e):=⟨r.dp,r.un⟩
def DefOk (P:iH) (w:iI) (K:Frag) (mg:Str->Option iB) (base:Heap) (cv:Str->iB) (k:Nat) (x:Str) (ps:List Str) (ms:List PM) (mr:Mo) (G:jz):Prop:=
 ∃ f fd,FnOk P w K mg base (CXk P w) k f fd ps (spD K cv ms mr G)/\mg x=iu (.ref f)/\keepIn K (.ref f)=iC/\Binds K fd ps []
def jZ (K:Frag) (mg:Str->Option iB) (x:Str) (st:Stmt) (ps:List Str):Prop:=∃ f fd,Fun K x x st f fd/\mg x=iu (.ref f)/\Binds K fd ps []
theorem qB {P:iH} {w:iI} {base:Heap} {cv:Str->iB} {k:Nat} {ms:List PM} {mr:Mo} {own':List Nat} {fb:qV} (T:jZ K mg x st ps) (S:FnScope N ps (qm st))
  (a:∀ (cdv:iB) (f:Addr) (A:iK) (outer:List Env) (s:iF) (H:Hp) (E:XK),Room k (A.deeper (envOfC x (qm st) s.heap.objs.size f cdv)) ->PSs (cxk P w K mg base N x (qm st) f cdv A outer s H E) (wI st) (tSt (qk1 K cv E ms mr) (kE 0 ms) own' fb))
  (hl:ms.length=ps.length:=by rfl) (g:∀ i∈GM 0 ms,i∈own':=by exact xD rfl) (r:mr=.sh\/∀ ds ρ,(fb (qv N ds))≠.ok (.nx,ρ):=by exact .inl rfl):DefOk P w K mg base cv (k+1) x ps ms mr (jS N ms fb):=by
 obtain ⟨f,fd,F,c,d⟩:=T;exact ⟨f,fd,qlR F S hl g r (λcdv A outer s H E hr=>a cdv f A outer s H E hr) λ_=>.inr rfl,c,F.kp,d⟩
variable {cv:Str->iB}
theorem DefOk.by {k:Nat} {G a:jz} (h:DefOk P w K mg base cv k x ps ms mr G) (e:∀ ds,Out.le (a ds) (G ds)):DefOk P w K mg base cv k x ps ms mr a:=by
 obtain ⟨f,fd,F,r⟩:=h;refine ⟨f,fd,F.imp λvs H Q E ⟨F1,ds,A,b,nd,po⟩=>⟨F1,ds,A,b,nd,?_⟩,r⟩;rcases e ds with z | z;·rw [z] at po; exact po.elim
 ·rw [<-z]; exact po
section
variable {G:jz} {fr:uV} {p:Pos} {k j:Nat}
theorem jj (F:DefOk X.prog X.w X.K X.mg X.base cv j x ps ms mr G) (hr:Room k X.A) (d:j<=k) (hx:zd (CXk X.prog X.w) X C.E) (hg:Gl X x) (r:PA X (e::es) (tAr C own as fr)) (v:C.cv=cv:=by rfl) (n:C.K=X.K:=by rfl) (s:ms=as.map WB:=by rfl) (c:∀ i∈jv as,i∈own:=by decide) (nd:(jv as).Nodup:=by decide) (g:frA as<=1:=by decide) (o:∀ i∈C.ox,i∈own:=by exact xD rfl)
  (b:Dbg x:=by decide) (m:starEach (e::es) X.env=(iE,eval e X.env)::starEach es X.env:=by exact jR rfl) (l:(backTo pos (starEach es X.env)).any (·.1)=false:=by exact Qn rfl):PE X (.Call (.Name x p) (e::es) [] pos) (tE C own mr (qr as G fr)):=by
 subst v;obtain ⟨f,fd,F,h,a,q⟩:=F;rw [<-n] at F;exact qgN (by rw [<-n]; exact F) (hr.mono d) hg h a q hx r s c nd g o b m l
noncomputable def qh4:D->Out D
 | .int i=>.ok (.int (-i))
 | _=>.bad
theorem qbo:UnD X C .sh (unaryOp .USub) qh4:=by
 intro pins s σ H x v Q I d h;obtain ⟨F,dx,A,tx,po⟩:=h;cases dx <;> try exact po.elim
 obtain rfl:=tx.int;exact qis pins s σ H _ v Q I d ⟨_,rfl,po _ F H A .refl (.int _)⟩
end
noncomputable def xP:Option (Option D)->Bool
 | some (iu (.lst _))=>iC
 | _=>iE
noncomputable def Vw (i:Nat) (g:List D->D->Out (List D)) (fe:je):je:=λρ=>if xP ρ[i]?=iC then (fe ρ).bind λp=>match p.2[i]? with
 | some (iu (.lst xs))=>match g xs p.1 with
  | .ok ys=>.ok (.non,p.2.set i (iu (.lst ys)))
  | _=>.bad
 | _=>.bad
 else .bad
noncomputable def Ue (xs:List D) (d:D):Out (List D):=if xs.length < sizeLine then .ok (xs++[d]) else .bad
noncomputable def qgW (xs:List D):D->Out (List D)
 | .lst ys=>if xs.length+ys.length<=sizeLine then .ok (xs++ys) else .bad
 | .tup ys=>if xs.length+ys.length<=sizeLine then .ok (xs++ys) else .bad
 | _=>.bad
section
variable {fe:je}
theorem Rep.write (r:Rep K own F H σ ρ) (hi:i∈own) (g:σ[i]?=iu (iu (V.ref a))) (ow:OwnIs K F (upd H a u) a d):Rep K own F (upd H a u) σ (ρ.set i (iu d))/\Chg (OA own σ) F H F (upd H a u):=by
 obtain ⟨w,hd0⟩:=r.opn i hi;obtain ⟨f,e1,D,c⟩:=r.ow i w hi hd0;rw [g] at e1; cases e1;have hl:i < ρ.length:=(aC.mp hd0).1;refine ⟨⟨λb o e=>by rw [qA (qH e D)]; exact r.sub b o e,by simp [r.len],λj d' G e=>?_,λj d' G e=>?_,λj G=>?_,r.dis⟩,⟨λb o e n=>?_,λb e=>?_,Same.refl _,λb e=>.inl e⟩⟩;·rw [ay (λz=>G (by rw [<-z]; exact hi))] at e;exact r.val j d' G e
 ·by_cases q:j=i;·subst q;rw [aJ hl] at e;cases e;exact ⟨a,g,D,ow⟩
  ·rw [ay (bo q)] at e;obtain ⟨b,h1,h2,h⟩:=r.ow j d' G e;have A:b≠a:=λz=>by subst z; exact q (r.dis j i b G hi h1 g)
   exact ⟨b,h1,h2,h.grow (Same.refl _) λo z=>by rw [qA A]; exact z⟩
 ·by_cases q:j=i;·subst q; exact ⟨d,aJ hl⟩
  ·rw [ay (bo q)]; exact r.opn j G
 ·have A:b≠a:=λz=>n (by rw [z]; exact ⟨i,hi,g⟩);rw [qA A]; exact e
 ·by_cases q:b=a;·rw [q,qu]; simp
  ·rw [qA q]; exact e
theorem Zp {o:Option (Option D)} (h:xP o=iC):∃ xs,o=iu (iu (.lst xs)):=by
 unfold xP at h;split at h;·exact ⟨_,rfl⟩
 ·cases h
theorem qdX {g:List D->D->Out (List D)} {R:V->V->Hp->VK->Prop} {σ:St} {H:Hp} {Q:VK} (l:i∈own) (t:m≠.any)
  (j:∀ (a:Addr) (xs:List V) (ds ys:List D) (v:V) (d:D) (F H:Hp),Same F H->H a=iu (.lst xs)->F a=iw->IsL C.K F xs ds->Is C.K F v d->g ds d=.ok ys->(∀ zs,IsL C.K F zs ys->Q .non (upd H a (.lst zs)))->R (.ref a) v H Q)
  (h:tE C own .sh (Vw i g fe) σ H Q):∃ a xs,σ[i]?=iu (iu (V.ref a))/\H a=iu (.lst xs)/\tE C own .sh fe σ H λv H1=>R (.ref a) v H1 Q:=by
 obtain ⟨F,ρ,p,h⟩:=h;unfold Vw at h;by_cases q:xP ρ[i]?=iC
 ·rw [if_pos q] at h;obtain ⟨ds,hd⟩:=Zp q;obtain ⟨a,h1,h2,xs,k,w⟩:=p.ow i _ l hd;refine ⟨a,xs,h1,k,F,ρ,p,Po.bind h λv F1 H1 d ρ1 r x f po=>?_⟩;cases e:ρ1[i]? with
  | none=>simp only [e] at po; exact po.elim
  | some o=>
   cases o with
   | none=>simp only [e] at po; exact po.elim
   | some dd=>
    simp only [e] at po;cases dd with
    | lst es=>
     simp only at po;cases b:g es d with
     | ok ys=>simp only [b] at po;obtain ⟨y,e1,s,vs,E,n⟩:=r.ow i _ l e;rw [h1] at e1; cases e1;refine j a vs es ys v d F1 H1 r.sub E s n f b λzs z=>?_;obtain ⟨r2,c2⟩:=r.write (u:=.lst zs) (d:=.lst ys) l h1 ⟨zs,qu,z⟩;exact po .non F1 _ r2 c2 .non
     | exc c o=>simp only [b] at po; exact po.elim
     | bad=>simp only [b] at po; exact po.elim
    | _=>exact po.elim
 ·rw [if_neg q] at h; exact h.elim
theorem yg {px apos cpos:Pos} (u:C.K=X.K) (r:X.N[i]?=iu x) (n:Vis X.env.scope x) (o:i∈own) (p:PE X e (tE C own m fe)) (j:m≠.any:=by decide)
  (hd:Dbg x:=by decide) (f:Cdk x:=by decide)
  (c:attributeBase (.Name x px) "append" X.env (eval (.Name x px) X.env)=eval (.Name x px) X.env:=by rfl)
  (w:((backTo cpos (starEach [e] X.env)).all (λx=>!x.1)&&(backToKw cpos (keywordEach [] X.env)).all (λx=>x.1.isSome)
   && decide ([e].length+([]:List iY).length+(if ([]:List iY).isEmpty then 0 else 1) < 30))=true:=by exact yH rfl)
  (b:(apos.endLine == cpos.line)=true:=by rfl) (s:starEach [e] X.env=[(iE,eval e X.env)]:=by exact qO rfl) :
  PE X (.Call (.Attribute (.Name x px) "append" apos) [e] [] cpos) (tE C own .sh (Vw i Ue fe)):=by
 refine jU (qaR dj PySem.F.slot_list_append PySem.F.type_list_append WO (xC r n hd f) (qX (ya p j) jO s) c w b s rfl) λσ H Q h=>?_;have q:∀ (a:Addr) (xs:List V) (ds ys:List D) (v:V) (d:D) (F H:Hp),Same F H->H a=iu (.lst xs)->F a=iw->IsL C.K F xs ds->Is C.K F v d->Ue ds d=.ok ys->(∀ zs,IsL C.K F zs ys->Q .non (upd H a (.lst zs)))->Yr (.ref a) [v] H Q:=λa xs ds ys v d F H A t y ix l g k=>by
  unfold Ue at g;split at g;·cases g;exact ⟨a,xs,v,rfl,rfl,t,by rw [ix.length]; assumption,k _ (ix.append (.cons l .nil))⟩
  ·cases g
 obtain ⟨a,xs,h1,h2,k⟩:=qdX (R:=λx v H Q=>Yr x [v] H Q) o j q h;exact ⟨.ref a,h1,.inl ⟨rfl,xs,.inl (.inl h2)⟩,k⟩
theorem Uf {px apos cpos:Pos} (I:X.N[i]?=iu x) (A:Vis X.env.scope x) (l:i∈own) (B:PE X e (tE C own .fr fe))
  (hd:Dbg x:=by decide) (j:Cdk x:=by decide)
  (f:attributeBase (.Name x px) "extend" X.env (eval (.Name x px) X.env)=eval (.Name x px) X.env:=by rfl)
  (w:((backTo cpos (starEach [e] X.env)).all (λx=>!x.1)&&(backToKw cpos (keywordEach [] X.env)).all (λx=>x.1.isSome)
   && decide ([e].length+([]:List iY).length+(if ([]:List iY).isEmpty then 0 else 1) < 30))=true:=by exact yH rfl)
  (c:(apos.endLine == cpos.line)=true:=by rfl) (s:starEach [e] X.env=[(iE,eval e X.env)]:=by exact qO rfl) :
  PE X (.Call (.Attribute (.Name x px) "extend" apos) [e] [] cpos) (tE C own .sh (Vw i qgW fe)):=by
 refine jU (qaR dj PySem.F.slot_list_extend PySem.F.type_list_extend qaS (xC I A hd j) (qX B jO s) f w c s rfl) λσ H Q ⟨F,ρ,p,h⟩=>?_;unfold Vw at h;by_cases q:xP ρ[i]?=iC
 ·rw [if_pos q] at h;obtain ⟨ds,hd⟩:=Zp q;obtain ⟨a,h1,h2,xs,J,L⟩:=p.ow i _ l hd;refine ⟨.ref a,h1,.inl ⟨rfl,xs,.inl (.inl J)⟩,F,ρ,p,Po.bind h λv F1 H1 d ρ1 r O m po=>?_⟩;obtain ⟨b,rfl,G,E,k⟩:=m;cases g:ρ1[i]? with
  | none=>simp only [g] at po; exact po.elim
  | some o=>
   cases o with
   | none=>simp only [g] at po; exact po.elim
   | some dd=>
    simp only [g] at po;cases dd with
    | lst es=>
     simp only at po;obtain ⟨P,e1,M,vs,K,t⟩:=r.ow i _ l g;rw [h1] at e1; cases e1;cases d with
     | lst ys=>
      obtain ⟨zs,y,n⟩:=k;have po:Po C own .sh σ F1 H1 (match (if es.length+ys.length<=sizeLine then .ok (es++ys) else .bad:Out (List D)) with | .ok ys=>.ok (.non,ρ1.set i (iu (.lst ys))) | _=>.bad) Q:=po;by_cases z:es.length+ys.length<=sizeLine;·rw [if_pos z] at po;refine ⟨a,b,vs,zs,rfl,rfl,K,y,by rw [t.length,n.length]; exact z,?_⟩;obtain ⟨r2,c2⟩:=r.write (u:=.lst (vs++zs)) (d:=.lst (es++ys)) l h1 ⟨_,qu,t.append n⟩;exact po .non F1 _ r2 c2 .non
      ·rw [if_neg z] at po; exact po.elim
     | dct ys=>exact po.elim
     | ins _ _=>exact po.elim
     | at_ _ _=>exact po.elim
     | _=>exact k.elim
    | _=>exact po.elim
 ·rw [if_neg q] at h; exact h.elim
end
noncomputable def scB (names:List (Str×i8)) (scope:lf):Bool:=decide (scope.kind=.function)&&scope.names.all λy=>decide (y.2≠.cell)&&(!decide (y.2=.local)||decide (scope.names.lookup y.1=iu .local)) &&
 (!decide (y.2=.free)||((decide (names.lookup y.1=iu .cell)||decide (names.lookup y.1=iu .free))&&decide (scope.names.lookup y.1=iu .free)))
variable {names:List (Str×i8)}
theorem qiX (h:X.env.scope.names=names) (b:scB names scope=iC):ScOk X scope:=by
 subst h;unfold scB at b;rw [aV,aR] at b;obtain ⟨a,A⟩:=b;refine ⟨of_decide_eq_true a,λy D=>?_,λy D e=>?_,λy D e=>?_,λy D e=>?_⟩;all_goals
  have q:=A y D;simp only [aV,Bool.or_eq_true,Bool.not_eq_true',decide_eq_true_eq,decide_eq_false_iff_not] at q
 ·exact q.1.1
 ·exact q.1.2.resolve_left λz=>z e
 ·exact (q.2.resolve_left λz=>z e).1
 ·exact (q.2.resolve_left λz=>z e).2
noncomputable def qkd (names:List (Str×i8)) (N:List Str) (scope:lf) (c:List Str) (nt:Nat) (cap:List Nat):Bool:=decide cap.Nodup&&decide (c.length=nt+cap.length)&&(aH cap.length).all λj=>match cap[j]? with
 | some k=>match c[nt+j]? with
  | some x=>decide (N[k]?=iu x)&&(((decide (names.lookup x=iu .local)||decide (names.lookup x=iu .cell)||decide (names.lookup x=iu .free))&&decide ((x,bF)∈scope.names))||scope.names.all λy=>decide (y.1≠x))
  | none=>iE
 | none=>iE
theorem qft {c:List Str} (a:X.env.scope.names=names) (d:X.N=N) (b:qkd names N scope c nt cap=iC):CapOk X scope c nt cap:=by
 subst a d;unfold qkd at b;rw [aV,aV,aR] at b;obtain ⟨⟨g,A⟩,f⟩:=b;refine ⟨of_decide_eq_true g,of_decide_eq_true A,λj k G=>?_⟩;have q:=f j (aL.mpr (aC.mp G).1);rw [G] at q;cases e:c[nt+j]? with
 | none=>simp only [e] at q; cases q
 | some x=>
  simp only [e,aV,Bool.or_eq_true,decide_eq_true_eq] at q;refine ⟨x,rfl,q.1,?_⟩;rcases q.2 with ⟨z,q2⟩ | z
  ·refine .inl ⟨?_,q2⟩;rcases z with (z | z) | z;·exact .inl z
   ·exact .inr (.inl z)
   ·exact .inr (.inr z)
  ·refine .inr λk' h=>?_;rw [aR] at z;exact of_decide_eq_true (z (x,k') h) rfl
theorem xy:zd (CXk P w) X (λ_ _ _=>False):=λ_ _ _ _ _ _ _ h=>by obtain ⟨_,_,_,_,_,_,_,_,_,_,_,_,_,_,k⟩:=h;exact k.elim
noncomputable def qk8 (f:je):je:=λρ=>(qU f ρ).bind λp=>.ok (.bl (!p.1),p.2)
section
variable {i:Int}
theorem zr (h:∃ t,X.mg x=iu (.int i t)) (hg:Gl X x) (hd:Dbg x:=by decide):PE X (.Name x pos) (tE C own .sh (dC (.int i))):=by obtain ⟨t,h⟩:=h;exact qgy (v:=.int i) hg h ⟨t,rfl⟩ (λ_=>.int i) hd
end
variable {us:List iB}
section
variable {a b:Expr} {f fa fb:je}
noncomputable def wU:D->Out D
 | .lst xs=>.ok (.tup xs)
 | .tup xs=>.ok (.tup xs)
 | _=>.bad
noncomputable def Ug:D->Out D
 | .lst xs=>.ok (.lst xs)
 | .tup xs=>.ok (.lst xs)
 | _=>.bad
theorem yL (n:C.K=X.K):Jd X C .sh (.type "tuple") wU:=by
 intro pins s σ H xs us Q I r h;obtain ⟨x,F,dx,rfl,A,tx,po⟩:=h;cases dx with
 | lst ds=>obtain ⟨p,vs,rfl,hq,t⟩:=tx.lst A;refine zg pins s σ H _ us Q I r ⟨p,vs,rfl,.inl ⟨by rw [<-n]; exact hq,λl hl=>?_⟩⟩;obtain ⟨s2,c2⟩:=xN (u:=.tup vs) A hl;exact po _ _ _ s2 c2 (.tup (.inl (.inl qu)) (t.mono c2.grow))
 | tup ds=>
  rcases tx with tx | ⟨_,_,tx⟩
  ·have a:=tx;cases tx with
   | tup hq t=>exact zg pins s σ H _ us Q I r ⟨_,_,rfl,.inr ⟨by rw [<-n]; exact qW A hq,po _ F H A .refl a⟩⟩
  ·exact tx.elim
 | _=>exact po.elim
theorem YE (n:C.K=X.K):Jd X C .fr (.type "list") Ug:=by
 intro pins s σ H xs us Q I r h;obtain ⟨x,F,dx,rfl,A,tx,po⟩:=h;cases dx with
 | lst ds=>obtain ⟨p,vs,rfl,hq,t⟩:=tx.lst A;refine gI pins s σ H _ us Q I r ⟨p,vs,rfl,.inl (by rw [<-n]; exact hq),λl hl=>?_⟩;obtain ⟨s2,c2,D⟩:=wK (u:=.lst vs) A hl;exact po _ _ _ s2 c2 ⟨l,rfl,hl,D,vs,qu,t⟩
 | tup ds=>obtain ⟨p,vs,rfl,hq,t⟩:=tx.tup A;refine gI pins s σ H _ us Q I r ⟨p,vs,rfl,.inr (by rw [<-n]; exact hq),λl hl=>?_⟩;obtain ⟨s2,c2,D⟩:=wK (u:=.lst vs) A hl;exact po _ _ _ s2 c2 ⟨l,rfl,hl,D,vs,qu,t⟩
 | _=>exact po.elim
def qbp (X:Cx) (C:Ct) (m:Mo) (f:iB) (g:D->D->Out D):Prop:=xu X f (λxs H Q=>∃ x y F dx d,xs=[x,y]/\Same F H/\TopIs C.K F H x dx/\TopIs C.K F H y d/\PoV C m F H (g dx d) Q)
theorem qdY {Q:VK} {g:D->D->Out D} (k:ma≠.any) (h:tE C own m (d2 g fa fb) σ H Q):qdz (tE C own ma fa) (qdz (tE C own mb fb) qkN) σ H λxs H1=>∃ x y F dx a,xs=[x,y]/\Same F H1/\TopIs C.K F H1 x dx/\TopIs C.K F H1 y a/\PoV C m F H1 (g dx a) Q:=by
 obtain ⟨F,ρ,n,h⟩:=WS (mb:=mb) k h;refine ⟨F,ρ,n,?_⟩;cases q:fa ρ with
 | ok p=>
  rw [q] at h;obtain ⟨d,ρ1⟩:=p;intro v F1 H1 e o j;obtain ⟨t,ρ2,b,h2⟩:=h v F1 H1 e o j;refine ⟨t,ρ2,b,?_⟩;cases f:fb ρ2 with
  | ok p=>rw [f] at h2;obtain ⟨d',l⟩:=p;intro w u s r J i;obtain ⟨M,dx,a,z⟩:=h2 w u s r J i;exact ⟨v,w,M,dx,a,rfl,z⟩
  | exc c=>rw [f] at h2; exact h2
  | bad=>rw [f] at h2; exact h2.elim
 | exc c=>rw [q] at h; exact h
 | bad=>rw [q] at h; exact h.elim
theorem Uh {id:String} {p:Pos} {g:D->D->Out D} (e:qbp X C m (.builtin id) g) (hg:Gl X x) (d:X.mg x=iw) (v:bootBuiltins x=iu (.builtin id)) (j:PE X a (tE C own ma fa)) (i:PE X b (tE C own mb fb)) (f:ma≠.any:=by decide) (n:x ≠ "__name__":=by decide) (c:Dbg x:=by decide)
  (h1:starEach [a,b] X.env=(iE,eval a X.env)::starEach [b] X.env:=by rfl) (h2:starEach [b] X.env=[(iE,eval b X.env)]:=by exact qO rfl):PE X (.Call (.Name x p) [a,b] [] pos) (tE C own m (d2 g fa fb)):=
 jU (zf e hg d v (qX j (qX i jO h2) h1) n c (by rw [h1]) (by rw [h2]; rfl)) λ_ _ _ h=>qdY f h
noncomputable def qke:D->D->Out D:=wR λi j=>.ok (.int (if j > i then j else i))
noncomputable def qkf:D->D->Out D:=wR λi j=>.ok (.int (if j < i then j else i))
theorem qiY (d:X.calm=iC):qbp X C .sh (.builtin "max") qke:=by
 intro pins s σ H xs us Q I r h;obtain ⟨x,y,F,dx,a,rfl,A,tx,ty,po⟩:=h;cases dx <;> try exact po.elim
 cases a <;> try exact po.elim
 obtain rfl:=tx.int;obtain rfl:=ty.int;exact qaM d pins s σ H _ us Q I r ⟨_,_,rfl,po _ F H A .refl (.int _)⟩
theorem qiZ (d:X.calm=iC):qbp X C .sh (.builtin "min") qkf:=by
 intro pins s σ H xs us Q I r h;obtain ⟨x,y,F,dx,a,rfl,A,tx,ty,po⟩:=h;cases dx <;> try exact po.elim
 cases a <;> try exact po.elim
 obtain rfl:=tx.int;obtain rfl:=ty.int;exact qaN d pins s σ H _ us Q I r ⟨_,_,rfl,po _ F H A .refl (.int _)⟩
noncomputable def kG (a T:String):Option Bool:=if (h7 a == h7 T)=iC then iu iC else if PySem.W.kitMeta T=iC then (fastBuiltinMro a).map (·.contains (.type T)) else iw
theorem qdZ (K:Frag) (a T:String):cy K (.type a) (.type T)=kG a T:=rfl
noncomputable def tyN:D->Option String
 | .non=>iu "NoneType"
 | .bl _=>iu "bool"
 | .int _=>iu "int"
 | .str _=>iu "str"
 | .tup _=>iu "tuple"
 | .lst _=>iu "list"
 | .dct _=>iu "dict"
 | _=>iw
noncomputable def Qt (T:String) (d:D):Out D:=match tyN d with
 | some a=>match kG a T with
  | some b=>.ok (.bl b)
  | none=>.bad
 | none=>.bad
theorem qd0 (g:C.K=X.K):xu X (.builtin "isinstance") (λxs H Q=>∃ x F d,xs=[x,.ty T]/\Same F H/\TopIs C.K F H x d/\PoV C .sh F H (Qt T d) Q):=by
 intro pins s σ H xs us Q I r h;obtain ⟨x,F,d,rfl,A,tx,po⟩:=h;obtain ⟨u,c,rfl,B,i⟩:=qgl r;cases i;cases q:tyN d with
 | none=>unfold Qt at po; rw [q] at po; exact po.elim
 | some a=>
  cases f:kG a T with
  | none=>unfold Qt at po; rw [q] at po; simp only [f] at po; exact po.elim
  | some b=>
   have po:PoV C .sh F H (.ok (.bl b)) Q:=by unfold Qt at po; rw [q] at po; simp only [f] at po; exact po
   have fin:∀ tk,EP X pins σ Q (.bool b) { s with toks:=tk }:=λtk=>⟨.bl b,H,I.tok tk,rfl,po _ F H A .refl (.bl b)⟩
   have e:cy X.K (.type a) (.type T)=iu b:=(qdZ X.K a T).trans f;cases d with
   | non=>obtain rfl:=tx.non; cases B; cases q; exact cT PySem.W.kitx_none I.kIn dI e (λz=>nomatch z) fin
   | bl y=>obtain rfl:=tx.bl; cases B; cases q; exact cT PySem.W.kitx_bool I.kIn dI e (λz=>nomatch z) fin
   | int y=>obtain rfl:=tx.int; obtain ⟨t,rfl⟩:=B; cases q; exact cT PySem.W.kitx_int I.kIn dI e (λz=>nomatch z) fin
   | str y=>obtain ⟨rfl,_⟩:=tx.str; obtain ⟨t,rfl⟩:=B; cases q; exact cT PySem.W.kitx_str I.kIn dI e (λz=>nomatch z) fin
   | tup y=>obtain ⟨p,vs,rfl,hq,t⟩:=tx.tup A;cases B; cases q;obtain ⟨its,_,⟨o,h1,h2,_⟩,_⟩:=I.tuple (show SqT X.K H p vs by rw [<-g]; exact hq);exact cT PySem.W.kitx_tuple I.kIn ⟨o,h1,h2⟩ e (λz=>nomatch z) fin
   | lst y=>obtain ⟨p,vs,rfl,hq,t⟩:=tx.lst A;cases B; cases q;obtain ⟨its,_,⟨o,n,h1,h2,_⟩,_⟩:=I.list (show SqL X.K H p vs by rw [<-g]; exact hq);exact cT PySem.W.kitx_list I.kIn ⟨o,h1,h2⟩ e (λz=>nomatch z) fin
   | dct y=>
    obtain ⟨p,vs,rfl,hq,t⟩:=tx.dct A;cases B; cases q;obtain ⟨_,_,ws,_,o,es,ep,h1,h2,_⟩:=(show ObjOk X.prog X.w H s.heap p (.dK vs) from I.hok p _ hq)
    exact cT PySem.W.kitx_dict I.kIn ⟨o,h1,h2.1⟩ e (λz=>nomatch z) fin
   | _=>cases q
theorem zt {tn:Str} {p t:Pos} (l:C.K=X.K) (hg:Gl X "isinstance") (j:X.mg "isinstance"=iw) (i:bootBuiltins "isinstance"=iu (.builtin "isinstance")) (ht:Gl X tn) (e:X.mg tn=iw) (b:bootBuiltins tn=iu (.type T)) (k:PE X a (tE C own ma fa)) (n:tn ≠ "__name__":=by decide) (f:Dbg tn:=by decide)
  (h1:starEach [a,.Name tn t] X.env=(iE,eval a X.env)::starEach [.Name tn t] X.env:=by rfl) (h2:starEach [.Name tn t] X.env=[(iE,eval (.Name tn t) X.env)]:=by rfl):PE X (.Call (.Name "isinstance" p) [a,.Name tn t] [] pos) (tE C own .sh (d1 (Qt T) fa)):=by
 refine jU (zf (qd0 (T:=T) l) hg j i (qX k (qX (qga (v:=.ty T) ht e b rfl n f) jO h2) h1) (by decide) (by decide) (by rw [h1]) (by rw [h2]; rfl)) λσ H Q h=>?_;obtain ⟨F,ρ,g,h⟩:=qdI (ma:=ma) h;refine ⟨F,ρ,g,?_⟩;cases q:fa ρ with
 | ok p=>rw [q] at h;obtain ⟨d,ρ1⟩:=p;intro v F1 H1 r o m;obtain ⟨s,dx,z⟩:=h v F1 H1 r o m;exact ⟨v,s,dx,rfl,z⟩
 | exc c=>rw [q] at h; exact h
 | bad=>rw [q] at h; exact h.elim
noncomputable def gN:List D->Option (List Bool)
 | []=>iu []
 | .bl b::ds=>(gN ds).map (b::·)
 | _::_=>iw
noncomputable def qbq:D->Out D
 | .lst ds=>match gN ds with
  | some bs=>.ok (.bl (bs.all id))
  | none=>.bad
 | _=>.bad
theorem qd1 {bs:List Bool} (a:IsL K F vs ds) (l:Vals vs us) (e:gN ds=iu bs):us=bs.map dB:=by
 induction ds generalizing vs us bs with
 | nil=>cases a;cases l;cases e;rfl
 | cons d ds j=>
  cases a with
  | cons i a=>
   cases l with
   | cons r l=>
    cases d with
    | bl b=>obtain ⟨c,e1,rfl⟩:=aX.mp (show (gN ds).map (b::·)=iu bs from e);cases i;cases r;rw [j a l e1];rfl
    | _=>cases e
theorem KJ (n:C.K=X.K) (j:X.calm=iC):Jd X C .sh (.builtin "all") qbq:=by
 intro pins s σ H xs us Q I r h;obtain ⟨x,F,dx,rfl,d,tx,po⟩:=h;cases dx <;> try exact po.elim
 rename_i ds;obtain ⟨p,vs,rfl,hq,t⟩:=tx.lst d;obtain ⟨u,rfl,B⟩:=xw r;cases B;unfold qbq at po;cases q:gN ds with
 | none=>simp only [q] at po; exact po.elim
 | some bs=>
  simp only [q] at po;obtain ⟨its,g,pl,z⟩:=I.list (show SqL X.K H p vs by rw [<-n]; exact hq);have J:=qd1 t g q;subst J;have hp:p < s.heap.objs.size:=let ⟨o,h1,_⟩:=pl.isList; aA h1;refine call_all_walk (la pl.isList ?_);have W:Walks X.prog X.w X.A.in1 s.heap.objs.size [s.heap.objs.size,p] [s.heap.objs.size] (bs.map dB).toArray.size (λi v=>(bs.map dB).toArray[i]?=iu v) (λi h=>h.IsListIter s.heap.objs.size p i/\h.IsList p (bs.map dB).toArray):=ir (A:=X.A.in1) (show X.A.in1.handled=iw from I.ok.hd j) s.heap.objs.size p (aE hp) _;have st:(s.heap.push { cls:=.type "list_iterator",data:=.fields #[.ref p,.int 0 0] }).IsListIter s.heap.objs.size p 0/\(s.heap.push { cls:=.type "list_iterator",data:=.fields #[.ref p,.int 0 0] }).IsList p (bs.map dB).toArray:=⟨⟨_,au _ rfl,rfl,rfl⟩,let ⟨o,h1,h2⟩:=pl.isList; ⟨o,af _ h1,h2⟩⟩
  refine ⟨_,_,_,_,_,_,λi=>(bs[i]?).getD iE,rfl,W,st,λi v s' l E m c=>?_,λh' tk kp=>?_⟩
  ·have m:(bs.map dB).toArray[i]?=iu v:=m;rw [fj,aF] at m;cases f:bs[i]? with
   | none=>rw [f] at m; cases m
   | some b=>have a:l ((bs[i]?).getD iE) s':=c;rw [f] at m a;cases m;exact iU a
  ·have e:(aH (bs.map dB).toArray.size).all (λi=>(bs[i]?).getD iE)=bs.all id:=by
    rw [aw,ax,Bool.eq_iff_iff,aR,aR];constructor;·intro h b k;obtain ⟨i,hi,e⟩:=fz.mp k;have:=h i (aL.mpr hi);rw [aj hi,e] at this;exact this
    ·intro h i hi;have hi:=aL.mp hi;rw [aj hi];exact h _ (bG hi)
   rw [e];refine ⟨.bl (bs.all id),H,?_,rfl,po _ F H d .refl (.bl _)⟩;have k2:∀ b o,s.heap.get? b=iu o->h'.get? b=iu o:=λb o J=>kp b o (by simp; exact aE (aA J)) (af _ J);exact I.kept (t':=tk) k2
end
noncomputable def wV (idx:List Nat) (xs:List α):List α:=idx.filterMap λk=>xs[k]?
theorem IsL.pick (h:IsL K F vs ds):∀ (idx:List Nat),IsL K F (wV idx vs) (wV idx ds)
 | []=>.nil
 | k::idx=>by
  unfold wV;rw [bw,bw];cases e:vs[k]? with
  | none=>have a:ds[k]?=none:=bM.mpr (by rw [<-h.length]; exact bM.mp e);rw [a];exact IsL.pick h idx
  | some v=>obtain ⟨d,a,i⟩:=h.get e;rw [a];exact .cons i (IsL.pick h idx)
theorem Jg (h:Vals vs us):∀ (idx:List Nat),Vals (wV idx vs) (wV idx us)
 | []=>.nil
 | k::idx=>by
  unfold wV;rw [bw,bw];cases e:vs[k]? with
  | none=>rw [h.none_of e]; exact Jg h idx
  | some v=>obtain ⟨u,i,r⟩:=h.get e;rw [i];exact .cons r (Jg h idx)
theorem qd2 (xs:List α):wV (aH xs.length) xs=xs:=by unfold wV;have:=PySem.W.krv_all xs.toArray;simpa using this
noncomputable def Ui (n:Nat) (lo hi:Option Int) (st:Int):List Nat:=(aH (dP (bA lo hi st n).1 (bA lo hi st n).2 st)).map λ(k:Nat)=>((bA lo hi st n).1+(k:Int) * st).toNat
noncomputable def KK (x:Str) (lo hi:Option Int) (st:Int):Str:=if (st == 1&&(dG lo hi st x.length).length == x.length)=iC then x else ⟨((dG lo hi st x.length).filterMap (x.cps[·]?)).toArray⟩
noncomputable def slD (lo hi st:Option Int):D->Out D
 | .tup xs=>if st.getD 1≠0/\(wV (Ui xs.length lo hi (st.getD 1)) xs).length<=sizeLine then .ok (.tup (wV (Ui xs.length lo hi (st.getD 1)) xs)) else .bad
 | .str x=>if st.getD 1≠0/\(KK x lo hi (st.getD 1)).length<=sizeLine then .ok (.str (KK x lo hi (st.getD 1))) else .bad
 | _=>.bad
def qlS (X:Cx) (r:V->Option Int->Option Int->Option Int->Hp->VK->Prop):Prop:=
 ∀ (pins:Pns) (s:iF) (σ:St) (H:Hp) (x:V) (v vl u k:iB) (lo hi st:Option Int) (sl:Addr) (Q:VK),Inv X pins σ H s->RelV x v->s.heap.IsSliceOf sl vl u k->ll vl lo->ll u hi->ll k st->r x lo hi st H Q ->∃ T id,typeLookup (.type T) "__getitem__"=pure (iu (.builtin id))/\s.TypeIs v T/\wpAny (model X.prog X.w) X.A (getItem v (.ref sl)) (EP X pins σ Q) X.xe s
section
variable {prog:iH}
theorem Kk {sl:Addr} {vl u k:iB} {lo hi st:Option Int} {n:Nat} {Q:Int×Int×Nat->iF->Prop} (d:s.heap.IsSliceOf sl vl u k) (pl:ll vl lo) (p:ll u hi) (c:ll k st) (f:st.getD 1≠0)
  (h:Q ((bA lo hi (st.getD 1) n).1,st.getD 1,dP (bA lo hi (st.getD 1) n).1 (bA lo hi (st.getD 1) n).2 (st.getD 1)) s):wpAny (model prog w) A (Builtin.Slice.sliceApplied (.ref sl) (pure (n:Int))) Q E s:=by
 obtain ⟨os,a,e,b⟩:=id d;unfold Builtin.Slice.sliceApplied Builtin.Slice.sliceFields;refine iA (iA (k9 a b (x:=vl) rfl (iA (k9 a b (x:=u) rfl (iA (k9 a b (x:=k) rfl (iG ?_)))))));refine iA (HT.slicePart_ c ?_);show wpAny _ _ (if (st.getD 1 == 0)=iC then _ else _) _ _ s;rw [if_neg (by simpa using f)];refine iA (HT.slicePart_ pl (iA (HT.slicePart_ p (iA (iG ?_)))));exact iG h
theorem Jh {t sl:Addr} {items:Array iB} {vl u v:iB} {lo hi st:Option Int} {Q:iB->iF->Prop} (ht:IsTup s.heap t items) (g:s.heap.IsSliceOf sl vl u v) (pl:ll vl lo) (p:ll u hi) (l:ll v st) (x:st.getD 1≠0)
  (n:Ui items.size lo hi (st.getD 1)=aH items.size->Q (.ref t) s)
  (h:Q (.ref s.heap.objs.size) { s with heap:=s.heap.push { cls:=.type "tuple",data:=.seq (wV (Ui items.size lo hi (st.getD 1)) items.toList).toArray } })
  (hsz:(wV (Ui items.size lo hi (st.getD 1)) items.toList).length<=sizeLine):wpAny (model prog w) A (getItem (.ref t) (.ref sl)) Q E s:=by
 obtain ⟨os,b,c,o⟩:=id g;have f:s.TypeIs (.ref sl) "slice":=⟨os,b,c⟩
 unfold getItem;try with_reducible refine iN ?_
 first | refine iA (iG ?_) | skip
 refine iA (wpAny_sequenceKey ht.typeIs (by decide) ?_);refine iA (iP (name:=aZ "__getitem__") ht.typeIs c9
  (iO c9 ht.typeIs entry_tuple_getitem ?_ (args_tuple_getitem _ _)))
 show wpAny _ _ (Builtin.Tuple.tupleItemsOf (.ref t) >>= _) _ _ s;refine iA (tupleItemsOf_ ht ?_);refine iA (j4 f ?_);rw [if_pos (by decide)];refine iA (Kk g pl p l x ?_);generalize hA:bA lo hi (st.getD 1) items.size=A0;generalize N:dP A0.1 A0.2 (st.getD 1)=N0;have ep:wV (Ui items.size lo hi (st.getD 1)) items.toList=(aH N0).filterMap λ(k:Nat)=>items[(A0.1+(k:Int) * st.getD 1).toNat]?:=by unfold wV Ui;rw [hA,N,List.filterMap_map];congr 1;funext k;simp
 rw [ep] at h hsz;by_cases d:(A0.1 == 0&&st.getD 1 == 1&&N0 == items.size)=iC
 ·have S:=d;rw [aV,aV] at S;have j:A0.1=0:=eq_of_beq S.1.1;have i:st.getD 1=1:=eq_of_beq S.1.2;have q:N0=items.size:=eq_of_beq S.2;have whole:Ui items.size lo hi (st.getD 1)=aH items.size:=by
   unfold Ui;rw [hA,N,j,i,q];have e:(λ(k:Nat)=>((0:Int)+(k:Int) * 1).toNat)=id:=by
    funext k;show ((0:Int)+(k:Int) * 1).toNat=k
    lia
   rw [e,List.map_id]
  have r:=n whole;show wpAny _ _ (if (A0.1 == 0&&st.getD 1 == 1&&N0 == items.size)=iC then _ else _) _ _ s;rw [if_pos d];unfold Builtin.Tuple.tupleIsExact;refine iA (iA (j4 ht.typeIs (iG ?_)));rw [if_pos (by decide)];exact iA (k8 (iG ⟨_,rfl,iG r⟩))
 ·show wpAny _ _ (if (A0.1 == 0&&st.getD 1 == 1&&N0 == items.size)=iC then _ else _) _ _ s;rw [if_neg d];have a:sizeOk (.seq ((aH N0).filterMap λ(k:Nat)=>items[(A0.1+(k:Int) * st.getD 1).toNat]?).toArray):=by show (((aH N0).filterMap λ(k:Nat)=>items[(A0.1+(k:Int) * st.getD 1).toNat]?).toArray).size<=sizeLine;rw [aw]; exact hsz
  first
   | exact iA (m:=c7 _) (iJ (iG ⟨_,rfl,iG h⟩) a)
   | exact iA (m:=c7 _) (iJ (iA (iG (iG ⟨_,rfl,iG h⟩))) a)
   | exact iA (iA (m:=c7 _) (iJ (iG (iG ⟨_,rfl,iG h⟩)) a))
   | exact iA (iA (m:=c7 _) (iJ (iG ⟨_,rfl,iG h⟩) a))
end
def PoO (C:Ct) (own:List Nat) (σ:St) (F H:Hp) (r:Out (Option Int×Sl)) (Q:Option Int->Hp->Prop):Prop:=match r with
 | .ok (b,ρ')=>∀ F' H',Rep C.K own F' H' σ ρ'->Chg (OA own σ) F H F' H'->Q b H'
 | .exc c ρ'=>∀ F' H',Same F' H'->qay C.K C.ox F' H' σ ρ'->Chg (OA own σ) F H F' H'->C.E (C.cv c) iw H'
 | .bad=>False
def tO (C:Ct) (own:List Nat) (f:Sl->Out (Option Int×Sl)):TO:=λσ H Q=>∃ F ρ,Rep C.K own F H σ ρ/\PoO C own σ F H (f ρ) Q
noncomputable def Vx:Option (je)->Sl->Out (Option Int×Sl)
 | none,ρ=>.ok (iw,ρ)
 | some f,ρ=>(f ρ).bind λp=>match p.1 with
  | .int i=>.ok (iu i,p.2)
  | _=>.bad
theorem Po.bindO {o:Out (Option Int×Sl)} {k:Option Int×Sl->WR} {Q:VK} {R:Option Int->Hp->Prop} (hp:Po C own m σ F H (o.bind k) Q)
  (h:∀ F1 H1 b ρ1,Rep C.K own F1 H1 σ ρ1->Chg (OA own σ) F H F1 H1->Po C own m σ F1 H1 (k (b,ρ1)) Q->R b H1):PoO C own σ F H o R:=by
 cases o with
 | ok p=>obtain ⟨d,ρ1⟩:=p;exact λF1 H1 a c=>h F1 H1 d ρ1 a c (Po.shift (show Po C own m σ F H (k (d,ρ1)) Q from hp) c)
 | exc x=>exact hp
 | bad=>exact hp.elim
noncomputable def Zq (fa:je) (l u k:Option (je)):je:=λρ=>(fa ρ).bind λp=>(Vx l p.2).bind λa=>(Vx u a.2).bind λb=>(Vx k b.2).bind λc=>(slD a.1 b.1 c.1 p.1).plain.bind λd=>.ok (d,c.2)
section
variable {a:Expr} {fa f:je} {p2:Pos}
theorem Zr:PO X iw (tO C own (Vx iw)):=by intro pins s σ H Q I ⟨F,ρ,a,h⟩;exact qgp pins s σ H Q I (h F H a .refl)
theorem qd3 (h:PE X e (tE C own m f)):PO X (iu e) (tO C own (Vx (iu f))):=by
 intro pins s σ H Q I ⟨F,ρ,r,hp⟩;refine qgq h pins s σ H Q I ⟨F,ρ,r,?_⟩;have hp:PoO C own σ F H ((f ρ).bind λp=>match p.1 with | .int i=>.ok (iu i,p.2) | _=>.bad) Q:=hp;cases q:f ρ with
 | ok p=>
  rw [q] at hp;obtain ⟨d,ρ1⟩:=p;cases d with
  | int i=>exact λv F1 H1 a k b=>⟨i,b.top.int,hp F1 H1 a k⟩
  | _=>exact hp.elim
 | exc c=>rw [q] at hp; exact hp
 | bad=>rw [q] at hp; exact hp.elim
theorem qbr {r:V->Option Int->Option Int->Option Int->Hp->VK->Prop} {tl th tk:TO} {lo hi st:Option Expr} (hr:qlS X r) (y:PE X e te) (hl:PO X lo tl) (o:PO X hi th) (t:PO X st tk):PE X (.Subscript e (.Slice lo hi st p2) pos) (λσ H Q=>te σ H λx H1=>tl σ H1 λl H2=>th σ H2 λu f=>tk σ f λk d=>r x l u k d Q):=by
 refine ⟨?_⟩;intro pins s σ H Q I h;refine Subscript_ (thn (y pins s σ H _ I h) λv s1 ⟨x,H1,D,r1,m⟩=>?_);refine wpAny_Slice (thn (hl pins s1 σ H1 _ D m) λvl s2 ⟨l,H2,C,pl,j⟩=>thn (o pins s2 σ H2 _ C j) λa s3 ⟨u,f,z,p,i⟩=>thn (t pins s3 σ f _ z i) λc s4 ⟨k,d,B,n,g⟩=>?_);have G:Inv X pins σ d { s4 with heap:=s4.heap.push { cls:=.type "slice",data:=.fields #[vl,a,c] } }:=B.kept (t':=s4.toks) λb E q=>af _ q;obtain ⟨T,id,hT,ht,hg⟩:=hr pins { s4 with heap:=s4.heap.push { cls:=.type "slice",data:=.fields #[vl,a,c] } } σ d x v vl a c l u k s4.heap.objs.size Q G r1 (Heap.IsSliceOf.new ..) pl p n g;show wpAny (model X.prog X.w) X.A (subscriptTail e (.Slice lo hi st p2) v (.ref s4.heap.objs.size)) (EP X pins σ Q) X.xe { s4 with heap:=s4.heap.push { cls:=.type "slice",data:=.fields #[vl,a,c] } };cases st with
 | none=>exact tail_any (ops:=[.ref s4.heap.objs.size,v]) ht hT hg (by with_unfolding_all rfl)
 | some st=>exact tail_any (ops:=[v,.ref s4.heap.objs.size]) ht hT hg (by with_unfolding_all rfl)
theorem Vy {v:iB} {o:Option Int} (h:ll v o):∃ l:Option (Int×Tok),v=partValue l/\l.map (·.1)=o:=by
 cases h with
 | none=>exact ⟨iw,rfl,rfl⟩
 | int i t=>exact ⟨iu (i,t),rfl,rfl⟩
theorem qmv (E:C.K=X.K):qlS X (λx lo hi st H Q=>∃ F d,Same F H/\Is C.K F x d/\PoV C .sh F H (slD lo hi st d) Q):=by
 intro pins s σ H x v vl J L lo hi st sl Q I m B pl w y h;obtain ⟨F,d,A,is,po⟩:=h;cases d with
 | tup ds=>
  have f:=is;cases is with
  | @tup a xs _ hq t=>
   cases m;have g:SqT X.K H a xs:=by rw [<-E]; exact qW A hq
   obtain ⟨its,r,ht,N⟩:=I.tuple g;have n:its.length=ds.length:=r.length.symm.trans t.length;have po:PoV C .sh F H (if st.getD 1≠0/\(wV (Ui ds.length lo hi (st.getD 1)) ds).length<=sizeLine then .ok (.tup (wV (Ui ds.length lo hi (st.getD 1)) ds)) else .bad) Q:=po;by_cases c:st.getD 1≠0/\(wV (Ui ds.length lo hi (st.getD 1)) ds).length<=sizeLine
   ·rw [if_pos c] at po;have i:=t.pick (Ui ds.length lo hi (st.getD 1));have p:=Jg r (Ui ds.length lo hi (st.getD 1));refine ⟨"tuple",_,c9.lookup,ht.typeIs,Jh ht B pl w y c.1 (λe=>?_) ?_ ?_⟩;·rw [aw,n] at e;refine ⟨.ref a,H,I,rfl,po _ F H A .refl ?_⟩;rw [e,qd2];exact f
    ·simp only [aw,n];have j:(wV (Ui ds.length lo hi (st.getD 1)) xs).length<=sizeLine:=by rw [i.length]; exact c.2
     refine ⟨.ref s.heap.objs.size,_,I.laid (t':=s.toks) (o:=.tup (wV (Ui ds.length lo hi (st.getD 1)) xs)) (λb M q=>af _ q) (aB _) ⟨⟨j,⟨_,au _ rfl,rfl⟩⟩,_,p,IsTup.new _ _⟩,rfl,?_⟩;obtain ⟨s2,c2⟩:=xN (u:=.tup (wV (Ui ds.length lo hi (st.getD 1)) xs)) A (I.hok.fresh (aB _));exact po _ _ _ s2 c2 (.tup (.inl (.inl qu)) (i.mono c2.grow))
    ·simp only [aw,n];rw [<-p.length,i.length];exact c.2
   ·rw [if_neg c] at po; exact po.elim
 | str z=>
  cases is;obtain ⟨t,rfl⟩:=m;have po:PoV C .sh F H (if st.getD 1≠0/\(KK z lo hi (st.getD 1)).length<=sizeLine then .ok (.str (KK z lo hi (st.getD 1))) else .bad) Q:=po;by_cases c:st.getD 1≠0/\(KK z lo hi (st.getD 1)).length<=sizeLine
  ·rw [if_pos c] at po;obtain ⟨l,rfl,el⟩:=Vy pl;obtain ⟨u,rfl,G⟩:=Vy w;obtain ⟨k,rfl,D⟩:=Vy y;refine ⟨"str",_,PySem.F.slot_str_getitem.lookup,typeIs_str s z t,wpAny_getItem_str_slice (l:=l) (u:=u) (st:=k) B (by rw [D]; simpa using c.1) ?_⟩;have c2:=c.2;unfold sliceMade slicePicked;rw [el,G,D];unfold KK at c2 po;by_cases q:(st.getD 1 == 1&&(dG lo hi (st.getD 1) z.length).length == z.length)=iC;·rw [if_pos q] at c2 po ⊢;exact ⟨.str z,H,I,⟨t,rfl⟩,po _ F H A .refl (.str c2)⟩
   ·rw [if_neg q] at c2 po ⊢;exact ⟨c2,.str _,H,I.tok _,⟨_,rfl⟩,po _ F H A .refl (.str c2)⟩
  ·rw [if_neg c] at po; exact po.elim
 | _=>exact po.elim
theorem qd4 {lo hi st:Option Expr} {l u k:Option (je)} (t:C.K=X.K) (s:PE X e (tE C own ma fa)) (hl:PO X lo (tO C own (Vx l))) (o:PO X hi (tO C own (Vx u))) (q:PO X st (tO C own (Vx k))) (n:ma≠.any:=by decide):PE X (.Subscript e (.Slice lo hi st p2) pos) (tE C own .sh (Zq fa l u k)):=by
 refine jU (qbr (qmv (C:=C) t) (ya s n) hl o q) λσ H Q ⟨F,ρ,p,h⟩=>⟨F,ρ,p,Po.bind h λv F1 H1 d ρ1 j A m h1=>?_⟩
 refine ⟨F1,ρ1,j,Po.bindO h1 λz H2 a ρ2 i c2 h2=>⟨z,ρ2,i,Po.bindO h2 λy E b f g J x=>⟨y,f,g,Po.bindO x λM D c B r I w=>?_⟩⟩⟩;exact ⟨M,d,r.sub,((m.mono c2.grow).mono J.grow).mono I.grow,PoV.of r w⟩
end
noncomputable def Its (x:Str):It:=⟨λi _=>i < x.cps.size,λi H v H'=>H'=H/\∃ c,x.cps[i]?=iu c/\v=.str ⟨#[c]⟩,λi _=>x.cps.size<=i⟩
noncomputable def Uj (x:Str):List D:=x.cps.toList.map λc=>.str ⟨#[c]⟩
theorem Zs {P:iH} {w:iI} {K:Frag} {tg:Expr} (it:Addr) (x:Str) (t:Tok) (ty:String) (B:["enumerate", "zip", "dict_itemiterator", "dict_reverseitemiterator", "odict_iterator", "itertools.zip_longest", "itertools.pairwise"].contains ty=iE)
  (W:∀ A:iK,A.handled=iw->Walks P w A it [it] [it] x.cps.size (SignAt x) (λi h=>h.IsStrIter it ty x t i)) (y:∀ (A:iK) (i:Nat) (s:iF) (Q:iB->iF->Prop) (E:iB->iF->Prop),s.heap.IsStrIter it ty x t i->Q (.ref it) s->wpAny (model P w) A (pyIter (.ref it)) Q E s) :
  Turn P w K tg (Its x) [it] it (λi h=>h.IsStrIter it ty x t i/\i<=x.cps.size) where
 mem:=by simp
 obj:=λi h st b a=>by
  have e:b=it:=by simpa using a
  subst e;obtain ⟨o,e,c,d⟩:=st.1;exact ⟨o,e,λv z=>by rw [d] at z; cases z⟩
 keep:=λi h h' st k=>by obtain ⟨⟨o,e,r⟩,hi⟩:=st;exact ⟨⟨o,k it (by simp) o e,r⟩,hi⟩
 item:=by
  intro X m j n l i pins s σ H E I f st hg;subst m j n;obtain ⟨f0,f1,f2,p,f4,q⟩:=f it (by simp);refine (W X.A (I.ok.hd l)).item i s _ _ hg st.1 λv h' tk m g kp=>?_;have C:Inv X pins σ H { s with heap:=h',toks:=tk }:=I.turned (t':=tk) (λb o a e=>kp b o (by simpa using a) e) f0 f1 p f4 q;obtain ⟨o,e,c,d⟩:=id g;obtain ⟨U,u,h1,h2⟩:∃ U u,x.cps[i]?=iu U/\v=hJ ⟨#[U]⟩ u:=by
   unfold SignAt at m;first
    | exact m
    | (obtain ⟨U,u,h1,h2⟩:=m; exact ⟨U,u,h1,h2⟩)
    | (obtain ⟨U,h1,u,h2⟩:=m; exact ⟨U,u,h1,h2⟩)
    | (obtain ⟨u,U,h1,h2⟩:=m; exact ⟨U,u,h1,h2⟩)
  subst h2;exact ⟨_,rfl,qaF (s:={ s with heap:=h',toks:=tk }) e c d B ⟨.str ⟨#[U]⟩,H,C,⟨u,rfl⟩,⟨rfl,U,h1,rfl⟩,⟨g,hg⟩,λb a=>(f b a).1⟩⟩
 done:=by intro X m j n l i pins s σ H E I f st hg;subst m j n;obtain ⟨f0,f1,f2,p,f4,q⟩:=f it (by simp);have hi:i=x.cps.size:=fY st.2 hg;subst hi;exact (W X.A (I.ok.hd l)).done s _ _ st.1 λh' tk kp=>⟨rfl,I.turned (t':=tk) (λb o a e=>kp b o (by simpa using a) e) f0 f1 p f4 q⟩
 self:=λA i s Q E st h=>y A i s Q E st.1 h
theorem qi0:ItIs K F (Its x) (Uj x) where
 go:=λi H hi _=>by
  have:i < x.cps.size:=by simpa [Uj] using hi
  exact this
 yld:=λi Fi H v H' d e s1 s2 y=>by
  obtain ⟨rfl,c,h1,rfl⟩:=y;have e:d=.str ⟨#[c]⟩:=by
   unfold Uj at e;rw [aF] at e;have h1:x.cps.toList[i]?=iu c:=by simpa using h1
   rw [h1] at e;exact (aI.inj e).symm
  subst e;exact ⟨Fi,.refl,s2,.str (Zi c)⟩
 stop:=λi H hi _=>by
  have:x.cps.size<=i:=by simpa [Uj] using hi
  exact this
noncomputable def jw:D->Out (List D)
 | .lst xs=>.ok xs
 | .tup xs=>.ok xs
 | .str x=>.ok (Uj x)
 | _=>.bad
noncomputable def jJ (f:je):uV:=λρ=>(f ρ).bind λp=>(jw p.1).bind λds=>.ok (ds,p.2)
section
variable {f:je}
theorem qi1 {l:Expr} {tl:TE} (hl:PE X l tl):PI X tg l (λσ H R=>tl σ H λx H1=>(∃ a,x=.ref a/\(((∃ xs,SqL X.K H1 a xs)/\R (Itl X.K a) H1)\/((∃ xs,SqT X.K H1 a xs)/\R (Itt X.K a) H1)))\/∃ z,x=.str z/\R (Its z) H1):=by
 refine ⟨?_⟩;intro pins s σ H R I h;refine thn (hl pins s σ H _ I h) λv s1 ⟨x,H1,d,r1,c⟩=>?_;have fp:∀ b∈[s1.heap.objs.size],Ym X pins H1 b:=λb j=>by
  have e:b=s1.heap.objs.size:=by simpa using j
  subst e;exact d.fpOk (aB _) (d.hok.fresh (aB _))
 rcases c with ⟨a,rfl,q⟩ | ⟨z,rfl,q⟩
 ·cases r1;rcases q with ⟨⟨xs,hq⟩,q⟩ | ⟨⟨xs,hq⟩,q⟩
  ·obtain ⟨its,r,p,f⟩:=d.list hq;refine la p.isList ?_;exact ⟨s1.heap.objs.size,[s1.heap.objs.size],_,_,H1,rfl,d.kept (t':=s1.toks) λb o e=>af _ e,qaG a _,⟨_,au _ rfl,rfl,rfl⟩,fp,q⟩
  ·obtain ⟨its,r,p,f⟩:=d.tuple hq;refine j5 (show s1.heap.IsTuple a its.toArray from p) ?_;exact ⟨s1.heap.objs.size,[s1.heap.objs.size],_,_,H1,rfl,d.kept (t':=s1.toks) λb o e=>af _ e,GE a _,⟨_,au _ rfl,rfl,rfl⟩,fp,q⟩
 ·obtain ⟨t,rfl⟩:=r1;cases g:z.cps.all (· < 128) with
  | true=>refine wpAny_pyIter_ascii g ?_;exact ⟨s1.heap.objs.size,[s1.heap.objs.size],_,_,H1,rfl,d.kept (t':=s1.toks) λb o e=>af _ e,Zs _ z t "str_ascii_iterator" (by decide) (λA hA=>Walks.strAscii hA _ z t) (λA i s Q E st h=>wpAny_pyIter_striter_ascii st h),⟨⟨_,au _ rfl,rfl,rfl⟩,br _⟩,fp,q⟩
  | false=>refine wpAny_pyIter_wide g ?_;exact ⟨s1.heap.objs.size,[s1.heap.objs.size],_,_,H1,rfl,d.kept (t':=s1.toks) λb o e=>af _ e,Zs _ z t "str_iterator" (by decide) (λA hA=>Walks.strWide hA _ z t) (λA i s Q E st h=>wpAny_pyIter_striter_wide st h),⟨⟨_,au _ rfl,rfl,rfl⟩,br _⟩,fp,q⟩
theorem qL (n:C.K=X.K) (h:PE X e (tE C own m f)) (b:m≠.any:=by decide):PI X tg e (tIt C own (jJ f)):=by
 refine GP (qi1 (ya h b)) λσ H R ⟨F,ρ,r,h⟩=>⟨F,ρ,r,PoI.bindV h λv F1 H1 d ρ1 a k c h1=>?_⟩
 have c:Is C.K F1 v d:=c;cases c with
 | lst p t=>exact .inl ⟨_,rfl,.inl ⟨⟨_,by rw [<-n]; exact a.sub.seq p⟩,by rw [<-n]; exact h1 _ F1 H1 a k (qiS p t)⟩⟩
 | tup p t=>exact .inl ⟨_,rfl,.inr ⟨⟨_,by rw [<-n]; exact qW a.sub p⟩,by rw [<-n]; exact h1 _ F1 H1 a k (qiT p t)⟩⟩
 | str z=>exact .inr ⟨_,rfl,h1 _ F1 H1 a k qi0⟩
 | _=>exact h1.elim
end
end L2.D2
namespace L2.D2
open PySem PySem.Spec PySem.Calls PyProof.Rows PySem.W Builtin Builtin.ObjectAttr Builtin.Getset_descriptor
noncomputable def xcB (K:Frag) (C:Addr):Bool:=decide (subIn K (.ref C) (.type "BaseException")=iu iC)&&decide (findIn K (.ref C) "__getattribute__"=iu (iu (.builtin "BaseException.__getattribute__")))&&decide (findIn K (.ref C) "__getattr__"=iu iw) &&
 decide (findIn K (.ref C) "__class__"=iu (iu (.builtin "object.__class__")))&&decide (mroIn K C (.type "object")=iu iC)&&(clsIn K C).isSome
end L2.D2
namespace L2.D2
open PySem PySem.Spec PyProof.Rows
variable {P:iH} {w:iI} {K:Frag} {N:List Str} {A:iK} {C:Ct}
theorem qi2 {mg:Str->Option iB} {base:Heap} {qual:Str} {scope:lf} {f:Addr} {cd:iB} {outer:List Env} {s0:iF} {H0:Hp} {E:XK} (h:C.E=E):Zn (cxk P w K mg base N qual scope f cd A outer s0 H0 E) C:=by subst h;exact qiW
noncomputable def qi3 (ca:Str->Addr) (cs:List Str) (c:Str):Option Addr:=if c∈cs then iu (ca c) else iw
noncomputable def qlT (ca:Str->Addr) (cs:List Str) (x:Str) (C:Addr):Option Bool:=if C∈cs.map ca then iu (decide (C=ca x)) else iw
structure Xs (K:Frag) (cv:Str->iB) (ca:Str->Addr) (cs:List Str) (top:Str):Prop where
 val:∀ c∈cs,cv c=.ref (ca c)
 own:∀ c∈cs,bT K (.ref (ca c)) (cv top)=iu iC
 cls:∀ c∈cs,xcB K (ca c)=iC
 kit:∀ c∈cs,∀ d∈cs,cy K (.ref (ca c)) (.ref (ca d))=iu (decide (ca c=ca d))
 ve:∀ c∈cs,cy K (.ref (ca c)) (.type "ValueError")=iu iC
variable {x:Str}
section
variable {cv:Str->iB} {ca:Str->Addr} {cs:List Str} {top:Str}
theorem Xs.hit (z:Xs K cv ca cs top):∀ c Cc,qi3 ca cs c=iu Cc->cv c=.ref Cc/\bT K (.ref Cc) (cv top)=iu true:=λc Cc h=>by
 unfold qi3 at h;split at h;·cases h;exact ⟨z.val c (by assumption),z.own c (by assumption)⟩
 ·cases h
theorem Xs.ans (z:Xs K cv ca cs top) (hx:x∈cs):∀ Cc b,qlT ca cs x Cc=iu b->xcB K Cc=iC/\cy K (.ref Cc) (.ref (ca x))=iu b:=λCc b h=>by
 unfold qlT at h;split at h;·rename_i m;obtain ⟨c,d,rfl⟩:=ah.mp m;cases h;exact ⟨z.cls c d,z.kit c d x hx⟩
 ·cases h
end
inductive SK where
 | l | t
noncomputable def SK.itc:SK->String
 | .l => "list_iterator"
 | .t => "tuple_iterator"
def SeqK (h:Heap) (a:Addr):SK->Array iB->Prop
 | .l,xs=>h.IsList a xs
 | .t,xs=>h.IsTuple a xs
def ItK (h:Heap) (it a:Addr):SK->Nat->Prop
 | .l,i=>h.IsListIter it a i
 | .t,i=>h.IsTupleIter it a i
def SqK (K:Frag) (H:Hp) (a:Addr):SK->List V->Prop
 | .l,xs=>SqL K H a xs
 | .t,xs=>SqT K H a xs
variable {h h':Heap} {a:Addr} {xs:Array iB}
theorem SeqK.at:∀ {k:SK},SeqK h a k xs->(∀ o,h.get? a=iu o->h'.get? a=iu o)->SeqK h' a k xs
 | .l,⟨o,e,c⟩,k=>⟨o,k _ e,c⟩
 | .t,⟨o,e,c⟩,k=>⟨o,k _ e,c⟩
theorem SeqK.lt:∀ {k:SK},SeqK h a k xs->a < h.objs.size
 | .l,⟨o,e,c⟩=>aA e
 | .t,⟨o,e,c⟩=>aA e
variable {it:Addr} {i:Nat}
theorem ItK.obj:∀ {k:SK},ItK h it a k i->∃ o,h.get? it=iu o/\o.cls=.type k.itc/\o.data=.fields #[.ref a,.int i 0]
 | .l,⟨o,e,c,d⟩=>⟨o,e,c,d⟩
 | .t,⟨o,e,c,d⟩=>⟨o,e,c,d⟩
theorem ItK.of:∀ {k:SK},(∃ o,h.get? it=iu o/\o.cls=.type k.itc/\o.data=.fields #[.ref a,.int i 0])->ItK h it a k i
 | .l,⟨o,e,c,d⟩=>⟨o,e,c,d⟩
 | .t,⟨o,e,c,d⟩=>⟨o,e,c,d⟩
variable {E:iB->iF->Prop} {prog:iH} {s:iF} {Q:Option iB->iF->Prop} {l:Addr} {items:Array iB} {o:Obj} {n:Nat}
section
theorem qi4 {k:SK} {Q:iB->iF->Prop} (h:SeqK s.heap a k xs) (c:Q (.ref s.heap.objs.size) { s with heap:=s.heap.push { cls:=.type k.itc,data:=.fields #[.ref a,.int 0 0] } }):wpAny (model prog w) A (pyIter (.ref a)) Q E s:=by
 cases k with
 | l=>exact la h c
 | t=>exact j5 h c
noncomputable def SK.cl:SK->String
 | .l => "list"
 | .t => "tuple"
theorem qbs {k:SK} (a:A.handled=iw) (hi:ItK s.heap it l k i) (hl:SeqK s.heap l k items) (hx:items[i]?=iw) (c:∀ h',g6 it s.heap h'->Q iw { s with heap:=h' }):wpAny (model prog w) A (pyNext (.ref it)) Q E s:=by
 cases k with
 | l=>exact wpAny_pyNext_list_end a hi hl hx c
 | t=>exact wpAny_pyNext_tuple_end a hi hl hx c
theorem GT {k:SK} {x:iB} (hi:ItK s.heap it l k i) (hl:SeqK s.heap l k items) (hx:items[i]?=iu x) (c:∀ h',ItK h' it l k (i+1)->bK it s.heap h'->Q (iu x) { s with heap:=h' }):wpAny (model prog w) A (pyNext (.ref it)) Q E s:=by
 cases k with
 | l=>exact wpAny_pyNext_list_item hi hl hx c
 | t=>exact wpAny_pyNext_tuple_item hi hl hx c
theorem SeqK.of (e:h.get? a=iu o) (d:o.data=.seq xs n):∀ {k:SK},o.cls=.type k.cl->SeqK h a k xs
 | .l,c=>⟨o,e,c,n,d⟩
 | .t,c=>⟨o,e,c,n,d⟩
end
variable {sk:SK}
section
theorem GU:typeLookup (.type "tuple") "keys"=pure none:=by rw [j7,iW]; kernel_rfl
theorem Kl {k:Nat} {Q:Option iB->iF->Prop} (n:A.handled=iw) (hx:s.heap.get? a=iu o) (l:o.cls=.type "tuple") (t:o.data=.seq xs k) (hd:o.dict=iw)
  (h:∀ h' tk,(∀ b j,s.heap.get? b=iu j->h'.get? b=iu j)->Q iw { s with heap:=h',toks:=tk }):wpAny (model prog w) A (getAttr? (.ref a) "keys") Q E s:=by
 obtain ⟨c,dct,dat,sl⟩:=o;simp only at l t hd;subst l t hd;obtain ⟨hp,g,d,tk,os⟩:=s;have hT:∀ f,(⟨hp,g,d,f,os⟩:iF).TypeIs (.ref a) "tuple":=λ_=>⟨_,hx,rfl⟩
 have f1:=sub_AttributeError;have u:=dQ.lookup;have f4:=dQ.bind (.ref a);have r:=am_tuple_getattr_none;have p:=GU;have m:(["__module__", "__name__", "__qualname__", "__doc__", "__annotations__"]:List Str).contains ("keys":Str)=false:=by decide +kernel
 have hsz:("keys":Str).length+100<=sizeLine:=by rw [iL]; decide +kernel
 unfold getAttr? getAttrBy?;refine iA (wpAny_mkText (iA (k7 ?_)));unfold getAttrBy;repeat (any_goals (first | assumption | exact hT _ | ((with_reducible show wpAny _ _ (call (Value.builtin "tuple.__getattribute__") _ _) _ _ _); refine lq dQ (hT _) am_entry_tuple_getattribute (F.args_tuple_getattribute_2 _ _) (meets_getattribute_miss_tuple a xs k sl "keys" _ p m hsz) ⟨hx,n,λh' f e i=>?_⟩) | wp_step))
 obtain ⟨t',W,q⟩:=i.there;show wpAny _ _ (getattributeRaised _ _ _ _ _ _ _) _ _ _;unfold getattributeRaised;repeat (any_goals (first | assumption | wp_step))
 exact h h' f i.keeps
theorem GV:typeLookup (.type "list") "keys"=pure none:=by rw [j7,iW]; kernel_rfl
theorem Ji {k:Nat} {Q:Option iB->iF->Prop} (n:A.handled=iw) (hx:s.heap.get? a=iu o) (l:o.cls=.type "list") (t:o.data=.seq xs k) (hd:o.dict=iw)
  (h:∀ h' tk,(∀ b j,s.heap.get? b=iu j->h'.get? b=iu j)->Q iw { s with heap:=h',toks:=tk }):wpAny (model prog w) A (getAttr? (.ref a) "keys") Q E s:=by
 obtain ⟨c,dct,dat,sl⟩:=o;simp only at l t hd;subst l t hd;obtain ⟨hp,g,d,tk,os⟩:=s;have hT:∀ f,(⟨hp,g,d,f,os⟩:iF).TypeIs (.ref a) "list":=λ_=>⟨_,hx,rfl⟩
 have f1:=sub_AttributeError;have u:=dY.lookup;have f4:=dY.bind (.ref a);have r:=am_list_getattr_none;have p:=GV;have m:(["__module__", "__name__", "__qualname__", "__doc__", "__annotations__"]:List Str).contains ("keys":Str)=false:=by decide +kernel
 have hsz:("keys":Str).length+100<=sizeLine:=by rw [iL]; decide +kernel
 unfold getAttr? getAttrBy?;refine iA (wpAny_mkText (iA (k7 ?_)));unfold getAttrBy;repeat (any_goals (first | assumption | exact hT _ | ((with_reducible show wpAny _ _ (call (Value.builtin "list.__getattribute__") _ _) _ _ _); refine lq dY (hT _) am_entry_list_getattribute (F.args_list_getattribute_2 _ _) (meets_getattribute_miss_list a xs k sl "keys" _ p m hsz) ⟨hx,n,λh' f e i=>?_⟩) | wp_step))
 obtain ⟨t',W,q⟩:=i.there;show wpAny _ _ (getattributeRaised _ _ _ _ _ _ _) _ _ _;unfold getattributeRaised;repeat (any_goals (first | assumption | wp_step))
 exact h h' f i.keeps
theorem gO:entryFor table "dict.update.loop"=iu Builtin.«dict.update.loop»:=entryFor_of_tree (by kernel_rfl)
theorem kP:plainId "dict.update.loop"=true:=by decide +kernel
def qbt (h:Heap) (v key val:iB):Prop:=∃ p o n,v=.ref p/\h.get? p=iu o/\o.cls=.type "tuple"/\o.data=.seq #[key,val] n
theorem qd5 {sk:SK} {R:lH->iF->Prop} {d t:Addr} (hh:A.in1.handled=iw) (Q:d≠t) (u:d≠it) (M:t≠it):∀ (n i:Nat) (s:iF) (kvs:List (Key×iB)) (ps:List (Key×iB×iB)),items.size - i=n->i<=items.size ->ItK s.heap it t sk i->SeqK s.heap t sk items->s.heap.DictOf (jf prog w) d kvs->ps.length=n->(∀ j p,ps[j]?=iu p->∃ v,items[i+j]?=iu v/\QX p.1 p.2.1=iC/\qbt s.heap v p.2.1 p.2.2)->kvs.length+n<=sizeLine ->(∀ h' tk,h'.DictOf (jf prog w) d (ps.foldl (λl p=>stored l p.1 p.2.2) kvs)->(∀ b o,b≠d->b≠it->s.heap.get? b=iu o->h'.get? b=iu o)->R (.ok (.ret .none)) { s with heap:=h',toks:=tk }) ->codeAny (model prog w) A (.builtin "dict.update.loop" ⟨[.ref d,.ref it,rawInt i,.none],[]⟩) R s:=by
 intro n
 induction n with
 | zero=>intro i s kvs ps hn hi st ht hd hl hp hz V;have e:ps=[]:=List.length_eq_zero_iff.mp hl;subst e;refine iM gO ?_;rw [aY kP _];show wpAny _ A.in1 (pyNext (.ref it) >>= _) _ _ s;refine iA (qbs hh st ht (by simp; lia) λh' Y=>?_);show wpAny _ A.in1 (ret cE) _ _ _;refine iG (V h' s.toks ?_ λb o _ h2 e=>Y b o h2 e);obtain ⟨o,es,ep,D,r⟩:=hd;exact ⟨o,es,ep,Y d o u D,r⟩
 | succ n ih=>
  intro i s kvs ps hn hi st ht hd hl hp hz V;cases ps with
  | nil=>simp at hl
  | cons p ps=>
   obtain ⟨v,hv,hk,q,W,nq,rfl,hq,O,c⟩:=hp 0 p rfl;obtain ⟨od,es,ep,g,hdx,a⟩:=id hd;have F:q≠d:=λz=>by subst z;rw [hq] at g; cases g;rw [a.1] at c; cases c
   obtain ⟨oi,f,hic,E⟩:=st.obj;have J:q≠it:=λz=>by subst z;rw [hq] at f; cases f;rw [E] at c; cases c
   refine iM gO ?_;rw [aY kP _];show wpAny _ A.in1 (pyNext (.ref it) >>= _) _ _ s;refine iA (GT st ht (x:=.ref q) (by simpa using hv) λh' H G=>?_);have C:h'.get? q=iu W:=(G.2 q J).trans hq;have U:fO { s with heap:=h' } (.ref q) "tuple":=⟨W,C,O⟩
   have T:h'.DictOf (jf prog w) d kvs:=by obtain ⟨o,es,ep,D,r⟩:=hd;exact ⟨o,es,ep,(G.2 d u).trans D,r⟩
   have N:SeqK h' t sk items:=ht.at λo D=>(G.2 t M).trans D;dsimp only;refine iA (iN (iA ?_));refine lb ?_;unfold Builtin.Dict.pairItems;refine iA (j4 U ?_);rw [if_pos (by decide)];refine iA (iX C c (iG ?_));show wpAny _ A.in1 (holding [p.2.1,p.2.2] (dictSet d p.2.1 p.2.2)) _ _ _;refine iN (wpAny_dictSet_pairs (knd:=jf prog w) hk T (λh2 hd2 k=>?_) (by lia));have keep:∀ b o,b≠d->b≠it->s.heap.get? b=iu o->h2.get? b=iu o:=λb o n1 n2 e=>(k.2 b n1).trans ((G.2 b n2).trans e);have X:(stored kvs p.1 p.2.2).length<=kvs.length+1:=by unfold stored;split <;> simp
   refine iG ⟨iR kP _,?_⟩;have ec:rawInt ((i:Int)+1)=rawInt ((i+1:Nat):Int):=by push_cast; rfl
   rw [ec];refine ih (i+1) _ (stored kvs p.1 p.2.2) ps (by lia) (by lia) ?_ ?_ hd2 (by simpa using hl) (λj Z e=>?_) (by lia) λh3 tk S k3=>?_;·obtain ⟨o,e,r⟩:=H.obj;exact .of ⟨o,(k.2 it (bo u)).trans e,r⟩
   ·exact N.at λo e=>(k.2 t (bo Q)).trans e
   ·obtain ⟨v',L,P,I,y,K,rfl,m,B,h⟩:=hp (j+1) Z (by simpa using e);refine ⟨.ref I,by rw [show i+1+j=i+(j+1) by lia]; exact L,P,I,y,K,rfl,keep I y (λz=>?_) (λz=>?_) m,B,h⟩;·subst z;rw [m] at g; cases g;rw [a.1] at h; cases h
    ·subst z;rw [m] at f; cases f;rw [E] at h; cases h
   ·exact V h3 tk S λb o n1 n2 e=>k3 b o n1 n2 (keep b o n1 n2 e)
theorem Jj {t:Addr} {ps:List (Key×iB×iB)} {Q:iB->iF->Prop} (J:A.handled=iw) {m:Obj} {nt:Nat} (z:s.heap.get? t=iu m) (d:m.cls=.type sk.cl) (n:m.dict=iw) (f:m.data=.seq items nt)
  (hl:ps.length=items.size) (hp:∀ (j:Nat) (p:Key×iB×iB),ps[j]?=iu p->∃ v,items[j]?=iu v/\QX p.1 p.2.1=iC/\qbt s.heap v p.2.1 p.2.2) (N:items.size<=sizeLine)
  (h:∀ h' tk,h'.DictOf (jf prog w) s.heap.objs.size (ps.foldl (λl p=>stored l p.1 p.2.2) [])->(∀ b o,s.heap.get? b=iu o->h'.get? b=iu o)->Q (.ref s.heap.objs.size) { s with heap:=h',toks:=tk }) :
  wpAny (model prog w) A (call (.type "dict") [.ref t]) Q E s:=by
 refine callType_codes (Q₁:=λobj k=>obj=.ref s.heap.objs.size/\k={ s with heap:=s.heap.push { cls:=.type "dict",data:=.dict #[] } }) F.kt_called_dict (F.kt_typeCall_dict_1 _) F.entry_dict_init (kt_code_dict_new _ ⟨rfl,rfl⟩) ?_;rintro obj k ⟨rfl,rfl⟩;have i:(s.heap.push { cls:=.type "dict",data:=.dict #[] }).DictOf (jf prog w) s.heap.objs.size []:=Heap.DictOf.new s.heap;refine ⟨i.typeIs,F.args_dict_init_2 _ _,?_⟩;unfold Builtin.«dict.__init__»;refine iA ?_;unfold Builtin.Dict.selfAndRest;refine iA (wpAny_notOrdered_dict i.typeIs ?_);show wpAny _ _ (pure (s.heap.objs.size,[cr t])) _ _ _;refine iG ?_;show wpAny _ _ (Builtin.Dict.updateFrom "dict.__init__" s.heap.objs.size (.ref t) [] .none) _ _ _;unfold Builtin.Dict.updateFrom;have g:(s.heap.push { cls:=.type "dict",data:=.dict #[] }).get? t=iu m:=af _ z;have C:t < s.heap.objs.size:=aA z;refine iA (j4 (T:=sk.cl) ⟨m,g,d⟩ ?_);rw [if_pos (by cases sk <;> decide)];have R:∀ {L:Option iB->iF->Prop} {A1:iK} {S:iB->iF->Prop} {s1:iF},A1.handled=iw->s1.heap.get? t=iu m->(∀ h' tk,(∀ b I,s1.heap.get? b=iu I->h'.get? b=iu I)->L iw { s1 with heap:=h',toks:=tk })->wpAny (model prog w) A1 (getAttr? (.ref t) "keys") L S s1:=λa b c=>by
  cases sk with
  | l=>exact Ji a b d f n c
  | t=>exact Kl a b d f n c
 refine iA (R (by exact J) g λh1 H k1=>?_);rw [if_pos (show (iw:Option iB).isNone=iC from rfl)];refine iA (k8 ?_);have y:h1.get? t=iu m:=k1 _ _ g;have D:h1.DictOf (jf prog w) s.heap.objs.size []:=by obtain ⟨o,es,ep,B,r⟩:=i;exact ⟨o,es,ep,k1 _ _ B,r⟩
 have x:SeqK h1 t sk items:=.of y f d;refine iA (qi4 (s:={ s with heap:=h1,toks:=H }) x ?_);have u:s.heap.objs.size < h1.objs.size:=let ⟨o,es,ep,B,r⟩:=D; aA B;have up:∀ b o,s.heap.get? b=iu o->(h1.push { cls:=.type sk.itc,data:=.fields #[.ref t,.int 0 0] }).get? b=iu o:=λb o e=>af _ (k1 _ _ (af _ e));refine iG ⟨iR kP _,?_⟩;refine qd5 (items:=items) (t:=t) (A:=A.in1) (show A.in1.in1.handled=iw from J) (cV C) (aE u) (aE (eY C u)) items.size 0 _ [] ps (by lia) (br _) (.of ⟨_,au _ rfl,rfl,rfl⟩) ?_ ?_ hl (λj p e=>?_) (by simpa using N) λh2 G hd2 k2=>⟨rfl,h h2 G hd2 λb o e=>?_⟩
 ·exact .of (af _ y) f d
 ·obtain ⟨o,es,ep,B,r⟩:=D;exact ⟨o,es,ep,af _ B,r⟩
 ·obtain ⟨v,O,P,q,W,M,rfl,hq,r⟩:=hp j p e;exact ⟨.ref q,by simpa using O,P,q,W,M,rfl,up q W hq,r⟩
 ·have K:=aA e;exact k2 b o (aE K) (aE (eY K u)) (up b o e)
end
noncomputable def KL:D->Option Key
 | .int i=>iu (.inl i)
 | .str x=>iu (.inr x)
 | _=>iw
noncomputable def KM (kvs:List (Key×D)) (k:Key) (d:D):List (Key×D):=if kvs.any (λp=>decide (p.1=k)) then kvs.map λp=>if p.1=k then (p.1,d) else p else kvs++[(k,d)]
noncomputable def qd6:D->Option (Key×D)
 | .tup [k,v]=>(KL k).map λk=>(k,v)
 | _=>iw
noncomputable def yh:List D->Option (List (Key×D))
 | []=>iu []
 | d::ds=>match qd6 d,yh ds with
  | some p,iu ps=>iu (p::ps)
  | _,_=>iw
noncomputable def qbu:D->Out D
 | .tup ds=>match yh ds with
  | some ps=>.ok (.dct (ps.foldl (λl p=>KM l p.1 p.2) []))
  | none=>.bad
 | _=>.bad
noncomputable def qi5 (d:D):Out D:=(GO d).bind λds=>match yh ds with
 | some ps=>.ok (.dct (ps.foldl (λl p=>KM l p.1 p.2) []))
 | none=>.bad
variable {d:D} {F H:Hp} {v:V} {ds:List D}
theorem qfu (A:Same F H) (h:TopIs K F H v d) (e:GO d=.ok ds):∃ a k xs,v=.ref a/\SqK K H a k xs/\IsL K F xs ds:=by
 cases d with
 | lst es=>cases e; obtain ⟨a,xs,rfl,q,t⟩:=h.lst A; exact ⟨a,.l,xs,rfl,q,t⟩
 | tup es=>cases e; obtain ⟨a,xs,rfl,q,t⟩:=h.tup A; exact ⟨a,.t,xs,rfl,q,t⟩
 | _=>cases e
theorem IsK.any {k:Key}:∀ {kv:List (Key×V)} {ks:List (Key×D)},IsK K F kv ks->(kv.any λp=>decide (p.1=k))=(ks.any λp=>decide (p.1=k))
 | _,_,.nil=>rfl
 | _,_,.cons h t=>by rw [cL,cL,IsK.any t]
theorem IsK.repl {k:Key} (i:Is K F v d):∀ {kv:List (Key×V)} {ks:List (Key×D)},IsK K F kv ks->IsK K F (kv.map λp=>if p.1=k then (p.1,v) else p) (ks.map λp=>if p.1=k then (p.1,d) else p)
 | _,_,.nil=>.nil
 | _,_,.cons (k:=k') h t=>by
  rw [aD,aD];by_cases e:k'=k;·simp only [e,if_true]; exact .cons i (IsK.repl i t)
  ·simp only [e,if_false]; exact .cons h (IsK.repl i t)
theorem IsK.snoc {k:Key} (i:Is K F v d):∀ {kv:List (Key×V)} {ks:List (Key×D)},IsK K F kv ks->IsK K F (kv++[(k,v)]) (ks++[(k,d)])
 | _,_,.nil=>.cons i .nil
 | _,_,.cons h t=>.cons h (IsK.snoc i t)
variable {kv:List (Key×V)}
theorem IsK.put {k:Key} {ks:List (Key×D)} (h:IsK K F kv ks) (i:Is K F v d):IsK K F (Kg kv k v) (KM ks k d):=by
 unfold Kg KM;rw [h.any];by_cases e:(ks.any λp=>decide (p.1=k))=iC;·rw [if_pos e,if_pos e]; exact IsK.repl i h
 ·rw [if_neg e,if_neg e]; exact IsK.snoc i h
theorem Zu:∀ {pv:List (Key×V)} {ps:List (Key×D)} {kv:List (Key×V)} {ks:List (Key×D)},IsK K F pv ps->IsK K F kv ks->IsK K F (pv.foldl (λl p=>Kg l p.1 p.2) kv) (ps.foldl (λl p=>KM l p.1 p.2) ks)
 | _,_,_,_,.nil,h=>h
 | _,_,_,_,.cons i t,h=>by rw [cg,cg];exact Zu t (h.put i)
def qlU (p:Key×V) (q:Key×iB×iB):Prop:=p.1=q.1/\RelV p.2 q.2.2
theorem qbv:∀ {pv:List (Key×V)} {tr:List (Key×iB×iB)} {kv:List (Key×V)} {vs:List (Key×iB)},lG qlU pv tr->KV kv vs->KV (pv.foldl (λl p=>Kg l p.1 p.2) kv) (tr.foldl (λl p=>stored l p.1 p.2.2) vs)
 | _,_,_,_,.nil,h=>h
 | _,_,_,_,.cons r t,h=>by rw [cg,cg];refine qbv t ?_;rw [r.1];exact h.put _ r.2
theorem Zv:∀ {pv:List (Key×V)} {kv:List (Key×V)},(pv.foldl (λl p=>Kg l p.1 p.2) kv).length<=kv.length+pv.length
 | [],kv=>aB _
 | p::pv,kv=>by
  have h1:=@Zv pv (Kg kv p.1 p.2);have h2:=xM kv p.1 p.2;rw [cg,aq]
  lia
variable {X:Cx} {pins:Pns} {σ:St} {u:iB} {vs:List V}
section
theorem gJ {k:Key} (i:Is C.K F v d) (r:RelV v u) (e:KL d=iu k):QX k u=true:=by
 cases d with
 | int z=>cases i; cases e; obtain ⟨t,rfl⟩:=r; exact WE z t
 | str z=>cases i; cases e; obtain ⟨t,rfl⟩:=r; exact WF z t
 | _=>cases e
theorem Zw (f:C.K=X.K) (I:Inv X pins σ H s) (A:Same F H):∀ {vs:List V} {us:List iB} {ds:List D} {ps:List (Key×D)},IsL C.K F vs ds->Vals vs us->yh ds=iu ps ->∃ (pv:List (Key×V)) (tr:List (Key×iB×iB)),IsK C.K F pv ps/\lG qlU pv tr/\tr.length=us.length/\pv.length=us.length/\∀ (j:Nat) (p:Key×iB×iB),tr[j]?=iu p->∃ v,us[j]?=iu v/\QX p.1 p.2.1=iC/\qbt s.heap v p.2.1 p.2.2
 | _,_,_,_,.nil,.nil,e=>by cases e; exact ⟨[],[],.nil,.nil,rfl,rfl,λj p e=>by simp at e⟩
 | _,_,_,_,.cons (d:=d) (ds:=ds) i t,.cons (b:=u) r rs,e=>by
  unfold yh at e;cases q:qd6 d with
  | none=>rw [q] at e; cases e
  | some kd=>
   cases c:yh ds with
   | none=>rw [q,c] at e; cases e
   | some rest=>
    rw [q,c] at e;cases e;obtain ⟨pv,tr,h1,h2,y,h,x⟩:=Zw f I A t rs c;unfold qd6 at q;split at q
    ·rename_i B z;obtain ⟨k,m,rfl⟩:=aX.mp q;cases i with
     | @tup a xs _ hq il=>
      cases il with
      | @cons xk _ xr _ ik il2=>
       cases il2 with
       | @cons xv _ xr2 _ iv il3=>
        cases il3;cases r;obtain ⟨its,g,⟨o,l,w,n,hd⟩,_⟩:=I.tuple (show SqT X.K H a [xk,xv] by rw [<-f]; exact qW A hq);cases g with
        | @cons _ uk _ _ rk rv2=>
         cases rv2 with
         | @cons _ uv _ _ rv3 rv4=>
          cases rv4;refine ⟨(k,xv)::pv,(k,uk,uv)::tr,.cons iv h1,.cons ⟨rfl,rv3⟩ h2,by simp [y],by simp [h],λj p e=>?_⟩;cases j with
          | zero=>simp at e;subst e;exact ⟨_,rfl,gJ ik rk m,a,o,n,rfl,l,w,hd⟩
          | succ j=>simpa using x j p (by simpa using e)
    ·cases q
theorem Uk (I:Inv X pins σ H s):∀ {k:SK},SqK X.K H a k vs->∃ its o n,Vals vs its/\s.heap.get? a=iu o/\o.cls=.type k.cl/\o.dict=iw/\o.data=.seq its.toArray n/\vs.length<=sizeLine
 | .l,h=>let ⟨its,r,⟨o,n,e,c,b,hd⟩,z⟩:=I.list h; ⟨its,o,n,r,e,c,b,hd,z⟩
 | .t,h=>by obtain ⟨its,r,⟨o,e,c,n,hd⟩,z⟩:=I.tuple h;obtain ⟨o2,d,b⟩:=I.tupleN h;rw [e] at d; cases d;exact ⟨its,o,n,r,e,c,b,hd,z⟩
theorem Zx (m:C.K=X.K) (y:X.calm=iC):Jd X C .fr (.type "dict") qi5:=by
  intro pins s σ H xs us Q I r h;obtain ⟨x,F,dx,rfl,A,tx,po⟩:=h;unfold qi5 at po;cases e:GO dx with
  | bad=>rw [e] at po; exact po.elim
  | exc c o=>cases dx <;> cases e
  | ok ds=>
   rw [e] at po;have po:PoV C .fr F H (match yh ds with | some ps=>.ok (.dct (ps.foldl (λl p=>KM l p.1 p.2) [])) | none=>.bad) Q:=po;cases q:yh ds with
   | none=>simp only [q] at po; exact po.elim
   | some ps=>
    simp only [q] at po;obtain ⟨a,sk,vs,rfl,hq,t⟩:=qfu A tx e;obtain ⟨u,rfl,B⟩:=xw r;cases B;rw [m] at hq;obtain ⟨its,o,n,i,w,g,d,hd,L⟩:=Uk I hq;obtain ⟨pv,tr,h1,h2,G,E,z⟩:=Zw m I A t i q;have k:=i.length;refine Jj (ps:=tr) (I.ok.hd y) w g d hd (by simp [G]) (λj p e=>?_) (by simp; lia) λh' tk f kp=>?_;· obtain ⟨v,e1,J⟩:=z j p e;exact ⟨v,by simpa using e1,J⟩
    · have hp:H s.heap.objs.size=none:=I.hok.fresh (aB _);obtain ⟨s2,c2,D⟩:=wK (u:=.dK (pv.foldl (λl p=>Kg l p.1 p.2) [])) A hp;have hl:(pv.foldl (λl p=>Kg l p.1 p.2) ([]:List (Key×V))).length<=sizeLine:=by
        have:=@Zv pv [];simp at this
        lia
      have b:(s.heap.objs.size == sysModules)=false:=beq_eq_false_iff_ne.mpr (cV I.big);refine ⟨.ref s.heap.objs.size,_,I.laid (o:=.dK (pv.foldl (λl p=>Kg l p.1 p.2) [])) (t':=tk) kp (aB _) (qfl hl b (qbv h2 .nil) f),rfl,po _ F _ s2 c2 ⟨_,rfl,hp,D,_,qu,Zu h1 .nil⟩⟩
theorem qbw (n:C.K=X.K) (d:X.calm=iC):Jd X C .fr (.type "dict") qbu:=by
 intro pins s σ H xs us Q I r h;obtain ⟨x,F,dx,rfl,A,tx,po⟩:=h;cases dx <;> try exact po.elim
 exact Zx n d pins s σ H _ us Q I r ⟨x,F,_,rfl,A,tx,po⟩
noncomputable def qbx (kvs:List (Key×D)) (k:Key):Bool:=kvs.any λp=>decide (p.1=k)
noncomputable def inA:D->D->Out D
 | x,.dct kvs=>match KL x with
  | some k=>.ok (.bl (qbx kvs k))
  | none=>.bad
 | x,y=>qka x y
noncomputable def Qu:D->D->Out D
 | x,.dct kvs=>match KL x with
  | some k=>.ok (.bl (!qbx kvs k))
  | none=>.bad
 | x,y=>GL x y
theorem Zy {ks:List (Key×D)} {k:Key} (h:IsK K F kv ks):(Yn kv k).isSome=qbx ks k:=by rw [<-Vq,h.any]; rfl
theorem qkg {k:Key} (h:TopIs C.K F H v d) (e:KL d=iu k):v=kV k:=by
 cases d with
 | int z=>cases e; exact h.int
 | str z=>cases e; exact h.str.1
 | _=>cases e
theorem qfv (n:C.K=X.K) (f:X.A.units+64 < cLine):OpD X C .sh (compareOp .In) inA:=by
 intro pins s σ H x y v u Q I r c h;obtain ⟨F,dx,d,b,tx,ty,po⟩:=h;by_cases hd:∃ kvs,d=.dct kvs
 ·obtain ⟨kvs,rfl⟩:=hd;cases q:KL dx with
  | none=>unfold inA at po; simp only [q] at po; exact po.elim
  | some k=>
   unfold inA at po;simp only [q] at po;obtain ⟨a,kv,rfl,g,i⟩:=ty.dct b;cases c;have ex:=qkg tx q;subst ex;refine qmt (by lia) I (DGet.k (k:=k) g) r λs' j=>⟨.bl _,H,j,rfl,?_⟩
   rw [Zy i];exact po _ F H b .refl (.bl _)
 ·have e:inA dx d=qka dx d:=by cases d <;> first | rfl | exact absurd ⟨_,rfl⟩ hd
  rw [e] at po;exact qkZ n f pins s σ H x y v u Q I r c ⟨F,dx,d,b,tx,ty,po⟩
theorem wW (n:C.K=X.K) (f:X.A.units+64 < cLine):OpD X C .sh (compareOp .NotIn) Qu:=by
 intro pins s σ H x y v u Q I r c h;obtain ⟨F,dx,d,b,tx,ty,po⟩:=h;by_cases hd:∃ kvs,d=.dct kvs
 ·obtain ⟨kvs,rfl⟩:=hd;cases q:KL dx with
  | none=>unfold Qu at po; simp only [q] at po; exact po.elim
  | some k=>
   unfold Qu at po;simp only [q] at po;obtain ⟨a,kv,rfl,g,i⟩:=ty.dct b;cases c;have ex:=qkg tx q;subst ex;refine qgu (by lia) I (DGet.k (k:=k) g) r λs' j=>⟨.bl _,H,j,rfl,?_⟩
   rw [Zy i];exact po _ F H b .refl (.bl _)
 ·have e:Qu dx d=GL dx d:=by cases d <;> first | rfl | exact absurd ⟨_,rfl⟩ hd
  rw [e] at po;exact qdN n f pins s σ H x y v u Q I r c ⟨F,dx,d,b,tx,ty,po⟩
end
theorem qgX (t:iQ) (es:Array (Int×iB)) (h:Int) (x:iB):(layNew t es h x).2.1.led=t.led:=by
 unfold layNew;cases t.freeSlot h with
 | none=>rfl
 | some p=>obtain ⟨sl,w⟩:=p;show (SetTable.orStandIn (t.put sl).1 _).led=t.led;unfold SetTable.orStandIn;split <;> rfl
theorem qgY {m f v:Nat} {l p:Bool} {c:Array Int} {t:iQ} {o:Array Nat} (h:hZ m f v l p c=iu (t,o)):t.led=l/\t.plain=p:=by
 unfold hZ at h;cases e:SetTable.layClean m c with
 | none=>rw [e] at h;cases h
 | some ow=>rw [e] at h;have h2:=congrArg Prod.fst (aI.inj h);subst h2;exact ⟨rfl,rfl⟩
theorem YF (t:iQ) (es:Array (Int×iB)) (n:Nat):(relayAll t es n).2.1.led=t.led/\(t.plain=iE->(relayAll t es n).2.1.plain=iE):=by
 unfold relayAll;cases e:t.relaid (es.map (·.1)) n with
 | none=>exact ⟨rfl,λ_=>rfl⟩
 | some q=>
  obtain ⟨t',o⟩:=q;have k:=qgY (show hZ _ _ _ _ _ _=iu (t',o) from e);dsimp only;split;·exact ⟨k.1,λz=>k.2.trans z⟩
  ·exact ⟨rfl,λ_=>rfl⟩
variable {κ:Type}
noncomputable def ga [DecidableEq κ] (ks:List κ) (x:κ):List κ:=if x∈ks then ks else ks++[x]
noncomputable def zu (ks:List Str) (x:Str):List Str:=if x∈ks then ks else ks++[x]
noncomputable def kh (es:Array (Int×iB)) (ep:Nat) (t:iQ):Obj:={ cls:=.type "set",dict:=iw,data:=.set es ep t,slots:=#[] }
structure KP (κ:Type) [DecidableEq κ] where
 kd:∀ (p:iH) (w:iI),PySem.KeyKind p w κ
 of:iB->κ
 pb:Bool
 ofi:∀ {p:iH} {w:iI} {x:κ} {v:iB},(kd p w).is x v=iC->of v=x
 sc:∀ {p:iH} {w:iI} {x:κ} {v:iB},(kd p w).is x v=iC->v.scannable=iC
 pl:∀ {p:iH} {w:iI} {x:κ} {v:iB},(kd p w).is x v=iC->pb=iC->plainKind v=iE
noncomputable def KpS:KP Str where
 kd:=PySem.strKind
 of:=strOf
 pb:=iC
 ofi:=λh=>let ⟨_,e⟩:=db h; by rw [e]; rfl
 sc:=λh=>let ⟨_,e⟩:=db h; by rw [e]; rfl
 pl:=λh _=>let ⟨_,e⟩:=db h; by rw [e]; rfl
structure SetG {κ:Type} [DecidableEq κ] (T:KP κ) (prog:iH) (w:iI) (es:Array (Int×iB)) (t:iQ) (ks:List κ):Prop where
 el:ElemsOf (T.kd prog w) es.toList
 perm:(es.toList.map λe=>T.of e.2).Perm ks
 nd:ks.Nodup
 bd:es.size < scanBound
 fits:t.fits es.size=iC
 led:t.led=!(w.params.followText "set-order")
 plain:T.pb=iC->ks≠[]->t.plain=iE
def SetK {κ:Type} [DecidableEq κ] (T:KP κ) (prog:iH) (w:iI) (h:Heap) (a:Addr) (ks:List κ):Prop:=∃ es ep t,h.get? a=iu (kh es ep t)/\SetG T prog w es t ks
variable {es:Array (Int×iB)} {ep:Nat}
section
theorem qi6 {l:List (Int×iB)} (h:ElemsOf (PySem.strKind prog w) l) {e:Int×iB} (i:e∈l):∃ x t,e.2=.str x t:=by obtain ⟨⟨k,a,_⟩,_⟩:=h e i;obtain ⟨t,ht⟩:=db a;exact ⟨k,t,ht⟩
variable [DecidableEq κ] {T:KP κ}
theorem SetG.mem {t:iQ} {ks:List κ} (h:SetG T prog w es t ks) {x:κ}:x∈ks↔∃ e∈es.toList,(T.kd prog w).is x e.2=true:=by
 rw [<-h.perm.mem_iff,ah];constructor;·rintro ⟨e,i,z⟩;obtain ⟨⟨k,a,_⟩,_⟩:=h.el e i;rw [T.ofi a] at z;exact ⟨e,i,z ▸ a⟩
 ·rintro ⟨e,i,z⟩;exact ⟨e,i,T.ofi z⟩
theorem SetG.size {t:iQ} {ks:List κ} (h:SetG T prog w es t ks):es.size=ks.length:=by have e:=h.perm.length_eq;simpa using e
theorem qfw {es':Array (Int×iB)} {t t':iQ} (l:h.get? a=iu (kh es ep t)):(h.update a (ia es' t')).get? a=iu (kh es' (ep+1) t'):=by have e:=aS (ia es' t') l (by rw [putSet_of (o:=kh es ep t) es' t' rfl]; rfl);rw [putSet_of (o:=kh es ep t) es' t' rfl] at e;exact e
theorem SetG.more {e:Array (Int×iB)} {t c:iQ} {ks:List κ} {x:κ} {v:iB} (h:SetG T prog w es t ks) (d:(T.kd prog w).is x v=iC) (nx:x∉ks) (hr:ks.length+1 < scanBound)
  (hp:e.toList.Perm (es.toList++[((T.kd prog w).hash x,v)])) (g:c.fits e.size=iC) (hl:c.led=t.led) (hq:T.pb=iC->c.plain=iE):SetG T prog w e c (ga ks x):=by
 have ex:ga ks x=ks++[x]:=if_neg nx;have f:e.size=ks.length+1:=by rw [<-bH,hp.length_eq,ai,bH,h.size];rfl
 rw [ex];refine ⟨(h.el.push d (T.sc d)).perm hp,?_,?_,?_,g,hl.trans h.led,λb _=>hq b⟩;·refine (hp.map _).trans ?_;rw [cH,List.map_singleton,T.ofi d];exact h.perm.append (cO _)
 ·exact bZ.mpr ⟨h.nd,by simp,λa j b i=>by rw [ap.mp i]; exact λz=>nx (z ▸ j)⟩
 ·rw [f];exact hr
theorem qgZ {ks:List κ} {x:κ} {v:iB} {Q:Bool->iF->Prop} (m:(T.kd prog w).is x v=iC) (S:SetK T prog w s.heap a ks) (hr:ks.length+1 < scanBound)
  (h:∀ h' b,bK a s.heap h'->SetK T prog w h' a (ga ks x)->Q b { s with heap:=h' }):wpAny (model prog w) A (setAddHashed a v ((T.kd prog w).hash x)) Q E s:=by
 obtain ⟨es,ep,t,o,d⟩:=S;unfold setAddHashed setAddHashedIn;refine iN (iA (iV o rfl d.fits ?_));dsimp only;rw [byScan_of (T.sc m) d.bd d.el,if_pos rfl];unfold setAddByScan;refine iA (iA (k8 (iA (wpAny_setScan_of m o rfl d.fits d.el ?_))));cases hq:es.toList.findIdx? (λe=>(T.kd prog w).is x e.2) with
 | some j=>obtain ⟨M,hp,_⟩:=List.findIdx?_eq_some_iff_getElem.mp hq;have hx:x∈ks:=d.mem.mpr ⟨_,bG M,hp⟩;have q:=h s.heap iE (Heap.SameBut.refl a s.heap) ⟨es,ep,t,o,by rw [show ga ks x=ks from if_pos hx]; exact d⟩;dsimp only;exact iG (iG q)
 | none=>
  have hx:x∉ks:=λz=>by obtain ⟨e,N,q⟩:=d.mem.mp z;have:=List.findIdx?_eq_none_iff.mp hq e N;rw [q] at this;cases this
  dsimp only;have hp:=layNew_perm t es ((T.kd prog w).hash x) v;have n:=layNew_fits t es ((T.kd prog w).hash x) v;have hl:=qgX t es ((T.kd prog w).hash x) v;generalize layNew t es ((T.kd prog w).hash x) v=L at hp n hl ⊢;obtain ⟨c,u,K,P⟩:=L;dsimp only at hp n hl ⊢;rw [Array.toList_push] at hp;have l:∀ f:iQ,f.fits c.size=iC->f.led=t.led->(T.pb=iC->f.plain=iE)->wpAny (model prog w) A (do
    storeSet a c f
    if (!K&&f.tooFull)=iC then do
      (match (relayAll f c (dn c.size)).2.2 with | true=>rule "set.scan.the-table-gave-way" | false=>pure ())
      storeSet a (relayAll f c (dn c.size)).1 (relayAll f c (dn c.size)).2.1
      pure (iu iC)
     else pure (iu iC)) (λr s'=>∃ h',s'={ s with heap:=h' }/\r=iu iC/\bK a s.heap h'/\SetK T prog w h' a (ga ks x)) E s:=by
   intro f f2 I p2;have d2:=d.more m hx hr hp f2 I p2;refine iA (wpAny_storeSet_of o rfl ?_ (lc d2.bd));have i:=qfw (es':=c) (t':=f) o;have y:=bx s.heap a (ia c f);split
   ·have C:=relayAll_perm f c (dn c.size);have D:=relayAll_fits f c (dn c.size);have B:=YF f c (dn c.size);generalize relayAll f c (dn c.size)=R at C D B ⊢;obtain ⟨p,H,Y⟩:=R;dsimp only at C D B ⊢;have J:=d.more m hx hr (C.trans hp) D (B.1.trans I) (λb=>B.2 (p2 b));refine iA ?_;have go:wpAny (model prog w) A (storeSet a p H >>= λ_=>pure (iu iC)) (λr s'=>∃ h',s'={ s with heap:=h' }/\r=iu iC/\bK a s.heap h'/\SetK T prog w h' a (ga ks x)) E { s with heap:=s.heap.update a (ia c f) }:=
     iA (wpAny_storeSet_of i rfl (iG ⟨_,rfl,rfl,y.trans (bx _ a _),p,_,H,qfw i,J⟩) (lc J.bd))
    cases Y;·exact iG go
    ·exact k8 go
   ·exact iG ⟨_,rfl,rfl,y,c,_,f,i,d2⟩
  have fin:∀ (r:Option Bool) (s':iF),(∃ h',s'={ s with heap:=h' }/\r=iu iC/\bK a s.heap h'/\SetK T prog w h' a (ga ks x)) ->wpAny (model prog w) A (match r with | some k=>pure k | none=>setAddHashedIn a v ((T.kd prog w).hash x) 99999) Q E s':=by rintro r s' ⟨h',rfl,rfl,y,S⟩;exact iG (h h' iC y S)
  have O:∀ (b:Bool) {g:iF} {G:Unit->iF->Prop},G () g->wpAny (model prog w) A (match b with | true=>rule "set.scan.the-table-gave-way" | false=>pure ()) G E g:=λb g G q=>by
   cases b;·exact iG q
   ·exact k8 q
  refine iA (O _ ?_);cases e1:u.plain with
  | true=>rw [if_pos rfl,hashByValue_scannable 8 (T.sc m)];refine iA (iG ?_);exact k4 (l (if plainKind v=iC then u else { u with plain:=iE }) (by split; exact n; exact SetTable.fits_plain_off n) (by split <;> exact hl) (λb=>by rw [T.pl m b]; rfl)) fin λ_ _ z=>z
  | false=>rw [if_neg (by simp)];refine iA (iG ?_);exact k4 (l u n hl λ_=>e1) fin λ_ _ z=>z
end
theorem qd7 [DecidableEq κ] (ks:List κ) (x:κ):(ga ks x).length<=ks.length+1:=by
 unfold ga;split
 ·lia
 ·rw [ai];exact aB _
theorem zv [DecidableEq κ]:∀ (l ks:List κ),(l.foldl ga ks).length<=ks.length+l.length
 | [],ks=>aB _
 | x::l,ks=>by
  have h1:=zv l (ga ks x);have h2:=qd7 ks x;rw [cg,aq]
  lia
theorem Zz:(ga:List Str->Str->List Str)=zu:=by funext ks x;unfold ga zu;congr
theorem Ul (l ks:List Str):(l.foldl zu ks).length<=ks.length+l.length:=by rw [<-Zz];exact zv l ks
theorem SetK.at [DecidableEq κ] {T:KP κ} {ks:List κ} (S:SetK T prog w h a ks) (k:∀ o,h.get? a=iu o->h'.get? a=iu o):SetK T prog w h' a ks:=
 let ⟨es,ep,t,l,d⟩:=S; ⟨es,ep,t,k _ l,d⟩
section
variable [DecidableEq κ] {T:KP κ} {R:lH->iF->Prop} {I:Addr} {fp wr:List Addr} {P:Nat->iB->Prop} {St:Nat->iF->Prop}
theorem qd8 {G:Array lA->Array lA->Prop} (W:WalksS prog w A.in1 I fp wr G n P St) (S:Addr) (j:S∉fp) (ss:List κ) (K:ss.length=n) (J:∀ i v,P i v->∃ x,ss[i]?=iu x/\(T.kd prog w).is x v=iC) (d:n+1 < scanBound):∀ (k i:Nat) (s:iF),n - i=k->i<=n->St i s->SetK T prog w s.heap S ((ss.take i).foldl ga []) ->(∀ s',Moved (S::wr) G s s'->SetK T prog w s'.heap S (ss.foldl ga [])->R (.ok (.ret .none)) s')->codeAny (model prog w) A (.builtin "set.update.loop" ⟨[.ref S,.ref I],[]⟩) R s:=by
 have E:S∉wr:=λh=>j (W.sub _ h);have up:∀ b∈wr,b∈S::wr:=λb d=>aa _ d;intro k
 induction k with
 | zero=>
  intro i s q hi c r C;have y:i=n:=by lia
  subst y;refine iM F.entry_set_update_loop ?_;rw [aY d9 _]; show wpAny _ A.in1 (pyNext (.ref I) >>= _) _ _ s;refine iA (W.done s _ _ c λs' g=>iG (C s' (g.mono up) ?_));rw [List.take_of_length_le (eJ K)] at r;exact r.at λo e=>g.heap S o E e
 | succ k H=>
  intro i s q hi c r C;have t:i < n:=by lia
  refine iM F.entry_set_update_loop ?_;rw [aY d9 _]; show wpAny _ A.in1 (pyNext (.ref I) >>= _) _ _ s;refine iA (W.item i s _ _ t c λv s' L a g=>?_);obtain ⟨x,hx,q⟩:=J i v L;have B:SetK T prog w s'.heap S ((ss.take i).foldl ga []):=r.at λo e=>g.heap S o E e;show wpAny _ A.in1 (holding [v] (setAdd S v) >>= _) _ _ s';refine iA (iN ?_);unfold setAdd;refine iN (iA ((T.kd prog w).pyHash q ?_));have m:((ss.take i).foldl ga []).length+1 < scanBound:=by
   have h1:=zv (ss.take i) [];rw [List.length_take,bj] at h1
   lia
  refine qgZ (s:={ s' with toks:=s'.toks+1 }) q B m λh' b D l=>?_;have M:ga ((ss.take i).foldl ga []) x=(ss.take (i+1)).foldl ga []:=by rw [List.take_add_one,hx,eZ];rfl
  rw [M] at l;refine iG ⟨iR d9 _,H (i+1) _ (by lia) t (W.frame _ s' _ _ a (fI _) λb d o e=>?_) l λu f p=>?_⟩;·rw [D.2 b λz:b=S=>j (z ▸ d)];exact e
  ·refine C u (g7 W.gtrans ((g.mono up).then_heap (fI _) λb o d e=>?_) f) p;rw [D.2 b λz:b=S=>d (z ▸ ae)];exact e
end
section
variable [DecidableEq κ] {T:KP κ}
abbrev qi7 (w:iI):Obj:=kh #[] 0 (.fresh 0 0 (!(w.params.followText "set-order")))
theorem qby (e:h.get? a=iu (qi7 w)):SetK T prog w h a []:=
 ⟨_,_,_,e,⟨λe i=>by simp at i,by simp,cP,by decide,by rfl,rfl,λ_ z=>absurd rfl z⟩⟩
theorem qg0 (a:iB) {Q₁:iB->iF->Prop} (h:Q₁ (.ref s.heap.objs.size) { s with heap:=s.heap.push (qi7 w) }):codeAny (model prog w) A (.call (.builtin "set.__new__") ⟨[.type "set",a],[]⟩) (wants Q₁ E) s:=by
 refine codeAny_of_tree ?_; show wpAny _ A.in1 (do checkBuiltinCall "set.__new__" ⟨[.type "set",a],[]⟩; again (.builtin "set.__new__" ⟨[.type "set",a],[]⟩)) _ _ s;refine iA (lu (PySem.F.newCall_set_1 a) (iG ⟨iR PySem.F.plain_set_new _,iM PySem.F.entry_set_new ?_⟩)); rw [aY PySem.F.plain_set_new _];unfold Builtin.«set.__new__» Builtin.Frozenset.newClass; have b:=sub_set_self; obtain ⟨hp,g,d,tk,os⟩:=s; dsimp only; wp_walk
 refine iT (iG ?_); dsimp only; simp only [newObj];exact iA (wpAny_alloc (iG (iG h)))
theorem YG:isSubtype (.type "tuple") (.type "set")=pure false:=by rw [k6]; kernel_rfl
theorem Km:isSubtype (.type "tuple") (.type "frozenset")=pure false:=by rw [k6]; kernel_rfl
theorem qd9:∀ sk:SK,isSubtype (.type sk.cl) (.type "set")=pure iE
 | .l=>PySem.F.sub_list_set
 | .t=>YG
theorem YH:∀ sk:SK,isSubtype (.type sk.cl) (.type "frozenset")=pure iE
 | .l=>PySem.F.sub_list_frozenset
 | .t=>Km
theorem qi8 (a:A.handled=iw) (sk:SK) (it l:Addr) (e:l≠it) (items:Array iB):Walks prog w A it [it,l] [it] items.size (λi v=>items[i]?=iu v) (λi h=>ItK h it l sk i/\SeqK h l sk items):=by
 cases sk with
 | l=>exact ir a it l e items
 | t=>exact Walks.tuple a it l e items
theorem SeqK.ty:∀ {sk:SK},SeqK s.heap a sk xs->s.TypeIs (.ref a) sk.cl
 | .l,⟨o,e,c,_⟩=>⟨o,e,c⟩
 | .t,⟨o,e,c,_⟩=>⟨o,e,c⟩
theorem qmw {S:Addr} {ss:List κ} {Q:Unit->iF->Prop} (r:A.handled=iw) (k:SetK T prog w s.heap S []) (hl:SeqK s.heap l sk items) (q:ss.length=items.size) (hi:∀ (i:Nat) (v:iB),items[i]?=iu v->∃ x,ss[i]?=iu x/\(T.kd prog w).is x v=iC) (j:items.size+1 < scanBound) (g:l≠S)
  (h:∀ h' tk,SetK T prog w h' S (ss.foldl ga [])->(∀ b o,b≠S->s.heap.get? b=iu o->h'.get? b=iu o)->Q () { s with heap:=h',toks:=tk }) :
  wpAny (model prog w) A (cI "set.__init__" S (.ref l)) Q E s:=by
 have hT:=hl.ty;unfold cI;refine iA (m:=Builtin.Frozenset.isAnySet _) ?_;unfold Builtin.Frozenset.isAnySet;refine iA (i9 hT (qd9 sk) ?_);refine i9 hT (YH sk) ?_;rw [if_neg (by decide)];refine iA (j4 hT ?_);rw [if_neg (by cases sk <;> decide)];refine iA (qi4 hl ?_);have n:s.heap.objs.size≠S:=λz=>by obtain ⟨es,ep,t,p,_⟩:=k;exact cw _ (z ▸ aA p)
 have d:l≠s.heap.objs.size:=aE hl.lt;refine iA (wpAny_runValue (qd8 ((qi8 (A:=A.in1) r sk _ l d items).toS) S ?_ ss q hi j items.size 0 _ (by lia) (br _) ⟨.of ⟨_,au _ rfl,rfl,rfl⟩,hl.at λo e=>af _ e⟩ ?_ ?_))
 ·intro z;rcases ac.mp z with z | z;·exact n z.symm
  ·exact g (ap.mp z).symm
 ·exact k.at λo e=>af _ e
 ·intro s' c B;obtain ⟨h',g',d',f,a⟩:=s';have y:g'=s.gens:=c.gens;have C:d'=s.drawn:=c.drawn;have u:a=s.os:=c.os;subst y C u;refine iG (h h' f B λb o j e=>c.heap b o ?_ (af _ e));intro z;rcases ac.mp z with z | z;·exact j z
  ·rw [ap.mp z] at e;exact cw _ (aA e)
set_option maxHeartbeats 3200000 in
theorem qbz {l:Addr} {ks:List κ} {Q:iB->iF->Prop}
  (p:∀ (A1:iK) (L:Unit->iF->Prop) (C:iB->iF->Prop),A1.handled=A.handled->(∀ h' tk,SetK T prog w h' s.heap.objs.size ks->(∀ b o,s.heap.get? b=iu o->h'.get? b=iu o)->L () { s with heap:=h',toks:=tk }) ->wpAny (model prog w) A1 (cI "set.__init__" s.heap.objs.size (.ref l)) L C { s with heap:=s.heap.push (qi7 w) })
  (h:∀ h' tk,SetK T prog w h' s.heap.objs.size ks->(∀ b o,s.heap.get? b=iu o->h'.get? b=iu o)->Q (.ref s.heap.objs.size) { s with heap:=h',toks:=tk }) :
  wpAny (model prog w) A (call (.type "set") [.ref l]) Q E s:=by
 have i:∀ {Q₁:iB->iF->Prop},Q₁ (.ref s.heap.objs.size) { s with heap:=s.heap.push (qi7 w) }->codeAny (model prog w) A.in1 (.call (.builtin "set.__new__") ⟨[.type "set",.ref l],[]⟩) (wants Q₁ E) s:=λh=>qg0 (.ref l) h;unfold qi7 kh at i p;generalize (!(w.params.followText "set-order"))=led at i p;obtain ⟨c,tl,q⟩:=bV.mro;have k:=bV.made;have n:=bV.sub;refine wpAny_call (codeAny_of_tree ?_); show wpAny _ _ (callAny (.type "set") _) _ _ _;refine iG ⟨Code.quiet_builtin _ (by decide +kernel),iM PySem.F.entry_type_call ?_⟩; rw [Around.under_plain (weight_type_call_type "set" [.ref l] []) rfl];have h1:=bV.notType;have h2:=bV.canCreate;have v:=PySem.F.typeCall_set_1 (.ref l);repeat (any_goals (first | assumption | wp_step))
 refine li (i (Q₁:=λobj f=>obj=.ref s.heap.objs.size/\f={ s with heap:=s.heap.push { cls:=.type "set",dict:=iw,data:=.set #[] 0 (.fresh 0 0 led) } }) ⟨rfl,rfl⟩) λr f hr=>?_;cases r with
 | error e=>exact hr
 | ok z=>
  cases z with
  | ret obj=>
   obtain ⟨rfl,rfl⟩:=hr;have S:(s.heap.push { cls:=.type "set",dict:=iw,data:=.set #[] 0 (.fresh 0 0 led) }).get? s.heap.objs.size=iu { cls:=.type "set",dict:=iw,data:=.set #[] 0 (.fresh 0 0 led) }:=au _ rfl;have hT:fO { s with heap:=s.heap.push { cls:=.type "set",dict:=iw,data:=.set #[] 0 (.fresh 0 0 led) } } (.ref s.heap.objs.size) "set":=⟨_,S,rfl⟩
   have t:=bV.init.lookup;have x:=bV.init.bind (.ref s.heap.objs.size);repeat (any_goals (first | assumption | wp_step))
   refine li (codeAny_call_builtin (R:=wants (λr d=>r=.none/\∃ h' tk,d={ s with heap:=h',toks:=tk }/\SetK T prog w h' s.heap.objs.size ks/\(∀ b o,s.heap.get? b=iu o->h'.get? b=iu o)) E) bV.init.plain PySem.F.entry_set_init (check_set_init_1 hT ?_)) λj d a=>?_
   ·unfold Builtin.«set.__init__» noKeywords;generalize y:cI=U;wp_walk
    subst y;refine p _ _ _ rfl λh' tk B u=>?_;exact iG ⟨rfl,h',tk,rfl,B,u⟩
   ·cases j with
    | error e=>exact a
    | ok g=>
     cases g with
     | ret r=>
      obtain ⟨rfl,h',tk,rfl,B,m⟩:=a;repeat (any_goals (first | assumption | wp_step))
      exact h _ _ B m
     | _=>exact a.elim
  | _=>exact hr.elim
end
theorem gi {α:Type}:∀ {xs:List α} {i:Nat} (h:i < xs.length),(xs[i]::xs.eraseIdx i).Perm xs
 | [],_,h=>absurd h (Nat.not_lt_zero _)
 | x::xs,0,h=>cO _
 | x::xs,i+1,h=>(List.Perm.swap _ _ _).trans ((gi (xs:=xs) (i:=i) (Nat.lt_of_succ_lt_succ h)).cons x)
variable {M:Model}
theorem GW {c:Source} {Q:Nat->iF->Prop} (a:n≠0) (h:∀ i d',i < n->Q i { s with drawn:=d' }):wpAny M A (choose c n) Q E s:=
 λ_ _ _=>⟨a,h _ _ (fm _ (Nat.pos_of_ne_zero a))⟩
variable {α:Type}
theorem qbA:∀ (n:Nat) (xs:List α) (s:iF) {Q:List α->iF->Prop},n=xs.length->(∀ ys d',ys.Perm xs->Q ys { s with drawn:=d' })->wpAny M A (drawOrder n xs) Q E s
 | 0,xs,s,Q,hn,h=>by
  cases xs with
  | nil=>exact iG (h [] s.drawn (cO _))
  | cons x l=>cases hn
 | n+1,[],s,Q,hn,h=>by cases hn
 | n+1,x::l,s,Q,hn,h=>by show wpAny M A (choose .order (x::l).length >>= _) Q E s;refine iA (GW (by simp) λi d' hi=>?_);have e:(x::l)[i]?=iu (x::l)[i]:=aj hi;rw [e];refine iA (qbA n _ _ (by rw [List.length_eraseIdx_of_lt hi]; simp only [aq] at hn ⊢; lia) λys d2 hp=>iG (h _ d2 ?_));exact (hp.cons _).trans (gi hi)
theorem qbB (next:Nat->Nat):∀ (f k:Nat) (left:List α) (out:Array α),f=left.length->(pickOrder.go next f k left out).toList.Perm (out.toList++left)
 | 0,k,left,out,hf=>by
  cases left with
  | nil=>rw [bh];exact cO _
  | cons x l=>cases hf
 | f+1,k,left,out,hf=>by have t:next k % left.length < left.length:=fm _ (by lia);have e:left[next k % left.length]?=iu left[next k % left.length]:=aj t;unfold pickOrder.go;rw [e];refine (qbB next f (k+1) _ _ (by rw [List.length_eraseIdx_of_lt t]; lia)).trans ?_;rw [Array.toList_push,aT];exact List.Perm.append_left _ (gi t)
theorem Jk (next:Nat->Nat) (xs:Array α):(pickOrder next xs).toList.Perm xs.toList:=by unfold pickOrder;exact qbB next _ _ _ _ (by simp)
noncomputable def yi (first:iB) (i:Nat) (a:Addr) (n ep:Nat):Obj:={ cls:=.type "set_iterator",data:=.fields #[first,rawInt i,.ref a,rawInt n,rawInt ep] }
theorem slot_si_next:Slot "set_iterator" "__next__" "set_iterator.__next__":=
 .of (owner := "set_iterator") (n := "__next__") (by rw [j7,iW]; kernel_rfl) (by decide +kernel) (by decide +kernel) (by decide +kernel) (by first | exact .inl (by decide +kernel) | exact .inr (by decide +kernel)) (by rw [k6]; kernel_rfl)
theorem gP:Slot "set_iterator" "__iter__" "set_iterator.__iter__":=
 .of (owner := "set_iterator") (n := "__iter__") (by rw [j7,iW]; kernel_rfl) (by decide +kernel) (by decide +kernel) (by decide +kernel) (by first | exact .inl (by decide +kernel) | exact .inr (by decide +kernel)) (by rw [k6]; kernel_rfl)
theorem wa (a:iB):argsOk "set_iterator.__next__" ⟨[a],[]⟩:=by unfold argsOk; kernel_rfl
theorem Um (a:iB):argsOk "set_iterator.__iter__" ⟨[a],[]⟩:=by unfold argsOk; kernel_rfl
theorem vt:entryFor table "set_iterator.__next__"=iu Builtin.«set_iterator.__next__»:=entryFor_of_tree (by kernel_rfl)
theorem Vz:entryFor table "set_iterator.__iter__"=iu Builtin.«dict_keyiterator.__iter__»:=entryFor_alias (id' := "dict_keyiterator.__iter__") (by kernel_rfl) rfl (by decide +kernel) (by kernel_rfl)
theorem Uo:entryFor table "set.__iter__"=iu Builtin.«frozenset.__iter__»:=entryFor_alias (id' := "frozenset.__iter__") (by kernel_rfl) rfl (by decide +kernel) (by kernel_rfl)
variable {ks:List Str} {p:Addr} {b:Bool} {ps:List Nat}
section
theorem vM (d:w.params.followText "set-order"=b):({ program:=(model prog w).prog,params:=(model prog w).w.params }:Setting).params.followText "set-order"=b:=d
theorem Up {sl nx:Nat} {t:iQ} {x:iB} {Q:Option iB->iF->Prop} (hi:s.heap.get? it=iu (yi (rawInt sl) i a n ep)) (g:s.heap.get? a=iu (kh es ep t)) (f:t.fits es.size=iC) (z:es.size=n)
  (h:∀ (A1:iK) (L:Option (iB×Nat)->iF->Prop) (S:iB->iF->Prop),L (iu (x,nx)) s->wpAny (model prog w) A1 (setNext a sl i ep) L S s)
  (c:∀ h',h'.get? it=iu (yi (rawInt nx) (i+1) a n ep)->bK it s.heap h'->Q (iu x) { s with heap:=h' }):wpAny (model prog w) A (pyNext (.ref it)) Q E s:=by
 have hT:s.TypeIs (.ref it) "set_iterator":=⟨_,hi,rfl⟩
 unfold pyNext;refine iA (k7 (iP (name:=aZ "__next__") hT slot_si_next (iO slot_si_next hT vt ?_ (wa _))));show wpAny _ _ (fieldsOf (.ref it) >>= _) _ _ s;refine iA (lr hi rfl ?_);show wpAny _ _ (setEntries a >>= _) _ _ s;refine iA (i7 g rfl f ?_);rw [if_neg (by rw [z]; simp)];show wpAny _ _ (setNext a sl i ep >>= _) _ _ s;refine iA (h _ _ _ ?_);show wpAny _ _ (setField (.ref it) 0 (rawInt nx) >>= _) _ _ s;refine iA (iZ hi rfl (by simp) ?_);have h1:(s.heap.update it (Obj.mapFields (·.setIfInBounds 0 (rawInt nx)))).get? it=iu (yi (rawInt nx) i a n ep):=aS _ hi rfl;refine iA (iZ h1 rfl (by simp) (iG ⟨x,rfl,iG (c _ ?_ ((bx ..).trans (bx ..)))⟩));exact aS _ h1 rfl
theorem Uq {sl:Nat} {t:iQ} {Q:Option iB->iF->Prop} (h:A.handled=iw) (hi:s.heap.get? it=iu (yi (rawInt sl) i a n ep)) (g:s.heap.get? a=iu (kh es ep t)) (f:t.fits es.size=iC) (z:es.size=n)
  (c:∀ (A1:iK) (L:Option (iB×Nat)->iF->Prop) (S:iB->iF->Prop),L iw s->wpAny (model prog w) A1 (setNext a sl i ep) L S s)
  (d:∀ h',g6 it s.heap h'->Q iw { s with heap:=h' }):wpAny (model prog w) A (pyNext (.ref it)) Q E s:=by
 have hT:s.TypeIs (.ref it) "set_iterator":=⟨_,hi,rfl⟩
 unfold pyNext;refine iA (k7 (iP (name:=aZ "__next__") hT slot_si_next (iO slot_si_next hT vt ?_ (wa _))));show wpAny _ _ (fieldsOf (.ref it) >>= _) _ _ s;refine iA (lr hi rfl ?_);show wpAny _ _ (setEntries a >>= _) _ _ s;refine iA (i7 g rfl f ?_);rw [if_neg (by rw [z]; simp)];show wpAny _ _ (setNext a sl i ep >>= _) _ _ s;refine iA (c _ _ _ ?_);show wpAny _ _ (setField (.ref it) 2 cE >>= _) _ _ s;refine iA (iZ hi rfl (by simp) ?_); show wpAny _ _ (newExc (.type "StopIteration") [] >>= _) _ _ _;refine iA ?_; simp only [newExc,newTuple]; refine iA (iJ ?_ (by size_fits));refine iA (m:=firstArgMember _ _) (lu (a:=cE) (by first | rfl | (simp only [firstArgMember]; rfl)) ?_); refine iJ ?_ (by size_fits); simp only [raiseNew];refine iA (wpAny_handled ?_); first | rw [show A.in1.handled=iw from h] | rw [h]
 refine iA (iG (wpAny_throw ?_)); refine iA (i9 (T := "StopIteration") (b:=iC) ⟨_,au _ rfl,rfl⟩ isSubtype_stop ?_);exact iG (d _ (((bx ..).extBut.push _).push _))
theorem GX {pl m:Nat} {t:iQ} {hx:Int} {x:iB} {ps:Array iB} {Q:Option iB->iF->Prop} (hi:s.heap.get? it=iu (yi (.ref p) i a n ep)) (g:s.heap.get? a=iu (kh es ep t)) (h:t.fits es.size=iC) (z:es.size=n)
  (hp:s.heap.get? p=iu { cls:=.type "tuple",data:=.seq ps m }) (l:ps[i]?=iu (rawInt pl)) (hx:es[pl]?=iu (hx,x))
  (c:∀ h',h'.get? it=iu (yi (.ref p) (i+1) a n ep)->bK it s.heap h'->Q (iu x) { s with heap:=h' }):wpAny (model prog w) A (pyNext (.ref it)) Q E s:=by
 have hT:s.TypeIs (.ref it) "set_iterator":=⟨_,hi,rfl⟩
 unfold pyNext;refine iA (k7 (iP (name:=aZ "__next__") hT slot_si_next (iO slot_si_next hT vt ?_ (wa _))));show wpAny _ _ (fieldsOf (.ref it) >>= _) _ _ s;refine iA (lr hi rfl ?_);show wpAny _ _ (setEntries a >>= _) _ _ s;refine iA (i7 g rfl h ?_);rw [if_neg (by rw [z]; simp)];show wpAny _ _ (seqItems? (.ref p) >>= _) _ _ s;refine iA (iX hp rfl ?_);dsimp only;rw [show ps[Int.toNat (i:Int)]?=iu (rawInt pl) from l];show wpAny _ _ (setNextDrawn a pl ep >>= _) _ _ s;refine iA ?_;unfold setNextDrawn;refine iA (iV g rfl h ?_);dsimp only;rw [if_neg (by simp),hx];refine iG ?_;show wpAny _ _ (setField (.ref it) 1 (rawInt (i+1)) >>= _) _ _ s;refine iA (iZ hi rfl (by simp) (iG ⟨x,rfl,iG (c _ ?_ (bx ..))⟩));exact aS _ hi rfl
theorem qbC {m:Nat} {t:iQ} {ps:Array iB} {Q:Option iB->iF->Prop} (h:A.handled=iw) (hi:s.heap.get? it=iu (yi (.ref p) i a n ep)) (g:s.heap.get? a=iu (kh es ep t)) (f:t.fits es.size=iC) (z:es.size=n)
  (hp:s.heap.get? p=iu { cls:=.type "tuple",data:=.seq ps m }) (l:ps[i]?=iw)
  (c:∀ h',g6 it s.heap h'->Q iw { s with heap:=h' }):wpAny (model prog w) A (pyNext (.ref it)) Q E s:=by
 have hT:s.TypeIs (.ref it) "set_iterator":=⟨_,hi,rfl⟩
 unfold pyNext;refine iA (k7 (iP (name:=aZ "__next__") hT slot_si_next (iO slot_si_next hT vt ?_ (wa _))));show wpAny _ _ (fieldsOf (.ref it) >>= _) _ _ s;refine iA (lr hi rfl ?_);show wpAny _ _ (setEntries a >>= _) _ _ s;refine iA (i7 g rfl f ?_);rw [if_neg (by rw [z]; simp)];show wpAny _ _ (seqItems? (.ref p) >>= _) _ _ s;refine iA (iX hp rfl ?_);dsimp only;rw [show ps[Int.toNat (i:Int)]?=iw from l];show wpAny _ _ (setField (.ref it) 0 (rawInt 0) >>= _) _ _ s;refine iA (iZ hi rfl (by simp) ?_);have h1:(s.heap.update it (Obj.mapFields (·.setIfInBounds 0 (rawInt 0)))).get? it=iu (yi (rawInt 0) i a n ep):=aS _ hi rfl;refine iA (iZ h1 rfl (by simp) ?_); show wpAny _ _ (newExc (.type "StopIteration") [] >>= _) _ _ _;refine iA ?_; simp only [newExc,newTuple]; refine iA (iJ ?_ (by size_fits));refine iA (m:=firstArgMember _ _) (lu (a:=cE) (by first | rfl | (simp only [firstArgMember]; rfl)) ?_); refine iJ ?_ (by size_fits); simp only [raiseNew];refine iA (wpAny_handled ?_); first | rw [show A.in1.handled=iw from h] | rw [h]
 refine iA (iG (wpAny_throw ?_)); refine iA (i9 (T := "StopIteration") (b:=iC) ⟨_,au _ rfl,rfl⟩ isSubtype_stop ?_);exact iG (c _ (((((bx ..).trans (bx ..))).extBut.push _).push _))
theorem Jl {Q:iB->iF->Prop} (hi:s.heap.get? it=iu o) (d:o.cls=.type "set_iterator") (h:Q (.ref it) s):wpAny (model prog w) A (pyIter (.ref it)) Q E s:=by
 have hT:s.TypeIs (.ref it) "set_iterator":=⟨_,hi,d⟩
 refine wpAny_pyIter_slot hT gP (iO gP hT Vz ?_ (Um _)); show wpAny _ _ (ret (.ref it)) _ _ s;exact iG ⟨_,rfl, "set_iterator",_,hT,slot_si_next.lookup,h⟩
theorem qbD {ep:Nat} {t:iQ} (y:A.handled=iw) (d:w.params.followText "set-order"=iC) (f:t.fits es.size=iC) (j:a≠it):Walks prog w A it [it,a] [it] es.size (λi v=>((pickOrder (w.params.setOrder a ep) es).toList.map (·.2))[i]?=iu v) (λi h=>h.get? it=iu (yi (rawInt 0) i a es.size ep)/\h.get? a=iu (kh es ep t)) where
 sub:=λb d=>by simp at d; simp [d]
 frame:=λ_ _ _ st r=>⟨r it (by simp) _ st.1,r a (by simp) _ st.2⟩
 item:=λi s Q E hi st c=>by
  have n:(pickOrder (w.params.setOrder a ep) es).size=es.size:=by have:=(Jk (w.params.setOrder a ep) es).length_eq;simpa using this
  have k:i < (pickOrder (w.params.setOrder a ep) es).size:=by lia
  obtain ⟨e,he⟩:∃ e,(pickOrder (w.params.setOrder a ep) es)[i]?=iu e:=⟨_,bO k⟩
  refine Up (x:=e.2) (nx:=0) st.1 st.2 f rfl (λA1 L S q=>?_) λh' l p=>c e.2 h' s.toks ?_ ⟨l,?_⟩ λb o g u=>?_;·unfold setNext;refine iA (iV st.2 rfl f ?_);dsimp only;refine iA (m:=setsByText) (iA (iT (iG ?_)));rw [vM d,if_pos rfl,if_neg (by simp)];refine iA ?_;unfold setWalk;refine iA (iV st.2 rfl f ?_);dsimp only;refine iA (m:=setsByText) (iA (iT (iG ?_)));rw [vM d,if_pos rfl];refine iA (iT (iG ?_));refine iG ?_;rw [show (pickOrder ((⟨(model prog w).prog,(model prog w).w.params⟩:Setting).params.setOrder a ep) es)[i]?=iu e from he];exact q
  ·rw [aF,bR,he];rfl
  ·rw [p.2 a j];exact st.2
  ·rw [p.2 b (λz=>g (by simp [z]))];exact u
 done:=λs Q E st c=>by
  have n:(pickOrder (w.params.setOrder a ep) es).size=es.size:=by have:=(Jk (w.params.setOrder a ep) es).length_eq;simpa using this
  refine Uq y st.1 st.2 f rfl (λA1 L S q=>?_) λh' J=>c h' s.toks λb o g u=>J b o (λz=>g (by simp [z])) u;unfold setNext;refine iA (iV st.2 rfl f ?_);dsimp only;refine iA (m:=setsByText) (iA (iT (iG ?_)));rw [vM d,if_pos rfl,if_neg (by simp)];refine iA ?_;unfold setWalk;refine iA (iV st.2 rfl f ?_);dsimp only;refine iA (m:=setsByText) (iA (iT (iG ?_)));rw [vM d,if_pos rfl];refine iA (iT (iG ?_));refine iG ?_;rw [show (pickOrder ((⟨(model prog w).prog,(model prog w).w.params⟩:Setting).params.setOrder a ep) es)[es.size]?=iw from dD (eJ n)];exact q
 self:=λi s Q E st c=>Jl st.1 rfl c
noncomputable def xQ (t:iQ) (i:Nat):Nat:=if i=0 then 0 else t.place.getD 0 0+1
theorem Ur (j k:Nat):bz #[j] k=if j < k then 1 else 0:=by unfold bz;show bz.go #[j] k 1 0 1=_;unfold bz.go;rw [if_pos (by lia)];show (if (#[j]:Array Nat).getD 0 k < k then bz.go #[j] k 0 1 1 else bz.go #[j] k 0 0 0)=_;show (if j < k then bz.go #[j] k 0 1 1 else bz.go #[j] k 0 0 0)=_;split <;> rfl
theorem ZA {t:iQ} {Q:Option (iB×Nat)->iF->Prop} (d:w.params.followText "set-order"=iE) (f:t.fits es.size=iC) (hl:t.led=iC) (c:es.size<=1) (g:s.heap.get? a=iu (kh es ep t)) (hi:i<=es.size)
  (q:Q (match es[i]? with | some e=>iu (e.2,xQ t (i+1)) | none=>iw) s):wpAny (model prog w) A (setNext a (xQ t i) i ep) Q E s:=by
 have h:t.place.size=es.size:=by have:=f;simp only [SetTable.fits,aV,beq_iff_eq] at this;exact this.1
 unfold setNext;refine iA (iV g rfl f ?_);dsimp only;refine iA (m:=setsByText) (iA (iT (iG ?_)));rw [vM d,if_neg (by simp)];show wpAny _ _ (if (!t.plain&&decide (es.size > 1))=iC then _ else _) _ _ _;rw [if_neg (by simp; intro _; lia)];refine iA ?_;show wpAny _ _ (if (!t.led&&!es.isEmpty)=iC then _ else _) _ _ _;rw [hl,if_neg (by simp)];refine iG (iG ?_);have e:(match es[bz t.place (xQ t i)]?,t.place[bz t.place (xQ t i)]? with | some (_,x),iu j=>iu (x,j+1) | _,_=>iw)=(match es[i]? with | some e=>iu (e.2,xQ t (i+1)) | none=>iw:Option (iB×Nat)):=by
  obtain ⟨l⟩:=es;obtain ⟨mask,⟨pl⟩,u,fi,le,mo,pn⟩:=t;cases l with
  | nil=>simp
  | cons e0 l=>
   cases l with
   | cons _ _=>exact absurd c (by simp)
   | nil=>
    cases pl with
    | nil=>exact absurd h (by simp)
    | cons j pl=>
     cases pl with
     | cons _ _=>exact absurd h (by simp)
     | nil=>
      have b:i=0\/i=1:=by simp at hi; lia
      rcases b with rfl | rfl;·show (match (#[e0]:Array (Int×iB))[bz #[j] 0]?,(#[j]:Array Nat)[bz #[j] 0]? with | some (_,x),iu j=>iu (x,j+1) | _,_=>iw)=iu (e0.2,j+1);rw [Ur,if_neg (by lia)];rfl
      ·show (match (#[e0]:Array (Int×iB))[bz #[j] (j+1)]?,(#[j]:Array Nat)[bz #[j] (j+1)]? with | some (_,x),iu j=>iu (x,j+1) | _,_=>iw)=iw;rw [Ur,if_pos (by lia)];rfl
 exact Eq.mp (congrArg (λz=>Q z s) e.symm) q
theorem qea {ep:Nat} {t:iQ} (p:A.handled=iw) (d:w.params.followText "set-order"=iE) (f:t.fits es.size=iC) (hl:t.led=iC) (k:es.size<=1) (e:a≠it):Walks prog w A it [it,a] [it] es.size (λi v=>(es.toList.map (·.2))[i]?=iu v) (λi h=>h.get? it=iu (yi (rawInt (xQ t i)) i a es.size ep)/\h.get? a=iu (kh es ep t)) where
 sub:=λb d=>by simp at d; simp [d]
 frame:=λ_ _ _ st l=>⟨l it (by simp) _ st.1,l a (by simp) _ st.2⟩
 item:=λi s Q E hi st c=>by
  have m:es[i]?=iu es[i]:=bO hi;refine Up (x:=es[i].2) (nx:=xQ t (i+1)) st.1 st.2 f rfl (λA1 L S q=>ZA d f hl k st.2 (eI hi) (by rw [m]; exact q)) λh' g j=>c es[i].2 h' s.toks ?_ ⟨g,?_⟩ λb o n u=>?_;·rw [aF,bR,m];rfl
  ·rw [j.2 a e];exact st.2
  ·rw [j.2 b (λz=>n (by simp [z]))];exact u
 done:=λs Q E st c=>Uq p st.1 st.2 f rfl (λA1 L S q=>ZA d f hl k st.2 (aB _) (by rw [dD (aB _)]; exact q)) λh' J=>c h' s.toks λb o n u=>J b o (λz=>n (by simp [z])) u
 self:=λi s Q E st c=>Jl st.1 rfl c
noncomputable def qi9 (es:Array (Int×iB)) (ps:List Nat):List iB:=ps.map λk=>(es[k]?.map (·.2)).getD .none
theorem qbE (h:ps.Perm (aH es.size)):(qi9 es ps).Perm (es.toList.map (·.2)):=by
 have e:qi9 es (aH es.size)=es.toList.map (·.2):=by
  apply e7;intro i;unfold qi9;rw [aF,aF,show es.toList[i]?=es[i]? from bR];by_cases hi:i < es.size;·rw [fB hi,bO hi];simp [hi]
  ·rw [ck (by rw [bQ]; lia),dD (by lia)];rfl
 rw [<-e];exact h.map _
theorem GY {ep m:Nat} {t:iQ} (B:A.handled=iw) (q:t.fits es.size=iC) (hp:ps.Perm (aH es.size)) (g:a≠it) (f:p≠it):Walks prog w A it [it,a,p] [it] es.size (λi v=>(qi9 es ps)[i]?=iu v) (λi h=>h.get? it=iu (yi (.ref p) i a es.size ep)/\h.get? a=iu (kh es ep t)/\h.get? p=iu { cls:=.type "tuple",data:=.seq (ps.map λ(i:Nat)=>rawInt i).toArray m }) where
 sub:=λb y=>by simp at y; simp [y]
 frame:=λ_ _ _ st k=>⟨k it (by simp) _ st.1,k a (by simp) _ st.2.1,k p (by simp) _ st.2.2⟩
 item:=λi s Q E hi st c=>by
  have n:ps.length=es.size:=by rw [hp.length_eq,bQ]
  have l:i < ps.length:=by lia
  have k:ps[i] < es.size:=aL.mp (hp.mem_iff.mp (bG l));have r:es[ps[i]]?=iu es[ps[i]]:=bO k;refine GX (x:=es[ps[i]].2) (hx:=es[ps[i]].1) (pl:=ps[i]) st.1 st.2.1 q rfl st.2.2 ?_ r λh' j d=>c es[ps[i]].2 h' s.toks ?_ ⟨j,?_,?_⟩ λb o e u=>?_;·rw [fj,aF,aj l];rfl
  ·unfold qi9;rw [aF,aj l];simp [r]
  ·rw [d.2 a g];exact st.2.1
  ·rw [d.2 p f];exact st.2.2
  ·rw [d.2 b (λz=>e (by simp [z]))];exact u
 done:=λs Q E st c=>by
  have n:ps.length=es.size:=by rw [hp.length_eq,bQ]
  refine qbC B st.1 st.2.1 q rfl st.2.2 ?_ λh' J=>c h' s.toks λb o e u=>J b o (λz=>e (by simp [z])) u;rw [fj,ck (by simp; lia)]
 self:=λi s Q E st c=>Jl st.1 rfl c
theorem qeb {t:iQ} {A1:iK} {Q:iB->iF->Prop} (n:A1.handled=iw) (g:s.heap.get? a=iu (kh es ep t)) (d:SetG KpS prog w es t ks)
  (q:∀ (it:Addr) (h':Heap) (r:Drawn) (ord:List iB) (fp:List Addr) (St:Nat->Heap->Prop),(∀ b o,s.heap.get? b=iu o->h'.get? b=iu o)->ord.Perm (es.toList.map (·.2))->Walks prog w A1 it fp [it] es.size (λi v=>ord[i]?=iu v) St->St 0 h' ->(∀ b∈fp,b=a\/s.heap.objs.size<=b)->s.heap.objs.size<=it->Q (.ref it) { s with heap:=h',drawn:=r }):wpAny (model prog w) A (pyIter (.ref a)) Q E s:=by
 have hT:s.TypeIs (.ref a) "set":=⟨_,g,rfl⟩
 have f:a < s.heap.objs.size:=aA g;refine wpAny_pyIter_slot hT PySem.F.slot_set_iter (iO PySem.F.slot_set_iter hT Uo ?_ (PySem.F.args_set_iter_1 _));show wpAny _ _ (Builtin.Frozenset.sizeOf a >>= _) _ _ s;refine iA (m:=Builtin.Frozenset.sizeOf a) (iA (i7 g rfl d.fits (iG ?_)));refine iA (m:=setDrawn a) ?_;unfold setDrawn;refine iA (iV g rfl d.fits ?_);dsimp only;refine iA (m:=setsByText) (iA (iT (iG ?_)));refine iG ?_;cases h:w.params.followText "set-order" with
 | true=>
  rw [vM h,if_neg (by simp)];refine iA (iG ?_);refine iA (m:=setEpoch a) (wpAny_setEpoch_of g rfl d.fits ?_);refine iA (iJ (iG ⟨_,rfl, "set_iterator",_,⟨_,au _ rfl,rfl⟩,slot_si_next.lookup,?_⟩));refine q _ _ s.drawn _ _ _ (λb o e=>af _ e) ((Jk (w.params.setOrder a ep) es).map _) (qbD n h d.fits (aE f)) ⟨au _ rfl,af _ g⟩ ?_ (aB _);intro b h;rcases ac.mp h with z | z;·exact .inr (z ▸ aB _)
  ·exact .inl (ap.mp z)
 | false=>
  have k:t.led=true:=by rw [d.led,h]; rfl
  rw [vM h];show wpAny _ _ (if (!false&&(!t.plain&&decide (es.size > 1)))=iC then _ else _) _ _ _;by_cases u:es.size<=1
  ·rw [if_neg (by simp; intro _; lia)];refine iA (iG ?_);refine iA (m:=setEpoch a) (wpAny_setEpoch_of g rfl d.fits ?_);refine iA (iJ (iG ⟨_,rfl, "set_iterator",_,⟨_,au _ rfl,rfl⟩,slot_si_next.lookup,?_⟩));refine q _ _ s.drawn _ _ _ (λb o e=>af _ e) (cO _) (qea n h d.fits k u (aE f)) ⟨au _ rfl,af _ g⟩ ?_ (aB _);intro b h;rcases ac.mp h with z | z;·exact .inr (z ▸ aB _)
   ·exact .inl (ap.mp z)
  ·have l:t.plain=false:=d.plain rfl λz=>by
    have x:=d.size;rw [z,bj] at x
    lia
   rw [if_pos (by rw [l]; simp; lia)];refine iA (qbA es.size (aH es.size) s (by simp) λps r hp=>?_);have j:ps.length=es.size:=by rw [hp.length_eq,bQ]
   have hsz:(ps.map λ(i:Nat)=>rawInt i).length<=sizeLine:=by rw [ax,j]; exact lc d.bd
   refine iA (wpAny_newTuple ?_ hsz);refine iA (m:=setEpoch a) (wpAny_setEpoch_of (af _ g) rfl d.fits ?_);refine iA (iJ (iG ⟨_,rfl, "set_iterator",_,⟨_,au _ rfl,rfl⟩,slot_si_next.lookup,?_⟩));have c:s.heap.objs.size < (s.heap.push ({ cls:=.type "tuple",data:=.seq (ps.map λ(i:Nat)=>rawInt i).toArray }:Obj)).objs.size:=by rw [bS]; exact Nat.lt_succ_self _
   refine q _ _ r _ _ _ (λb o e=>af _ (af _ e)) (qbE hp) (GY (p:=s.heap.objs.size) n d.fits hp (aE (eY f c)) (aE c)) ⟨au _ rfl,af _ (af _ g),af _ (au _ rfl)⟩ ?_ (eI c);intro b h;rcases ac.mp h with z | z;·exact .inr (z ▸ eI c)
   ·rcases ac.mp z with z | z;·exact .inl z
    ·exact .inr (eJ (ap.mp z).symm)
end
section
theorem qec {ord:List iB} {acc:Array iB} (hl:ord.length=n) (h:lJ (λi v=>ord[i]?=iu v) acc n):acc.toList=ord:=by
 apply e7;intro i;rw [show acc.toList[i]?=acc[i]? from bR];by_cases hi:i < acc.size;·rw [bO hi];exact (h.2 i _ (bO hi)).symm
 ·rw [dD (by lia),ck (by have:=h.1; lia)]
theorem YI {t:iQ} {Q:List iB->iF->Prop} (M:A.handled=iw) (J:s.heap.get? a=iu (kh es ep t)) (d:SetG KpS prog w es t ks)
  (N:∀ h' x tk ord,(∀ b o,s.heap.get? b=iu o->h'.get? b=iu o)->ord.Perm (es.toList.map (·.2))->Q ord { s with heap:=h',drawn:=x,toks:=tk }):wpAny (model prog w) A (collect (.ref a)) Q E s:=by
 have n:a < s.heap.objs.size:=aA J;unfold collect;refine iA (wpAny_runValue (iM PySem.F.entry_proto_collect ?_)); rw [aY PySem.F.plain_proto_collect _];show wpAny _ A.in1 (newList [] >>= λl=>again (.builtin "list.__iadd__" ⟨[l,.ref a],[]⟩)) _ _ s; refine iA (iJ ?_);refine iG ⟨iR PySem.F.plain_list_iadd _,iM PySem.F.entry_list_iadd ?_⟩; rw [aY PySem.F.plain_list_iadd _];have g:(s.heap.push { cls:=.type "list",data:=.seq ([]:List iB).toArray }).get? a=iu (kh es ep t):=af _ J;have hT:fO { s with heap:=s.heap.push { cls:=.type "list",data:=.seq ([]:List iB).toArray } } (.ref a) "set":=⟨_,g,rfl⟩
 show wpAny _ A.in1 (bq (.ref s.heap.objs.size) (.ref a) (.ref s.heap.objs.size)) _ _ _; unfold bq;refine iA (j4 hT ?_);have h1:c8 (.ref s.heap.objs.size) (.ref a)=false:=by simp [c8,cV n]
 rw [if_neg (by rw [h1]; decide)];refine iA (qeb (A1:=A.in1) M g d λit h2 x ord fp St k2 hp W C D hit=>?_);have u:h2.get? s.heap.objs.size=iu { cls:=.type "list",data:=.seq ([]:List iB).toArray }:=k2 _ _ (au _ rfl);have G:h2.get? a=iu (kh es ep t):=k2 _ _ g;refine iA (iN ?_);unfold Builtin.List.listLengthHint;have i:fO { s with heap:=h2,drawn:=x } (.ref a) "set":=⟨_,G,rfl⟩
 refine iA (wpAny_specialOf i PySem.F.slot_set_len.lookup ?_)
 (generalize f:("set.__len__":String)=id0; (fail_if_success (clear f id0)); wp_delta; rw [show splitId id0=iu ("set", "__len__") from by subst f; decide +kernel]; subst f)
 refine iA (i9 (b:=iC) i (by rw [k6]; kernel_rfl) ?_);refine iA (m:=typeOf (.ref a)) (j4 i ?_);refine iG ?_;show wpAny _ A.in1 (rule "list.extend.makes-room" >>= λ_=>Builtin.List.listTouch (.ref s.heap.objs.size) >>= λ_=>again (.builtin "list.extend.loop" ⟨[.ref s.heap.objs.size,.ref it,.ref s.heap.objs.size],[]⟩)) _ _ _;refine iA (k8 (iA ?_)); show wpAny _ A.in1 (updateSeq s.heap.objs.size (·.push .none) >>= λ_=>updateSeq s.heap.objs.size (·.pop)) _ _ _;refine iA (j8 u rfl ?_); have h:=aS (c6 (·.push cE)) u rfl;refine j8 h rfl ?_; have j:=aS (c6 (·.pop)) h rfl;have k:(s.heap.push ({ cls:=.type "list",data:=.seq ([]:List iB).toArray }:Obj)).objs.size=s.heap.objs.size+1:=bS ..;have oth:∀ b o,b≠s.heap.objs.size->h2.get? b=iu o->((h2.update s.heap.objs.size (c6 (·.push cE))).update s.heap.objs.size (c6 (·.pop))).get? b=iu o:=λb o c e=>(bb _ _ (bo c)).trans ((bb _ _ (bo c)).trans e);have I:s.heap.objs.size∉fp:=λz=>by
  rcases D _ z with q | q;·exact cV n q
  ·exact Nat.not_succ_le_self _ (k ▸ q)
 have p:ord.length=es.size:=by rw [hp.length_eq];simp
 refine iG ⟨iR PySem.F.plain_extend_loop _,codeAny_extend_loopS W.toS (lc d.bd) _ I _ es.size 0 _ _ _ rfl (br _) (W.frame 0 h2 _ C λb c o e=>oth b o (λz=>I (z ▸ c)) e) j (ItemsOf.nil _) λs' L U v H r=>?_⟩;show wpAny _ A (load s.heap.objs.size >>= _) _ _ s';refine iA (wpAny_load H (iG ?_));rw [qec p r];obtain ⟨h',g',d',y,B⟩:=s';have P:g'=s.gens:=v.gens;have R:d'=x:=v.drawn;have O:B=s.os:=v.os;subst P R O;refine N h' d' y ord (λb o e=>?_) hp;have c:=aA e;refine v.heap b o (λz=>?_) (oth b o (aE c) (k2 b o (af _ e)));rcases ac.mp z with z | z;·exact aE c z
 ·have K:s.heap.objs.size+1<=it:=k ▸ hit;rw [<-ap.mp z] at K;exact cw _ (eY c K)
theorem GZ {Q:iB->iF->Prop} (q:A.handled=iw) (S:SetK KpS prog w s.heap a ks) (j:ks.length < 64)
  (x:∀ (h1 h':Heap) r tk vs e ss,(∀ b o,s.heap.get? b=iu o->h1.get? b=iu o)->(∀ b o,h1.get? b=iu o->h'.get? b=iu o)->h'.get? h1.objs.size=iu (seqObj "list" vs e)->lx vs.toList ss->ss.Perm ks->sortedS ss=iC->Q (.ref h1.objs.size) { s with heap:=h',drawn:=r,toks:=tk }) :
  wpAny (model prog w) A (call (.builtin "sorted") [.ref a]) Q E s:=by
 obtain ⟨es,ep,t,u,d⟩:=S;refine Calls.call_function_entry kind_sorted plain_sorted entry_sorted (args_sorted1 _) ?_; unfold Builtin.«sorted»;refine iA (m:=checkCount "sorted" 1 1 _) (iG ?_);refine iA (YI (by exact q) u d λh1 r tk ord k1 hp=>?_);have c:lx ord (ord.map strOf):=strsAre_map ord λv p=>by obtain ⟨e,i,rfl⟩:=ah.mp (hp.mem_iff.mp p);exact qi6 d.el i
 have h:(ord.map strOf).Perm ks:=(hp.map strOf).trans (by rw [bf]; exact d.perm);have n:ord.length=ks.length:=by have:=h.length_eq;rwa [ax] at this
 refine iA (wpAny_newList ?_ (by rw [n,iL]; lia));have Z:(h1.push (seqObj "list" ord.toArray 0)).get? h1.objs.size=iu (seqObj "list" ord.toArray 0):=au _ rfl;refine iA (iN (iO slot_list_sort (s:={ s with heap:=h1.push (seqObj "list" ord.toArray 0),drawn:=r,toks:=tk }) ⟨_,Z,rfl⟩ entry_list_sort (list_sort_treeK strKind_oneLt Z c.keysOf (λv₁ k rest e=>keyKind_strs (by rw [<-e]; exact c)) (by rw [n]; exact j) λg D C=>⟨_,rfl,?_⟩) (args_list_sort _)));obtain ⟨f,B,z,y⟩:=sorted_out_str c D C;obtain ⟨e,i⟩:=sortedHeap_at (out:=(arrOf g).map (·.2)) Z;refine iG ⟨_,rfl,x h1 _ r tk _ e f k1 (λb o J=>?_) i B (z.trans h) y⟩;have l:=aA J;rw [sortedHeap_old (aE l) (by rw [bS]; exact fK l)];exact af _ J
end
section
theorem Us {x:iB} {Q:iB->iF->Prop} (hit:s.heap.IsTupleIter it l i) (hl:s.heap.IsTuple l items) (hx:items[i]?=iu x)
  (c:∀ h',h'.IsTupleIter it l (i+1)->bK it s.heap h'->Q x { s with heap:=h' }):wpAny (model prog w) A (cR (.ref it)) Q E s:=by
 obtain ⟨o,h,d,hd⟩:=id hit;obtain ⟨ol,a,_,n,b⟩:=hl;unfold cR;refine iA (iP (name:=aZ "__next__") hit.typeIs ce (iO ce hit.typeIs PySem.F.entry_tuple_iterator_next ?_ (PySem.F.args_tuple_iterator_next_1 _))); show wpAny _ _ (field (.ref it) 0 >>= _) _ _ s;refine iA (k9 h hd (x:=.ref l) rfl ?_); show wpAny _ _ (if (cr l == cE)=iC then _ else _) _ _ s;rw [if_neg (show ¬((cr l == cE)=iC) from be)]; show wpAny _ _ (field (.ref it) 1 >>= _) _ _ s;refine iA (k9 h hd (x:=.int i 0) rfl ?_); show wpAny _ _ (seqItems? (.ref l) >>= _) _ _ s;refine iA (iX a b ?_); simp only [cW,hx];refine iA (iZ h hd (by simp) (iG ⟨x,rfl,iG (c _ ?_ (bx ..))⟩)); exact ⟨_,aS _ h (Obj.isFreed_of_fields (Obj.data_mapFields hd _)),(Obj.cls_mapFields ..).trans d,by rw [Obj.data_mapFields hd]; simp [rawInt]⟩
theorem Qg {Q:iB->iF->Prop} (d:A.handled=iw) (hit:s.heap.IsTupleIter it l i) (hl:s.heap.IsTuple l items) (hx:items[i]?=iw)
  (k:∀ h' e,g6 it s.heap h'->(∃ o,h'.get? e=iu o/\o.cls=.type "StopIteration")->E (.ref e) { s with heap:=h' }):wpAny (model prog w) A (cR (.ref it)) Q E s:=by
 obtain ⟨o,b,f,hd⟩:=id hit;obtain ⟨ol,h,_,n,c⟩:=hl;unfold cR;refine iA (iP (name:=aZ "__next__") hit.typeIs ce (iO ce hit.typeIs PySem.F.entry_tuple_iterator_next ?_ (PySem.F.args_tuple_iterator_next_1 _))); show wpAny _ _ (field (.ref it) 0 >>= _) _ _ s;refine iA (k9 b hd (x:=.ref l) rfl ?_); show wpAny _ _ (if (cr l == cE)=iC then _ else _) _ _ s;rw [if_neg (show ¬((cr l == cE)=iC) from be)]; show wpAny _ _ (field (.ref it) 1 >>= _) _ _ s;refine iA (k9 b hd (x:=.int i 0) rfl ?_); show wpAny _ _ (seqItems? (.ref l) >>= _) _ _ s;refine iA (iX h c ?_); simp only [cW,hx];refine iA (k8 (iA (iZ b hd (by simp) ?_))); show wpAny _ _ (newExc (.type "StopIteration") [] >>= _) _ _ _;refine iA ?_; simp only [newExc,newTuple]; refine iA (iJ ?_ (by size_fits));refine iA (m:=firstArgMember _ _) (lu (a:=cE) (by first | rfl | (simp only [firstArgMember]; rfl)) ?_); refine iJ ?_ (by size_fits); simp only [raiseNew];refine iA (wpAny_handled ?_); first | rw [show A.in1.handled=iw from d] | rw [d]
 refine iA (iG (wpAny_throw ?_)); exact k _ _ (((bx ..).extBut.push _).push _) ⟨_,au _ rfl,rfl⟩
theorem YJ (g:A.handled=iw) (it l:Addr) (d:l≠it) (items:Array iB):Draws prog w A it [it,l] items.size (λi v=>items[i]?=iu v) (λi h=>h.IsTupleIter it l i/\h.IsTuple l items) where
 live:=λ_ _ st=>let ⟨o,f,_⟩:=st.1; ⟨o,f⟩
 frame:=λ_ _ _ st k=>⟨st.1.at λo e=>k it (by simp) o e,let ⟨o,e,c⟩:=st.2; ⟨o,k l (by simp) o e,c⟩⟩
 item:=λi s Q E hi st j=>by refine Us st.1 st.2 (x:=items[i]) (by simp [hi]) λh' b a=>j _ h' s.toks (by simp [hi]) ⟨b,?_⟩ a;obtain ⟨o,e,c⟩:=st.2;exact ⟨o,(a.2 l d).trans e,c⟩
 done:=λs Q E st m=>Qg g st.1 st.2 (by simp) m
variable {z TI TO i1 i2:Addr} {fp1 fp2:List Addr} {n1 n2:Nat} {P1 P2:Nat->iB->Prop} {S1 S2:Nat->Heap->Prop} {a b:iB}
end
section
theorem qfx (a:A.handled=iw) (k:SK) (it l:Addr) (e:l≠it) (items:Array iB):Draws prog w A it [it,l] items.size (λi v=>items[i]?=iu v) (λi h=>ItK h it l k i/\SeqK h l k items):=by
 cases k with
 | l=>exact Draws.list a it l e items
 | t=>exact YJ a it l e items
end
variable {t':Nat}
section
theorem qbF {ch:List Addr} (I:Inv X pins σ H s) (k:∀ b o,b∉ch->s.heap.get? b=iu o->h'.get? b=iu o) (h:∀ b∈ch,Ym X pins H b):Inv X pins σ H { s with heap:=h',toks:=t' }:=by
 have t:∀ b u,H b=iu u->b∉ch:=λb u e z=>by rw [(h b z).1] at e;cases e
 refine I.step (g':=s.gens) (d':=s.drawn) (ch:=ch) (λb f=>?_) (λb o _ _ d e _=>k b o d e) (λb o _ _ d e _=>⟨o.slots,k b o d e⟩) (λ_ _ _ _ n=>n) (λb o d e=>⟨o,k b o d e⟩) (λ_ _ e=>e) (λ_ _ _ e=>e) (λb ps e=>⟨#[],by rw [e]; simp⟩) (λm a=>?_) (λb u e=>?_) I.bare;·obtain ⟨f0,f1,f2,i,f4,g⟩:=h b f;exact ⟨i,f1,f4,g⟩
 ·obtain ⟨o,es,ep,l,r⟩:=a;exact ⟨o,es,ep,k _ o (λz=>(h _ z).2.1 rfl) l,r⟩
 ·refine (I.hok b u e).stay (λc v d q=>k c v ?_ q) (λ_ q=>q) λ_ _ q=>q;rcases d with z | z
  ·rw [z];exact t b u e
  ·exact t c _ z
theorem qmx {d':Drawn} (I:Inv X pins σ H s) (k:∀ b u,s.heap.get? b=iu u->h'.get? b=iu u):Inv X pins σ H { s with heap:=h',drawn:=d',toks:=t' }:=by refine I.step (g':=s.gens) (d':=d') (ch:=[]) (λ_ z=>nomatch z) (λb o _ _ _ e _=>k b o e) (λb o _ _ _ e _=>⟨o.slots,k b o e⟩) (λ_ _ _ _ n=>n) (λb o _ e=>⟨o,k b o e⟩) (λ_ _ e=>e) (λ_ _ _ e=>e) (λb ps e=>⟨#[],by rw [e]; simp⟩) (λm c=>?_) (I.hok.kept k) I.bare;obtain ⟨o,es,ep,l,r⟩:=c;exact ⟨o,es,ep,k _ o l,r⟩
end
variable {us:List iB}
theorem qbG {xs:List V} (r:Vals xs us) (h:us[i]?=iu u):∃ x,xs[i]?=iu x/\RelV x u:=by
 have hi:i < us.length:=(aC.mp h).1;have hx:i < xs.length:=by rw [r.length]; exact hi
 obtain ⟨W,h1,h2⟩:=r.get (aj hx);rw [h] at h1;cases h1;exact ⟨xs[i],aj hx,h2⟩
def leS (x y:Str):Prop:=¬y.cps.toList < x.cps.toList
noncomputable def qh5 (x:Str):List Str->List Str
 | []=>[x]
 | y::l=>if vn y x=iC then y::qh5 x l else x::y::l
noncomputable def jP:List Str->List Str
 | []=>[]
 | x::l=>qh5 x (jP l)
variable {y:Str}
theorem zw {z:Str} (a:leS x y) (b:leS y z):leS x z:=List.le_trans (α:=Nat) a b
theorem Ut (x y:Str):leS x y\/leS y x:=List.le_total (α:=Nat) x.cps.toList y.cps.toList
theorem zx (a:leS x y) (b:leS y x):x=y:=by have e:=List.le_antisymm (α:=Nat) (as:=x.cps.toList) (bs:=y.cps.toList) a b;obtain ⟨⟨l⟩⟩:=x;obtain ⟨⟨m⟩⟩:=y;simp at e;rw [e]
theorem strLt_false:vn y x=iE↔leS x y:=by unfold vn leS;exact decide_eq_false_iff_not
theorem Jm (x:Str):∀ l,(qh5 x l).Perm (x::l)
 | []=>cO _
 | y::l=>by
  unfold qh5;split;·exact ((Jm x l).cons y).trans (List.Perm.swap _ _ _)
  ·exact cO _
theorem qI:∀ l,(jP l).Perm l
 | []=>cO _
 | x::l=>(Jm x _).trans ((qI l).cons x)
theorem Jn (x:Str):∀ l,l.Pairwise leS->(qh5 x l).Pairwise leS
 | [],_=>eh _ _
 | y::l,h=>by
  have d:=aM.mp h;unfold qh5;split
  ·rename_i t;have c:leS y x:=by
    rcases Ut y x with q | q;·exact q
    ·rw [<-strLt_false] at q;rw [q] at t;cases t
   refine aM.mpr ⟨λz a=>?_,Jn x l d.2⟩;rcases ac.mp ((Jm x l).mem_iff.mp a) with rfl | a;·exact c
   ·exact d.1 z a
  ·rename_i t;have b:leS x y:=strLt_false.mp (by cases e:vn y x with | true=>exact absurd e t | false=>rfl);refine aM.mpr ⟨λz a=>?_,h⟩;rcases ac.mp a with rfl | a;·exact b
   ·exact zw b (d.1 z a)
theorem qS:∀ l,(jP l).Pairwise leS
 | []=>eX
 | x::l=>Jn x _ (qS l)
theorem yj:∀ {l m:List Str},l.Perm m->l.Pairwise leS->m.Pairwise leS->l=m
 | [],m,p,_,_=>p.nil_eq
 | x::l,[],p,_,_=>absurd p.length_eq (by simp)
 | x::l,y::m,p,hl,hm=>by
  have a:=aM.mp hl;have b:=aM.mp hm;have c:x=y:=by
   have h1:y∈x::l:=p.mem_iff.mpr (ae ..);have h2:x∈y::m:=p.mem_iff.mp (ae ..);rcases ac.mp h1 with e | e;·exact e.symm
   ·rcases ac.mp h2 with d | d;·exact d
    ·exact zx (a.1 y e) (b.1 x d)
  subst c;rw [yj p.cons_inv a.2 b.2]
theorem KN:∀ (x:Str) (l:List Str),risingS x l=iC->(x::l).Pairwise leS
 | x,[],_=>eh _ _
 | x,y::l,h=>by
  have h:(!ltCps y.cps.toList x.cps.toList&&risingS y l)=true:=h;rw [aV] at h;have j:=KN y l h.2;have b:leS x y:=by have h1:=h.1;rw [ltCps_eq] at h1;unfold leS;simpa using h1
  refine aM.mpr ⟨λz a=>?_,j⟩;rcases ac.mp a with rfl | a;·exact b
  ·exact zw b ((aM.mp j).1 z a)
theorem YK:∀ (l:List Str),sortedS l=iC->l.Pairwise leS
 | [],_=>eX
 | x::l,h=>KN x l h
variable {ss:List Str}
theorem Uu (p:ss.Perm ks) (h:sortedS ss=iC):ss=jP ks:=yj (p.trans (qI ks).symm) (YK ss h) (qS ks)
noncomputable def Kn:List D->Option (List Str)
 | []=>iu []
 | .str x::l=>(Kn l).map (x::·)
 | _::_=>iw
noncomputable def xG:D->Option (List Str)
 | .lst ds=>Kn ds
 | .tup ds=>Kn ds
 | _=>iw
noncomputable def qh6 [DecidableEq κ] (T:KP κ) (P:iH) (w:iI) (p:Addr) (ks:List κ):HO:=.ext λh=>SetK T P w h p ks
theorem qg1 [DecidableEq κ] {T:KP κ} {ks:List κ} (x:SetK T P w h p ks):ObjOk P w H h p (qh6 T P w p ks):=
 ⟨x,let ⟨_,_,_,e,_⟩:=x; ⟨_,e⟩,λ_ _ a k=>a.at k⟩
structure KD {κ:Type} [DecidableEq κ] (T:KP κ) where
 sqd:D->Option (List κ)
 ok:κ->Prop
 get:∀ {K:Frag} {F:Hp} {dx:D} {ss:List κ},sqd dx=iu ss->∃ ds,GO dx=.ok ds/\∀ {vs:List V} {us:List iB},IsL K F vs ds->Vals vs us->us.length=ss.length/\(∀ (i:Nat) (v:iB),us[i]?=iu v->∃ x,ss[i]?=iu x/\∀ p w,(T.kd p w).is x v=iC)/\∀ x∈ss,ok x
theorem qbH (a:IsL K F vs ds) (l:Vals vs us) (e:Kn ds=iu ss):lx us ss/\∀ x∈ss,x.length<=sizeLine:=by
 induction ds generalizing vs us ss with
 | nil=>cases a;cases l;cases e;exact ⟨.nil,λx h=>nomatch h⟩
 | cons d ds j=>
  cases a with
  | cons i a=>
   cases l with
   | cons r l=>
    cases d with
    | str x=>
     obtain ⟨sl,q,rfl⟩:=aX.mp (show (Kn ds).map (x::·)=iu ss from e);cases i with
     | str b=>obtain ⟨t,rfl⟩:=r;obtain ⟨i1,i2⟩:=j a l q;exact ⟨.cons x t i1,λy D=>(ac.mp D).elim (λz=>z ▸ b) (i2 y)⟩
    | _=>cases e
section
variable {own:List Nat} {e:Expr} {fa:je} {ma:Mo} {pos:Pos}
theorem Uv:∀ (l ks:List Str) {x:Str},x∈l.foldl zu ks->x∈ks\/x∈l
 | [],ks,x,h=>.inl h
 | y::l,ks,x,h=>by
  rcases Uv l (zu ks y) h with q | q
  ·unfold zu at q;split at q;·exact .inl q
   ·rcases ao.mp q with q | q;·exact .inl q
    ·exact .inr (by rw [ap.mp q]; exact ae ..)
  ·exact .inr (aa _ q)
theorem ZB (e:Kn ds=iu ss) (l:IsL K F vs ds) (d:Vals vs us):us.length=ss.length/\(∀ (i:Nat) (v:iB),us[i]?=iu v->∃ x,ss[i]?=iu x/\∀ p w,(KpS.kd p w).is x v=iC)/\∀ x∈ss,x.length<=sizeLine:=by obtain ⟨st,D⟩:=qbH l d e;refine ⟨st.length,λi v h=>?_,D⟩;obtain ⟨y,t,e1,a⟩:=st.item i v h;refine ⟨y,a,λp w=>?_⟩;rw [e1];show dS y (.str y t)=iC;simp [dS]
noncomputable def KdS:KD KpS where
 sqd:=xG
 ok:=λy=>y.length<=sizeLine
 get:=λ{K F dx ss} e=>by
  cases dx with
  | lst ds=>exact ⟨ds,rfl,ZB e⟩
  | tup ds=>exact ⟨ds,rfl,ZB e⟩
  | _=>cases e
theorem qfy [DecidableEq κ] {T:KP κ} (U:KD T) (t:C.K=X.K) (m:X.calm=iC):xu X (.type "set") (λxs H Q=>∃ x F dx ss,xs=[x]/\Same F H/\TopIs C.K F H x dx/\U.sqd dx=iu ss/\ss.length < 4000/\((∀ y∈ss,U.ok y)->∀ p,H p=iw->Q (.ref p) (upd H p (qh6 T X.prog X.w p (ss.foldl ga []))))):=by
 intro pins s σ H xs us Q I r h;obtain ⟨x,F,dx,ss,rfl,A,tx,es,hl,q⟩:=h;obtain ⟨u,rfl,B⟩:=xw r;obtain ⟨ds,e,hg⟩:=U.get (K:=C.K) (F:=F) es;obtain ⟨a,sk,vs,rfl,hq,g⟩:=qfu A tx e;cases B;rw [t] at hq;obtain ⟨its,o,n,f,l,c,j,hd,z⟩:=Uk I hq;obtain ⟨d,hi,D⟩:=hg g f;refine qbz (T:=T) (λA1 L E hA k=>?_) λh' tk S kp=>⟨.ref s.heap.objs.size,_,I.laid (t':=tk) kp (aB _) (qg1 S),rfl,q D _ (I.hok.fresh (aB _))⟩
 exact qmw (sk:=sk) (items:=its.toArray) (hA.trans (I.ok.hd m)) (qby (au _ rfl)) (.of (af _ l) hd c) (by simp [d]) (λi v e=>(hi i v (by simpa using e)).imp λx h=>⟨h.1,h.2 _ _⟩) (by rw [aw,d]; unfold scanBound; lia) (aE (aA l)) λh' tk S kp=>k h' tk S λb o J=>kp b o (aE (aA J)) (af _ J)
theorem Jo:∀ {us:List iB} {ss:List Str},lx us ss->Vals (ss.map V.str) us
 | _,_,.nil=>.nil
 | _,_,.cons y t h=>.cons ⟨t,rfl⟩ (Jo h)
theorem qbI (c:X.calm=iC):xu X (.builtin "sorted") (λxs H Q=>∃ a ks,xs=[.ref a]/\H a=iu (qh6 KpS X.prog X.w a ks)/\ks.length < 64/\∀ p,H p=iw->Q (.ref p) (upd H p (.lst ((jP ks).map V.str)))):=by
 intro pins s σ H xs us Q I r h;obtain ⟨a,ks,rfl,g,j,q⟩:=h;obtain ⟨u,rfl,B⟩:=xw r;cases B;have S:SetK KpS X.prog X.w s.heap a ks:=(I.hok a _ g).1;refine GZ (I.ok.hd c) S j λh1 h' b tk vs e ss k1 k2 hp st pm so=>?_;rw [Uu pm so] at st;have d:Inv X pins σ H { s with heap:=h1,drawn:=b,toks:=tk }:=qmx I k1;have z:(jP ks).length<=sizeLine:=by
  rw [(qI ks).length_eq,iL]
  lia
 refine ⟨.ref h1.objs.size,_,d.laid (t':=tk) (o:=.lst ((jP ks).map V.str)) k2 (aB _) ⟨by rw [ax]; exact z,vs.toList,e,Jo st,by simpa [seqObj] using hp⟩,rfl,q _ (d.hok.fresh (aB _))⟩
theorem qg2 [DecidableEq κ] {T:KP κ}:xu X (.builtin "len") (λxs H Q=>∃ a ks,xs=[.ref a]/\H a=iu (qh6 T X.prog X.w a ks)/\Q (.int ks.length) H):=by intro pins s σ H xs us Q I r h;obtain ⟨a,ks,rfl,g,q⟩:=h;obtain ⟨u,rfl,B⟩:=xw r;cases B;obtain ⟨es,ep,t,l,d⟩:SetK T X.prog X.w s.heap a ks:=(I.hok a _ g).1;have b:=d.bd;refine call_len_set l ⟨rfl,rfl,rfl⟩ rfl d.fits (by unfold scanBound at b; lia) ?_;exact ⟨.int ks.length,H,I.tok _,⟨_,by rw [d.size]⟩,q⟩
theorem YL {m:Mo} {f:je} {Q R:VK} (h:tE C own m f σ H Q) (i:∀ v H1,Q v H1->R v H1):tE C own m f σ H R:=by
 obtain ⟨F,ρ,r,po⟩:=h;refine ⟨F,ρ,r,?_⟩;cases q:f ρ with
 | ok p=>rw [q] at po;obtain ⟨d,ρ1⟩:=p;exact λv F1 H1 a b c=>i _ _ (po v F1 H1 a b c)
 | exc c ρ1=>rw [q] at po;exact po
 | bad=>rw [q] at po;exact po.elim
noncomputable def wb (d:D):Out D:=match xG d with
 | some ss=>if ss.length < 64 then .ok (.lst ((jP (ss.foldl zu [])).map D.str)) else .bad
 | none=>.bad
noncomputable def Jp (d:D):Out D:=match xG d with
 | some ss=>if ss.length < 4000 then .ok (.int (ss.foldl zu []).length) else .bad
 | none=>.bad
theorem VA:∀ {ss:List Str},(∀ x∈ss,x.length<=sizeLine)->IsL K F (ss.map V.str) (ss.map D.str)
 | [],_=>.nil
 | x::l,h=>.cons (.str (h x (ae ..))) (VA λy a=>h y (aa _ a))
theorem gj {p p2 a:Pos} (r:C.K=X.K) (k:X.calm=iC) (hg:Gl X "sorted") (n:X.mg "sorted"=iw) (v:bootBuiltins "sorted"=iu (.builtin "sorted")) (i:Gl X "set") (g:X.mg "set"=iw) (d:bootBuiltins "set"=iu (.type "set")) (o:PE X e (tE C own ma fa))
  (j:starEach [e] X.env=[(iE,eval e X.env)]:=by exact qO rfl) (c:starEach [.Call (.Name "set" p2) [e] [] a] X.env=[(iE,eval (.Call (.Name "set" p2) [e] [] a) X.env)]:=by exact qO rfl) :
  PE X (.Call (.Name "sorted" p) [.Call (.Name "set" p2) [e] [] a] [] pos) (tE C own .fr (d1 wb fa)):=by
 refine jU (zf (qbI k) hg n v (qX (uY (qfy KdS r k) i g d (qX o jO j) (by decide) (by decide) (by rw [j]; rfl) rfl) jO c) (by decide) (by decide) (by rw [c]; rfl) rfl) λσ H Q h=>?_;refine YL (ge (ma:=ma) h) λx H1 ⟨B,F,dx,ex,A,tx,po⟩=>?_;cases ex;unfold wb at po;cases es:xG dx with
 | none=>rw [es] at po;exact po.elim
 | some ss=>
  rw [es] at po;by_cases hl:ss.length < 64
  ·have po:PoV C .fr F H1 (if ss.length < 64 then .ok (.lst ((jP (ss.foldl zu [])).map D.str)) else .bad) Q:=po;rw [if_pos hl,<-Zz] at po;refine ⟨x,F,dx,ss,rfl,A,tx,es,by lia,λm q hq=>⟨q,_,rfl,qu,?_,λl f=>?_⟩⟩
   ·have:=zv ss [];rw [bj] at this
    lia
   ·obtain ⟨s1,s,f1⟩:=wK (u:=qh6 KpS X.prog X.w q (ss.foldl ga [])) A hq;obtain ⟨s2,c2,f2⟩:=wK (u:=.lst ((jP (ss.foldl ga [])).map V.str)) s1 f;have t:H1 l=none:=by
     by_cases z:l=q;·rw [z] at f;rw [qu] at f;cases f
     ·rwa [qA z] at f
    refine po _ _ _ s2 (s.trans' c2) ⟨l,rfl,t,f2,_,qu,VA λy b=>m y ?_⟩;rw [Zz] at b;rcases Uv ss [] ((qI _).mem_iff.mp b) with z | z;·cases z
    ·exact z
  ·have po:PoV C .fr F H1 (if ss.length < 64 then .ok (.lst ((jP (ss.foldl zu [])).map D.str)) else .bad) Q:=po;rw [if_neg hl] at po;exact po.elim
noncomputable def qkh [DecidableEq κ] {T:KP κ} (U:KD T) (add:List κ->κ->List κ) (d:D):Out D:=match U.sqd d with
 | some ss=>if ss.length < 4000 then .ok (.int (ss.foldl add []).length) else .bad
 | none=>.bad
theorem qaa [DecidableEq κ] {T:KP κ} (U:KD T) {p p2 a:Pos} (n:C.K=X.K) (f:X.calm=iC) (hg:Gl X "len") (m:X.mg "len"=iw) (v:bootBuiltins "len"=iu (.builtin "len")) (i:Gl X "set") (g:X.mg "set"=iw) (d:bootBuiltins "set"=iu (.type "set")) (j:PE X e (tE C own ma fa))
  (b:starEach [e] X.env=[(iE,eval e X.env)]:=by exact qO rfl) (c:starEach [.Call (.Name "set" p2) [e] [] a] X.env=[(iE,eval (.Call (.Name "set" p2) [e] [] a) X.env)]:=by exact qO rfl) :
  PE X (.Call (.Name "len" p) [.Call (.Name "set" p2) [e] [] a] [] pos) (tE C own .sh (d1 (qkh U ga) fa)):=by
 refine jU (zf (qg2 (T:=T)) hg m v (qX (uY (qfy U n f) i g d (qX j jO b) (by decide) (by decide) (by rw [b]; rfl) rfl) jO c) (by decide) (by decide) (by rw [c]; rfl) rfl) λσ H Q h=>?_;refine YL (ge (ma:=ma) h) λx H1 ⟨l,F,dx,ex,A,tx,po⟩=>?_;cases ex;unfold qkh at po;cases es:U.sqd dx with
 | none=>rw [es] at po;exact po.elim
 | some ss=>
  rw [es] at po;have po:PoV C .sh F H1 (if ss.length < 4000 then .ok (.int (ss.foldl ga []).length) else .bad) Q:=po;by_cases hl:ss.length < 4000;·rw [if_pos hl] at po;refine ⟨x,F,dx,ss,rfl,A,tx,es,hl,λD q hq=>⟨q,_,rfl,qu,?_⟩⟩;obtain ⟨s1,k,f1⟩:=wK (u:=qh6 T X.prog X.w q (ss.foldl ga [])) A hq;exact po _ _ _ s1 k (.int _)
  ·rw [if_neg hl] at po;exact po.elim
theorem qbJ {p p2 a:Pos} (n:C.K=X.K) (f:X.calm=iC) (hg:Gl X "len") (m:X.mg "len"=iw) (v:bootBuiltins "len"=iu (.builtin "len")) (i:Gl X "set") (g:X.mg "set"=iw) (h:bootBuiltins "set"=iu (.type "set")) (j:PE X e (tE C own ma fa))
  (b:starEach [e] X.env=[(iE,eval e X.env)]:=by exact qO rfl) (c:starEach [.Call (.Name "set" p2) [e] [] a] X.env=[(iE,eval (.Call (.Name "set" p2) [e] [] a) X.env)]:=by exact qO rfl) :
  PE X (.Call (.Name "len" p) [.Call (.Name "set" p2) [e] [] a] [] pos) (tE C own .sh (d1 Jp fa)):=by
 rw [show Jp=qkh KdS ga by rw [Zz];funext d;have q:KdS.sqd d=xG d:=rfl;unfold Jp qkh;rw [q];cases xG d <;> rfl];exact qaa KdS n f hg m v i g h j b c
end
variable {β:Type}
@[simp] theorem kZ {a:α} {k:α->Out β}:(Out.ok a).bind k=k a:=rfl
@[simp] theorem qlV {c:Str} {o:Sl} {k:α->Out β}:(Out.exc c o:Out α).bind k=.exc c o:=rfl
@[simp] theorem qlW {k:α->Out β}:(Out.bad:Out α).bind k=.bad:=rfl
@[simp] theorem qk9 {a:α}:(Out.ok a).plain=.ok a:=rfl
@[simp] theorem qlX:(Out.bad:Out α).plain=.bad:=rfl
variable {c:Prop}
@[simp] theorem qlY [Decidable c] {a b:Out α} {k:α->Out β}:(if c then a else b).bind k=if c then a.bind k else b.bind k:=by split <;> rfl
@[simp] theorem qlZ [Decidable c] {a b:Out α}:(if c then a else b).plain=if c then a.plain else b.plain:=by split <;> rfl
noncomputable def qed (d:D) (A B:Out α):Out α:=match d with
 | .bl b=>if b=iC then A else B
 | _=>.bad
@[simp] theorem qki {A B:Out α}:qed (.bl b) A B=if b=iC then A else B:=rfl
noncomputable def ql0 (p:D×Sl):Out (Bool×Sl):=match p.1 with
 | .bl b=>.ok (b,p.2)
 | _=>.bad
variable {ρ:Sl}
@[simp] theorem qla:ql0 (.bl b,ρ)=.ok (b,ρ):=rfl
noncomputable def qab (ms:List PM):Out (Fl×Sl)->Out (D×List D)
 | .ok (.nx,ρ)=>.ok (.non,ke ρ 0 ms)
 | .ok (.rt d,ρ)=>.ok (d,ke ρ 0 ms)
 | .ok _=>.bad
 | .exc c ρ=>.exc c ((ke ρ 0 ms).map iu)
 | .bad=>.bad
variable {ms:List PM}
theorem runD_ap {f:qV}:jS N ms f ds=qab ms (f (qv N ds)):=by unfold jS qab;rfl
@[simp] theorem ql1:qab ms (.ok (.rt d,ρ))=.ok (d,ke ρ 0 ms):=rfl
@[simp] theorem ql2:qab ms (.ok (.nx,ρ))=.ok (.non,ke ρ 0 ms):=rfl
@[simp] theorem qlb {c:Str}:qab ms (.exc c ρ)=.exc c ((ke ρ 0 ms).map iu):=rfl
@[simp] theorem qlc [Decidable c] {a b:Out (Fl×Sl)}:qab ms (if c then a else b)=if c then qab ms a else qab ms b:=by split <;> rfl
noncomputable def qac (as:List AK) (ρ:Sl):Out (D×List D)->WR
 | .ok q=>.ok (q.1,Qq as q.2 ρ)
 | .exc c o=>.exc c (Qq as (o.map (·.getD .non)) ρ)
 | .bad=>.bad
variable {as:List AK}
@[simp] theorem qkj {q:D×List D}:qac as ρ (.ok q)=.ok (q.1,Qq as q.2 ρ):=rfl
@[simp] theorem qja {c:Str} {o:Sl}:qac as ρ (.exc c o)=.exc c (Qq as (o.map (·.getD .non)) ρ):=rfl
@[simp] theorem qjb [Decidable c] {a b:Out (D×List D)}:qac as ρ (if c then a else b)=if c then qac as ρ a else qac as ρ b:=by split <;> rfl
variable {ρ:Sl}
@[simp] theorem qbK:qe i ρ=match ρ[i]? with | some (iu d)=>.ok (d,ρ) | _=>.bad:=rfl
@[simp] theorem qmy:dC d ρ=.ok (d,ρ):=rfl
variable {gg:D->Sl->Out Sl}
section
variable {g g':D->D->Out D} {g1:D->Out D} {fa fb fc f:je} {ft fu:uX} {fr:uV} {fs ft1:qV} {fi:uV} {G:jz}
@[simp] theorem qad:d1 g1 fa ρ=(fa ρ).bind λp=>(g1 p.1).plain.bind λd=>.ok (d,p.2):=rfl
@[simp] theorem qld:d2 g fa fb ρ=(fa ρ).bind λp=>(fb p.2).bind λq=>(g p.1 q.1).plain.bind λd=>.ok (d,q.2):=rfl
@[simp] theorem qle:xE f ρ=(f ρ).bind λp=>(qaA p.1).bind λb=>.ok (b,p.2):=rfl
@[simp] theorem qkk:qU f ρ=(f ρ).bind ql0:=rfl
@[simp] theorem qlf:Qp ft ρ=(ft ρ).bind λp=>.ok (!p.1,p.2):=rfl
@[simp] theorem qkl:qk8 f ρ=(qU f ρ).bind λp=>.ok (.bl (!p.1),p.2):=rfl
@[simp] theorem qlg:qgC ft fu ρ=(ft ρ).bind λp=>if p.1=iC then fu p.2 else .ok (iE,p.2):=rfl
@[simp] theorem ql3:dOr ft fu ρ=(ft ρ).bind λp=>if p.1=iC then .ok (iC,p.2) else fu p.2:=rfl
@[simp] theorem qkm:WV fa fb ρ=(fa ρ).bind λp=>qed p.1 (fb p.2) (.ok (.bl iE,p.2)):=by
 unfold WV;cases fa ρ with
 | ok p=>
  obtain ⟨d,r⟩:=p;cases d <;> try rfl
  rename_i b;cases b <;> rfl
 | exc c o=>rfl
 | bad=>rfl
@[simp] theorem qlh:qlP fa fb ρ=(fa ρ).bind λp=>qed p.1 (.ok (.bl iC,p.2)) (fb p.2):=by
 unfold qlP;cases fa ρ with
 | ok p=>
  obtain ⟨d,r⟩:=p;cases d <;> try rfl
  rename_i b;cases b <;> rfl
 | exc c o=>rfl
 | bad=>rfl
@[simp] theorem ql4:dIf ft fa fb ρ=(ft ρ).bind λp=>if p.1=iC then fa p.2 else fb p.2:=rfl
@[simp] theorem qjc:yd g g' fa fb fc ρ=(fa ρ).bind λp=>(fb p.2).bind λq=>(g p.1 q.1).plain.bind λz=>qed z ((fc q.2).bind λr=>(g' q.1 r.1).plain.bind λd=>.ok (d,r.2)) (.ok (.bl iE,q.2)):=by
 unfold yd;congr 1;funext p;congr 1;funext q;congr 1;funext z;cases z <;> try rfl
 rename_i b;cases b <;> rfl
@[simp] theorem qg3:qx ρ=.ok ([],ρ):=rfl
@[simp] theorem qee:qd fa fr ρ=(fa ρ).bind λp=>(fr p.2).bind λq=>.ok (p.1::q.1,q.2):=rfl
@[simp] theorem qef:kb fr ρ=(fr ρ).bind λq=>.ok (D.non::q.1,q.2):=rfl
@[simp] theorem qli:xF fr ρ=(fr ρ).bind λp=>if p.1.length<=sizeLine then .ok (.tup p.1,p.2) else .bad:=rfl
@[simp] theorem qlj:gK fr ρ=(fr ρ).bind λp=>if p.1.length<=sizeLine then .ok (.lst p.1,p.2) else .bad:=rfl
@[simp] theorem qkn:jE ρ=.ok (.nx,ρ):=rfl
@[simp] theorem YM:qM fs ft1 ρ=(fs ρ).bind λp=>match p.1 with | .nx=>ft1 p.2 | _=>.ok p:=by
 show _=_;unfold qM;cases fs ρ with
 | ok p=>obtain ⟨l,r⟩:=p; cases l <;> rfl
 | exc c o=>rfl
 | bad=>rfl
@[simp] theorem qjd:sIf ft fs ft1 ρ=(ft ρ).bind λp=>if p.1=iC then fs p.2 else ft1 p.2:=rfl
@[simp] theorem qeg:vo f ρ=(f ρ).bind λp=>.ok (.nx,p.2):=rfl
@[simp] theorem Jq:jB f ρ=(f ρ).bind λp=>.ok (.rt p.1,p.2):=rfl
@[simp] theorem gk:jl i f ρ=(f ρ).bind λp=>if i < p.2.length then .ok (.nx,p.2.set i (iu p.1)) else .bad:=rfl
@[simp] theorem qeh:qr as G fr ρ=(fr ρ).bind λp=>match vf as p.1 p.2 with | some ds=>qac as p.2 (G ds) | none=>.bad:=rfl
@[simp] theorem qlk:qmu f ρ=(f ρ).bind λp=>(GO p.1).bind λds=>.ok (ds,p.2):=rfl
@[simp] theorem qll:jJ f ρ=(f ρ).bind λp=>(jw p.1).bind λds=>.ok (ds,p.2):=rfl
@[simp] theorem ql5:gNm i d ρ=if i < ρ.length then .ok (ρ.set i (iu d)) else .bad:=rfl
@[simp] theorem kI:KC fi gg fs ρ=(fi ρ).bind λp=>vF gg fs p.1 p.2:=rfl
@[simp] theorem qlm:qk2 f gg ρ=(f ρ).bind λp=>match gg p.1 p.2 with | .ok ρ'=>.ok (.nx,ρ') | _=>.bad:=rfl
@[simp] theorem qg4 {gg:List D->D->Out (List D)}:Vw i gg f ρ=if xP ρ[i]?=iC then (f ρ).bind λp=>(match p.2[i]? with | some (iu (.lst xs))=>(match gg xs p.1 with | .ok ys=>.ok (.non,p.2.set i (iu (.lst ys))) | _=>.bad) | _=>.bad) else .bad:=rfl
@[simp] theorem ql6:ftT ρ=.ok (iC,ρ):=rfl
end
end L2.D2
namespace L2.D2
open PySem PySem.Spec PyProof.Rows
def qh2 (i j:Int):Prop:=(0<=j/\j<=64)/\-4611686018427387904 < i/\i < 4611686018427387904
instance:∀ i j,Decidable (qh2 i j):=λi j=>inferInstanceAs (Decidable (_/\_))
variable {X:Cx} {C:Ct}
section
theorem qfj:OpR X (binaryOp .Pow) (rI qh2 λi j=>.int (i ^ j.toNat)):=opI λi j _ _ _ _ _ d q=>by obtain ⟨⟨a,h1⟩,h2,h⟩:=d;exact pow_int_small a (by omega) (by omega) q
noncomputable def qln:D->D->Out D:=wR λi j=>if qh2 i j then .ok (.int (i ^ j.toNat)) else .bad
theorem qje:OpD X C .sh (binaryOp .Pow) qln:=XZ qfj λ_ _ _=>.int _
end
noncomputable def qbL (sep:Str):D->Out D
 | .lst ds=>match Kn ds with
  | some ss=>if (ss.map (·.length)).sum+ss.length * sep.length<=16777216/\(fR sep ss).length<=sizeLine then .ok (.str (fR sep ss)) else .bad
  | none=>.bad
 | _=>.bad
variable {own:List Nat} {e:Expr} {m:Mo}
section
variable {fe:je} {apos cpos:Pos} {sep:Str}
theorem qg5:MtR X "str.join" (λx vs H Q=>∃ (sep:Str) (a:Addr) (xs:List V) (ss:List Str),x=.str sep/\vs=[.ref a]/\SqL X.K H a xs/\(∀ us,Vals xs us->lx us ss)/\(ss.map (·.length)).sum+ss.length * sep.length<=16777216/\Q (.str (fR sep ss)) H):=by intro pins s σ H x vs v us Q I d c h;obtain ⟨sep,a,xs,ss,rfl,rfl,hq,f,z,q⟩:=h;obtain ⟨t,rfl⟩:=d;obtain ⟨u,rfl,B⟩:=c.one;cases B;obtain ⟨its,r,pl,_⟩:=I.list hq;obtain ⟨o,n,l,e,hd,b⟩:=pl;exact join_list ⟨o,l,e,n,b⟩ (by simpa using f its r) z λt' k=>⟨.str (fR sep ss),H,I.tok _,⟨_,rfl⟩,q⟩
theorem qg6 {k c2} (u:C.K=X.K) (o:PE X e (tE C own m fe))
  (f:attributeBase (.Constant (.str sep) k c2) "join" X.env (eval (.Constant (.str sep) k c2) X.env)=eval (.Constant (.str sep) k c2) X.env:=by rfl)
  (w:((backTo cpos (starEach [e] X.env)).all (λx=>!x.1)&&(backToKw cpos (keywordEach [] X.env)).all (λx=>x.1.isSome)
   && decide ([e].length+([]:List iY).length+(if ([]:List iY).isEmpty then 0 else 1) < 30))=true:=by exact yH rfl)
  (b:(apos.endLine == cpos.line)=true:=by rfl) (s:starEach [e] X.env=[(iE,eval e X.env)]:=by exact qO rfl) :
  PE X (.Call (.Attribute (.Constant (.str sep) k c2) "join" apos) [e] [] cpos) (tE C own .sh (d1 (qbL sep) fe)):=by
 refine jU (qaR PySem.F.plainAttrs_str PySem.F.slot_str_join PySem.F.type_str_join qg5 qfg (qX o jO s) f w b s rfl) λσ H Q h=>?_;refine ⟨rfl,?_⟩;obtain ⟨F,ρ,n,h⟩:=qdI (ma:=m) h;refine ⟨F,ρ,n,?_⟩;cases q:fe ρ with
 | ok p=>
  rw [q] at h;obtain ⟨d,ρ1⟩:=p;intro v F1 H1 g k j;obtain ⟨y,dx,A,tx,po⟩:=h v F1 H1 g k j;cases dx <;> try exact po.elim
  rename_i ds;unfold qbL at po;cases i:Kn ds with
  | none=>simp only [i] at po; exact po.elim
  | some ss=>
   simp only [i] at po;by_cases z:(ss.map (·.length)).sum+ss.length * sep.length<=16777216/\(fR sep ss).length<=sizeLine
   ·rw [if_pos z] at po;obtain ⟨a,vs,rfl,hq,t⟩:=tx.lst A;have l:SqL X.K H1 a vs:=by rw [<-u]; exact hq
    exact ⟨sep,a,vs,ss,rfl,rfl,l,λus r=>(qbH t r i).1,z.1,po _ y H1 A .refl (.str z.2)⟩
   ·rw [if_neg z] at po;exact po.elim
 | exc c=>rw [q] at h; exact h
 | bad=>rw [q] at h; exact h.elim
end
noncomputable def dM (k:D->Bool) (g:D->D->Out D) (fo fa:je):je:=λρ=>(fo ρ).bind λp=>if k p.1 then (fa p.2).bind λq=>(g p.1 q.1).plain.bind λd=>.ok (d,q.2) else .bad
variable {ma mb:Mo} {pos:Pos} {σ:St} {F H:Hp} {Q:VK} {g:D->D->Out D}
section
variable {a b:Expr} {fa fb:je}
theorem Po.imp {r:WR} {R:VK} (h:Po C own m σ F H r Q) (i:∀ v H',Q v H'->R v H'):Po C own m σ F H r R:=by
 cases r with
 | ok p=>exact λv F' H' a c mo=>i v H' (h v F' H' a c mo)
 | exc x=>exact h
 | bad=>exact h.elim
theorem qg7 {k:D->Bool} (f:ma≠.any) (h:tE C own m (dM k g fa fb) σ H Q):tE C own ma fa σ H λx H1=>(∃ F dx,Same F H1/\TopIs C.K F H1 x dx/\k dx=iC)/\tE C own mb fb σ H1 λy H2=>∃ F dx j,Same F H2/\TopIs C.K F H2 x dx/\TopIs C.K F H2 y j/\PoV C m F H2 (g dx j) Q:=by
 obtain ⟨F,ρ,p,h⟩:=h;refine ⟨F,ρ,p,Po.bind h λv F1 H1 d ρ1 a n c h1=>?_⟩;cases i:k d with
 | false=>simp only [i] at h1; exact h1.elim
 | true=>simp only [i,if_true] at h1;exact ⟨⟨F1,d,a.sub,c.top,i⟩,F1,ρ1,a,Po.bind h1 λw l H2 e ρ2 r c2 b h2=>⟨l,d,e,r.sub,(c.grow f c2 λx z=>(p.OA_there z).1).top,b.top,PoV.of r h2⟩⟩
def MtD (X:Cx) (C:Ct) (m:Mo) (id:String) (g:D->D->Out D):Prop:=
 MtR X id (λx vs H Q=>∃ y F dx d,vs=[y]/\Same F H/\TopIs C.K F H x dx/\TopIs C.K F H y d/\PoV C m F H (g dx d) Q)
noncomputable def qko:D->Bool
 | .lst _=>iC
 | _=>iE
theorem qei {name:Str} {id:String} {apos cpos:Pos} (slot:Slot "list" name id) (d:typeOf (.builtin id)=pure (.type "method_descriptor")) (i:MtD X C m id g) (n:C.K=X.K)
  (l:PE X a (tE C own ma fa)) (j:PE X b (tE C own mb fb)) (f:ma≠.any:=by decide)
  (c:attributeBase a name X.env (eval a X.env)=eval a X.env:=by rfl)
  (w:((backTo cpos (starEach [b] X.env)).all (λx=>!x.1)&&(backToKw cpos (keywordEach [] X.env)).all (λx=>x.1.isSome)
   && decide ([b].length+([]:List iY).length+(if ([]:List iY).isEmpty then 0 else 1) < 30))=true:=by exact yH rfl)
  (e:(apos.endLine == cpos.line)=true:=by rfl) (s:starEach [b] X.env=[(iE,eval b X.env)]:=by exact qO rfl) :
  PE X (.Call (.Attribute a name apos) [b] [] cpos) (tE C own m (dM qko g fa fb)):=by
 refine jU (qaR dj slot d i l (qX j jO s) c w e s rfl) λσ H Q h=>?_;obtain ⟨F,ρ,p,h⟩:=qg7 (ma:=ma) (mb:=mb) f h;refine ⟨F,ρ,p,Po.imp h λx H1 h1=>?_⟩;obtain ⟨⟨F1,dx,A,tx,k⟩,h2⟩:=h1;refine ⟨?_,?_⟩
 ·cases dx <;> try (cases k; done)
  obtain ⟨a,vs,rfl,hq,t⟩:=tx.lst A;exact .inl ⟨rfl,vs,by rw [<-n]; exact hq⟩
 ·obtain ⟨o,ρ2,r,h2⟩:=h2;exact ⟨o,ρ2,r,Po.imp h2 λy H2 q=>⟨y,q.choose,q.choose_spec.choose,q.choose_spec.choose_spec.choose,rfl,q.choose_spec.choose_spec.choose_spec⟩⟩
end
theorem qbM {pins:Pns} {s:iF} (I:Inv X pins σ H s) (A:Same F H) {n:Nat} {e:D}:∀ {vs:List V} {ds:List D} {us:List iB} {b:Bool},IsL X.K F vs ds->Vals vs us->Qo n e ds=iu b ->us.map (qaz X F n e)=ds.map λd=>eqN n d e == iu iC
 | _,_,_,b,.nil,.nil,h=>rfl
 | _,_,_,b,.cons i t,.cons r rs,h=>by obtain ⟨a,c,q,f,rfl⟩:=WT h;rw [aD,aD,qbM I A t rs f,qa4 I A i r q,q];cases a <;> rfl
noncomputable def Jr:D->D->Out D
 | .lst ds,e=>match Qo 7 e ds with
  | some _=>match (ds.map λd=>eqN 7 d e == iu iC).findIdx? id with
   | some j=>.ok (.int (j:Nat))
   | none=>.bad
  | none=>.bad
 | _,_=>.bad
section
theorem qej (R:C.K=X.K) (O:X.A.units+64 < cLine):MtD X C .sh "list.index" Jr:=by
 intro pins s σ H x vs v us Q I E J h;obtain ⟨y,F,dx,q,rfl,i,tx,ty,po⟩:=h;rw [R] at tx ty;obtain ⟨u,rfl,L⟩:=J.one;unfold Jr at po;cases dx <;> try exact po.elim
 rename_i ds;cases e:Qo 7 q ds with
 | none=>simp only [e] at po; exact po.elim
 | some b=>
  simp only [e] at po;cases G:(ds.map λd=>eqN 7 d q == iu iC).findIdx? id with
  | none=>simp only [G] at po; exact po.elim
  | some j=>
   simp only [G] at po;obtain ⟨F',g',c,M⟩:=ty.is i;obtain ⟨a,xs,rfl,p,z⟩:=tx.lst i;cases E;obtain ⟨its,r,pl,S⟩:=I.list p;obtain ⟨h1,h2⟩:=WU (A:=X.A) (y:=.non) (a:=a) (u:=.none) I O c M L (z.mono g') r e;have P:=qbM I c (z.mono g') r e;rw [<-P] at G;obtain ⟨⟨cls,dd,data,sl⟩,n,B,D,hd,t⟩:=pl;simp only at D hd t;subst D t;obtain ⟨o,l,k⟩:=List.findIdx?_eq_some_iff_getElem.mp G;have f:its.length<=sizeLine:=by have:=r.length; lia
   have g:j < its.length:=by simpa using o
   refine lq PySem.F.slot_list_index ⟨_,B,rfl⟩ PySem.F.entry_list_index (PySem.F.args_list_index_2 _ _) (SeqAt.list_indexAt a _ n dd sl u (qaz X F' 7 q) j (by simpa using g) (by rw [iL] at f; lia) (by simpa using l) λm T h1=>?_) ⟨B,λw N=>h2 w N,?_⟩;·have:=k m h1;simpa using this
   ·exact ⟨.int (j:Nat),H,I.tok _,⟨_,rfl⟩,po _ F H i .refl (.int _)⟩
end
theorem PoI.shift {F1 H1:Hp} {r:Out (List D×Sl)} {R:It->Hp->Prop} (h:PoI C own σ F H r R) (c:Chg (OA own σ) F H F1 H1):PoI C own σ F1 H1 r R:=by
 cases r with
 | ok p=>exact λJ F' H' a U j=>h J F' H' a (c.trans' U) j
 | exc x=>exact λF' H' s io U=>h F' H' s io (c.trans' U)
 | bad=>exact h.elim
def qek (i j:Int):Prop:=(-(2 ^ 62)<=i/\i < 2 ^ 62)/\-(2 ^ 62)<=j/\j < 2 ^ 62
instance:∀ i j,Decidable (qek i j):=λi j=>inferInstanceAs (Decidable (_/\_))
noncomputable def gl (fa fb:je):uV:=λρ=>(fa ρ).bind λp=>(fb p.2).bind λq=>match p.1,q.1 with
 | .int i,.int j=>if qek i j then .ok (gL i (j - i).toNat,q.2) else .bad
 | _,_=>.bad
variable {lo:Int}
section
variable {a b tg:Expr} {fa fb:je}
theorem qae {p:Pos} (hg:Gl X "range") (l:X.mg "range"=iw) (o:PE X a (tE C own .sh fa)) (n:PE X b (tE C own mb fb)) (s:starEach [a,b] X.env=[(iE,eval a X.env),(iE,eval b X.env)]:=by exact qdH rfl rfl) (f:starEach [b] X.env=[(iE,eval b X.env)]:=by exact qO rfl):PI X tg (.Call (.Name "range" p) [a,b] [] pos) (tIt C own (gl fa fb)):=by
 refine GP (qaI hg l (qX o (qX n jO f) (by rw [s,f])) s f) λσ H R ⟨F,ρ,k,h⟩=>⟨F,ρ,k,PoI.bindV h λv F1 H1 d ρ1 g q c h1=>⟨F1,ρ1,g,PoI.bindV (h1.shift q) λw t H2 e ρ2 r c2 m h2=>?_⟩⟩
 have c:Is C.K F1 v d:=c;cases d with
 | int i=>
  cases e with
  | int j=>
   cases c;obtain rfl:=m.top.int;have h2:PoI C own σ F1 H1 (if qek i j then .ok (gL i (j - i).toNat,ρ2) else .bad) R:=h2;by_cases z:qek i j;·rw [if_pos z] at h2;exact ⟨i,j,rfl,⟨z.1.1,z.1.2,z.2.1,z.2.2⟩,h2 _ t H2 r c2 qfp⟩
   ·rw [if_neg z] at h2; exact h2.elim
  | _=>exact h2.elim
 | _=>exact h2.elim
theorem qbN:∀ {xs:List V} {us:List iB},xs.length=us.length->(∀ (j:Nat) (x:V) (u:iB),xs[j]?=iu x->us[j]?=iu u->RelV x u)->Vals xs us
 | [],[],_,_=>.nil
 | x::xs,u::us,hl,h=>.cons (h 0 x u rfl rfl) (qbN (Nat.succ.inj hl) λj y w a b=>h (j+1) y w (by simpa using a) (by simpa using b))
 | [],_::_,hl,_=>nomatch hl
 | _::_,[],hl,_=>nomatch hl
noncomputable def qkp (p:Addr) (lo hi:Int):HO:=.ext λh=>∃ t u v,IsRange h p lo hi 1 t u v
theorem qg8 {P:iH} {w:iI} {h:Heap} {p:Addr} {hi:Int} {t u v:Tok} (x:IsRange h p lo hi 1 t u v):ObjOk P w H h p (qkp p lo hi):=
 ⟨⟨t,u,v,x⟩,⟨_,x⟩,λ_ _ ⟨t,u,v,x⟩ k=>⟨t,u,v,k _ x⟩⟩
theorem qbO:xu X (.type "range") (λxs H Q=>∃ j:Int,xs=[.int j]/\∀ p,H p=iw->Q (.ref p) (upd H p (qkp p 0 j))):=by intro pins s σ H xs us Q I r h;obtain ⟨j,rfl,q⟩:=h;obtain ⟨u,rfl,B⟩:=xw r;obtain ⟨t,rfl⟩:=B;exact call_range_1 ⟨.ref s.heap.objs.size,_,I.laid (t':=s.toks+1+1) (λb o e=>af _ e) (aB _) (qg8 (IsRange.new ..)),rfl,q _ (I.hok.fresh (aB _))⟩
theorem qel (d:X.calm=iC):xu X (.type "list") (λxs H Q=>∃ r lo hi,xs=[.ref r]/\H r=iu (qkp r lo hi)/\(qek lo hi/\hi - lo<=1000000)/\∀ p,H p=iw->Q (.ref p) (upd H p (.lst ((aH (hi - lo).toNat).map λk=>V.int (lo+(k:Nat)))))):=by
 intro pins s σ H xs us Q I r h;obtain ⟨a,lo,hi,rfl,g,z,q⟩:=h;obtain ⟨u,rfl,B⟩:=xw r;cases B;obtain ⟨t,u,v,hr⟩:=(I.hok a _ g).1;have i:Builtin.Range.rangeSize lo hi 1=(((hi - lo).toNat:Nat):Int):=by rw [rangeSize_one]; split <;> lia
 refine call_list_range (n:=(hi - lo).toNat) (I.ok.hd d) hr (small_one z.1.1.1 z.1.1.2 z.1.2.1 z.1.2.2) i (by lia) λh' tk acc c k hp b=>?_;refine ⟨.ref s.heap.objs.size,_,I.laid (t':=tk) (o:=.lst ((aH (hi - lo).toNat).map λk=>V.int (lo+(k:Nat)))) k (aB _) ⟨by rw [ax,bQ,iL]; lia,acc.toList,c,?_,by simpa using hp⟩,rfl,q _ (I.hok.fresh (aB _))⟩;refine qbN (by rw [ax,bQ,bH,b.1]) λj x w ex e=>?_;rw [aF] at ex;obtain ⟨k,f,rfl⟩:=aX.mp ex;obtain ⟨G,rfl⟩:=aC.mp f;obtain ⟨t,rfl⟩:=b.2 j w (by simpa using e);exact ⟨t,by simp⟩
noncomputable def zy:D->Out D
 | .int j=>if qek 0 j/\j - 0<=1000000 then .ok (.lst (gL 0 (j - 0).toNat)) else .bad
 | _=>.bad
theorem qbP {K:Frag}:∀ l:List Nat,IsL K F (l.map λk=>V.int (lo+(k:Nat))) (l.map λk=>D.int (lo+(k:Nat)))
 | []=>.nil
 | k::l=>.cons (.int _) (qbP l)
theorem qaf {p p2 a:Pos} (o:X.calm=iC) (hg:Gl X "list") (n:X.mg "list"=iw) (v:bootBuiltins "list"=iu (.type "list")) (i:Gl X "range") (g:X.mg "range"=iw) (d:bootBuiltins "range"=iu (.type "range")) (r:PE X e (tE C own ma fa))
  (m:starEach [e] X.env=[(iE,eval e X.env)]:=by exact qO rfl) (c:starEach [.Call (.Name "range" p2) [e] [] a] X.env=[(iE,eval (.Call (.Name "range" p2) [e] [] a) X.env)]:=by exact qO rfl) :
  PE X (.Call (.Name "list" p) [.Call (.Name "range" p2) [e] [] a] [] pos) (tE C own .fr (d1 zy fa)):=by
 refine jU (uY (qel o) hg n v (qX (uY qbO i g d (qX r jO m) (by decide) (by decide) (by rw [m]; rfl) rfl) jO c) (by decide) (by decide) (by rw [c]; rfl) rfl) λσ H Q h=>?_;refine YL (ge (ma:=ma) h) λx H1 ⟨w,F,dx,ex,A,tx,po⟩=>?_;cases ex;cases dx <;> try exact po.elim
 rename_i j;unfold zy at po;by_cases b:qek 0 j/\j - 0<=1000000
 ·simp only [if_pos b] at po;obtain rfl:=tx.int;refine ⟨j,rfl,λq hq=>⟨q,0,j,rfl,qu,b,λl f=>?_⟩⟩;obtain ⟨s1,s,f1⟩:=wK (u:=qkp q 0 j) A hq;obtain ⟨s2,c2,f2⟩:=wK (u:=.lst ((aH (j - 0).toNat).map λk=>V.int (0+(k:Nat)))) s1 f;have t:H1 l=none:=by
   by_cases z:l=q;·rw [z] at f;rw [qu] at f;cases f
   ·rwa [qA z] at f
  exact po _ _ _ s2 (s.trans' c2) ⟨l,rfl,t,f2,_,qu,qbP _⟩
 ·simp only [if_neg b] at po;exact po.elim
end
theorem qbQ:bootBuiltins "enumerate"=iu (.type "enumerate"):=by decide +kernel
noncomputable def Js (xs:List D):List D:=(xs.zipIdx).map λp=>.tup [.int (p.2:Nat),p.1]
noncomputable def qag (f:je):uV:=λρ=>(f ρ).bind λp=>match p.1 with
 | .lst xs=>.ok (Js xs,p.2)
 | _=>.bad
mutual
def qjf:Nat->Expr->Option D
 | 0,_=>iw
 | n+1,e=>match e with
  | .Constant c _ _=>match c with
   | .none=>iu .non
   | .bool b=>iu (.bl b)
   | .int i=>iu (.int i)
   | .str x=>if x.length<=sizeLine then iu (.str x) else iw
   | _=>iw
  | .UnaryOp .USub (.Constant (.int i) _ _) _=>iu (.int (-i))
  | .List es _=>(qh7 n es).bind λds=>if ds.length<=sizeLine then iu (.lst ds) else iw
  | .Tuple es _ _=>(qh7 n es).bind λds=>if ds.length<=sizeLine then iu (.tup ds) else iw
  | _=>iw
def qh7:Nat->List Expr->Option (List D)
 | _,[]=>iu []
 | 0,_::_=>iw
 | n+1,e::es=>(qjf n e).bind λd=>(qh7 n es).bind λds=>iu (d::ds)
end
theorem ZC {α:Type}:∀ l:List α,((l.map λ_=>AK.vl).all λa=>decide (a=.vl))=iC
 | []=>rfl
 | _::l=>by rw [aD,hV,ZC l]; rfl
theorem qbR {n:Nat} {e:Expr} {d:D} (h:qjf n e=iu d):Yu e=true:=by
 cases n with
 | zero=>cases h
 | succ n=>cases e <;> first | rfl | (simp [qjf] at h)
section
variable {X:Cx} {C:Ct} {own:List Nat}
mutual
theorem qjg:∀ (n:Nat) {e:Expr} {d:D},qjf n e=iu d->PE X e (tE C own .sh (dC d))
 | 0,_,_,h=>by cases h
 | n+1,e,d,h=>by
  unfold qjf at h;split at h
  ·split at h;·cases h; exact QZ
   ·cases h; exact gb
   ·cases h; exact qt
   ·split at h;·rename_i z;cases h;exact uQ z
    ·cases h
   ·cases h
  ·cases h;exact jU (qgw qbo qt) λσ H Q h=>h
  ·obtain ⟨ds,h1,h2⟩:=cA.mp h;split at h2
   ·rename_i z;cases h2;have i:gK (λρ=>.ok (ds,ρ))=dC (.lst ds):=by funext ρ;unfold gK dC;rw [Out.oo,if_pos z]
    rw [<-i];exact ya (kB (VB n h1) (ZC _)) (by decide)
   ·cases h2
  ·obtain ⟨ds,h1,h2⟩:=cA.mp h;split at h2
   ·rename_i z;cases h2;have i:xF (λρ=>.ok (ds,ρ))=dC (.tup ds):=by funext ρ;unfold xF dC;rw [Out.oo,if_pos z]
    rw [<-i];exact vm (VB n h1) (ZC _)
   ·cases h2
  ·cases h
theorem VB:∀ (n:Nat) {es:List Expr} {ds:List D},qh7 n es=iu ds->PA X es (tAr C own (es.map λ_=>.vl) λρ=>.ok (ds,ρ))
 | 0,[],ds,h=>by cases h;exact qf
 | _+1,[],ds,h=>by cases h;exact qf
 | 0,_::_,ds,h=>by cases h
 | n+1,e::es,ds,h=>by unfold qh7 at h;obtain ⟨d,h1,h⟩:=cA.mp h;obtain ⟨f,h2,h⟩:=cA.mp h;cases h;have i:qd (dC d) (λρ=>.ok (f,ρ))=λρ=>.ok (d::f,ρ):=rfl;rw [<-i];exact qc (qjg n h1) (VB n h2) (by decide) (jR (qbR h1))
end
theorem qbS {es:List Expr} {ds:List D} {pos:Pos} (n:Nat) (h:qh7 n es=iu ds):PE X (.List es pos) (tE C own .fr (gK λρ=>.ok (ds,ρ))):=kB (VB n h) (ZC _)
end
noncomputable def txI (i:Int):Str:=toString i
def CTx (i:Int):Prop:=i.natAbs.log2 < 1920/\(txI i).length<=sizeLine
instance:∀ i,Decidable (CTx i):=λi=>inferInstanceAs (Decidable (_/\_))
end L2.D2
namespace PySem
open Builtin Builtin.Str
end PySem
namespace L2.D2
open PySem PySem.Spec PyProof.Rows
def qmz (x y:Str):Prop:=(y.length == 0)=iE/\(Txt.split x y).length<=sizeLine/\∀ z∈Txt.split x y,z.length<=sizeLine
instance:∀ x y,Decidable (qmz x y):=λx y=>inferInstanceAs (Decidable (_/\_))
inductive IntsAre:List iB->List Int->Prop
 | nil:IntsAre [] []
 | cons (y:Int) (t:Tok) {vs:List iB} {ys:List Int} (h:IntsAre vs ys):IntsAre (g9 y t::vs) (y::ys)
theorem IntsAre.item:∀ {vs:List iB} {ys:List Int},IntsAre vs ys->∀ (i:Nat) (v:iB),vs[i]?=iu v->∃ y t,v=g9 y t/\ys[i]?=iu y
 | _,_,.nil,i,v,e=>by simp at e
 | _,_,.cons y t h,0,v,e=>by simp at e; subst e; exact ⟨y,t,rfl,rfl⟩
 | _,_,.cons y t h,i+1,v,e=>by obtain ⟨z,t',e1,a⟩:=h.item i v (by simpa using e);exact ⟨z,t',e1,by simpa using a⟩
noncomputable def Jt:List D->Option (List Int)
 | []=>iu []
 | .int x::l=>(Jt l).map (x::·)
 | _::_=>iw
variable {K:Frag} {F H:Hp}
section
theorem TopIs.ins {v:V} {c:Addr} {fs:List (Str×D)} (s:Same F H) (h:TopIs K F H v (.ins c fs)):∃ a dx fv,v=.ref a/\H a=iu (.ins c dx fv)/\IsF K F fv fs:=by
 rcases h with h | ⟨a,rfl,dx,fv,e,t⟩
 ·cases h with
  | ins e t=>exact ⟨_,_,_,rfl,s _ _ e,t⟩
 ·exact ⟨a,dx,fv,rfl,e,t⟩
end
variable {own:List Nat} {σ:St} {ρ:Sl} {i:Nat} {b:Addr}
section
variable {own1:List Nat}
theorem Rep.frz {o:HO} (r:Rep K own F H σ ρ) (h:H b=iu o) (D:F b=iw) (n:¬OA own σ b):Rep K own (upd F b o) H σ ρ:=by
 have gr:Same F (upd F b o):=λc w e=>by rw [qA (qH e D)]; exact e
 refine ⟨λc w e=>?_,r.len,λj d G e=>?_,λj d G e=>?_,r.opn,r.dis⟩
 ·by_cases q:c=b;·subst q; rw [qu] at e; cases e; exact h
  ·rw [qA q] at e; exact r.sub c w e
 ·obtain ⟨v,h1,h2⟩:=r.val j d G e;exact ⟨v,h1,h2.mono gr⟩
 ·obtain ⟨a,h1,h2,i⟩:=r.ow j d G e;exact ⟨a,h1,by rw [qA (λz=>n ⟨j,G,by rw [<-z]; exact h1⟩)]; exact h2,i.grow gr λ_ q=>q⟩
end
variable {X:Cx} {C:Ct} {pos:Pos} {x:Str}
section
theorem vr (i:Nat) (h:X.N[i]?=iu x:=by rfl) (c:Vis X.env.scope x:=by first | exact bI rfl | exact cx (bI rfl) | exact cx (cx rfl)) (l:i∉own:=by decide) (hd:Dbg x:=by decide) (d:Cdk x:=by decide):PE X (.Name x pos) (tE C own .sh (qe i)):=qiJ h c l hd d
end
section
theorem Rep.swap {F' H':Hp} {g:Nat} {o:D} (r:Rep K own F H σ ρ) (hg:g∈own) (J:σ[g]?=iu (iu (V.ref b))) (c:Chg (λz=>z=b) F H F' H') (A:Same F' H') (fb:F' b=iw) (ow:OwnIs K F' H' b o):Rep K own F' H' σ (ρ.set g (iu o))/\Chg (OA own σ) F H F' H':=by
 obtain ⟨w,hd0⟩:=r.opn g hg;have hl:g < ρ.length:=(aC.mp hd0).1;refine ⟨⟨A,by simp [r.len],λj d G e=>?_,λj d G e=>?_,λj G=>?_,r.dis⟩,c.mono λz h=>⟨g,hg,by rw [h]; exact J⟩⟩;·rw [ay (λz=>G (by rw [<-z]; exact hg))] at e;obtain ⟨v,h1,h2⟩:=r.val j d G e;exact ⟨v,h1,h2.mono c.grow⟩
 ·by_cases q:j=g;·subst q;rw [aJ hl] at e;cases e;exact ⟨b,J,fb,ow⟩
  ·rw [ay (bo q)] at e;obtain ⟨a,h1,h2,i⟩:=r.ow j d G e;have na:a≠b:=λz=>by subst z; exact q (r.dis j g a G hg h1 J)
   refine ⟨a,h1,?_,i.grow c.grow λo q=>c.keep a o q na⟩;cases f:F' a with
   | none=>rfl
   | some u=>
    rcases c.new a (by rw [f]; simp) with z | z | z;·exact absurd h2 z
    ·exact absurd z i.there
    ·exact absurd z na
 ·by_cases q:j=g;·subst q; exact ⟨o,aJ hl⟩
  ·rw [ay (bo q)]; exact r.opn j G
end
theorem IsL.dropLast {vs:List V} {ds:List D} (h:IsL K F vs ds):IsL K F vs.dropLast ds.dropLast:=by rw [List.dropLast_eq_take,List.dropLast_eq_take,h.length];exact h.take _
noncomputable def xH (n:Nat) (fw fx:je):qV:=λρ=>(fw ρ).bind λp=>(fx p.2).bind λq=>match (q.2[n]?:Option (Option D)),q.1 with
 | some (iu (.lst ds)),.int k=>(match ixN ds.length k with | some j=>.ok (.nx,q.2.set n (iu (.lst (ds.set j p.1)))) | none=>.bad)
 | _,_=>.bad
theorem qmA {cv:Str->iB} {ca:Str->Addr} {n:Str} (v:cv n=.ref (ca n)) (s:bT K (.ref (ca n)) (.ref (ca n))=iu iC):∀ c Cc,qi3 ca [n] c=iu Cc->cv c=.ref Cc/\bT K (.ref Cc) (.ref (ca n))=iu true:=λc Cc h=>by
 unfold qi3 at h;split at h
 ·rename_i z;cases h;have z:c=n:=by simpa using z
  subst z;exact ⟨v,s⟩
 ·cases h
variable {n:Nat} {m mx:Mo} {apos cpos:Pos}
section
variable {mo mw:Mo} {e o w ix:Expr} {fe fo fw fx:je} {p1 p2 p3:Pos}
theorem Ju (E:X.N[n]?=iu x) (D:Vis X.env.scope x) (l:n∈own) (B:PE X w (tE C own mw fw)) (hx:PE X ix (tE C own mx fx)) (e:mw≠.any:=by decide)
  (hd:Dbg x:=by decide) (o:Cdk x:=by decide)
  (g:∀ v,assign (.Subscript (.Name x p1) ix p2) X.env v=(do
   let ov <-holding [v] (eval (.Name x p1) X.env)
   let i <-holding [v,ov] (eval ix X.env)
   standAt p2
   holding [v,ov,i] (setItem ov i v)
   release [v,ov,i] []):=by intro _; rfl)
  (s:swapsWithSole [.Subscript (.Name x p1) ix p2] w p3.line X.env=pure false:=by rfl) (G:swappedStores [.Subscript (.Name x p1) ix p2] w X.env=pure none:=by rfl)
  (p:(assignEach [.Subscript (.Name x p1) ix p2] X.env).map (·.2)=[assign (.Subscript (.Name x p1) ix p2) X.env]:=by rfl) :
  PS X (.Assign [.Subscript (.Name x p1) ix p2] w p3) (tSt C own own (xH n fw fx)):=by
 refine Kj (qfh (ya B e) (qil (xC E D hd o) hx qdA g) s G p) λT σ H ⟨F,ρ,A,h⟩=>⟨F,ρ,A,PoS.bindE h λv F1 H1 d ρ1 b R c h1=>?_⟩
 have c:Is C.K F1 v d:=c;obtain ⟨L,hd0⟩:=b.opn n l;obtain ⟨a,e1,Q,P⟩:=b.ow n L l hd0;refine ⟨_,e1,F1,ρ1,b,PoS.bindE h1 λi O H2 J ρ2 r c2 m h2=>?_⟩;obtain ⟨d2,hd2⟩:=r.opn n l;obtain ⟨S,y,I,o2⟩:=r.ow n d2 l hd2;rw [e1] at y;cases y;simp only [hd2] at h2;cases d2 with
 | lst ds=>
  cases J with
  | int k=>
   have f:=m.top.int;subst f;obtain ⟨xs,ex,t⟩:=o2;cases q:ixN ds.length k with
   | none=>simp only [q] at h2; exact h2.elim
   | some j=>simp only [q] at h2;obtain ⟨r3,M⟩:=r.write (u:=.lst (xs.set j v)) (d:=.lst (ds.set j d)) l e1 ⟨_,qu,t.set (c.mono c2.grow) j⟩;exact ⟨a,xs,k,j,rfl,rfl,ex,by rw [t.length]; exact q,h2 σ O _ ⟨r3,M,λ_ z=>.inl z,λ_ _=>rfl⟩⟩
  | _=>exact h2.elim
 | _=>exact h2.elim
end
section
variable {mb:Mo} {b ix:Expr} {fb:je} {px:Pos}
noncomputable def d2O (i:Nat) (g:D->D->Out D) (fb:je):je:=λρ=>(fb ρ).bind λq=>match (q.2[i]?:Option (Option D)) with
 | some (iu d)=>(g d q.1).plain.bind λr=>.ok (r,q.2)
 | _=>.bad
theorem qg9 {g:D->D->Out D} {Q:VK} (l:i∈own) (h:tE C own m (d2O i g fb) σ H Q):qku i σ H λx H1=>tE C own mb fb σ H1 λy H2=>∃ F dx f,Same F H2/\TopIs C.K F H2 x dx/\TopIs C.K F H2 y f/\PoV C m F H2 (g dx f) Q:=by obtain ⟨F,ρ,p,h⟩:=h;obtain ⟨w,hd0⟩:=p.opn i l;obtain ⟨a,e1,k,o⟩:=p.ow i w l hd0;refine ⟨_,e1,F,ρ,p,Po.bind h λv F1 H1 d ρ1 r n c h1=>?_⟩;obtain ⟨d1,b⟩:=r.opn i l;obtain ⟨q,e,j,o1⟩:=r.ow i d1 l b;rw [e1] at e;cases e;simp only [b] at h1;exact ⟨F1,d1,d,r.sub,.inr ⟨a,rfl,o1⟩,c.top,PoV.of r h1⟩
theorem qbT (o:C.K=X.K) (t:X.A.units+64 < cLine) (n:X.N[i]?=iu x) (g:Vis X.env.scope x) (l:i∈own) (m:PE X b (tE C own mb fb)) (j:Vp b)
  (hd:Dbg x:=by decide) (e:Cdk x:=by decide):PE X (.Subscript (.Name x px) b pos) (tE C own .sh (d2O i ixD fb)):=by
 refine jU (qiz (qfn (by lia)) (xC n g hd e) m j) λσ H Q h=>?_;obtain ⟨v,e1,F,ρ,f,h⟩:=qg9 (mb:=mb) l h;refine ⟨v,e1,F,ρ,f,?_⟩;cases d:fb ρ with
 | ok p=>rw [d] at h;obtain ⟨d',k⟩:=p;intro w u q r J a;obtain ⟨M,dx,y,s,tx,ty,po⟩:=h w u q r J a;exact qfo (σ:=σ) o s tx ty po
 | exc c=>rw [d] at h; exact h
 | bad=>rw [d] at h; exact h.elim
end
def FlyA (h:Heap) (ex T:Addr) (cls:iB):Prop:=∃ o vs a ts l,h.get? ex=iu o/\o.cls=cls/\o.data=.fields vs/\vs[1]?=iu (.ref T)/\T≠ex/\h.get? T=iu a/\a.data=.fields ts/\ts[3]?=iu l
theorem FlyA.tr {h base:Heap} {ex T:Addr} {cls:iB} (f:FlyA h ex T cls) (d:base.get? T=iw):∃ B l,h.TracedAtW base ex cls B l:=by obtain ⟨o,vs,a,ts,l,m,e,c,y,q,b,k,j⟩:=f;have z:0 < vs.size:=Nat.lt_of_succ_lt (Array.getElem?_eq_some_iff.mp y).1;exact ⟨vs[0],l,o,vs,T,a,ts,m,⟨e,by simp [z]⟩,c,y,d,q,b,k,j⟩
noncomputable def Qh (n:Nat) (fw fx:je):qV:=λρ=>(fw ρ).bind λp=>(fx p.2).bind λq=>match (q.2[n]?:Option (Option D)) with
 | some (iu (.dct kvs))=>(match KL q.1 with
  | some k=>if kvs.length < sizeLine then .ok (.nx,q.2.set n (iu (.dct (KM kvs k p.1)))) else .bad
  | none=>.bad)
 | _=>.bad
section
variable {w ix:Expr} {fw fx:je} {mw:Mo} {p1 p2 p3:Pos}
theorem Qv (O:X.A.units+64 < cLine) (B:X.N[n]?=iu x) (t:Vis X.env.scope x) (l:n∈own) (s:PE X w (tE C own mw fw)) (hx:PE X ix (tE C own mx fx)) (f:mw≠.any:=by decide)
  (hd:Dbg x:=by decide) (i:Cdk x:=by decide) (y:swapsWith w (iu (.Subscript (.Name x p1) ix p2)) p3.line X.env=pure false:=by rfl) :
  PS X (.Assign [.Subscript (.Name x p1) ix p2] w p3) (tSt C own own (Qh n fw fx)):=by
 refine Kj (qgv (by lia) (xC B t hd i) hx (ya s f) y) λT σ H ⟨F,ρ,p,h⟩=>⟨F,ρ,p,PoS.bindE h λv F1 H1 d ρ1 b Q c h1=>?_⟩
 have c:Is C.K F1 v d:=c;obtain ⟨D,hd0⟩:=b.opn n l;obtain ⟨a,e1,P,L⟩:=b.ow n D l hd0;refine ⟨_,e1,F1,ρ1,b,PoS.bindE h1 λM G H2 J ρ2 r c2 m h2=>?_⟩;obtain ⟨d2,hd2⟩:=r.opn n l;obtain ⟨R,o,I,o2⟩:=r.ow n d2 l hd2;rw [e1] at o;cases o;simp only [hd2] at h2;cases d2 with
 | dct kvs=>
  cases q:KL J with
  | none=>simp only [q] at h2; exact h2.elim
  | some k=>
   simp only [q] at h2;have g:=qkg m.top q;subst g;obtain ⟨kv,ex,j⟩:=o2;by_cases e:kvs.length < sizeLine;·simp only [if_pos e] at h2;obtain ⟨r3,E⟩:=r.write (u:=.dK (Kg kv k v)) (d:=.dct (KM kvs k d)) l e1 ⟨_,qu,j.put (c.mono c2.grow)⟩;exact ⟨a,_,rfl,DPut.k ex (by rw [j.length]; exact e),h2 σ G _ ⟨r3,E,λ_ z=>.inl z,λ_ _=>rfl⟩⟩
   ·simp only [if_neg e] at h2; exact h2.elim
 | _=>exact h2.elim
end
noncomputable def qbU (i:Nat):je:=λρ=>match (ρ[i]?:Option (Option D)) with
 | some (iu (.lst (d::es)))=>.ok (d,ρ.set i (iu (.lst es)))
 | _=>.bad
section
variable {px:Pos}
theorem qha:MtR X "list.pop" (λx vs H Q=>∃ l v xs,x=.ref l/\vs=[.int 0]/\H l=iu (.lst (v::xs))/\Q v (upd H l (.lst xs))):=by intro pins s σ H x vs v us Q I d r h;obtain ⟨l,y,xs,rfl,rfl,b,q⟩:=h;exact qdC pins s σ H _ _ v us Q I d r ⟨l,_,0,0,y,rfl,rfl,b,by decide,by decide,by simp [seqIndex?],rfl,q⟩
theorem qhb {j:Nat} {p:Pos} (m:X.N[i]?=iu x) (k:Vis X.env.scope x) (o:i∈own) (hd:Dbg x:=by decide) (c:Cdk x:=by decide)
  (b:attributeBase (.Name x px) "pop" X.env (eval (.Name x px) X.env)=eval (.Name x px) X.env:=by rfl) (e:(apos.endLine == cpos.line)=true:=by rfl)
  (w:((backTo cpos (starEach [.Constant (.int 0) j p] X.env)).all (λx=>!x.1)&&(backToKw cpos (keywordEach [] X.env)).all (λx=>x.1.isSome)
   && decide ([Expr.Constant (.int 0) j p].length+([]:List iY).length+(if ([]:List iY).isEmpty then 0 else 1) < 30))=true:=by exact yH rfl)
  (s:starEach [.Constant (.int 0) j p] X.env=[(iE,eval (.Constant (.int 0) j p) X.env)]:=by exact qO rfl) :
  PE X (.Call (.Attribute (.Name x px) "pop" apos) [.Constant (.int 0) j p] [] cpos) (tE C own .sh (qbU i)):=by
 refine jU (qaR dj PySem.F.slot_list_pop PySem.F.type_list_pop qha (xC m k hd c) (qX qff jO s) b w e s rfl) λσ H Q ⟨F,ρ,r,h⟩=>?_;obtain ⟨f,hd0⟩:=r.opn i o;obtain ⟨a,e1,D,g⟩:=r.ow i f o hd0;unfold qbU at h;simp only [hd0] at h;cases f with
 | lst es=>
  cases es with
  | nil=>exact h.elim
  | cons d es=>
   obtain ⟨xs,ex,l⟩:=g;cases l with
   | cons v l=>refine ⟨_,e1,.inl ⟨rfl,_,.inl (.inl ex)⟩,?_⟩;obtain ⟨r2,J⟩:=r.write (u:=.lst _) (d:=.lst es) o e1 ⟨_,qu,l⟩;exact ⟨a,_,_,rfl,rfl,ex,h _ F _ r2 J v⟩
 | _=>exact h.elim
end
noncomputable def qkq (kvs:List (Key×D)) (k:Key) (d:D):D:=match kvs.find? λkv=>decide (kv.1=k) with
 | some kv=>kv.2
 | none=>d
noncomputable def qem (fo fe ff:je):je:=λρ=>(fo ρ).bind λp=>if (match p.1 with | .dct _=>iC | _=>iE)=iC then (fe p.2).bind λq=>(ff q.2).bind λr=>(match p.1 with
 | .dct kvs=>(match KL q.1 with
  | some k=>.ok (qkq kvs k r.1,r.2)
  | none=>.bad)
 | _=>.bad) else .bad
theorem IsK.miss {k:Key}:∀ {vs:List (Key×V)} {ds:List (Key×D)},IsK K F vs ds->(ds.find? λkv=>decide (kv.1=k))=iw->Yn vs k=iw
 | _,_,.nil,e=>rfl
 | _,_,.cons (k:=k') (vs:=vs) h t,e=>by
  by_cases q:k'=k;·rw [bL (by simp [q])] at e;cases e
  ·rw [bC (by simp [q])] at e;rw [zh q];exact IsK.miss t e
section
variable {o e f:Expr} {fo fe ff:je} {me mf:Mo}
theorem qhc (Z:X.A.units+64 < cLine) (P:PE X o (tE C own .sh fo)) (T:PE X e (tE C own me fe)) (S:PE X f (tE C own mf ff)) (D:mf≠.any:=by decide) (R:me≠.any:=by decide)
  (j:attributeBase o "get" X.env (eval o X.env)=eval o X.env:=by rfl)
  (n:((backTo cpos (starEach [e,f] X.env)).all (λx=>!x.1)&&(backToKw cpos (keywordEach [] X.env)).all (λx=>x.1.isSome)
   && decide (([e,f]:List Expr).length+([]:List iY).length+(if ([]:List iY).isEmpty then 0 else 1) < 30))=true:=by exact yH rfl)
  (g:(apos.endLine == cpos.line)=true:=by rfl) (B:backTo cpos (starEach [e,f] X.env)=[(iE,eval e X.env),(iE,eval f X.env)]:=by rfl) :
  PE X (.Call (.Attribute o "get" apos) [e,f] [] cpos) (tE C own .sh (qem fo fe ff)):=by
 refine jU (qdG (by lia) P T (ya S D) ⟨j,n,g,B⟩) λσ H Q ⟨F,ρ,M,h⟩=>?_;refine ⟨F,ρ,M,Po.bind h λv F1 H1 d ρ1 r c1 b h1=>?_⟩;have b:Is C.K F1 v d:=b;cases d with
 | dct kvs=>
  simp only [if_true] at h1;cases b with
  | dct G N=>
   rename_i a kv;refine ⟨a,rfl,.inl ⟨kv,.inl (r.sub _ _ G)⟩,F1,ρ1,r,Po.bind h1 λy Y H2 W ρ2 s c2 t h2=>?_⟩;refine ⟨Y,ρ2,s,Po.bind h2 λz u I V L c J m i=>?_⟩;have m:Is C.K u z V:=m;cases q:KL W with
   | none=>simp only [q] at i; exact i.elim
   | some k=>
    simp only [q] at i;have O:=qkg t.top q;subst O;have E:u a=iu (.dK kv):=J.grow _ _ (c2.grow _ _ G);have l:IsK C.K u kv kvs:=(N.mono c2.grow).mono J.grow;refine ⟨Yn kv k,.inl ⟨kv,k,.inl (c.sub _ _ E),rfl,rfl⟩,?_⟩;unfold qkq at i;cases p:kvs.find? λkv=>decide (kv.1=k) with
    | none=>simp only [p] at i;rw [l.miss p];exact i z u I c .refl m
    | some kd=>simp only [p] at i;obtain ⟨w,e1,U⟩:=l.find p;rw [e1];exact i w u I c .refl U
 | _=>exact h1.elim
end
end L2.D2
namespace L2.D2
open PySem PySem.Spec PyProof.Rows PySem.W
section
variable {prog:iH} {w:iI} {A:iK} {E:iB->iF->Prop} {s:iF} {T:String} {r d:Addr} {n:Nat} {P:Nat->iB->Prop} {OK:Heap->Prop}
theorem qbV {Q:List iB->iF->Prop} (K:KdlSrc prog w T r d n P OK) (f:A.handled=iw) (hok:OK s.heap) (c:n<=sizeLine)
  (g:∀ h' tk acc,(∀ b o,s.heap.get? b=iu o->h'.get? b=iu o)->lJ P acc n->Q acc.toList { s with heap:=h',toks:=tk }):wpAny (model prog w) A (collect (.ref r)) Q E s:=by
 unfold collect;refine iA (wpAny_runValue (iM F.entry_proto_collect ?_));rw [aY F.plain_proto_collect _];show wpAny _ A.in1 (newList [] >>= λl=>again (.builtin "list.__iadd__" ⟨[l,.ref r],[]⟩)) _ _ s;refine iA (iJ ?_);refine iG ⟨iR F.plain_list_iadd _,iM F.entry_list_iadd ?_⟩;rw [aY F.plain_list_iadd _];have t:=K.there _ hok;have S:(s.heap.push { cls:=.type "list",data:=.seq ([]:List iB).toArray }).get? s.heap.objs.size=iu { cls:=.type "list",data:=.seq ([]:List iB).toArray }:=au _ rfl;show wpAny _ A.in1 (bq (.ref s.heap.objs.size) (.ref r) (.ref s.heap.objs.size)) _ _ _;refine kdl_extend (R:=λr s'=>match r with
  | .ok (.ret v)=>wpAny (model prog w) A (match v with
   | .ref a=>do
    let o <-load a
    match o.data with
     | .seq xs _=>pure xs.toList
     | _=>unsupported "internal:collect"
   | _=>unsupported "internal:collect") Q E s'
  | .ok _=>False
  | .error e=>E e s') (s:={ s with heap:=s.heap.push { cls:=.type "list",data:=.seq ([]:List iB).toArray } }) K f (K.keep _ _ hok λb _ o e=>af _ e) _ (cV t.1) (cV t.2) _ 0 S (λh' tk L U k B h=>?_) c
 show wpAny _ A (load s.heap.objs.size >>= _) _ _ _;refine iA (wpAny_load B ?_);exact iG (g h' tk L (λb o e=>k b o (aE (aA e)) (af _ e)) h)
theorem qbW:∀ (ss:List Str) (us:List iB),us.length=ss.length->(∀ (j:Nat) (v:iB),us[j]?=iu v->∃ x t,ss[j]?=iu x/\v=hJ x t)->lx us ss
 | [],[],_,_=>.nil
 | [],_::_,h,_=>by cases h
 | _::_,[],h,_=>by cases h
 | x::ss,u::us,h,k=>by obtain ⟨n,t,e1,i⟩:=k 0 u rfl;cases e1;rw [i];refine .cons _ t (qbW ss us (by simpa using h) λj v e=>?_);simpa using k (j+1) v (by simpa using e)
theorem qen {ss:List Str} {Q:iB->iF->Prop} (K:KdlSrc prog w T r d n P OK) (l:A.handled=iw) (hok:OK s.heap) (h:∀ acc:Array iB,lJ P acc n->lx acc.toList ss) (j:ss.length < 64) (i:n<=sizeLine)
  (q:∀ (h1 h':Heap) tk vs e f,(∀ b o,s.heap.get? b=iu o->h1.get? b=iu o)->(∀ b o,h1.get? b=iu o->h'.get? b=iu o)->h'.get? h1.objs.size=iu (seqObj "list" vs e)->lx vs.toList f->f.Perm ss->sortedS f=iC->Q (.ref h1.objs.size) { s with heap:=h',toks:=tk }) :
  wpAny (model prog w) A (call (.builtin "sorted") [.ref r]) Q E s:=by
 refine Calls.call_function_entry kind_sorted plain_sorted entry_sorted (args_sorted1 _) ?_; unfold Builtin.«sorted»;refine iA (m:=checkCount "sorted" 1 1 _) (iG ?_);refine iA (qbV (A:=A.in1) K (show A.in1.handled=iw from l) hok i λh1 tk acc k1 hi=>?_);have c:=h acc hi;have hl:acc.toList.length < 64:=by rw [c.length]; exact j
 refine iA (wpAny_newList ?_ (by rw [iL]; lia));have Z:(h1.push (seqObj "list" acc.toList.toArray 0)).get? h1.objs.size=iu (seqObj "list" acc.toList.toArray 0):=au _ rfl;refine iA (iN (iO slot_list_sort (s:={ s with heap:=h1.push (seqObj "list" acc.toList.toArray 0),toks:=tk }) ⟨_,Z,rfl⟩ entry_list_sort (list_sort_treeK strKind_oneLt Z c.keysOf (λv₁ k rest e=>keyKind_strs (by rw [<-e]; exact c)) hl λg v u=>⟨_,rfl,?_⟩) (args_list_sort _)));obtain ⟨f,t,z,x⟩:=sorted_out_str c v u;obtain ⟨e,p⟩:=sortedHeap_at (out:=(arrOf g).map (·.2)) Z;refine iG ⟨_,rfl,q h1 _ tk _ e f k1 (λb o J=>?_) p t z x⟩;have a:=aA J;rw [sortedHeap_old (aE a) (by rw [bS]; exact fK a)];exact af _ J
end
variable {α:Type}
noncomputable def YN:List (Key×α)->Option (List Str)
 | []=>iu []
 | (.inr x,_)::l=>(YN l).map (x::·)
 | (.inl _,_)::_=>iw
theorem ZD:∀ {l:List (Key×α)} {ss:List Str},YN l=iu ss->l.map (·.1)=ss.map bu
 | [],ss,h=>by cases h; rfl
 | (.inr x,_)::l,ss,h=>by obtain ⟨f,e,rfl⟩:=aX.mp (show (YN l).map (x::·)=iu ss from h);rw [aD,aD,ZD e]
 | (.inl _,_)::_,ss,h=>by cases h
theorem IsK.keys {K:Frag} {F:Hp}:∀ {kv:List (Key×V)} {ks:List (Key×D)},IsK K F kv ks->kv.map (·.1)=ks.map (·.1)
 | _,_,.nil=>rfl
 | _,_,.cons h t=>by rw [aD,aD,IsK.keys t]
theorem KV.keys:∀ {kv:List (Key×V)} {vs:List (Key×iB)},KV kv vs->kv.map (·.1)=vs.map (·.1)
 | _,_,.nil=>rfl
 | _,_,.cons h t=>by rw [aD,aD,h.1,KV.keys t]
noncomputable def ki:D->Out D
 | .dct kvs=>(match YN kvs with
  | some ss=>if ss.length < 64/\(ss.all λy=>decide (y.length<=sizeLine))=iC then .ok (.lst ((jP ss).map D.str)) else .bad
  | none=>.bad)
 | _=>.bad
section
variable {X:Cx} {C:Ct} {own:List Nat} {e:Expr} {fa:je} {ma:Mo} {pos:Pos}
theorem KO (D:X.calm=iC):Jd X C .fr (.builtin "sorted") ki:=by
 intro pins s σ H xs us Q I r h;obtain ⟨x,F,dx,rfl,A,tx,po⟩:=h;obtain ⟨u,rfl,B⟩:=xw r;cases dx with
 | dct kvs=>
  obtain ⟨a,kv,rfl,G,p⟩:=tx.dct A;cases B;cases q:YN kvs with
  | none=>simp only [ki,q] at po; exact po.elim
  | some ss=>
   simp only [ki,q] at po;by_cases hl:ss.length < 64/\(ss.all λy=>decide (y.length<=sizeLine))=iC
   ·rw [if_pos hl] at po;obtain ⟨f,b,vs,rel,dd⟩:=(show ObjOk X.prog X.w H s.heap a (.dK kv) from I.hok a _ G)
    obtain ⟨ep,L⟩:=dd.dictAt;have g:vs.map (·.1)=ss.map bu:=by rw [<-KV.keys rel,p.keys,ZD q]
    have n:vs.length=ss.length:=by have:=congrArg g5 g; simpa using this
    refine qen (kdl_dict (kvs:=vs) (ep:=ep) b) (I.ok.hd D) L (λacc hi=>qbW _ _ (by rw [bH,hi.1,n]) λj v e=>?_) hl.1 (by rw [n,iL]; lia) λh1 h' tk us e m k1 k2 hp st pm so=>?_
    ·obtain ⟨k,x,e1,K⟩:=hi.2 j v (by rw [<-bR]; exact e);have E:(vs.map (·.1))[j]?=iu k:=by rw [aF,e1]; rfl
     rw [g,aF] at E;obtain ⟨y,J,rfl⟩:=aX.mp E;rcases jr (show QX (bu y) v=iC from K) with ⟨i,t,d,_⟩ | ⟨z,t,d,rfl⟩
     ·cases d
     ·cases d;exact ⟨_,t,J,rfl⟩
    ·rw [Uu pm so] at st;have l:Inv X pins σ H { s with heap:=h1,toks:=tk }:=I.kept (t':=tk) k1;have f:(jP ss).length<=sizeLine:=by
      rw [(qI _).length_eq,iL]
      lia
     have hq:H h1.objs.size=none:=l.hok.fresh (aB _);obtain ⟨s2,c2,f2⟩:=wK (u:=.lst ((jP ss).map V.str)) A hq;exact ⟨.ref h1.objs.size,_,l.laid (t':=tk) (o:=.lst ((jP ss).map V.str)) k2 (aB _) ⟨by rw [ax]; exact f,us.toList,e,Jo st,by simpa [seqObj] using hp⟩,rfl,po _ _ _ s2 c2 ⟨_,rfl,hq,f2,_,qu,VA λy c=>by have:=(qI _).mem_iff.mp c;exact of_decide_eq_true (aR.mp hl.2 y this)⟩⟩
   ·rw [if_neg hl] at po; exact po.elim
 | _=>exact po.elim
end
end L2.D2
namespace PySem.F
theorem nolen_lri:typeLookup (.type "list_reverseiterator") "__len__"=pure none:=by rw [j7,iW]; kernel_rfl
theorem hint_lri:typeLookup (.type "list_reverseiterator") "__length_hint__"=pure (iu (.builtin "list_reverseiterator.__length_hint__")):=by rw [j7,iW]; kernel_rfl
end PySem.F
namespace L2.D2
open PySem PySem.Spec PyProof.Rows PySem.W
section
variable {prog:iH} {w:iI} {A:iK} {E:iB->iF->Prop} {s:iF} {I l:Addr} {items:Array iB}
theorem qah {R:lH->iF->Prop} (p:A.handled=iw) (d:l≠I) (hit:s.heap.IsRevIter I l ((items.size:Int) - 1)) (hl:s.heap.IsList l items) (S:Addr) (a:S≠I) (j:S≠l) (res:iB) (c:Nat) (t:s.heap.get? S=iu { cls:=.type "list",data:=.seq #[] c })
  (u:∀ h' tk L U,(∀ b o,b≠S->b≠I->s.heap.get? b=iu o->h'.get? b=iu o)->h'.get? S=iu { cls:=.type "list",dict:=iw,data:=.seq L U,slots:=#[] }->lJ (λi v=>items[items.size - 1 - i]?=iu v) L items.size->R (.ok (.ret res)) { s with heap:=h',toks:=tk }) (n:items.size<=sizeLine) :
  wpAny (model prog w) A.in1 (bq (.ref S) (.ref I) res)
   (λfin s'=>match fin with | .done f=>R (.ok f) s' | .again U=>U.quiet=iC/\codeAny (model prog w) A U R s') (λe s'=>R (.error e) s') s:=by
 have W:=Walks.listRev (prog:=prog) (w:=w) (A:=A.in1) p I l d items;have k:S∉[I,l]:=by simp only [ac,ba,or_false,not_or]; exact ⟨a,j⟩
 have st:0<=items.size/\s.heap.IsRevIter I l ((items.size:Int) - 1 - ((0:Nat):Int))/\s.heap.IsList l items:=⟨br _,by simpa using hit,hl⟩
 unfold bq;refine iA (j4 hit.typeIs ?_);have h1:c8 (.ref S) (.ref I)=false:=by simp [c8,a]
 rw [if_neg (by rw [h1]; decide)];refine iA (W.self 0 _ _ _ st ?_);refine iA (iN ?_);unfold Builtin.List.listLengthHint;refine iA (wpAny_specialOf hit.typeIs F.nolen_lri ?_);show wpAny _ A.in1 (specialOf (cr I) (aZ "__length_hint__") >>= _) _ _ _;refine iA (wpAny_specialOf hit.typeIs F.hint_lri ?_);generalize E:("list_reverseiterator.__length_hint__":String)=id0
 wp_delta
 rw [show splitId id0=iu ("list_reverseiterator", "__length_hint__") from by subst E; decide +kernel];subst E;refine iA (i9 (b:=iC) hit.typeIs (by rw [k6]; kernel_rfl) ?_);refine iG ?_;rw [if_neg (by decide)];refine iG ⟨iR F.plain_extend_loop _,codeAny_extend_loopS W.toS n S k res items.size 0 _ #[] c rfl (br _) st t (ItemsOf.nil _) λs' L U m B r=>?_⟩;rw [Moved.eq_with m];refine u s'.heap s'.toks L U (λb o q g e=>m.heap b o (λh=>?_) e) B r;rcases ac.mp h with x | h;·exact q x
 ·exact g (ap.mp h)
theorem qeo {Q:iB->iF->Prop} (p:A.handled=iw) (g:l≠I) (hit:s.heap.IsRevIter I l ((items.size:Int) - 1)) (hl:s.heap.IsList l items) (n:items.size<=sizeLine)
  (q:∀ h' tk L U,(∀ b o,b≠I->s.heap.get? b=iu o->h'.get? b=iu o)->h'.get? s.heap.objs.size=iu { cls:=.type "list",dict:=iw,data:=.seq L U,slots:=#[] }->lJ (λi v=>items[items.size - 1 - i]?=iu v) L items.size->Q (.ref s.heap.objs.size) { s with heap:=h',toks:=tk }) :
  wpAny (model prog w) A (call (.type "list") [.ref I]) Q E s:=by
 refine callType_codes (Q₁:=λobj d=>obj=.ref s.heap.objs.size/\d={ s with heap:=s.heap.push { cls:=.type "list",data:=.seq #[] } }) PySem.F.called_list (PySem.F.typeCall_list_1 _) PySem.F.entry_list_init
  (code_list_new _ ⟨rfl,rfl⟩) λobj d h₁=>?_
 obtain ⟨rfl,rfl⟩:=h₁;have S:(s.heap.push { cls:=.type "list",data:=.seq #[] }).get? s.heap.objs.size=iu { cls:=.type "list",data:=.seq #[] }:=au _ rfl;obtain ⟨t,f,_⟩:=id hit;obtain ⟨ol,c,_⟩:=id hl;have a:s.heap.objs.size≠I:=cV (aA f);have j:s.heap.objs.size≠l:=cV (aA c);refine ⟨⟨_,S,rfl⟩,PySem.F.args_list_init_2 _ _,?_⟩;show wpAny _ _ (do let old <-Builtin.List.listItems (.ref s.heap.objs.size); Builtin.List.listUpdate (.ref s.heap.objs.size) (λ_=>#[]); letGo old.toList.reverse; bq (.ref s.heap.objs.size) (.ref I) .none) _ _ _;refine iA ?_;unfold Builtin.List.listItems;refine iA (iX S rfl (iG ?_));show wpAny _ _ (updateSeq s.heap.objs.size (λ_=>#[]) >>= λ_=>letGo (#[]:Array iB).toList.reverse >>= λ_=>bq (.ref s.heap.objs.size) (.ref I) .none) _ _ _;refine iA (j8 S rfl ?_);have h:=aS (c6 (λ_=>(#[]:Array iB))) S rfl;have oth:∀ b o,b≠s.heap.objs.size->s.heap.get? b=iu o->((s.heap.push { cls:=.type "list",data:=.seq #[] }).update s.heap.objs.size (c6 (λ_=>(#[]:Array iB)))).get? b=iu o:=
  λb o k e=>(bb _ _ (bo k)).trans (af _ e)
 refine iA (lz ?_);refine qah (A:=A.in1) p g (hit.at λo e=>oth I o a.symm e) (hl.at λo e=>oth l o j.symm e) _ a j .none _ h (λh' tk L U m B r=>?_) n;exact ⟨rfl,q h' tk L U (λb o k e=>m b o (aE (aA e)) k (oth b o (aE (aA e)) e)) B r⟩
end
noncomputable def zA:D->Out D
 | .lst xs=>.ok (.lst xs.reverse)
 | _=>.bad
theorem qep {vs:List V} {its:List iB} {acc:Array iB} (r:Vals vs its) (h:lJ (λi v=>its.toArray[its.toArray.size - 1 - i]?=iu v) acc its.toArray.size):Vals vs.reverse acc.toList:=by
 have e:acc.toList=its.reverse:=by
  apply e7;intro j;have s:acc.size=its.length:=by simpa using h.1
  by_cases G:j < its.length;·have c:acc.toList[j]?=iu (acc.toList[j]'(by rw [bH]; lia)):=aj _;have h2:=h.2 j _ (by rw [<-bR]; exact c);rw [c,List.getElem?_reverse G,<-h2];simp
  ·rw [ck (by rw [bH]; lia),ck (by rw [fC]; lia)]
 rw [e];exact r.reverse
theorem YO {K:Frag} {F:Hp}:∀ {vs:List V} {ds:List D},IsL K F vs ds->IsL K F vs.reverse ds.reverse
 | _,_,.nil=>.nil
 | _,_,.cons h t=>by rw [cC,cC];exact (YO t).append (.cons h .nil)
section
variable {X:Cx} {C:Ct} {own:List Nat} {e:Expr} {fa:je} {ma:Mo} {pos:Pos}
theorem qai {p p2 d:Pos} (T:C.K=X.K) (R:X.calm=iC) (hg:Gl X "list") (P:X.mg "list"=iw) (M:bootBuiltins "list"=iu (.type "list")) (y:Gl X "reversed") (w:X.mg "reversed"=iw) (q:bootBuiltins "reversed"=iu (.type "reversed")) (S:PE X e (tE C own ma fa))
  (G:starEach [e] X.env=[(iE,eval e X.env)]:=by exact qO rfl) (f:starEach [.Call (.Name "reversed" p2) [e] [] d] X.env=[(iE,eval (.Call (.Name "reversed" p2) [e] [] d) X.env)]:=by exact qO rfl) :
  PE X (.Call (.Name "list" p) [.Call (.Name "reversed" p2) [e] [] d] [] pos) (tE C own .fr (d1 zA fa)):=by
 refine ⟨?_⟩;intro pins s σ H Q I h;refine j0 (zc I hg P M ?_ (by decide) (by decide));refine bp ?_ (by rw [f]; rfl) rfl;rw [f];show wpAny _ _ (spliced ((iE,eval (.Call (.Name "reversed" p2) [e] [] d) X.env)::[])) _ _ s;refine d7 ?_;refine j0 (zc I y w q ?_ (by decide) (by decide));refine bp (thn ((qX S jO G) d pins s σ H _ I (ge (ma:=ma) h)) λus s1 ⟨vs,H1,A,r1,L⟩=>?_) (by rw [G]; rfl) rfl;obtain ⟨x,F,dx,rfl,B,tx,po⟩:=L;obtain ⟨u,rfl,J⟩:=xw r1;cases dx with
 | lst ds=>
  obtain ⟨a,vs,rfl,hq,t⟩:=tx.lst B;rw [T] at hq;cases J;obtain ⟨its,D,k,E⟩:=A.list hq;have pl:s1.heap.IsList a its.toArray:=by obtain ⟨o,n,O,U,_,z⟩:=k;exact ⟨o,O,U,n,z⟩
  refine call_reversed_list pl ?_;refine fH ?_;have N:=au (h:=s1.heap) (o:=revObj a ((its.toArray.size:Int) - 1)) ;have j:(s1.heap.push (revObj a ((its.toArray.size:Int) - 1))).IsList a its.toArray:=pl.at λo i=>af _ i;obtain ⟨oa,r,_⟩:=id pl;have v:a≠s1.heap.objs.size:=aE (aA r);refine qeo (s:={ s1 with heap:=s1.heap.push (revObj a ((its.toArray.size:Int) - 1)) }) (I.ok.hd R) v ⟨_,au _ rfl,rfl,rfl⟩ j (by rw [aw,<-D.length]; exact E) λh' tk acc c kp hp hi=>?_;have l:∀ b o,s1.heap.get? b=iu o->h'.get? b=iu o:=λb o i=>kp b o (aE (aA i)) (af _ i);have hsz:(s1.heap.push (revObj a ((its.toArray.size:Int) - 1))).objs.size=s1.heap.objs.size+1:=bS ..;have m:H1 (s1.heap.objs.size+1)=none:=A.hok.fresh (fI _);obtain ⟨s2,c2,f2⟩:=wK (u:=.lst vs.reverse) B m;have hp:h'.get? (s1.heap.objs.size+1)=iu { cls:=.type "list",dict:=iw,data:=.seq acc c,slots:=#[] }:=by rw [<-hsz]; exact hp
  have g:EP X pins σ Q (.ref (s1.heap.objs.size+1)) { s1 with heap:=h',toks:=tk }:=
   ⟨.ref (s1.heap.objs.size+1),_,A.laid (t':=tk) (o:=.lst vs.reverse) l (fI _) ⟨by rw [fC]; exact E,acc.toList,c,qep D hi,by simpa using hp⟩,rfl,po _ _ _ s2 c2 ⟨_,rfl,m,f2,_,qu,YO t⟩⟩
  rw [<-hsz] at g;exact g
 | _=>exact po.elim
end
end L2.D2
namespace L2.D2
open PySem PySem.Spec PyProof.Rows
noncomputable def Uw:D->Out D
 | .lst ds=>match yh ds with
  | some ps=>.ok (.dct (ps.foldl (λl p=>KM l p.1 p.2) []))
  | none=>.bad
 | _=>.bad
variable {X:Cx} {pins:Pns} {σ:St} {s:iF}
section
variable {C:Ct} {F H:Hp}
theorem ZE (n:C.K=X.K) (d:X.calm=iC):Jd X C .fr (.type "dict") Uw:=by
 intro pins s σ H xs us Q I r h;obtain ⟨x,F,dx,rfl,A,tx,po⟩:=h;cases dx <;> try exact po.elim
 exact Zx n d pins s σ H _ us Q I r ⟨x,F,_,rfl,A,tx,po⟩
end
open PySem.SeqAt
open AutoSeq1 (wpAny_loadPart')
open MeetsSeq MeetsSeq2 MeetsSeq3
def RcLtAt (A:iK) (s:iF) (y x:iB) (b:Bool):Prop:=
 ∀ (prog:iH) (w:iI) (E:iB->iF->Prop) (Q:iB->iF->Prop),Q (.bool b) s->wpAny (model prog w) A (richCompare .Lt y x) Q E s
def LtL (A:iK) (s:iF) (k b:Bool):List (iB×iB)->Prop
 | []=>b=k
 | (y,x)::t=>(EqAt A.in1 s y x iC/\LtL A s k b t)\/(EqAt A.in1 s y x iE/\RcLtAt A.in1 s y x b)
theorem qaj (l b:Addr) (items i:Array iB) (n n2:Nat) (dd f:Option Addr) (sl e:Array (Option iB)) (c:Bool):Meets (Builtin.«tuple.__lt__» ⟨[.ref l,.ref b],[]⟩)
   (λA R s=>s.heap.get? l=iu { cls:=.type "tuple",dict:=dd,data:=.seq items n,slots:=sl }/\s.heap.get? b=iu { cls:=.type "tuple",dict:=f,data:=.seq i n2,slots:=e } /\
    LtL A s (decide (items.size < i.size)) c (items.toList.zip i.toList)/\R (.ok (.ret (.bool c))) s):=
 .of_wp λprog w A R s h=>by
  obtain ⟨hp,g,d,tk,os⟩:=s; obtain ⟨hl,k,j,h⟩:=h;have f2:=AutoSeq1.sub_tuple_tuple;wp_walk using j9 hl,j9 k,wpAny_forIn_list _ (λrest b s'=>b.1=iw/\s'=⟨hp,g,d,tk,os⟩/\LtL A ⟨hp,g,d,tk,os⟩ (decide (items.size < i.size)) c rest) _
  case turn=>
   rintro ⟨y,x⟩ rest b s' ⟨a,rfl,z⟩;rcases z with ⟨e1,z⟩ | ⟨e1,z⟩
   ·refine iA (e1 prog w _ _ ?_);wp_walk
    exact ⟨rfl,rfl,z⟩
   ·refine iA (e1 prog w _ _ ?_);refine iA (k8 (iA (z prog w _ _ ?_)));wp_walk
    exact ⟨_,rfl,h⟩
  case fin=>
   rintro ⟨o,m⟩ s' ⟨a,rfl,z⟩;simp only at a;subst a;have z:c=_:=z;subst z;wp_walk
   exact ⟨_,rfl,by simpa [Builtin.Tuple.tupleCompareSizes] using h⟩
  case h=>
   exact ⟨rfl,rfl,j⟩
variable {A:iK}
theorem RcLtAt.tuples {l b:Addr} {items i:Array iB} {c:Bool} (hl:s.heap.IsTuple l items) (p:s.heap.IsTuple b i) (u:A.units < cLine)
  (m:LtL A s (decide (items.size < i.size)) c (items.toList.zip i.toList)):RcLtAt A s (.ref l) (.ref b) c:=λprog w E Q h=>by
 obtain ⟨⟨cls,dd,data,sl⟩,o,j,n,hd⟩:=id hl;obtain ⟨⟨k,f,g,e⟩,a,d,n2,hd2⟩:=id p;simp only at j hd d hd2;subst j hd d hd2;exact richCompare_meets_room (op:=.Lt) ⟨_,o,rfl⟩ ⟨_,a,rfl⟩ F.slot_tuple_lt F.entry_tuple_lt (F.args_tuple_lt_2 _ _) (qaj l b items i n n2 dd f sl e c)
  ⟨o,a,m,show dB c≠Value.notImplemented/\Q (.bool c) s from ⟨(λx=>nomatch x),h⟩⟩ u
noncomputable def qeq (f g:D->D->Option Bool):List D->List D->Option Bool
 | x::xs,y::ys=>(f x y).bind λa=>if a then qeq f g xs ys else g x y
 | [],y::ys=>iu iC
 | _,[]=>iu iE
noncomputable def ltN:Nat->D->D->Option Bool
 | n+1,.tup xs,.tup ys=>qeq (eqN n) (ltN n) xs ys
 | _,.int i,.int j=>iu (decide (i < j))
 | _,_,_=>iw
section
variable {F H:Hp}
theorem qjh {A:iK} {n:Nat} {b:Bool}
  (i1:∀ {v w:V} {d e:D} {u t:iB} {b:Bool},Is X.K F v d->Is X.K F w e->RelV v u->RelV w t->eqN n d e=iu b->EqAt A.in1 s u t b)
  (i2:∀ {v w:V} {d e:D} {u t:iB} {b:Bool},Is X.K F v d->Is X.K F w e->RelV v u->RelV w t->ltN n d e=iu b->RcLtAt A.in1 s u t b) :
  ∀ {xs ys:List V} {us ws:List iB} {ds es:List D},Vals xs us->Vals ys ws->IsL X.K F xs ds->IsL X.K F ys es->qeq (eqN n) (ltN n) ds es=iu b->LtL A s (decide (us.length < ws.length)) b (us.zip ws):=by
 intro xs
 induction xs with
 | nil=>
  intro ys us ws ds es r1 r2 a j h;cases r1;cases a;cases j with
  | nil=>cases r2; simp [qeq] at h; simp [LtL,h]
  | cons _ _=>cases r2; simp [qeq] at h; simp [LtL,h]
 | cons x xs i=>
  intro ys us ws ds es r1 r2 a j h;cases r1 with
  | cons m r1=>
  cases a with
  | cons f a=>
  cases j with
  | nil=>cases r2; simp [qeq] at h; simp [LtL,h]
  | cons c j=>
   cases r2 with
   | cons g r2=>
    rename_i u us d ds _ _ _ _ w ws;unfold qeq at h;cases q:eqN n d _ with
    | none=>rw [q] at h; simp at h
    | some k=>
     rw [q] at h;cases k with
     | true=>have z:=i r1 r2 a j (by simpa using h);refine .inl ⟨i1 f c m g q,?_⟩;rw [show decide ((u::us).length < (w::ws).length)=decide (us.length < ws.length) by simp];exact z
     | false=>exact .inr ⟨i1 f c m g q,i2 f c m g (by simpa using h)⟩
theorem qer {A:iK} {n:Nat} {a c:Addr} {xs ys:List V} {ds es:List D} {b:Bool} (I:Inv X pins σ H s)
  (i1:∀ {v w:V} {d e:D} {u t:iB} {b:Bool},Is X.K F v d->Is X.K F w e->RelV v u->RelV w t->eqN n d e=iu b->EqAt A.in1 s u t b)
  (i2:∀ {v w:V} {d e:D} {u t:iB} {b:Bool},Is X.K F v d->Is X.K F w e->RelV v u->RelV w t->ltN n d e=iu b->RcLtAt A.in1 s u t b)
  (p1:SqT X.K H a xs) (p2:SqT X.K H c ys) (i:IsL X.K F xs ds) (j:IsL X.K F ys es) (h:ltN (n+1) (.tup ds) (.tup es)=iu b) (k:A.units < cLine):RcLtAt A s (.ref a) (.ref c) b:=by
 obtain ⟨us,r1,g,_⟩:=I.tuple p1;obtain ⟨ws,r2,f,_⟩:=I.tuple p2;exact RcLtAt.tuples g f k (by simpa using qjh i1 i2 r1 r2 i j h)
theorem Vo {i j:Int} {t u:Tok}:RcLtAt A s (.int i t) (.int j u) (decide (i < j)):=λprog w E Q h=>wpAny_lt_int h
theorem qji (I:Inv X pins σ H s) (a:Same F H):∀ (n:Nat) {A:iK} {v w:V} {d e:D} {u t:iB} {b:Bool},A.units+n < cLine->Is X.K F v d->Is X.K F w e->RelV v u->RelV w t->ltN n d e=iu b->RcLtAt A s u t b:=by
 intro n
 induction n with
 | zero=>
  intro A v w d e u t b l h1 h2 r c h;cases d <;> try (cases h; done)
  cases e <;> try (cases h; done)
  cases h1;cases h2;obtain ⟨_,rfl⟩:=r;obtain ⟨_,rfl⟩:=c;cases h;exact Vo
 | succ n i=>
  intro A v w d e u t b l h1 h2 r c h;cases d <;> try (cases h; done)
  ·cases e <;> try (cases h; done)
   cases h1;cases h2;obtain ⟨_,rfl⟩:=r;obtain ⟨_,rfl⟩:=c;cases h;exact Vo
  ·cases e <;> try (cases h; done)
   cases h1 with
   | tup p1 g=>
   cases h2 with
   | tup p2 f=>
    cases r;cases c;have j:A.in1.units+n < cLine:=by show A.units+1+n < cLine; lia
    exact qer I (λm k z y q=>Ze I a n j m k z y q) (λm k z y q=>i j m k z y q) (qW a p1) (qW a p2) g f h (by lia)
end
end L2.D2
namespace L2.D2
open PySem PySem.Spec PyProof.Rows
open PySem.SeqAt
variable {prog:iH} {w:iI} {A:iK}
section
variable {R:lH->iF->Prop} {I:Addr} {fp wr:List Addr} {G:Array lA->Array lA->Prop} {n:Nat} {P:Nat->iB->Prop} {St:Nat->iF->Prop}
abbrev ql7 (vs:Array iB) (c:Nat):Obj:={ cls:=.type "list",dict:=iw,data:=.seq vs c,slots:=#[] }
theorem qes (W:WalksS prog w A.in1 I fp wr G n P St) (bt:Nat->Nat->Bool) (S:Addr) (L:S∉fp) (K:iF->Prop) (z:∀ s s',K s->Moved (S::wr) G s s'->K s')
  (H:∀ i j X U (s:iF) (Q:iB->iF->Prop) (E:iB->iF->Prop),K s->P i X->P j U->Q (.bool (bt i j)) s->wpAny (model prog w) A.in1 (richCompare .Lt X U) Q E s) :
  ∀ (k j:Nat) (s:iF) (l:iB) (c:Nat),n - (j+1)=k->j+1<=n->St (j+1) s->P (argBest bt j) l->K s->s.heap.get? S=iu (ql7 #[l,l] c) ->
  (∀ v s',P (argBest bt (n - 1)) v->Moved (S::wr) G s s'->R (.ok (.ret v)) s')->codeAny (model prog w) A (.builtin "min.loop" ⟨[.ref I,.none,.ref S],[]⟩) R s:=by
 have J:S∉wr:=λh=>L (W.sub _ h);have up:∀ b∈wr,b∈S::wr:=λb g=>aa _ g;have a:(toString "min"++toString ".loop":String) = "min.loop":=by decide
 have Y:∀ {b:Addr},b∉S::wr->S≠b:=λg h=>g (by rw [h]; exact ae);intro k
 induction k with
 | zero=>
  intro j s l c hk hj t m y M O;have D:j+1=n:=by omega
  refine iM fS ?_;rw [aY cM _];show wpAny _ A.in1 (seqItems? (.ref S) >>= _) _ _ s;refine iA (iX M rfl ?_);show wpAny _ A.in1 (tryCatch (pyNext (.ref I)) _ >>= _) _ _ s;refine iA (lb (W.done s _ _ (D ▸ t) λs' r=>?_));have B:=r.heap S _ J M;show wpAny _ A.in1 (updateSeq S (λ_=>#[]) >>= _) _ _ _;refine iA (j8 B rfl (iA (lz (iG ?_))));exact O l _ (by rw [<-D]; exact m) ((r.mono up).then_heap (tk:=s'.toks) (aB _) λb o g e=>(bb _ _ (Y g)).trans e)
 | succ k Z=>
  intro j s l c hk hj t m y M O;have u:j+1 < n:=by omega
  refine iM fS ?_;rw [aY cM _];show wpAny _ A.in1 (seqItems? (.ref S) >>= _) _ _ s;refine iA (iX M rfl ?_);show wpAny _ A.in1 (tryCatch (pyNext (.ref I)) _ >>= _) _ _ s;refine iA (lb (W.item (j+1) s _ _ u t λv s' F p r=>?_));have B:=r.heap S _ J M;have N:=z s s' y (r.mono up);show wpAny _ A.in1 (tryCatch (holding [v,v] (richCompare .Lt v l >>= _)) _ >>= _) _ _ _;refine iA (lb (iN (iA (H (j+1) (argBest bt j) v l _ _ _ N F m ?_))));refine iA (iN (iU ?_));refine iA (lz (iG ?_));cases g:bt (j+1) (argBest bt j) with
  | true=>
   simp only [if_true];refine iA (j8 B rfl (iA (lz ?_)));rw [a];have C:∀ f:Obj->Obj,Moved (S::wr) G s { s' with heap:=s'.heap.update S f,toks:=s'.toks }:=λf=>(r.mono up).then_heap (tk:=s'.toks) (aB _) λb o g e=>(bb _ _ (Y g)).trans e;refine iG ⟨iR cM _,Z (j+1) _ v _ (by omega) u (W.frame _ s' _ s'.toks p (aB _) λb T o e=>?_) (by simp only [argBest,g,if_true]; exact F) (z _ _ y (C _)) (aS _ B rfl)
    λV q x d=>O V q x (g7 W.gtrans (C _) d)⟩
   exact (bb _ _ (λh:S=b=>L (by rw [h]; exact T))).trans e
  | false=>
   simp only [fF,if_false];refine iA (lz ?_);rw [a];exact iG ⟨iR cM _,Z (j+1) _ l c (by omega) u p (by simp only [argBest,g,fF,if_false]; exact m) N B λV q x d=>
    O V q x (g7 W.gtrans (r.mono up) d)⟩
theorem qbX (W:WalksS prog w A.in1 I fp wr G n P St) (bt:Nat->Nat->Bool) (S:Addr) (d:S∉fp) (q:0 < n) (K:iF->Prop) (z:∀ s s',K s->Moved (S::wr) G s s'->K s')
  (H:∀ i j X U (s:iF) (Q:iB->iF->Prop) (E:iB->iF->Prop),K s->P i X->P j U->Q (.bool (bt i j)) s->wpAny (model prog w) A.in1 (richCompare .Lt X U) Q E s)
  {s:iF} {c:Nat} (t:St 0 s) (y:K s) (u:s.heap.get? S=iu (ql7 #[] c))
  (C:∀ v s',P (argBest bt (n - 1)) v->Moved (S::wr) G s s'->R (.ok (.ret v)) s'):codeAny (model prog w) A (.builtin "min.loop" ⟨[.ref I,.none,.ref S],[]⟩) R s:=by
 have J:S∉wr:=λh=>d (W.sub _ h);have up:∀ b∈wr,b∈S::wr:=λb m=>aa _ m;have a:(toString "min"++toString ".loop":String) = "min.loop":=by decide
 have Y:∀ {b:Addr},b∉S::wr->S≠b:=λm h=>m (by rw [h]; exact ae);refine iM fS ?_;rw [aY cM _];show wpAny _ A.in1 (seqItems? (.ref S) >>= _) _ _ s;refine iA (iX u rfl ?_);show wpAny _ A.in1 (tryCatch (pyNext (.ref I)) _ >>= _) _ _ s;refine iA (lb (W.item 0 s _ _ q t λv s' D g r=>?_));have B:=r.heap S _ J u;show wpAny _ A.in1 (updateSeq S (λ_=>#[v,v]) >>= _) _ _ _;refine iA (j8 B rfl ?_);rw [a];have k:∀ f:Obj->Obj,Moved (S::wr) G s { s' with heap:=s'.heap.update S f,toks:=s'.toks }:=λf=>(r.mono up).then_heap (tk:=s'.toks) (aB _) λb o m e=>(bb _ _ (Y m)).trans e;refine iG ⟨iR cM _,qes W bt S d K z H _ 0 _ v _ rfl q (W.frame _ s' _ s'.toks g (aB _) λb T o e=>?_) D (z _ _ y (k _)) (aS _ B rfl) λV p x l=>C V p x (g7 W.gtrans (k _) l)⟩;exact (bb _ _ (λh:S=b=>d (by rw [h]; exact T))).trans e
end
section
variable {E:iB->iF->Prop} {s:iF}
theorem qet {l:Addr} {items:Array iB} {bt:Nat->Nat->Bool} {Q:iB->iF->Prop} (r:A.handled=iw) (hl:s.heap.IsList l items) (k:0 < items.size)
  (H:∀ i j X U (h':Heap) (tk:Nat) (Q:iB->iF->Prop) (E:iB->iF->Prop),(∀ b o,s.heap.get? b=iu o->h'.get? b=iu o)->items[i]?=iu X->items[j]?=iu U->Q (.bool (bt i j)) { s with heap:=h',toks:=tk }->wpAny (model prog w) A.in1 (richCompare .Lt X U) Q E { s with heap:=h',toks:=tk })
  (h:∀ v h' tk,items[argBest bt (items.size - 1)]?=iu v->(∀ b o,s.heap.get? b=iu o->h'.get? b=iu o)->Q v { s with heap:=h',toks:=tk }) :
  wpAny (model prog w) A (call (.builtin "min") [.ref l]) Q E s:=by
 have t:l < s.heap.objs.size:=by obtain ⟨_,e,_⟩:=hl; exact aA e
 have d:(toString "min"++toString ".loop":String) = "min.loop":=by decide
 refine call_function_tree F.kind_min F.plain_min F.entry_min (F.args_min1 _) ?_;show wpAny _ A.in1 (Builtin.Builtins.bindParams "min" ["key", "default"] 0 ⟨[],[]⟩ >>= _) _ _ s;refine iA (lu (show Builtin.Builtins.bindParams "min" ["key", "default"] 0 ⟨[],[]⟩=pure [iw,iw] from rfl) ?_);refine iA (iG ?_);refine iA (la hl ?_);refine iA (iJ ?_);rw [d];have g:(s.heap.push { cls:=.type "list_iterator",data:=.fields #[.ref l,.int 0 0] }).objs.size=s.heap.objs.size+1:=bS ..;refine iG ⟨iR cM _,qbX ((ir (A:=A.in1) r s.heap.objs.size l (aE t) items).toS) bt _ ?_ k (λs'=>∃ h' tk,s'={ s with heap:=h',toks:=tk }/\∀ b o,s.heap.get? b=iu o->h'.get? b=iu o) ?_ ?_ ?_ ?_ (au _ rfl) ?_⟩
 ·intro z;simp only [ac,ba,or_false] at z;rw [g] at z;have t:@LT.lt Nat _ l s.heap.objs.size:=t;rcases z with z | z
  ·have z:@Eq Nat _ _:=z
   lia
  ·have z:@Eq Nat _ _:=z
   lia
 ·rintro _ s2 ⟨h1,p,rfl,k1⟩ c;obtain ⟨h',g',d',f,a⟩:=s2;have m:g'=s.gens:=c.gens;have n:d'=s.drawn:=c.drawn;have u:a=s.os:=c.os;subst m n u;refine ⟨h',f,rfl,λb o e=>c.heap b o (λz=>?_) (k1 b o e)⟩;have x:@LT.lt Nat _ b s.heap.objs.size:=aA e;simp only [ac,ba,or_false] at z;rw [g] at z;rcases z with z | z
  ·have z:@Eq Nat _ _:=z
   lia
  ·have z:@Eq Nat _ _:=z
   lia
 ·rintro i j X U _ y B ⟨h1,p,rfl,k1⟩ p1 p2 q;exact H i j X U h1 p y B k1 p1 p2 q
 ·refine ⟨?_,?_⟩;·exact ⟨_,af _ (au _ rfl),rfl,rfl⟩
  ·exact (hl.push _).push _
 ·exact ⟨_,_,rfl,λb o e=>af _ (af _ e)⟩
 ·rintro v s2 p1 c;obtain ⟨h',g',d',f,a⟩:=s2;have m:g'=s.gens:=c.gens;have n:d'=s.drawn:=c.drawn;have u:a=s.os:=c.os;subst m n u;refine h v h' f p1 λb o e=>c.heap b o (λz=>?_) (af _ (af _ e));have x:@LT.lt Nat _ b s.heap.objs.size:=aA e;simp only [ac,ba,or_false] at z;rw [g] at z;rcases z with z | z
  ·have z:@Eq Nat _ _:=z
   lia
  ·have z:@Eq Nat _ _:=z
   lia
end
noncomputable def ltZ:List Int->List Int->Bool
 | x::xs,y::ys=>if x=y then ltZ xs ys else decide (x < y)
 | [],_::_=>iC
 | _,[]=>iE
theorem Ux (k:Nat):∀ a b:List Int,qeq (eqN k) (ltN k) (a.map D.int) (b.map D.int)=iu (ltZ a b)
 | [],[]=>rfl
 | [],_::_=>rfl
 | _::_,[]=>rfl
 | x::a,y::b=>by
  have j:=Ux k a b;have e:eqN k (.int x) (.int y)=iu (decide (x=y)):=by cases k <;> (by_cases q:x=y <;> simp [eqN,eqS,q])
  have i:ltN k (.int x) (.int y)=iu (decide (x < y)):=by cases k <;> simp [ltN]
  simp only [aD,qeq,j,e,i,ltZ];by_cases q:x=y <;> simp [q]
noncomputable def Ko:List D->Option (List (List Int))
 | []=>iu []
 | .tup ds::l=>(Jt ds).bind λt=>(Ko l).map (t::·)
 | _::_=>iw
theorem ZF:∀ {ds:List D} {l:List Int},Jt ds=iu l->ds=l.map D.int
 | [],l,h=>by cases h; rfl
 | d::ds,l,h=>by
  cases d with
  | int x=>
   have h:(Jt ds).map (x::·)=iu l:=h;cases q:Jt ds with
   | none=>rw [q] at h; cases h
   | some m=>rw [q] at h;cases h;rw [ZF q];rfl
  | _=>cases h
theorem ZG:∀ {ds:List D} {T:List (List Int)},Ko ds=iu T->ds=T.map λt=>.tup (t.map D.int)
 | [],T,h=>by cases h; rfl
 | d::ds,T,h=>by
  cases d with
  | tup es=>
   have h:((Jt es).bind λt=>(Ko ds).map (t::·))=iu T:=h;cases q:Jt es with
   | none=>rw [q] at h; cases h
   | some t=>
    cases a:Ko ds with
    | none=>rw [q,a] at h; cases h
    | some U=>rw [q,a] at h;cases h;rw [ZG a,ZF q];rfl
  | _=>cases h
noncomputable def YQ (t:List Int) (ts:List (List Int)):List Int:=ts.foldl (λb t=>if ltZ t b then t else b) t
noncomputable def qeu:D->Out D
 | .lst ds=>(match Ko ds with
  | some (t::ts)=>.ok (.tup ((YQ t ts).map D.int))
  | _=>.bad)
 | _=>.bad
noncomputable def btZ (T:List (List Int)) (i j:Nat):Bool:=ltZ (T.getD i []) (T.getD j [])
theorem qbY (t:List Int) (ts:List (List Int)):∀ k,k<=ts.length->(t::ts).getD (argBest (btZ (t::ts)) k) []=YQ t (ts.take k)
 | 0,_=>rfl
 | k+1,h=>by
  have j:=qbY t ts k (by lia);have a:k < ts.length:=by lia
  have e:ts.take (k+1)=ts.take k++[ts[k]]:=by rw [List.take_add_one,aj a]; rfl
  have i:(t::ts).getD (k+1) []=ts[k]:=by rw [List.getD_eq_getElem?_getD,dq,aj a]; rfl
  rw [e];unfold YQ at j ⊢;rw [eZ,<-j];show (t::ts).getD (if btZ (t::ts) (k+1) (argBest (btZ (t::ts)) k) then k+1 else argBest (btZ (t::ts)) k) []=if ltZ ts[k] ((t::ts).getD (argBest (btZ (t::ts)) k) []) then ts[k] else (t::ts).getD (argBest (btZ (t::ts)) k) []
  rw [show btZ (t::ts) (k+1) (argBest (btZ (t::ts)) k)=ltZ ts[k] ((t::ts).getD (argBest (btZ (t::ts)) k) []) by unfold btZ; rw [i]];by_cases q:ltZ ts[k] ((t::ts).getD (argBest (btZ (t::ts)) k) [])=iC;·rw [if_pos q,if_pos q,i]
  ·rw [if_neg q,if_neg q]
theorem qhd {X:Cx} {C:Ct} (J:C.K=X.K) (R:X.calm=iC) (Y:X.A.units+64 < cLine):Jd X C .sh (.builtin "min") qeu:=by
 intro pins s σ H xs us Q I r h;obtain ⟨x,F,dx,rfl,g,tx,po⟩:=h;cases dx with
 | lst ds=>
  obtain ⟨u,rfl,O⟩:=xw r;obtain ⟨a,vs,rfl,hq,l⟩:=tx.lst g;cases O;rw [J] at hq l;obtain ⟨its,E,k,W⟩:=I.list hq;have pl:s.heap.IsList a its.toArray:=by obtain ⟨o,n,P,U,_,w⟩:=k;exact ⟨o,P,U,n,w⟩
  have po:PoV C .sh F H (match Ko ds with | some (t::ts)=>.ok (.tup ((YQ t ts).map D.int)) | _=>.bad) Q:=po
  match e:Ko ds with
  | none=>rw [e] at po; exact po.elim
  | some []=>rw [e] at po; exact po.elim
  | some (t::ts)=>
   rw [e] at po;have f:=ZG e;have G:its.length=ts.length+1:=by rw [<-E.length,l.length,f]; simp
   have b:∀ i v,its[i]?=iu v->∃ x,vs[i]?=iu x/\RelV x v/\Is X.K F x (.tup (((t::ts).getD i []).map D.int)):=λi v p=>by
    have hi:i < its.length:=(aC.mp p).1;obtain ⟨x,ex,N⟩:=Vals.getE E hi;obtain ⟨d,y,m⟩:=l.get ex;rw [aj hi] at p;cases p;refine ⟨x,ex,N,?_⟩;rw [f,aF] at y;have c:i < (t::ts).length:=by rw [aq]; lia
    rw [aj c] at y;cases y;rw [List.getD_eq_getElem?_getD,aj c];exact m
   refine qet (bt:=btZ (t::ts)) (I.ok.hd R) pl (by rw [aw,G]; lia) (λi j M L h' tk Z E' kp T S q=>?_) λv h' tk ev kp=>?_;·obtain ⟨B,_,r1,i1⟩:=b i M (by simpa using T);obtain ⟨V,_,r2,i2⟩:=b j L (by simpa using S);have z:Inv X pins σ H { s with heap:=h',toks:=tk }:=I.kept kp;exact qji z g 7 (by show X.A.units+1+7 < cLine; lia) i1 i2 r1 r2 (Ux 6 _ _) _ _ _ _ q
   ·have z:Inv X pins σ H { s with heap:=h',toks:=tk }:=I.kept kp;obtain ⟨B,_,r1,i1⟩:=b _ v (by simpa using ev);rw [G,Nat.add_sub_cancel,qbY t ts _ (aB _),dN] at i1;exact ⟨B,H,z,r1,po _ F H g .refl (by rw [J]; exact i1)⟩
 | _=>exact po.elim
end L2.D2
namespace L2.D2
open PySem PySem.Spec PyProof.Rows
open AutoSeq1 (wpAny_loadPart')
theorem qbZ (l:Addr) (items:Array iB) (n:Nat) (dct:Option Addr) (sl:Array (Option iB)):Meets (Builtin.«enumerate.__new__» ⟨[.type "enumerate",.ref l],[]⟩) (λ_ R s=>s.heap.get? l=iu { cls:=.type "tuple",dict:=dct,data:=.seq items n,slots:=sl } /\
   R (.ok (.ret (.ref (s.heap.push { cls:=.type "tuple_iterator",data:=.fields #[.ref l,.int 0 0] }).objs.size)))
    { s with heap:=(s.heap.push { cls:=.type "tuple_iterator",data:=.fields #[.ref l,.int 0 0] }).push { cls:=.type "enumerate",data:=.fields #[.none,.bool iE,.ref s.heap.objs.size,rawInt 0,.none,.none] } }):=
 .of_wp λprog w A R s h=>by
  obtain ⟨hp,g,d,tk,os⟩:=s; obtain ⟨hl,h⟩:=h;have b:=sub_enumerate;have a:Heap.IsTuple (Shared.heap ⟨hp,g,d,tk,os⟩) l items:=⟨_,hl,rfl,n,rfl⟩
  wp_walk using j9 hl
  refine wpAny_stack_any λst=>iG ?_;split
  ·rename_i c _ _ _ _ _;cases (c == h7 "enumerate")
   ·wp_walk using j9 hl,j5 a
    exact ⟨_,rfl,h⟩
   ·wp_walk using j9 hl,j5 a
    exact ⟨_,rfl,h⟩
  ·wp_walk using j9 hl,j5 a
   exact ⟨_,rfl,h⟩
variable {s:iF} {l:Addr} {items:Array iB}
theorem xz {prog:iH} {w:iI} {A:iK} {E:iB->iF->Prop} {Q:iB->iF->Prop} (a:s.heap.IsTuple l items)
  (h:∀ h',IsEnum h' (s.heap.objs.size+1) s.heap.objs.size 0 .none->h'.IsTupleIter s.heap.objs.size l 0->h'.objs.size=s.heap.objs.size+2 ->(∀ b o,s.heap.get? b=iu o->h'.get? b=iu o)->Q (.ref (s.heap.objs.size+1)) { s with heap:=h' }) :
  wpAny (model prog w) A (call (.type "enumerate") [.ref l]) Q E s:=by
 obtain ⟨⟨c,dct,t,sl⟩,hl,d,n,hd⟩:=a;replace d:c=.type "tuple":=d;replace hd:t=.seq items n:=hd;subst d hd;refine callType_new F.called_enumerate (by decide) (F.typeCall_enumerate_1 _) (F.newCall_enumerate_1 _) (λobj=>F.args_object_init_2 obj _) F.entry_enumerate_new (qbZ l items n dct sl) ⟨hl,?_⟩;have z:(s.heap.push { cls:=.type "tuple_iterator",data:=.fields #[.ref l,.int 0 0] }).objs.size=s.heap.objs.size+1:=bS ..;show _/\_;rw [z];have i:IsEnum ((s.heap.push { cls:=.type "tuple_iterator",data:=.fields #[.ref l,.int 0 0] }).push { cls:=.type "enumerate",data:=.fields #[.none,.bool iE,.ref s.heap.objs.size,rawInt 0,.none,.none] }) (s.heap.objs.size+1) s.heap.objs.size 0 .none:=by have:=au (s.heap.push { cls:=.type "tuple_iterator",data:=.fields #[.ref l,.int 0 0] }) (o:={ cls:=.type "enumerate",data:=.fields #[.none,.bool iE,.ref s.heap.objs.size,rawInt 0,.none,.none] }) rfl;rw [z] at this; exact this
 exact ⟨⟨_,i,rfl⟩,h _ i ⟨_,af _ (au _ rfl),rfl,rfl⟩ (by rw [bS,z]) λb o x=>af _ (af _ x)⟩
theorem qak {prog:iH} {w:iI} {A:iK} {E:iB->iF->Prop} {k:SK} {Q:iB->iF->Prop} (L:SeqK s.heap l k items)
  (h:∀ h',IsEnum h' (s.heap.objs.size+1) s.heap.objs.size 0 .none->ItK h' s.heap.objs.size l k 0->(∀ b o,s.heap.get? b=iu o->h'.get? b=iu o)->Q (.ref (s.heap.objs.size+1)) { s with heap:=h' }) :
  wpAny (model prog w) A (call (.type "enumerate") [.ref l]) Q E s:=by
 cases k with
 | l=>exact call_enumerate_list L λh' a b _ c=>h h' a b c
 | t=>exact xz L λh' a b _ c=>h h' a b c
variable {K:Frag} {a:Addr} {xs:List V}
theorem ZH {H H':Hp} (e:Same H H'):∀ {k:SK},SqK K H a k xs->SqK K H' a k xs
 | .l,p=>e.seq p
 | .t,p=>qW e p
noncomputable def qkr (k:SK) (K:Frag) (a:Addr) (xs:List V):It:=
 ⟨λi H=>i < xs.length/\SqK K H a k xs,λi H v H'=>∃ x p,xs[i]?=iu x/\H p=iw/\v=.ref p/\H'=upd H p (.tup [.int (i:Nat),x]),λi H=>xs.length<=i/\SqK K H a k xs⟩
theorem qal {P:iH} {w:iI} {K:Frag} {k:SK} {y:List Expr} {B} {pos:Pos} (b a:Nat) (xs:List V) (h1:a < b):Turn P w K (.Tuple y B pos) (qkr k K a xs) [b+1,b] (b+1) (λi h=>(∃ old,IsEnum h (b+1) b i old)/\ItK h b a k i/\i<=xs.length) where
 mem:=by simp
 obj:=λi h st c d=>by
  obtain ⟨⟨old,g⟩,hit,S⟩:=st;obtain ⟨o,t,l,hd⟩:=hit.obj;simp only [ac,ba,or_false] at d;rcases d with rfl | rfl;·exact ⟨_,g,λv z=>by cases z⟩
  ·exact ⟨o,t,λv z=>by rw [hd] at z; cases z⟩
 keep:=λi h h' st k=>by obtain ⟨⟨old,g⟩,hit,S⟩:=st;obtain ⟨o,t,l,hd⟩:=hit.obj;exact ⟨⟨old,k _ (by simp) _ g⟩,.of ⟨o,k _ (by simp) _ t,l,hd⟩,S⟩
 item:=by
  intro X M G N d i pins s σ H E I u st hg;subst M G N;obtain ⟨⟨old,g⟩,hit,S⟩:=st;obtain ⟨hl,q⟩:=hg;obtain ⟨its,F,n,r,e0,R,_,Q,_⟩:=Uk I q;have pl:=SeqK.of e0 Q R;have hi:i < its.length:=by rw [<-r.length]; exact hl
  have hx:its.toArray[i]?=iu its[i]:=by simp [hi]
  have J:a≠b:=aE h1;refine wpAny_pyNext_enum_itemD (qfx (A:=X.A.in1) (I.ok.hd d) k b a J its.toArray) g ⟨hit,pl⟩ (by simpa using hi) (Nat.succ_ne_self b) (by
   intro z;simp only [ac,ba,or_false] at z;have h1:@LT.lt Nat _ a b:=h1;rcases z with z | z
   ·have z:@Eq Nat _ _:=z
    lia
   ·have z:@Eq Nat _ _:=z
    lia) λB h' tk f eo D Y hz kp=>?_
  have O:B=its[i]:=by have f:its.toArray[i]?=iu B:=f;rw [hx] at f;exact (aI.inj f).symm
  subst O;refine ⟨_,rfl,wpAny_letOwnedTupleGo_enum eo λhq e2 p=>?_⟩;obtain ⟨x,ex,Z⟩:=qbG r (aj hi);have hT:H s.heap.objs.size=none:=I.hok.fresh (aB _);have C:b+1 < s.heap.objs.size:=aA g;have T:∀ c∈[b+1,b],c≠s.heap.objs.size:=λc d=>by
   simp only [ac,ba,or_false] at d;have lt':b+1 < s.heap.objs.size:=C;generalize s.heap.objs.size=m at lt';intro z
   lia
  have I1:Inv X pins σ (upd H s.heap.objs.size (.tup [.int (i:Nat),x])) { s with heap:=s.heap.push { cls:=.type "tuple",data:=.seq #[.int i tk,its[i]] } }:=
   I.laid (t':=s.toks) (λ_ _ e=>af _ e) (aB _) ⟨⟨by simp only [aq,bj]; rw [iL]; decide,_,au _ rfl,rfl⟩,[.int i tk,its[i]],.cons ⟨_,rfl⟩ (.cons Z .nil),⟨_,au _ rfl,rfl,_,rfl⟩⟩
  have I2:Inv X pins σ (upd H s.heap.objs.size (.tup [.int (i:Nat),x])) { s with heap:=hq,toks:=tk+1 }:=by
   refine qbF (s:={ s with heap:=s.heap.push { cls:=.type "tuple",data:=.seq #[.int i tk,its[i]] } }) (ch:=[b+1,b]) I1 (λc o j e=>?_) λc d=>⟨by rw [qA (T c d)]; exact (u c d).1,(u c d).2⟩
   simp only [ac,ba,or_false,not_or] at j;rw [p.2 c j.1];by_cases U:c=s.heap.objs.size;·subst U;have W:(s.heap.push ({ cls:=.type "tuple",data:=.seq #[.int i tk,its[i]] }:Obj)).get? s.heap.objs.size=iu { cls:=.type "tuple",data:=.seq #[.int i tk,its[i]] }:=au _ rfl;rw [show (s.heap.push ({ cls:=.type "tuple",data:=.seq #[.int i tk,its[i]] }:Obj)).get? s.heap.objs.size=iu o from e] at W;rw [W];exact Y
   ·have e4:s.heap.get? c=iu o:=by have:=e;rwa [show (s.heap.push ({ cls:=.type "tuple",data:=.seq #[.int i tk,its[i]] }:Obj)).get? c=s.heap.get? c from Heap.get?_push_ne _ _ _ U] at this
    exact kp c o j.1 j.2 e4
  refine ⟨.ref s.heap.objs.size,_,I2,rfl,⟨x,_,ex,hT,rfl,rfl⟩,⟨⟨_,by simpa using e2⟩,?_,hl⟩,λc d=>by rw [qA (T c d)]; exact (u c d).1⟩;obtain ⟨o,t,l,hd⟩:=D.1.obj;exact .of ⟨o,(p.2 _ (Nat.succ_ne_self b).symm).trans t,l,hd⟩
 done:=by
  intro X M G N d i pins s σ H E I u st hg;subst M G N;obtain ⟨⟨old,g⟩,hit,S⟩:=st;obtain ⟨hl,q⟩:=hg;obtain ⟨its,F,n,r,e0,R,_,Q,_⟩:=Uk I q;have pl:=SeqK.of e0 Q R;have L:i=its.toArray.size:=by rw [aw,<-r.length];exact fY S hl
  subst L;refine wpAny_pyNext_enum_endD (qfx (A:=X.A.in1) (I.ok.hd d) k b a (aE h1) its.toArray) g ⟨hit,pl⟩ λh' ex=>⟨rfl,qbF (t':=s.toks) (ch:=[b+1,b]) I (λc o j e=>?_) u⟩
  simp only [ac,ba,or_false,not_or] at j;exact ex c o j.2 e
 self:=λ_ _ _ _ _ st h=>wpAny_pyIter_enum st.1.choose_spec h
noncomputable def qb0 (f:je):uV:=λρ=>(f ρ).bind λp=>match p.1 with
 | .tup xs=>.ok (Js xs,p.2)
 | _=>.bad
theorem qb1 {k:SK} {F:Hp} {ds:List D} (p:SqK K F a k xs) (t:IsL K F xs ds):ItIs K F (qkr k K a xs) (Js ds) where
 go:=λi H hi s=>by unfold Js at hi;rw [ax,List.length_zipIdx] at hi;exact ⟨by rw [t.length]; exact hi,ZH s p⟩
 yld:=λi Fi H v H' d e s1 s2 y=>by
  obtain ⟨x,q,hx,n,rfl,rfl⟩:=y;obtain ⟨d1,e1,i1⟩:=t.get hx;have o:d=.tup [.int (i:Nat),d1]:=by unfold Js at e;rw [aF,List.getElem?_zipIdx,e1] at e;simpa using e.symm
  subst o;obtain ⟨g1,Y⟩:=xN (u:=.tup [.int (i:Nat),x]) s2 n;exact ⟨_,Y,g1,.tup (.of qu) (.cons (.int _) (.cons ((i1.mono s1).mono Y.grow) .nil))⟩
 stop:=λi H hi s=>by unfold Js at hi;rw [ax,List.length_zipIdx] at hi;exact ⟨by rw [t.length]; exact hi,ZH s p⟩
section
variable {X:Cx} {C:Ct} {own:List Nat} {a:Expr} {fa:je} {ma:Mo} {pos:Pos}
theorem ZI {k:SK} {ta:TA} {p tpos:Pos} {y:List Expr} {x1} (hg:Gl X "enumerate") (g:X.mg "enumerate"=iw) (j:PA X [a] ta) (f:starEach [a] X.env=[(iE,eval a X.env)]):PI X (.Tuple y x1 tpos) (.Call (.Name "enumerate" p) [a] [] pos) (λσ H R=>ta σ H λvs H1=>∃ m xs,vs=[.ref m]/\SqK X.K H1 m k xs/\R (qkr k X.K m xs) H1):=by
 refine ⟨?_⟩;intro pins s σ H R I h;refine Call_ (zc I hg g qbQ (bp (thn (j pos pins s σ H _ I h) λus s1 ⟨vs,H1,d,r1,e⟩=>?_) f rfl));obtain ⟨m,xs,rfl,w,q⟩:=e;obtain ⟨u,rfl,e1⟩:=xw r1;cases e1;obtain ⟨its,W,n,v,e0,M,_,l,_⟩:=Uk d w;have pl:=SeqK.of e0 l M;have t:m < s1.heap.objs.size:=pl.lt;refine qak pl λh' i hit kp=>?_;refine wpAny_pyIter_enum i ?_;refine ⟨s1.heap.objs.size+1,_,_,qkr k X.K m xs,H1,rfl,d.kept (t':=s1.toks) kp,qal s1.heap.objs.size m xs t,⟨⟨_,i⟩,hit,br _⟩,λb c=>?_,q⟩;have S:s1.heap.objs.size<=b:=by
  simp only [ac,ba,or_false] at c;rcases c with rfl | rfl;·exact Nat.le_add_right _ _
  ·exact aB _
 exact d.fpOk S (d.hok.fresh S)
theorem ZJ {p tpos:Pos} {y:List Expr} {x1} (n:C.K=X.K) (hg:Gl X "enumerate") (m:X.mg "enumerate"=iw) (g:PE X a (tE C own ma fa)) (h1:ma≠.any:=by decide) (s:starEach [a] X.env=[(iE,eval a X.env)]:=by exact qO rfl):PI X (.Tuple y x1 tpos) (.Call (.Name "enumerate" p) [a] [] pos) (tIt C own (qag fa)):=by
 refine GP (ZI (k:=.l) hg m (qX (ya g h1) jO s) s) λσ H R ⟨F,ρ,b,h⟩=>⟨F,ρ,b,PoI.bindV h λv F1 H1 d ρ1 r e c h1=>?_⟩
 have c:Is C.K F1 v d:=c;cases c with
 | lst p t=>exact ⟨_,_,rfl,by rw [<-n]; exact r.sub.seq p,by rw [<-n]; exact h1 _ F1 H1 r e (qb1 (k:=.l) p t)⟩
 | _=>exact h1.elim
theorem qb2 {p tpos:Pos} {y:List Expr} {x1} (n:C.K=X.K) (hg:Gl X "enumerate") (m:X.mg "enumerate"=iw) (g:PE X a (tE C own ma fa)) (h1:ma≠.any:=by decide) (s:starEach [a] X.env=[(iE,eval a X.env)]:=by exact qO rfl):PI X (.Tuple y x1 tpos) (.Call (.Name "enumerate" p) [a] [] pos) (tIt C own (qb0 fa)):=by
 refine GP (ZI (k:=.t) hg m (qX (ya g h1) jO s) s) λσ H R ⟨F,ρ,b,h⟩=>⟨F,ρ,b,PoI.bindV h λv F1 H1 d ρ1 r e c h1=>?_⟩
 have c:Is C.K F1 v d:=c;cases c with
 | tup p t=>exact ⟨_,_,rfl,by rw [<-n]; exact qW r.sub p,by rw [<-n]; exact h1 _ F1 H1 r e (qb1 (k:=.t) p t)⟩
 | _=>exact h1.elim
end
end L2.D2
namespace L2.D2
open PySem PySem.Spec PyProof.Rows
noncomputable def Itv (K:Frag) (a:Addr) (xs:List V):It:=
 ⟨λi H=>i < xs.length/\SqL K H a xs,λi H x H'=>H'=H/\xs.reverse[i]?=iu x,λi H=>xs.length<=i/\SqL K H a xs⟩
variable {K:Frag} {tg:Expr}
theorem qev {P:iH} {w:iI} (a it:Addr) (xs:List V):Turn P w K tg (Itv K a xs) [it] it (λi h=>h.IsRevIter it a ((xs.length:Int) - 1 - i)/\i<=xs.length) where
 mem:=by simp
 obj:=λi h st b g=>by
  have e:b=it:=by simpa using g
  subst e;obtain ⟨⟨o,e,c,d⟩,_⟩:=st;exact ⟨o,e,λv z=>by rw [d] at z; cases z⟩
 keep:=λi h h' st k=>⟨st.1.at λo e=>k it (by simp) o e,st.2⟩
 item:=by
  intro X n m q y i pins s σ H E I l st hg;subst n m q;obtain ⟨hl,hq⟩:=hg;obtain ⟨its,B,p,M⟩:=I.list hq;have G:xs.length - 1 - i < xs.length:=by omega
  have hx:xs[xs.length - 1 - i]?=iu xs[xs.length - 1 - i]:=aj G;obtain ⟨u,D,C⟩:=B.get hx;obtain ⟨f0,f1,f2,t,f4,r⟩:=l it (by simp);have S:((xs.length:Int) - 1 - i)=((xs.length - 1 - i:Nat):Int):=by omega
  have f:=st.1;rw [S] at f;refine wpAny_pyNext_rev_item f p.isList (x:=u) (by simpa using D) λh' j A=>?_;have L:Inv X pins σ H { s with heap:=h' }:=I.turned (t':=s.toks) (λb o g e=>(A.2 b g).trans e) f0 f1 t f4 r;obtain ⟨o,e,c,d⟩:=id j;refine ⟨u,rfl,qaF (s:={ s with heap:=h' }) e c d (by decide) ⟨xs[xs.length - 1 - i],H,L,C,⟨rfl,?_⟩,⟨?_,hl⟩,λb g=>(l b g).1⟩⟩;·rw [List.getElem?_reverse (by omega)];exact hx
  ·rw [show ((xs.length:Int) - 1 - ((i+1:Nat):Int))=((xs.length - 1 - i:Nat):Int) - 1 by omega];exact j
 done:=by intro X n m q y i pins s σ H E I l st hg;subst n m q;obtain ⟨hl,hq⟩:=hg;obtain ⟨f0,f1,f2,t,f4,r⟩:=l it (by simp);have f:=st.1;rw [show ((xs.length:Int) - 1 - i)=-1 by have:=st.2; omega] at f;exact wpAny_pyNext_rev_end (I.ok.hd y) f λh' J=>⟨rfl,I.turned (t':=s.toks) (λb o g e=>J b o g e) f0 f1 t f4 r⟩
 self:=λ_ _ _ _ _ st h=>wpAny_pyIter_revIter st.1 h
theorem qew:bootBuiltins "reversed"=iu (.type "reversed"):=by decide +kernel
noncomputable def qlo (f:je):uV:=λρ=>(f ρ).bind λp=>match p.1 with
 | .lst xs=>.ok (xs.reverse,p.2)
 | _=>.bad
theorem qjj {F:Hp} {a:Addr} {xs:List V} {ds:List D} (p:SqL K F a xs) (t:IsL K F xs ds):ItIs K F (Itv K a xs) ds.reverse where
 go:=λi H hi s=>⟨by rw [t.length]; simpa using hi,s.seq p⟩
 yld:=λi Fi H v H' d e s1 s2 y=>by obtain ⟨rfl,hx⟩:=y;obtain ⟨d1,e1,i1⟩:=(YO t).get hx;rw [e] at e1;cases e1;exact ⟨Fi,.refl,s2,i1.mono s1⟩
 stop:=λi H hi s=>⟨by rw [t.length]; simpa using hi,s.seq p⟩
section
variable {X:Cx} {C:Ct} {own:List Nat} {a:Expr} {fa:je} {ma:Mo} {pos:Pos}
theorem qjk {ta:TA} {p:Pos} (hg:Gl X "reversed") (g:X.mg "reversed"=iw) (k:PA X [a] ta) (f:starEach [a] X.env=[(iE,eval a X.env)]):PI X tg (.Call (.Name "reversed" p) [a] [] pos) (λσ H R=>ta σ H λvs H1=>∃ m xs,vs=[.ref m]/\SqL X.K H1 m xs/\R (Itv X.K m xs) H1):=by
 refine ⟨?_⟩;intro pins s σ H R I h;refine Call_ (zc I hg g qew (bp (thn (k pos pins s σ H _ I h) λus s1 ⟨vs,H1,d,r1,c⟩=>?_) f rfl));obtain ⟨m,xs,rfl,w,q⟩:=c;obtain ⟨u,rfl,e1⟩:=xw r1;cases e1;obtain ⟨its,j,pl,_⟩:=d.list w;refine call_reversed_list pl.isList ?_;have hit:(s1.heap.push (revObj m ((its.toArray.size:Int) - 1))).IsRevIter s1.heap.objs.size m ((xs.length:Int) - 1 - (0:Nat)):=by refine ⟨_,au _ rfl,rfl,?_⟩;rw [aw,<-j.length];simp [revObj]
 refine wpAny_pyIter_revIter (s:={ s1 with heap:=s1.heap.push (revObj m ((its.toArray.size:Int) - 1)) }) hit ?_;refine ⟨s1.heap.objs.size,_,_,Itv X.K m xs,H1,rfl,d.kept (t':=s1.toks) λb o e=>af _ e,qev m s1.heap.objs.size xs,⟨hit,br _⟩,λb i=>?_,q⟩;have e:b=s1.heap.objs.size:=by simpa using i
 subst e;exact d.fpOk (aB _) (d.hok.fresh (aB _))
theorem qhe {p:Pos} (n:C.K=X.K) (hg:Gl X "reversed") (m:X.mg "reversed"=iw) (g:PE X a (tE C own ma fa)) (h1:ma≠.any:=by decide) (s:starEach [a] X.env=[(iE,eval a X.env)]:=by exact qO rfl):PI X tg (.Call (.Name "reversed" p) [a] [] pos) (tIt C own (qlo fa)):=by
 refine GP (qjk hg m (qX (ya g h1) jO s) s) λσ H R ⟨F,ρ,b,h⟩=>⟨F,ρ,b,PoI.bindV h λv F1 H1 d ρ1 r k c h1=>?_⟩
 have c:Is C.K F1 v d:=c;cases c with
 | lst p t=>exact ⟨_,_,rfl,by rw [<-n]; exact r.sub.seq p,by rw [<-n]; exact h1 _ F1 H1 r k (qjj p t)⟩
 | _=>exact h1.elim
end
end L2.D2
namespace L2.D2
open PySem PySem.Spec PyProof.Rows PySem.W
theorem zB:∀ l:List Int,Jt (l.map D.int)=iu l
 | []=>rfl
 | x::l=>by show (Jt (l.map D.int)).map (x::·)=iu (x::l);rw [zB l];rfl
end L2.D2
namespace L2.D2
open PySem PySem.Spec PyProof.Rows
theorem fsc {N P:List Str} {sc:lf} (a:sc.kind=.function:=by rfl) (b:sc.isCoroutine=false:=by rfl) (c:sc.isGenerator=false:=by rfl) (d:N.Nodup:=by decide +kernel) (e:N.take P.length=P:=by rfl) (f:∀ x∈P,sc.names.lookup x=iu .local\/sc.names.lookup x=iu .cell:=by decide +kernel) (g:∀ y∈sc.names,y.2≠.free:=by decide +kernel):FnScope N P sc:=⟨a,b,c,d,e,f,g⟩
end L2.D2
namespace L2.D2
open PySem PySem.Spec PyProof.Rows PySem.W
variable {s:iF}
section
variable {prog:iH} {w:iI} {A:iK} {E:iB->iF->Prop}
variable {z TI TO i1 i2:Addr} {fp1 fp2:List Addr} {n1 n2 i:Nat} {P1 P2:Nat->iB->Prop} {S1 S2:Nat->Heap->Prop} {a b:iB}
end
section
variable {X:Cx} {pins:Pns} {σ:St} {H H':Hp} {h':Heap}
theorem Inv.grown {t':Nat} (I:Inv X pins σ H s) (k:∀ b u,s.heap.get? b=iu u->h'.get? b=iu u) (old:∀ b o,H b=iu o->H' b=iu o) (low:∀ b,b < s.heap.objs.size->H b=iw->H' b=iw)
  (new:∀ b o,H b=iw->H' b=iu o->ObjOk X.prog X.w H' h' b o):Inv X pins σ H' { s with heap:=h',toks:=t' }:=by
 refine I.un ⟨λb u q _ _ _=>k b u q,λb u q _ _ _=>⟨u.slots,k b u q⟩,λb u q n _=>low b (aA q) n,λb u q _=>⟨u,k b u q⟩,λb xs q=>old _ _ q,λb u xs q=>old _ _ q,λb ps q=>⟨#[],by rw [old _ _ q]; simp⟩⟩ λb u e=>?_;cases q:H b with
 | none=>exact new b u q e
 | some o=>have:=old b o q;rw [e] at this;cases this;exact (I.hok b u q).stay (λc v _ q=>k c v q) (λc q=>old _ _ q) λc xs q=>old _ _ q
end
end L2.D2
namespace L2.D2
open PySem PySem.Spec PyProof.Rows
variable {X:Cx} {C:Ct} {own:List Nat} {x:Str} {pos':Pos}
section
variable {own':List Nat} {as:List AK} {G:jz} {fr:uV} {m ma mb mr:Mo} {a b e:Expr} {es:List Expr} {p pos px:Pos} {ms:List PM} {ps:List Str} {k j:Nat} {cv:Str->iB} {fe f fa fb:je}
theorem cN (F:DefOk X.prog X.w X.K X.mg X.base cv j x ps ms mr G) (hr:Room k X.A) (g:PA X (e::es) (tAr C own as fr)) (h:j<=k:=by decide) (hx:zd (CXk X.prog X.w) X C.E:=by exact qk3) (hg:Gl X x:=by rfl) (v:C.cv=cv:=by rfl) (n:C.K=X.K:=by rfl) (s:ms=as.map WB:=by rfl) (c:∀ i∈jv as,i∈own:=by decide) (nd:(jv as).Nodup:=by decide) (f:frA as<=1:=by decide) (o:∀ i∈C.ox,i∈own:=by exact xD rfl)
  (b:Dbg x:=by decide) (a:starEach (e::es) X.env=(iE,eval e X.env)::starEach es X.env:=by exact jR rfl) (l:(backTo pos (starEach es X.env)).any (·.1)=false:=by exact Qn rfl):PE X (.Call (.Name x p) (e::es) [] pos) (tE C own mr (qr as G fr)):=
 jj F hr h hx hg g v n s c nd f o b a l
theorem sl (i:Nat) {x:Str} {px:Pos} (g:PA X es (tAr C own as fr)) (a:X.N[i]?=iu x:=by rfl) (c:Vis X.env.scope x:=by exact bI rfl) (l:i∈own:=by decide) (h:starEach (.Name x px::es) X.env=(iE,eval (.Name x px) X.env)::starEach es X.env:=by rfl)
  (hd:Dbg x:=by decide) (d:Cdk x:=by decide):PA X (.Name x px::es) (tAr C own (.sl i::as) (kb fr)):=kO a c l g h hd d
theorem vO (i:Nat) {x:Str} (h:X.N[i]?=iu x:=by rfl) (c:Vis X.env.scope x:=by exact bI rfl) (l:i∈own:=by decide) (hd:Dbg x:=by decide) (d:Cdk x:=by decide):PE X (.Name x pos) (tE C own .any (qe i)):=qgx h c l hd d
theorem se (i:Nat) {x:Str} {pos':Pos} (b:X.N.Nodup) (a:PE X e (tE C own m fe)) (hi:X.N[i]?=iu x:=by rfl) (hx:Loc X.env.scope x:=by first | exact bI rfl | exact cx rfl) (h:m≠.any:=by decide) (o:i∉C.io:=by exact zj rfl) (c:swapsWith e (iu (.Name x pos')) pos.line X.env=pure false:=by rfl)
  (f:X.fn x=iC\/X.env.scope.names.lookup x=iu .local:=by first | exact .inl rfl | exact .inr rfl):PS X (.Assign [.Name x pos'] e pos) (tSt C own (wJ own [i]) (jl i fe)):=qgG b hi hx a h o c f
theorem sO (i:Nat) {x:Str} {pos':Pos} (b:X.N.Nodup) (a:PE X e (tE C own .fr fe)) (hi:X.N[i]?=iu x:=by rfl) (hx:Loc X.env.scope x:=by first | exact bI rfl | exact cx rfl) (o:i∉C.io:=by exact zj rfl) (c:swapsWith e (iu (.Name x pos')) pos.line X.env=pure false:=by rfl)
  (h:X.fn x=iC\/X.env.scope.names.lookup x=iu .local:=by first | exact .inl rfl | exact .inr rfl):PS X (.Assign [.Name x pos'] e pos) (tSt C own (i::wJ own [i]) (jl i fe)):=qdO b hi hx a o c h
theorem gn (i:Nat) {x:Str} (a:X.N.Nodup) (hi:X.N[i]?=iu x:=by rfl) (hx:Loc X.env.scope x:=by first | exact bI rfl | exact cx rfl) (l:i∉own:=by decide) (o:i∉C.io:=by exact zj rfl) (h:X.fn x=iC\/X.env.scope.names.lookup x=iu .local:=by first | exact .inl rfl | exact .inr rfl):PG X (.Name x pos) (tGd C own (gNm i)):=Zl a hi hx l o h
theorem ix (hr:Room k X.A) (g:PE X a (tE C own ma fa)) (d:PE X b (tE C own mb fb)) (c:Vp b:=by exact λ_ _=>rfl) (n:C.K=X.K:=by rfl) (f:ma≠.any:=by decide):PE X (.Subscript a b pos) (tE C own .sh (d2 ixD fa fb)):=qk0 n hr.units g d c f
theorem tv (h:PE X e (tE C own m f)) (n:C.K=X.K:=by rfl) (i:∀ whole,isTrue e X.env whole=(do let v <-whole; standAt e.pos; holding [v] (truthy v)):=by exact λ_=>rfl):PT X e (tT C own (xE f)):=qgB n h i
end
noncomputable def tgN:Expr->List Str
 | .Name x _=>[x]
 | .Tuple es _ _=>es.flatMap λe=>match e with
  | .Name x _=>[x]
  | _=>[]
 | _=>[]
noncomputable def cNm (tg:Expr) (N:List Str) (cap:List Nat):List Str:=tgN tg++cap.map λk=>N.getD k Str.empty
section
variable {elt iter tg:Expr} {ifs:List Expr} {scope:lf} {pos spos:Pos} {fi:uV} {g:D->Sl->Out Sl} {ft:uX} {fe:je} {me:Mo} {nt:Nat} {cap:List Nat}
theorem gC (i:Nat) (a:decide X.N.Nodup=true:=by kernel_rfl) (hi:X.N[i]?=iu x:=by rfl) (hx:Loc X.env.scope x:=by first | exact bI rfl | exact cx rfl) (l:i∉own:=by decide) (o:i∉C.io:=by exact zj rfl) (h:X.fn x=iC\/X.env.scope.names.lookup x=iu .local:=by first | exact .inl rfl | exact .inr rfl):PG X (.Name x pos) (tGd C own (gNm i)):=Zl (of_decide_eq_true a) hi hx l o h
theorem cmp (hi:PI X tg iter (tIt C own fi)) (h:∀ fp L s' H',PE (jC X scope (cNm tg X.N cap) fp L s' H') elt (tE (ctC C nt cap.length) (uW own nt cap) me fe)) (hg:∀ fp L s' H',PG (jC X scope (cNm tg X.N cap) fp L s' H') tg (tGd (ctC C nt cap.length) (uW own nt cap) g):=by exact λ_ _ _ _=>gC 0) (ht:∀ fp L s' H',PTs (jC X scope (cNm tg X.N cap) fp L s' H') ifs (tT (ctC C nt cap.length) (uW own nt cap) ft):=by exact λ_ _ _ _=>Zm)
  (P:X.calm=true:=by rfl) (bs:scB X.env.scope.names scope=true:=by kernel_rfl) (b:qkd X.env.scope.names X.N scope (cNm tg X.N cap) nt cap=true:=by kernel_rfl) (i:me≠.any:=by decide) (c:∀ x,foldedSetIterable iter X.env x=pure x:=by intro _; rfl) :
  PE X (.ListComp elt [⟨tg,iter,ifs,0⟩] scope pos) (tE C own .fr (qZ own nt cap fi g ft fe)):=qgR P (qiX rfl bs) (qft rfl rfl b) hi hg ht h i c
theorem qhf (i:Nat) {x:Str} (a:X.N.Nodup) (hi:PI X tg iter (tIt C own fi)) (e:∀ fp L s' H',PE (jC X scope (cNm tg X.N cap) fp L s' H') elt (tE (ctC C nt cap.length) (uW own nt cap) me fe)) (hg:∀ fp L s' H',PG (jC X scope (cNm tg X.N cap) fp L s' H') tg (tGd (ctC C nt cap.length) (uW own nt cap) g):=by exact λ_ _ _ _=>gC 0) (ht:∀ fp L s' H',PTs (jC X scope (cNm tg X.N cap) fp L s' H') ifs (tT (ctC C nt cap.length) (uW own nt cap) ft):=by exact λ_ _ _ _=>Zm)
  (V:X.N[i]?=iu x:=by rfl) (hx:Loc X.env.scope x:=by first | exact bI rfl | exact cx rfl) (P:X.calm=true:=by rfl) (bs:scB X.env.scope.names scope=true:=by kernel_rfl) (b:qkd X.env.scope.names X.N scope (cNm tg X.N cap) nt cap=true:=by kernel_rfl) (h:me≠.any:=by decide) (o:i∉C.io:=by exact zj rfl)
  (E:swapsWith (.ListComp elt [⟨tg,iter,ifs,0⟩] scope pos) (iu (.Name x pos')) spos.line X.env=pure true:=by rfl) (c:∀ x,foldedSetIterable iter X.env x=pure x:=by intro _; rfl) (Y:X.fn x=iC\/X.env.scope.names.lookup x=iu .local:=by first | exact .inl rfl | exact .inr rfl) :
  PS X (.Assign [.Name x pos'] (.ListComp elt [⟨tg,iter,ifs,0⟩] scope pos) spos) (tSt C own (i::wJ own [i]) (jl i (qZ own nt cap fi g ft fe))):=qdU a V hx P (qiX rfl bs) (qft rfl rfl b) hi hg ht e h o E c Y
end
end L2.D2
namespace L2.D2
open PySem
def qmB (l:List Nat):Prop:=l.Pairwise (· < ·)
end L2.D2
namespace L2.D2
open PySem PySem.SetTable
noncomputable def adv (m:Nat) (p:Probe):Probe:=if p.more > 0 then { p with j:=p.j+1,more:=p.more - 1 } else { p with j:=(leap m p.i p.perturb).1,more:=runEnd m (leap m p.i p.perturb).1 - (leap m p.i p.perturb).1,i:=(leap m p.i p.perturb).1,perturb:=(leap m p.i p.perturb).2 }
noncomputable def atL (m i q:Nat):Probe:={ j:=i,more:=runEnd m i - i,i:=i,perturb:=q,dummy:=iw }
noncomputable def pth (m:Nat) (h:Int):Nat->Probe
 | 0=>atL m (bits h % (m+1)) (bits h)
 | n+1=>adv m (pth m h n)
noncomputable def lp (m:Nat) (h:Int):Nat->Nat×Nat
 | 0=>(bits h % (m+1),bits h)
 | c+1=>leap m (lp m h c).1 (lp m h c).2
theorem qhg (m i:Nat):runEnd m i - i<=9/\i<=runEnd m i:=by unfold runEnd;split <;> lia
variable {m:Nat} {h:Int}
theorem Uy {n i q:Nat} (e:pth m h n=atL m i q):∀ k,k<=runEnd m i - i->pth m h (n+k)={ j:=i+k,more:=runEnd m i - i - k,i:=i,perturb:=q,dummy:=iw }
 | 0,_=>e
 | k+1,hk=>by have a:=Uy e k (by lia);show adv m (pth m h (n+k))=_;rw [a];unfold adv;rw [if_pos (by show runEnd m i - i - k > 0; lia)];rfl
theorem qmC (m:Nat) (h:Int):∀ c,(lp m h c).1 < m+1
 | 0=>fm _ (Nat.succ_pos _)
 | c+1=>fm _ (Nat.succ_pos _)
noncomputable def stp (m i:Nat):Nat:=(i * 5+1) % (m+1)
noncomputable def its (m:Nat):Nat->Nat->Nat
 | 0,i=>i
 | k+1,i=>stp m (its m k i)
def Mk (m:Nat):Prop:=m=7\/m=31
def Rch (m:Nat) (L:Nat->Prop) (j:Nat) (h:Int):Prop:=∃ n,(pth m h n).j=j/\∀ k,k < n->L (pth m h k).j
structure TabOk (t:iQ) (es:List (Int×iB)):Prop where
 km:Mk t.mask
 dm:t.dummies=#[]
 rise:qmB t.place.toList
 le:∀ j∈t.place.toList,j<=t.mask
 sz:t.place.size=es.length
 rch:∀ q∈t.place.toList.zip es,Rch t.mask (·∈t.place.toList) q.1 q.2.1
def qjl (ow:Array (Option Nat)) (x:Nat):Prop:=∃ y,ow[x]?=iu (iu y)
variable {ow:Array (Option Nat)}
theorem VC {x:Nat} (hx:x < ow.size):((ow.getD x (iu 0)).isNone=iC↔ow[x]?=iu iw)/\((ow.getD x (iu 0)).isNone=iE↔qjl ow x):=by
 have e:ow[x]?=iu ow[x]:=by simp [hx]
 have i:ow.getD x (iu 0)=ow[x]:=by simp [Array.getD,hx]
 unfold qjl;rw [e,i];cases ow[x] <;> simp
theorem YR {M:Nat} (s:ow.size=m+1) (u:ow[(lp m h M).1]?=iu iw):∀ (f c n:Nat),pth m h n=atL m (lp m h c).1 (lp m h c).2->(∀ k,k < n->qjl ow (pth m h k).j)->c<=M->M < c+f ->∃ n1,layClean.free m ow f (lp m h c).1 (lp m h c).2=iu (pth m h n1).j/\ow[(pth m h n1).j]?=iu iw/\∀ k,k < n1->qjl ow (pth m h k).j
 | 0,c,n,_,_,h1,h2=>by lia
 | f+1,c,n,e,ho,h1,h2=>by
  unfold layClean.free;have hi:=qmC m h c;have hr:=qhg m (lp m h c).1;have S:∀ k,k<=runEnd m (lp m h c).1 - (lp m h c).1->(lp m h c).1+k < ow.size:=λk a=>by rw [s];unfold runEnd at a;split at a <;> lia
  cases q:(aH (runEnd m (lp m h c).1+1 - (lp m h c).1)).find? λk=>(ow.getD ((lp m h c).1+k) (iu 0)).isNone with
  | some k=>
   obtain ⟨l,i,g⟩:=List.find?_range_eq_some.mp q;have a:k<=runEnd m (lp m h c).1 - (lp m h c).1:=by
    have:=aL.mp i
    lia
   have b:=Uy e k a;refine ⟨n+k,by rw [b],?_,λk' p=>?_⟩;·rw [b];exact (VC (S k a)).1.mp l
   ·by_cases z:k' < n;·exact ho k' z
    ·obtain ⟨d,rfl⟩:∃ d,k'=n+d:=⟨k' - n,by lia⟩
     rw [Uy e d (by lia)];have:=g d (by lia);exact (VC (S d (by lia))).2.mp (by simpa using this)
  | none=>
   have all:∀ d,d<=runEnd m (lp m h c).1 - (lp m h c).1->qjl ow ((lp m h c).1+d):=λd hd=>by have:=cQ.mp q d (aL.mpr (by lia));exact (VC (S d hd)).2.mp (by cases z:(ow.getD ((lp m h c).1+d) (iu 0)).isNone with | true=>exact absurd z this | false=>rfl)
   have o:c≠M:=λz=>by subst z;obtain ⟨y,D⟩:=all 0 (br _);rw [Nat.add_zero,u] at D;cases D
   have r:=Uy e _ (aB _);have E:pth m h (n+(runEnd m (lp m h c).1 - (lp m h c).1)+1)=atL m (lp m h (c+1)).1 (lp m h (c+1)).2:=by show adv m (pth m h (n+(runEnd m (lp m h c).1 - (lp m h c).1)))=_;rw [r];unfold adv;rw [if_neg (by show ¬runEnd m (lp m h c).1 - (lp m h c).1 - (runEnd m (lp m h c).1 - (lp m h c).1) > 0; lia)];rfl
   exact YR s u f (c+1) _ E (λk a=>by
    by_cases z:k < n;·exact ho k z
    ·obtain ⟨d,rfl⟩:∃ d,k=n+d:=⟨k - n,by lia⟩
     rw [Uy e d (by lia)];exact all d (by lia)) (by lia) (by lia)
abbrev tK (prog:iH) (w:iI) (k:List Str):Int:=tupleKeyHash (strKind prog w) k
def ElT (prog:iH) (w:iI) (h:Heap) (e:Int×iB) (k:List Str):Prop:=∃ b,e=(tK prog w k,.ref b)/\IsTupleKey (strKind prog w) h k b
structure SetT (prog:iH) (w:iI) (h:Heap) (es:Array (Int×iB)) (t:iQ) (kl:List (List Str)):Prop where
 tab:TabOk t es.toList
 few:es.size<=t.mask
 len:kl.length=es.size
 el:∀ (i:Nat) (e:Int×iB) (k:List Str),es[i]?=iu e->kl[i]?=iu k->ElT prog w h e k
section
variable {prog:iH} {w:iI} {A:iK} {E:iB->iF->Prop} {s:iF}
theorem SetT.fits {h:Heap} {es:Array (Int×iB)} {t:iQ} {kl:List (List Str)} (S:SetT prog w h es t kl):t.fits es.size=true:=by have h1:=S.tab.sz;have h2:=S.few;rw [bH] at h1;unfold SetTable.fits SetTable.fill;rw [S.tab.dm];simp [h1,h2]
end
end L2.D2
namespace L2.D2
open PySem PySem.Spec PyProof.Rows
theorem zi {prog:iH} {w:iI}:∀ {us:List iB} {ss:List Str},lx us ss->ItemsAre (strKind prog w) ss us
 | _,_,.nil=>.nil
 | _,_,.cons x t h=>.cons (by show dS x (.str x t)=iC; simp [dS]) (zi h)
end L2.D2
set_option maxHeartbeats 4000000
namespace Kx
open PySem PySem.Spec PyProof.Rows L2 L2.D2
noncomputable def top (i:Nat):Stmt:=PySem.Challenge.pw_lookwords_k30_whole_bars_and_counts.main.body.getD i (.Pass ⟨0,0,0,0⟩)
noncomputable def CS:List Str:=["NoWords", "NoLook", "NoNumbers", "NoRoom", "NoWorths", "Never", "NoPlace"]
noncomputable def FS:List Str:=[]
structure Zt (K:Frag) (mg:Str->Option iB) (cv:Str->iB) (ca:Str->Addr):Prop where
 xs:Xs K cv ca CS "WordError"
 mref:∀ c∈CS,mg c=iu (.ref (ca c))
 xin:∀ c∈CS,dX K (ca c) bmV "ValueError.__new__"=iC
 fref:∀ x∈FS,mg x=iu (.ref (ca x))
 z_all:mg "all"=iw
 z_bool:mg "bool"=iw
 z_dict:mg "dict"=iw
 z_enumerate:mg "enumerate"=iw
 z_int:mg "int"=iw
 z_isinstance:mg "isinstance"=iw
 z_len:mg "len"=iw
 z_list:mg "list"=iw
 z_max:mg "max"=iw
 z_min:mg "min"=iw
 z_range:mg "range"=iw
 z_reversed:mg "reversed"=iw
 z_set:mg "set"=iw
 z_sorted:mg "sorted"=iw
 z_str:mg "str"=iw
 z_tuple:mg "tuple"=iw
 c_LEAST_PLACE:∃ t,mg "LEAST_PLACE"=iu (.int (-3) t)
 c_MOST_LETTERS:∃ t,mg "MOST_LETTERS"=iu (.int 6 t)
 c_MOST_PLACE:∃ t,mg "MOST_PLACE"=iu (.int 2 t)
 c_MOST_ROOM:∃ t,mg "MOST_ROOM"=iu (.int 99 t)
 c_MOST_WORDS:∃ t,mg "MOST_WORDS"=iu (.int 6 t)
 s_NoWorths:bT K (.ref (ca "NoWorths")) (.ref (ca "NoWorths"))=iu iC
theorem KQ:bootBuiltins "all"=iu (.builtin "all"):=by decide +kernel
theorem qhh:bootBuiltins "bool"=iu (.type "bool"):=by decide +kernel
theorem VD:bootBuiltins "dict"=iu (.type "dict"):=by decide +kernel
theorem qjm:bootBuiltins "int"=iu (.type "int"):=by decide +kernel
theorem ja:bootBuiltins "isinstance"=iu (.builtin "isinstance"):=by decide +kernel
theorem jb:bootBuiltins "len"=iu (.builtin "len"):=by decide +kernel
theorem Jv:bootBuiltins "list"=iu (.type "list"):=by decide +kernel
theorem qjn:bootBuiltins "max"=iu (.builtin "max"):=by decide +kernel
theorem qfz:bootBuiltins "min"=iu (.builtin "min"):=by decide +kernel
theorem qex:bootBuiltins "range"=iu (.type "range"):=by decide +kernel
theorem YS:bootBuiltins "reversed"=iu (.type "reversed"):=by decide +kernel
theorem ZK:bootBuiltins "set"=iu (.type "set"):=by decide +kernel
theorem yk:bootBuiltins "sorted"=iu (.builtin "sorted"):=by decide +kernel
theorem qfA:bootBuiltins "str"=iu (.type "str"):=by decide +kernel
theorem kj:bootBuiltins "tuple"=iu (.type "tuple"):=by decide +kernel
variable {ca:Str->Addr}
theorem rz {X:Cx} {C:Ct} {own own':List Nat} {as:List AK} {e:Expr} {es:List Expr} {fr:uV} {np cpos pos:Pos} (Z:Zt X.K X.mg C.cv ca) (c:Str) (g:PA X (e::es) (tAr C own as fr)) (h:c∈CS:=by decide +kernel) (b:X.ex=[]:=by rfl) (ht:Zn X C:=by exact qi2 rfl) (P:X.calm=true:=by rfl) (hg:Gl X c:=by rfl) (hsz:as.length<=1000:=by decide) (o:∀ i∈C.ox,i∈own:=by exact xD rfl) (hd:Dbg c:=by decide)
  (a:starEach (e::es) X.env=(iE,eval e X.env)::starEach es X.env:=by exact jR rfl) (l:(backTo cpos (starEach es X.env)).any (·.1)=false:=by rfl):PS X (.Raise (iu (.Call (.Name c np) (e::es) [] cpos)) iw pos) (tSt C own own' (kg c fr)):=
 qbl b ht P hg (Z.mref c h) (Z.xs.val c h) (Z.xin c h) g hsz o hd a l
instance {α:Type}:Inhabited (Out α):=⟨.bad⟩
structure Ev where
 P:iH
 w:iI
 K:Frag
 mg:Str->Option iB
 base:Heap
 cv:Str->iB
abbrev qC (e0:Ev):=DefOk e0.P e0.w e0.K e0.mg e0.base e0.cv
abbrev kA (e0:Ev):=jZ e0.K e0.mg
abbrev ZtE (e0:Ev) (ca:Str->Addr):=Zt e0.K e0.mg e0.cv ca
section
variable {e0:Ev}
abbrev wc:Stmt:=top 15
abbrev gQ:List Str:=["thing", "least", "most"]
abbrev we:List Str:=["thing", "least", "most"]
theorem VE:FnScope gQ we (qm wc):=fsc
noncomputable def wf:qV:=(qM (sIf (dOr (Qp (xE (d1 (Qt "int") (qe 0)))) (xE (d1 (Qt "bool") (qe 0)))) (jB (dC (.bl iE))) jE)
  (jB (yd leD leD (qe 1) (qe 0) (qe 2))))
noncomputable abbrev jo:jz:=jS gQ [.val,.val,.val] (wf)
abbrev jK (e0:Ev):=qC e0 1 "is_between" we [.val,.val,.val] .sh (jo)
theorem VF (Z:ZtE e0 ca) (T:kA e0 "is_between" wc we):jK e0:=
 qB (k:=0) (own':=[]) (fb:=wf) T VE λcdv f A outer s H E hr=>(qg (jh (PW.pt (yc (js (tv (zt rfl rfl Z.z_isinstance ja rfl Z.z_int qjm (vr 0)))) (kD (tv (zt rfl rfl Z.z_isinstance ja rfl Z.z_bool qhh (vr 0)))))) (ql (qo gb)) qP)
  (ql (qo (Zh Vr Vr (vr 1) (vr 0) (vr 2)))))
abbrev wg:Stmt:=top 25
abbrev gS:List Str:=["thing"]
theorem VG:FnScope gS ["thing"] (qm wg):=fsc
noncomputable def yl:qV:=(sIf (Qp (xE (qr [.vl,.vl,.vl] jo (qd (qe 0) (qd (dC (.int 1)) (qd (dC (.int 99)) qx)))))) (kg "NoRoom" (qd (dC (.str "a room is a whole number from 1 to 99")) qx)) jE)
noncomputable abbrev wj:jz:=jS gS [.val] (yl)
abbrev ud (e0:Ev):=qC e0 2 "check_room" ["thing"] [.val] .sh (wj)
theorem VH (Z:ZtE e0 ca) (T:kA e0 "check_room" wg ["thing"]) (o:jK e0):ud e0:=
 qB (k:=1) (own':=[]) (fb:=yl) T VG λcdv f A outer s H E hr=>(ql (jh (js (tv (cN o hr (qc (vr 0) (qc qt (qc (zr Z.c_MOST_ROOM rfl) qf)))))) (ql (rz Z "NoRoom" (qc uQ qf))) qP))
abbrev wk:Stmt:=top 22
abbrev gT:List Str:=["thing", "count", "room"]
abbrev wl:List Str:=["thing", "count", "room"]
theorem VI:FnScope gT wl (qm wk):=fsc
noncomputable def ym:qV:=(qM (sIf (dOr (Qp (xE (d1 (Qt "tuple") (qe 0)))) (qU (d2 neD (d1 kC (qe 0)) (qe 1)))) (jB (dC (.bl iE))) jE)
  (jB (d1 qbq (qZ [] 1 [2] (jJ (qe 0)) (gNm 0) ftT (qr [.vl,.vl,.vl] jo (qd (qe 0) (qd (dC (.int 0)) (qd (d2 Za (qe 1) (dC (.int 1))) qx))))))))
noncomputable abbrev yn:jz:=jS gT [.val,.val,.val] (ym)
abbrev zD (e0:Ev):=qC e0 2 "is_numbers" wl [.val,.val,.val] .sh (yn)
theorem VJ (Z:ZtE e0 ca) (T:kA e0 "is_numbers" wk wl) (o:jK e0):zD e0:=
 qB (k:=1) (own':=[]) (fb:=ym) T VI λcdv f A outer s H E hr=>(qg (jh (PW.pt (yc (js (tv (zt rfl rfl Z.z_isinstance ja rfl Z.z_tuple kj (vr 0)))) (kD (qK (Ki rfl hr.units) (qy (ji rfl) rfl Z.z_len jb (vr 0)) (vr 1))))) (ql (qo gb)) qP)
  (ql (qo (qy (KJ rfl rfl) rfl Z.z_all KQ (cmp (qL rfl (vr 0)) (λ_ _ _ _=>(jj o hr (by decide) xy rfl (qc (vr 0) (qc qt (qc (qQ zk (vr 1) qt) qf))))))))))
abbrev kn:Stmt:=top 27
abbrev yo:List Str:=["thing", "count", "room"]
abbrev ko:List Str:=["thing", "count", "room"]
theorem Qi:FnScope yo ko (qm kn):=fsc
noncomputable def vN:qV:=(sIf (Qp (xE (qr [.vl,.vl,.vl] yn (qd (qe 0) (qd (qe 1) (qd (qe 2) qx)))))) (kg "NoNumbers" (qd (dC (.str "numbers are a tuple of a number within the room for each word")) qx)) jE)
noncomputable abbrev vP:jz:=jS yo [.val,.val,.val] (vN)
abbrev uR (e0:Ev):=qC e0 3 "check_numbers" ko [.val,.val,.val] .sh (vP)
theorem Qj (Z:ZtE e0 ca) (T:kA e0 "check_numbers" kn ko) (o:zD e0):uR e0:=
 qB (k:=2) (own':=[]) (fb:=vN) T Qi λcdv f A outer s H E hr=>(ql (jh (js (tv (cN o hr (qc (vr 0) (qc (vr 1) (qc (vr 2) qf)))))) (ql (rz Z "NoNumbers" (qc uQ qf))) qP))
abbrev ue:Stmt:=top 16
abbrev Jw:List Str:=["thing"]
theorem Uz:FnScope Jw ["thing"] (qm ue):=fsc
noncomputable def vQ:qV:=(jB (WV (d1 (Qt "str") (qe 0)) (WV (d2 eqD (d1 kC (qe 0)) (dC (.int 1))) (yd leD leD (dC (.str "a")) (qe 0) (dC (.str "z"))))))
noncomputable abbrev vR:jz:=jS Jw [.val] (vQ)
abbrev yp (e0:Ev):=qC e0 1 "is_letter" ["thing"] [.val] .sh (vR)
theorem UA (Z:ZtE e0 ca) (T:kA e0 "is_letter" ue ["thing"]):yp e0:=
 qB (k:=0) (own':=[]) (fb:=vQ) T Uz λcdv f A outer s H E hr=>(ql (qo (WW (zt rfl rfl Z.z_isinstance ja rfl Z.z_str qfA (vr 0)) (WW (vJ (uU rfl hr.units) (qy (ji rfl) rfl Z.z_len jb (vr 0)) qt) (Zf (Zh Vr Vr uQ (vr 0) uQ))))))
abbrev zE:Stmt:=top 17
abbrev UB:List Str:=["thing"]
theorem qam:FnScope UB ["thing"] (qm zE):=fsc
noncomputable def Jx:qV:=(qM (sIf (dOr (Qp (xE (d1 (Qt "str") (qe 0)))) (Qp (qU (yd leD leD (dC (.int 1)) (d1 kC (qe 0)) (dC (.int 6)))))) (jB (dC (.bl iE))) jE)
  (jB (d1 qbq (qZ [] 1 [] (jJ (qe 0)) (gNm 0) ftT (qr [.vl] vR (qd (qe 0) qx))))))
noncomputable abbrev zF:jz:=jS UB [.val] (Jx)
abbrev KR (e0:Ev):=qC e0 2 "is_word" ["thing"] [.val] .sh (zF)
theorem qan (Z:ZtE e0 ca) (T:kA e0 "is_word" zE ["thing"]) (o:yp e0):KR e0:=
 qB (k:=1) (own':=[]) (fb:=Jx) T qam λcdv f A outer s H E hr=>(qg (jh (PW.pt (yc (js (tv (zt rfl rfl Z.z_isinstance ja rfl Z.z_str qfA (vr 0)))) (kD (js (Jc Vr Vr qt (qy (ji rfl) rfl Z.z_len jb (vr 0)) (zr Z.c_MOST_LETTERS rfl)))))) (ql (qo gb)) qP)
  (ql (qo (qy (KJ rfl rfl) rfl Z.z_all KQ (cmp (qL rfl (vr 0)) (λ_ _ _ _=>(jj o hr (by decide) xy rfl (qc (vr 0) qf))))))))
abbrev yM:Stmt:=top 18
abbrev KS:List Str:=["thing"]
theorem YT:FnScope KS ["thing"] (qm yM):=fsc
noncomputable def gm:qV:=(qM (sIf (dOr (Qp (xE (d1 (Qt "tuple") (qe 0)))) (Qp (qU (yd leD leD (dC (.int 1)) (d1 kC (qe 0)) (dC (.int 6)))))) (jB (dC (.bl iE))) jE)
  (jB (WV (d1 qbq (qZ [] 1 [] (jJ (qe 0)) (gNm 0) ftT (qr [.vl] zF (qd (qe 0) qx)))) (d2 eqD (d1 Jp (qe 0)) (d1 kC (qe 0))))))
noncomputable abbrev gp:jz:=jS KS [.val] (gm)
abbrev Jy (e0:Ev):=qC e0 3 "is_words" ["thing"] [.val] .sh (gp)
theorem YU (Z:ZtE e0 ca) (T:kA e0 "is_words" yM ["thing"]) (O:KR e0):Jy e0:=
 qB (k:=2) (own':=[]) (fb:=gm) T YT λcdv f A outer s H E hr=>(qg (jh (PW.pt (yc (js (tv (zt rfl rfl Z.z_isinstance ja rfl Z.z_tuple kj (vr 0)))) (kD (js (Jc Vr Vr qt (qy (ji rfl) rfl Z.z_len jb (vr 0)) (zr Z.c_MOST_WORDS rfl)))))) (ql (qo gb)) qP)
  (ql (qo (WW (qy (KJ rfl rfl) rfl Z.z_all KQ (cmp (qL rfl (vr 0)) (λ_ _ _ _=>(jj O hr (by decide) xy rfl (qc (vr 0) qf))))) (Zf (vJ (uU rfl hr.units) (qbJ rfl rfl rfl Z.z_len jb rfl Z.z_set ZK (vr 0)) (qy (ji rfl) rfl Z.z_len jb (vr 0))))))))
abbrev vw:Stmt:=top 23
abbrev zG:List Str:=["thing"]
theorem Kp:FnScope zG ["thing"] (qm vw):=fsc
noncomputable def uf:qV:=(sIf (Qp (xE (qr [.vl] gp (qd (qe 0) qx)))) (kg "NoWords" (qd (dC (.str "words are a tuple of 1 to 6 unlike words of 1 to 6 letters from a to z")) qx)) jE)
noncomputable abbrev ug:jz:=jS zG [.val] (uf)
abbrev xI (e0:Ev):=qC e0 4 "check_words" ["thing"] [.val] .sh (ug)
theorem Kq (Z:ZtE e0 ca) (T:kA e0 "check_words" vw ["thing"]) (O:Jy e0):xI e0:=
 qB (k:=3) (own':=[]) (fb:=uf) T Kp λcdv f A outer s H E hr=>(ql (jh (js (tv (cN O hr (qc (vr 0) qf)))) (ql (rz Z "NoWords" (qc uQ qf))) qP))
abbrev zH:Stmt:=top 19
abbrev UC:List Str:=["thing"]
theorem qao:FnScope UC ["thing"] (qm zH):=fsc
noncomputable def Jz:qV:=(qM (sIf (dOr (Qp (xE (d1 (Qt "tuple") (qe 0)))) (qU (d2 neD (d1 kC (qe 0)) (dC (.int 2))))) (jB (dC (.bl iE))) jE)
  (jB (d1 qbq (qZ [] 1 [] (jJ (qe 0)) (gNm 0) ftT (qr [.vl,.vl,.vl] jo (qd (qe 0) (qd (dC (.int (-3))) (qd (dC (.int 2)) qx))))))))
noncomputable abbrev JA:jz:=jS UC [.val] (Jz)
abbrev KU (e0:Ev):=qC e0 2 "is_look" ["thing"] [.val] .sh (JA)
theorem qap (Z:ZtE e0 ca) (T:kA e0 "is_look" zH ["thing"]) (o:jK e0):KU e0:=
 qB (k:=1) (own':=[]) (fb:=Jz) T qao λcdv f A outer s H E hr=>(qg (jh (PW.pt (yc (js (tv (zt rfl rfl Z.z_isinstance ja rfl Z.z_tuple kj (vr 0)))) (kD (qK (Ki rfl hr.units) (qy (ji rfl) rfl Z.z_len jb (vr 0)) qt)))) (ql (qo gb)) qP)
  (ql (qo (qy (KJ rfl rfl) rfl Z.z_all KQ (cmp (qL rfl (vr 0)) (λ_ _ _ _=>(jj o hr (by decide) xy rfl (qc (vr 0) (qc (zr Z.c_LEAST_PLACE rfl) (qc (zr Z.c_MOST_PLACE rfl) qf))))))))))
abbrev wo:Stmt:=top 24
abbrev gU:List Str:=["thing"]
theorem VL:FnScope gU ["thing"] (qm wo):=fsc
noncomputable def yq:qV:=(sIf (Qp (xE (qr [.vl] JA (qd (qe 0) qx)))) (kg "NoLook" (qd (dC (.str "a look is a tuple of two places from -3 to 2")) qx)) jE)
noncomputable abbrev yr:jz:=jS gU [.val] (yq)
abbrev zI (e0:Ev):=qC e0 3 "check_look" ["thing"] [.val] .sh (yr)
theorem VM (Z:ZtE e0 ca) (T:kA e0 "check_look" wo ["thing"]) (O:KU e0):zI e0:=
 qB (k:=2) (own':=[]) (fb:=yq) T VL λcdv f A outer s H E hr=>(ql (jh (js (tv (cN O hr (qc (vr 0) qf)))) (ql (rz Z "NoLook" (qc uQ qf))) qP))
abbrev uh:Stmt:=top 29
abbrev JB:List Str:=["word", "place", "at"]
abbrev ui:List Str:=["word", "place"]
theorem sc_letter_at:FnScope JB ui (qm uh):=fsc
noncomputable def uj:qV:=(qM (jl 2 (dIf (qU (d2 geD (qe 1) (dC (.int 0)))) (qe 1) (d2 vK (d1 kC (qe 0)) (qe 1))))
  (jB (d2 ixD (qe 0) (d2 qke (dC (.int 0)) (d2 qkf (qe 2) (d2 Za (d1 kC (qe 0)) (dC (.int 1))))))))
noncomputable abbrev vS:jz:=jS JB [.val,.val] (uj)
abbrev gW (e0:Ev):=qC e0 1 "letter_at" ui [.val,.val] .sh (vS)
theorem UD (Z:ZtE e0 ca) (T:kA e0 "letter_at" uh ui):gW e0:=
 qB (k:=0) (own':=[]) (fb:=uj) T sc_letter_at λcdv f A outer s H E hr=>(qg (se 2 sc_letter_at.nd (Yy (qK qgE (vr 1) qt) (vr 1) (qQ (jH rfl) (qy (ji rfl) rfl Z.z_len jb (vr 0)) (vr 1))))
  (ql (qo (ix hr (vr 0) (Uh (qiY rfl) rfl Z.z_max qjn qt (Uh (qiZ rfl) rfl Z.z_min qfz (vr 2) (qQ zk (qy (ji rfl) rfl Z.z_len jb (vr 0)) qt)))))))
abbrev VN:Stmt:=top 30
abbrev qb3:List Str:=["words", "look"]
abbrev VO:List Str:=["words", "look"]
theorem qey:FnScope qb3 VO (qm VN):=fsc
noncomputable def YV:qV:=(qM (vo (qr [.vl] ug (qd (qe 0) qx)))
  (qM (vo (qr [.vl] yr (qd (qe 1) qx)))
  (jB (qZ [] 1 [1] (jJ (qe 0)) (gNm 0) ftT (xF (qd (qr [.vl,.vl] vS (qd (qe 0) (qd (d2 ixD (qe 1) (dC (.int 0))) qx))) (qd (qr [.vl,.vl] vS (qd (qe 0) (qd (d2 ixD (qe 1) (dC (.int 1))) qx))) qx)))))))
noncomputable abbrev wL:jz:=jS qb3 [.val,.val] (YV)
abbrev ul (e0:Ev):=qC e0 5 "pairs" VO [.val,.val] .sh (wL)
theorem qez (Z:ZtE e0 ca) (T:kA e0 "pairs" VN VO) (a:xI e0) (b:zI e0) (o:gW e0):ul e0:=
 qB (k:=4) (own':=[]) (fb:=YV) T qey λcdv f A outer s H E hr=>(qg (jD (cN a hr (qc (vr 0) qf)))
  (qg (jD (cN b hr (qc (vr 1) qf)))
  (ql (qo (cmp (qL rfl (vr 0)) (λ_ _ _ _=>(vm (qc (jj o hr (by decide) xy rfl (qc (vr 0) (qc (ix hr (vr 1) qt) qf))) (qc (jj o hr (by decide) xy rfl (qc (vr 0) (qc (ix hr (vr 1) qt) qf))) qf)))))))))
abbrev wp:Stmt:=top 35
abbrev gX:List Str:=["words", "look", "room", "numbers", "seen"]
abbrev wq:List Str:=["words", "look", "room", "numbers"]
theorem sc_told_pairs:FnScope gX wq (qm wp):=fsc
noncomputable def yt:qV:=(qM (jl 4 (qr [.vl,.vl] wL (qd (qe 0) (qd (qe 1) qx))))
  (qM (vo (qr [.vl] wj (qd (qe 2) qx)))
  (qM (vo (qr [.vl,.vl,.vl] vP (qd (qe 3) (qd (d1 kC (qe 0)) (qd (qe 2) qx)))))
  (jB (qe 4)))))
noncomputable abbrev jX:jz:=jS gX [.val,.val,.val,.val] (yt)
abbrev kq (e0:Ev):=qC e0 6 "told_pairs" wq [.val,.val,.val,.val] .sh (jX)
theorem VP (Z:ZtE e0 ca) (T:kA e0 "told_pairs" wp wq) (G:ud e0) (S:uR e0) (o:ul e0):kq e0:=
 qB (k:=5) (own':=[]) (fb:=yt) T sc_told_pairs λcdv f A outer s H E hr=>(qg (se 4 sc_told_pairs.nd (cN o hr (qc (vr 0) (qc (vr 1) qf))))
  (qg (jD (cN G hr (qc (vr 2) qf)))
  (qg (jD (cN S hr (qc (vr 3) (qc (qy (ji rfl) rfl Z.z_len jb (vr 0)) (qc (vr 2) qf)))))
  (ql (qo (vr 4))))))
abbrev Qw:Stmt:=top 38
abbrev ZL:List Str:=["walk"]
theorem qb4:FnScope ZL ["walk"] (qm Qw):=fsc
noncomputable def Qx:qV:=(jB (d2 eqD (d2 yb (d1 kC (qe 0)) (dC (.int 2))) (dC (.int 1))))
noncomputable abbrev um:jz:=jS ZL [.val] (Qx)
abbrev zJ (e0:Ev):=qC e0 1 "is_odd" ["walk"] [.val] .sh (um)
theorem qb5 (Z:ZtE e0 ca) (T:kA e0 "is_odd" Qw ["walk"]):zJ e0:=
 qB (k:=0) (own':=[]) (fb:=Qx) T qb4 λcdv f A outer s H E hr=>(ql (qo (vJ (uU rfl hr.units) (qQ vh (qy (ji rfl) rfl Z.z_len jb (vr 0)) qt) qt)))
abbrev yN:Stmt:=top 37
abbrev gq:List Str:=["walk", "numbers", "start", "total", "at"]
abbrev yO:List Str:=["walk", "numbers", "start"]
theorem sc_comes_to:FnScope gq yO (qm yN):=fsc
noncomputable def gt:qV:=(qM (jl 3 (qe 2))
  (qM (KC (jJ (qe 0)) (gNm 4)
  (jl 3 (d2 Za (d2 ixD (qe 1) (qe 4)) (qe 3))))
  (jB (qe 3))))
noncomputable abbrev vH:jz:=jS gq [.val,.val,.val] (gt)
abbrev uo (e0:Ev):=qC e0 1 "comes_to" yO [.val,.val,.val] .sh (vH)
theorem YW (Z:ZtE e0 ca) (T:kA e0 "comes_to" yN yO):uo e0:=
 qB (k:=0) (own':=[]) (fb:=gt) T sc_comes_to λcdv f A outer s H E hr=>(qg (se 3 sc_comes_to.nd (vr 2))
  (qg (jV aO rfl (qL rfl (vr 0)) (gn 4 sc_comes_to.nd)
  (ql (se 3 sc_comes_to.nd (qQ zk (ix hr (vr 1) (vr 4)) (vr 3)))))
  (ql (qo (vr 3)))))
abbrev ZM:Stmt:=top 39
abbrev qfB:List Str:=["walk", "room", "numbers", "total"]
abbrev ZN:List Str:=["walk", "room", "numbers"]
theorem sc_bars:FnScope qfB ZN (qm ZM):=fsc
noncomputable def ZO:qV:=(qM (jl 3 (qr [.vl,.vl,.vl] vH (qd (qe 0) (qd (qe 2) (qd (dC (.int 0)) qx)))))
  (qM (sIf (xE (qr [.vl] um (qd (qe 0) qx))) (jB (WV (d2 eqD (d2 yb (qe 1) (dC (.int 2))) (dC (.int 0))) (d2 eqD (d2 yb (qe 3) (dC (.int 2))) (dC (.int 1))))) jE)
  (jB (d2 neD (d2 yb (qe 3) (qe 1)) (dC (.int 0))))))
noncomputable abbrev ZP:jz:=jS qfB [.val,.val,.val] (ZO)
abbrev qb6 (e0:Ev):=qC e0 2 "bars" ZN [.val,.val,.val] .sh (ZP)
theorem qhi (Z:ZtE e0 ca) (T:kA e0 "bars" ZM ZN) (o:uo e0) (D:zJ e0):qb6 e0:=
 qB (k:=1) (own':=[]) (fb:=ZO) T sc_bars λcdv f A outer s H E hr=>(qg (se 3 sc_bars.nd (cN o hr (qc (vr 0) (qc (vr 2) (qc qt qf)))))
  (qg (jh (tv (cN D hr (qc (vr 0) qf))) (ql (qo (WW (vJ (uU rfl hr.units) (qQ vh (vr 1) qt) qt) (Zf (vJ (uU rfl hr.units) (qQ vh (vr 3) qt) qt))))) qP)
  (ql (qo (vJ (Ki rfl hr.units) (qQ vh (vr 3) (vr 1)) qt)))))
abbrev wt:Stmt:=top 31
abbrev gY:List Str:=["seen"]
theorem VQ:FnScope gY ["seen"] (qm wt):=fsc
noncomputable def yu:qV:=(jB (d1 wb (d2 vK (qZ [] 1 [] (jJ (qe 0)) (gNm 0) ftT (d2 ixD (qe 0) (dC (.int 0)))) (qZ [] 1 [] (jJ (qe 0)) (gNm 0) ftT (d2 ixD (qe 0) (dC (.int 1)))))))
noncomputable abbrev jp:jz:=jS gY [.val] (yu)
abbrev vx (e0:Ev):=qC e0 1 "letters_of" ["seen"] [.val] .sh (jp)
theorem VR (Z:ZtE e0 ca) (T:kA e0 "letters_of" wt ["seen"]):vx e0:=
 qB (k:=0) (own':=[]) (fb:=yu) T VQ λcdv f A outer s H E hr=>(ql (qo (gj rfl rfl rfl Z.z_sorted yk rfl Z.z_set ZK (qQ (jH rfl) (cmp (qL rfl (vr 0)) (λ_ _ _ _=>(ix hr (vr 0) qt))) (cmp (qL rfl (vr 0)) (λ_ _ _ _=>(ix hr (vr 0) qt)))))))
abbrev kQ:Stmt:=top 36
abbrev xJ:List Str:=["pair", "letter"]
abbrev kR:List Str:=["pair", "letter"]
theorem JC:FnScope xJ kR (qm kQ):=fsc
noncomputable def wM:qV:=(jB (dIf (qU (d2 eqD (qe 1) (d2 ixD (qe 0) (dC (.int 0))))) (d2 ixD (qe 0) (dC (.int 1))) (d2 ixD (qe 0) (dC (.int 0)))))
noncomputable abbrev kS:jz:=jS xJ [.val,.val] (wM)
abbrev yv (e0:Ev):=qC e0 1 "other_letter" kR [.val,.val] .sh (kS)
theorem JD (Z:ZtE e0 ca) (T:kA e0 "other_letter" kQ kR):yv e0:=
 qB (k:=0) (own':=[]) (fb:=wM) T JC λcdv f A outer s H E hr=>(ql (qo (Yy (qK (uU rfl hr.units) (vr 1) (ix hr (vr 0) qt)) (ix hr (vr 0) qt) (ix hr (vr 0) qt))))
abbrev Qy:Stmt:=top 40
abbrev VS:List Str:=["seen", "root", "ways", "waiting", "letter", "at", "pair", "reached"]
abbrev Qz:List Str:=["seen", "root", "ways"]
theorem sc_spread:FnScope VS Qz (qm Qy):=fsc
noncomputable def VT:qV:=(qM (Qh 2 (xF (qd (qe 1) (qd (gK qx) qx))) (qe 1))
  (qM (jl 3 (gK (qd (qe 1) qx)))
  (jm (qU (d2 gtD (d1 kC (qe 3)) (dC (.int 0))))
  (qM (jl 4 (qbU 3))
  (KC (qag (qe 0)) (jG 2 (qw (gNm 5) (qw (gNm 6) jF)))
  (qM (jl 7 (qr [.vl,.vl] kS (qd (qe 6) (qd (qe 4) qx))))
  (sIf (qgC (qU (d2 inA (qe 4) (qe 6))) (qU (d2 Qu (qe 7) (qe 2)))) (qM (Qh 2 (xF (qd (qe 1) (qd (d2 vK (d2 ixD (d2O 2 ixD (qe 4)) (dC (.int 1))) (gK (qd (qe 5) qx))) qx))) (qe 7))
  (vo (Vw 3 Ue (qe 7)))) jE)))) 20)))
noncomputable abbrev QA:jz:=jS VS [.val,.val,.io] (VT)
abbrev UE (e0:Ev):=qC e0 2 "spread" Qz [.val,.val,.io] .sh (QA)
theorem qb7 (Z:ZtE e0 ca) (T:kA e0 "spread" Qy Qz) (o:yv e0):UE e0:=
 qB (k:=1) (own':=[3,2]) (fb:=VT) T sc_spread λcdv f A outer s H E hr=>(qg (Qv (n:=2) hr.units rfl (bI rfl) (by decide) (vm (qc (vr 1) (qc (kB qf) qf))) (vr 1))
  (qg (sO 3 sc_spread.nd (kB (qc (vr 1) qf)))
  (ql (Je 20 aO (qK qgD (qy (ji rfl) rfl Z.z_len jb (vO 3)) qt)
  (qg (se 4 sc_spread.nd (qhb (i:=3) rfl (bI rfl) (by decide)))
  (ql (jV aO rfl (ZJ rfl rfl Z.z_enumerate (vr 0)) (vg rfl rfl (qF (gn 5 sc_spread.nd) (qF (gn 6 sc_spread.nd) jT)))
  (qg (se 7 sc_spread.nd (cN o hr (qc (vr 6) (qc (vr 4) qf))))
  (ql (jh (PW.pt (qa7 (qK (qfv rfl hr.units) (vr 4) (vr 6)) (kD (qK (wW rfl hr.units) (vr 7) (vO 2))))) (qg (Qv (n:=2) hr.units rfl (bI rfl) (by decide) (vm (qc (vr 1) (qc (qQ (jH rfl) (ix hr (qbT (i:=2) rfl hr.units rfl (bI rfl) (by decide) (vr 4) (λ_ _=>rfl)) qt) (kB (qc (vr 5) qf))) qf))) (vr 7))
  (ql (jD (yg (i:=3) rfl rfl (bI rfl) (by decide) (vr 7))))) qP))))))))))
abbrev zK:Stmt:=top 41
abbrev JE:List Str:=["seen", "ways", "letter"]
theorem sc_ways_of:FnScope JE ["seen"] (qm zK):=fsc
noncomputable def JF:qV:=(qM (jl 1 (dC (.dct [])))
  (qM (KC (jJ (qr [.vl] jp (qd (qe 0) qx))) (gNm 2)
  (sIf (qU (d2 Qu (qe 2) (qe 1))) (vo (qr [.vl,.vl,.sl 1] QA (qd (qe 0) (qd (qe 2) (kb qx))))) jE))
  (jB (qe 1))))
noncomputable abbrev wX:jz:=jS JE [.val] (JF)
abbrev yP (e0:Ev):=qC e0 3 "ways_of" ["seen"] [.val] .sh (wX)
theorem qaq (Z:ZtE e0 ca) (T:kA e0 "ways_of" zK ["seen"]) (o:vx e0) (O:UE e0):yP e0:=
 qB (k:=2) (own':=[]) (fb:=JF) T sc_ways_of λcdv f A outer s H E hr=>(qg (sO 1 sc_ways_of.nd Vs)
  (qg (jV aO rfl (qL rfl (cN o hr (qc (vr 0) qf))) (gn 2 sc_ways_of.nd)
  (ql (jh (qK (wW rfl hr.units) (vr 2) (vO 1)) (ql (jD (cN O hr (qc (vr 0) (qc (vr 2) (sl 1 qf)))))) qP)))
  (ka [1] (ql (qo (vr 1))))))
abbrev wu:Stmt:=top 42
abbrev yw:List Str:=["seen", "ways", "found", "at", "pair", "back"]
abbrev wv:List Str:=["seen", "ways"]
theorem sc_circles_of:FnScope yw wv (qm wu):=fsc
noncomputable def yx:qV:=(qM (jl 2 (gK qx))
  (qM (KC (qag (qe 0)) (jG 2 (qw (gNm 3) (qw (gNm 4) jF)))
  (qM (jl 5 (d1 zA (d2 ixD (d2 ixD (qe 1) (d2 ixD (qe 4) (dC (.int 1)))) (dC (.int 1)))))
  (vo (Vw 2 Ue (xF (qd (d2 ixD (d2 ixD (qe 1) (d2 ixD (qe 4) (dC (.int 0)))) (dC (.int 0))) (qd (d2 vK (d2 vK (d2 ixD (d2 ixD (qe 1) (d2 ixD (qe 4) (dC (.int 0)))) (dC (.int 1))) (gK (qd (qe 3) qx))) (qe 5)) qx)))))))
  (jB (qe 2))))
noncomputable abbrev ww:jz:=jS yw [.val,.val] (yx)
abbrev uq (e0:Ev):=qC e0 1 "circles_of" wv [.val,.val] .sh (ww)
theorem VU (Z:ZtE e0 ca) (T:kA e0 "circles_of" wu wv):uq e0:=
 qB (k:=0) (own':=[]) (fb:=yx) T sc_circles_of λcdv f A outer s H E hr=>(qg (sO 2 sc_circles_of.nd (kB qf))
  (qg (jV aO rfl (ZJ rfl rfl Z.z_enumerate (vr 0)) (vg rfl rfl (qF (gn 3 sc_circles_of.nd) (qF (gn 4 sc_circles_of.nd) jT)))
  (qg (se 5 sc_circles_of.nd (qai rfl rfl rfl Z.z_list Jv rfl Z.z_reversed YS (ix hr (ix hr (vr 1) (ix hr (vr 4) qt)) qt)))
  (ql (jD (yg (i:=2) rfl rfl (bI rfl) (by decide) (vm (qc (ix hr (ix hr (vr 1) (ix hr (vr 4) qt)) qt) (qc (qQ (jH rfl) (qQ (jH rfl) (ix hr (ix hr (vr 1) (ix hr (vr 4) qt)) qt) (kB (qc (vr 3) qf))) (vr 5)) qf))))))))
  (ka [2] (ql (qo (vr 2))))))
abbrev ur:Stmt:=top 43
abbrev xR:List Str:=["circles", "first", "root", "walk"]
theorem sc_first_odd:FnScope xR ["circles"] (qm ur):=fsc
noncomputable def xS:qV:=(qM (jl 1 (dC (.dct [])))
  (qM (KC (jJ (qe 0)) (jG 2 (qw (gNm 2) (qw (gNm 3) jF)))
  (sIf (qgC (xE (qr [.vl] um (qd (qe 3) qx))) (qU (d2 Qu (qe 2) (qe 1)))) (Qh 1 (qe 3) (qe 2)) jE))
  (jB (qe 1))))
noncomputable abbrev ut:jz:=jS xR [.val] (xS)
abbrev yy (e0:Ev):=qC e0 2 "first_odd" ["circles"] [.val] .sh (ut)
theorem UF (Z:ZtE e0 ca) (T:kA e0 "first_odd" ur ["circles"]) (D:zJ e0):yy e0:=
 qB (k:=1) (own':=[]) (fb:=xS) T sc_first_odd λcdv f A outer s H E hr=>(qg (sO 1 sc_first_odd.nd Vs)
  (qg (jV aO rfl (qL rfl (vr 0)) (vg rfl rfl (qF (gn 2 sc_first_odd.nd) (qF (gn 3 sc_first_odd.nd) jT)))
  (ql (jh (PW.pt (qa7 (tv (cN D hr (qc (vr 3) qf))) (kD (qK (wW rfl hr.units) (vr 2) (vO 1))))) (ql (Qv (n:=1) hr.units rfl (bI rfl) (by decide) (vr 3) (vr 2))) qP)))
  (ka [1] (ql (qo (vr 1))))))
abbrev QB:Stmt:=top 44
abbrev VV:List Str:=["seen", "room", "numbers", "circles", "first", "joined", "root", "walk"]
abbrev QC:List Str:=["seen", "room", "numbers"]
theorem sc_bar_of:FnScope VV QC (qm QB):=fsc
noncomputable def VW:qV:=(qM (jl 3 (qr [.vl,.vl] ww (qd (qe 0) (qd (qr [.vl] wX (qd (qe 0) qx)) qx))))
  (qM (jl 4 (qr [.vl] ut (qd (qe 3) qx)))
  (qM (jl 5 (qZ [] 2 [4] (jJ (qe 3)) (jG 2 (qw (gNm 0) (qw (gNm 1) jF))) (xE (qr [.vl] um (qd (qe 1) qx))) (xF (qd (qe 0) (qd (d2 vK (d2 ixD (qe 2) (qe 0)) (qe 1)) qx)))))
  (qM (KC (jJ (d2 vK (qe 3) (qe 5))) (jG 2 (qw (gNm 6) (qw (gNm 7) jF)))
  (sIf (xE (qr [.vl,.vl,.vl] ZP (qd (qe 7) (qd (qe 1) (qd (qe 2) qx))))) (jB (xF (qd (qe 6) (qd (qe 7) qx)))) jE))
  (jB (dC .non))))))
noncomputable abbrev yQ:jz:=jS VV [.val,.val,.val] (VW)
abbrev zL (e0:Ev):=qC e0 4 "bar_of" QC [.val,.val,.val] .sh (yQ)
theorem qb8 (Z:ZtE e0 ca) (T:kA e0 "bar_of" QB QC) (D:zJ e0) (O:qb6 e0) (a:yP e0) (F:uq e0) (o:yy e0):zL e0:=
 qB (k:=3) (own':=[]) (fb:=VW) T sc_bar_of λcdv f A outer s H E hr=>(qg (se 3 sc_bar_of.nd (cN F hr (qc (vr 0) (qc (cN a hr (qc (vr 0) qf)) qf))))
  (qg (se 4 sc_bar_of.nd (cN o hr (qc (vr 3) qf)))
  (qg (qhf 5 sc_bar_of.nd (qL rfl (vr 3)) (λ_ _ _ _=>(vm (qc (vr 0) (qc (qQ (jH rfl) (ix hr (vr 2) (vr 0)) (vr 1)) qf)))) (hg:=λ_ _ _ _=>(vg rfl rfl (qF (gC 0) (qF (gC 1) jT)))) (ht:=λ_ _ _ _=>(gf (tv (jj D hr (by decide) xy rfl (qc (vr 1) qf))))))
  (qg (jV aO rfl (qL rfl (qQ (jH rfl) (vr 3) (vO 5))) (vg rfl rfl (qF (gn 6 sc_bar_of.nd) (qF (gn 7 sc_bar_of.nd) jT)))
  (ql (jh (tv (cN O hr (qc (vr 7) (qc (vr 1) (qc (vr 2) qf))))) (ql (qo (vm (qc (vr 6) (qc (vr 7) qf))))) qP)))
  (ql (qo QZ))))))
abbrev qeA:Stmt:=top 45
abbrev qjo:List Str:=["words", "look", "room", "numbers"]
abbrev qeB:List Str:=["words", "look", "room", "numbers"]
theorem qjp:FnScope qjo qeB (qm qeA):=fsc
noncomputable def qhj:qV:=(jB (qr [.vl,.vl,.vl] yQ (qd (qr [.vl,.vl,.vl,.vl] jX (qd (qe 0) (qd (qe 1) (qd (qe 2) (qd (qe 3) qx))))) (qd (qe 2) (qd (qe 3) qx)))))
noncomputable abbrev qar:jz:=jS qjo [.val,.val,.val,.val] (qhj)
abbrev ZQ (e0:Ev):=qC e0 7 "bar" qeB [.val,.val,.val,.val] .sh (qar)
theorem qjq (Z:ZtE e0 ca) (T:kA e0 "bar" qeA qeB) (o:kq e0) (C:zL e0):ZQ e0:=
 qB (k:=6) (own':=[]) (fb:=qhj) T qjp λcdv f A outer s H E hr=>(ql (qo (cN C hr (qc (cN o hr (qc (vr 0) (qc (vr 1) (qc (vr 2) (qc (vr 3) qf))))) (qc (vr 2) (qc (vr 3) qf))))))
abbrev ZR:Stmt:=top 46
abbrev qfC:List Str:=["total", "room", "rest"]
abbrev ZT:List Str:=["total", "room"]
theorem sc_half:FnScope qfC ZT (qm ZR):=fsc
noncomputable def qb9:qV:=(qM (jl 2 (d2 yb (qe 0) (qe 1)))
  (jB (dIf (qU (d2 eqD (d2 yb (qe 2) (dC (.int 2))) (dC (.int 0)))) (d2 gc (qe 2) (dC (.int 2))) (d2 gc (d2 vK (qe 2) (qe 1)) (dC (.int 2))))))
noncomputable abbrev qca:jz:=jS qfC [.val,.val] (qb9)
abbrev qcb (e0:Ev):=qC e0 1 "half" ZT [.val,.val] .sh (qca)
theorem qhk (Z:ZtE e0 ca) (T:kA e0 "half" ZR ZT):qcb e0:=
 qB (k:=0) (own':=[]) (fb:=qb9) T sc_half λcdv f A outer s H E hr=>(qg (se 2 sc_half.nd (qQ vh (vr 0) (vr 1)))
  (ql (qo (Yy (qK (uU rfl hr.units) (qQ vh (vr 2) qt) qt) (qQ Ja (vr 2) qt) (qQ Ja (qQ (jH rfl) (vr 2) (vr 1)) qt)))))
abbrev vy:Stmt:=top 47
abbrev zM:List Str:=["walk", "room", "numbers", "worth"]
abbrev vz:List Str:=["walk", "room", "numbers"]
theorem sc_root_worths:FnScope zM vz (qm vy):=fsc
noncomputable def kr:qV:=(qM (sIf (qU (d2 eqD (d1 kC (qe 0)) (dC (.int 0)))) (jB (d1 zy (qe 1))) jE)
  (qM (jl 3 (qr [.vl,.vl] qca (qd (qr [.vl,.vl,.vl] vH (qd (qe 0) (qd (qe 2) (qd (dC (.int 0)) qx)))) (qd (qe 1) qx))))
  (jB (dIf (qU (d2 eqD (d2 yb (qe 1) (dC (.int 2))) (dC (.int 0)))) (gK (qd (qe 3) (qd (d2 vK (qe 3) (d2 gc (qe 1) (dC (.int 2)))) qx))) (gK (qd (qe 3) qx))))))
noncomputable abbrev vA:jz:=jS zM [.val,.val,.val] (kr)
abbrev xK (e0:Ev):=qC e0 2 "root_worths" vz [.val,.val,.val] .sh (vA)
theorem Kr (Z:ZtE e0 ca) (T:kA e0 "root_worths" vy vz) (o:uo e0) (O:qcb e0):xK e0:=
 qB (k:=1) (own':=[]) (fb:=kr) T sc_root_worths λcdv f A outer s H E hr=>(qg (jh (qK (uU rfl hr.units) (qy (ji rfl) rfl Z.z_len jb (vr 0)) qt) (ql (qo (qaf rfl rfl Z.z_list Jv rfl Z.z_range qex (vr 1)))) qP)
  (qg (se 3 sc_root_worths.nd (cN O hr (qc (cN o hr (qc (vr 0) (qc (vr 2) (qc qt qf)))) (qc (vr 1) qf))))
  (ql (qo (Yy (qK (uU rfl hr.units) (qQ vh (vr 1) qt) qt) (kB (qc (vr 3) (qc (qQ (jH rfl) (vr 3) (qQ Ja (vr 1) qt)) qf))) (kB (qc (vr 3) qf)))))))
abbrev yR:Stmt:=top 48
abbrev gu:List Str:=["seen", "room", "numbers", "ways", "first", "roots"]
abbrev yS:List Str:=["seen", "room", "numbers"]
theorem sc_roots_of:FnScope gu yS (qm yR):=fsc
noncomputable def gx:qV:=(qM (jl 3 (qr [.vl] wX (qd (qe 0) qx)))
  (qM (jl 4 (qr [.vl] ut (qd (qr [.vl,.vl] ww (qd (qe 0) (qd (qe 3) qx))) qx)))
  (qM (jl 5 (qZ [] 1 [3] (jJ (d1 ki (qe 3))) (gNm 0) (qU (d2 eqD (d2 ixD (d2 ixD (qe 1) (qe 0)) (dC (.int 0))) (qe 0))) (qe 0)))
  (jB (qZ [] 1 [1,2,4] (jJ (qe 5)) (gNm 0) ftT (xF (qd (qe 0) (qd (qr [.vl,.vl,.vl] vA (qd (qem (qe 3) (qe 0) (gK qx)) (qd (qe 1) (qd (qe 2) qx)))) qx))))))))
noncomputable abbrev jY:jz:=jS gu [.val,.val,.val] (gx)
abbrev vU (e0:Ev):=qC e0 4 "roots_of" yS [.val,.val,.val] .sh (jY)
theorem YX (Z:ZtE e0 ca) (T:kA e0 "roots_of" yR yS) (a:yP e0) (F:uq e0) (o:yy e0) (b:xK e0):vU e0:=
 qB (k:=3) (own':=[]) (fb:=gx) T sc_roots_of λcdv f A outer s H E hr=>(qg (se 3 sc_roots_of.nd (cN a hr (qc (vr 0) qf)))
  (qg (se 4 sc_roots_of.nd (cN o hr (qc (cN F hr (qc (vr 0) (qc (vr 3) qf))) qf)))
  (qg (qhf 5 sc_roots_of.nd (qL rfl (qy (KO rfl) rfl Z.z_sorted yk (vr 3))) (λ_ _ _ _=>(vr 0)) (ht:=λ_ _ _ _=>(gf (qK (uU rfl hr.units) (ix hr (ix hr (vr 1) (vr 0)) qt) (vr 0)))))
  (ka [5] (ql (qo (cmp (qL rfl (vr 5)) (λ_ _ _ _=>(vm (qc (vr 0) (qc (jj b hr (by decide) xy rfl (qc (qhc hr.units (vr 3) (vr 0) (kB qf)) (qc (vr 1) (qc (vr 2) qf)))) qf)))))))))))
abbrev vB:Stmt:=top 49
abbrev uu:List Str:=["seen", "room", "numbers", "starts", "ways", "found", "letter", "start"]
abbrev vC:List Str:=["seen", "room", "numbers", "starts"]
theorem sc_worths_from:FnScope uu vC (qm vB):=fsc
noncomputable def uw:qV:=(qM (jl 4 (qr [.vl] wX (qd (qe 0) qx)))
  (qM (jl 5 (gK qx))
  (qM (KC (jJ (d1 ki (qe 4))) (gNm 6)
  (qM (jl 7 (d2 ixD (qe 3) (d2 ixD (d2 ixD (qe 4) (qe 6)) (dC (.int 0)))))
  (vo (Vw 5 Ue (xF (qd (qe 6) (qd (d2 yb (qr [.vl,.vl,.vl] vH (qd (d2 ixD (d2 ixD (qe 4) (qe 6)) (dC (.int 1))) (qd (qe 2) (qd (qe 7) qx)))) (qe 1)) qx)))))))
  (jB (d1 wU (qe 5))))))
noncomputable abbrev vD:jz:=jS uu [.val,.val,.val,.val] (uw)
abbrev wN (e0:Ev):=qC e0 4 "worths_from" vC [.val,.val,.val,.val] .sh (vD)
theorem Ks (Z:ZtE e0 ca) (T:kA e0 "worths_from" vB vC) (o:uo e0) (a:yP e0):wN e0:=
 qB (k:=3) (own':=[]) (fb:=uw) T sc_worths_from λcdv f A outer s H E hr=>(qg (se 4 sc_worths_from.nd (cN a hr (qc (vr 0) qf)))
  (qg (sO 5 sc_worths_from.nd (kB qf))
  (qg (jV aO rfl (qL rfl (qy (KO rfl) rfl Z.z_sorted yk (vr 4))) (gn 6 sc_worths_from.nd)
  (qg (se 7 sc_worths_from.nd (ix hr (vr 3) (ix hr (ix hr (vr 4) (vr 6)) qt)))
  (ql (jD (yg (i:=5) rfl rfl (bI rfl) (by decide) (vm (qc (vr 6) (qc (qQ vh (cN o hr (qc (ix hr (ix hr (vr 4) (vr 6)) qt) (qc (vr 2) (qc (vr 7) qf)))) (vr 1)) qf))))))))
  (ql (qo (ju (yL rfl) rfl Z.z_tuple kj (vO 5)))))))
abbrev QD:Stmt:=top 50
abbrev ZU:List Str:=["words", "look", "room", "numbers", "seen", "starts"]
abbrev QE:List Str:=["words", "look", "room", "numbers"]
theorem sc_worths:FnScope ZU QE (qm QD):=fsc
noncomputable def VX:qV:=(qM (sIf (qU (d2 qa9 (qr [.vl,.vl,.vl,.vl] qar (qd (qe 0) (qd (qe 1) (qd (qe 2) (qd (qe 3) qx))))) (dC .non))) (kg "Never" (qd (dC (.str "no worths give the words these numbers")) qx)) jE)
  (qM (jl 4 (qr [.vl,.vl] wL (qd (qe 0) (qd (qe 1) qx))))
  (qM (jl 5 (d1 Uw (qZ [] 2 [] (jJ (qr [.vl,.vl,.vl] jY (qd (qe 4) (qd (qe 2) (qd (qe 3) qx))))) (jG 2 (qw (gNm 0) (qw (gNm 1) jF))) ftT (xF (qd (qe 0) (qd (d2 ixD (qe 1) (dC (.int 0))) qx))))))
  (jB (qr [.vl,.vl,.vl,.vl] vD (qd (qe 4) (qd (qe 2) (qd (qe 3) (qd (qe 5) qx)))))))))
noncomputable abbrev QF:jz:=jS ZU [.val,.val,.val,.val] (VX)
abbrev UG (e0:Ev):=qC e0 8 "worths" QE [.val,.val,.val,.val] .sh (QF)
theorem qcc (Z:ZtE e0 ca) (T:kA e0 "worths" QD QE) (m:ul e0) (P:ZQ e0) (o:vU e0) (B:wN e0):UG e0:=
 qB (k:=7) (own':=[]) (fb:=VX) T sc_worths λcdv f A outer s H E hr=>(qg (jh (qK qbb (cN P hr (qc (vr 0) (qc (vr 1) (qc (vr 2) (qc (vr 3) qf))))) QZ) (ql (rz Z "Never" (qc uQ qf))) qP)
  (qg (se 4 sc_worths.nd (cN m hr (qc (vr 0) (qc (vr 1) qf))))
  (qg (se 5 sc_worths.nd (ju (ZE rfl rfl) rfl Z.z_dict VD (cmp (qL rfl (cN o hr (qc (vr 4) (qc (vr 2) (qc (vr 3) qf))))) (λ_ _ _ _=>(vm (qc (vr 0) (qc (ix hr (vr 1) qt) qf)))) (hg:=λ_ _ _ _=>(vg rfl rfl (qF (gC 0) (qF (gC 1) jT)))))))
  (ql (qo (cN B hr (qc (vr 4) (qc (vr 2) (qc (vr 3) (qc (vr 5) qf))))))))))
abbrev yT:Stmt:=top 20
abbrev KW:List Str:=["thing", "room"]
abbrev yU:List Str:=["thing", "room"]
theorem YY:FnScope KW yU (qm yT):=fsc
noncomputable def kJ:qV:=(qM (sIf (dOr (Qp (xE (d1 (Qt "tuple") (qe 0)))) (qU (d2 neD (d1 kC (qe 0)) (dC (.int 2))))) (jB (dC (.bl iE))) jE)
  (jB (WV (qr [.vl] vR (qd (d2 ixD (qe 0) (dC (.int 0))) qx)) (qr [.vl,.vl,.vl] jo (qd (d2 ixD (qe 0) (dC (.int 1))) (qd (dC (.int 0)) (qd (d2 Za (qe 1) (dC (.int 1))) qx)))))))
noncomputable abbrev yV:jz:=jS KW [.val,.val] (kJ)
abbrev JG (e0:Ev):=qC e0 2 "is_worth" yU [.val,.val] .sh (yV)
theorem YZ (Z:ZtE e0 ca) (T:kA e0 "is_worth" yT yU) (o:jK e0) (J:yp e0):JG e0:=
 qB (k:=1) (own':=[]) (fb:=kJ) T YY λcdv f A outer s H E hr=>(qg (jh (PW.pt (yc (js (tv (zt rfl rfl Z.z_isinstance ja rfl Z.z_tuple kj (vr 0)))) (kD (qK (Ki rfl hr.units) (qy (ji rfl) rfl Z.z_len jb (vr 0)) qt)))) (ql (qo gb)) qP)
  (ql (qo (WW (cN J hr (qc (ix hr (vr 0) qt) qf)) (Zf (cN o hr (qc (ix hr (vr 0) qt) (qc qt (qc (qQ zk (vr 1) qt) qf)))))))))
abbrev ux:Stmt:=top 21
abbrev JH:List Str:=["thing", "room", "letters"]
abbrev uy:List Str:=["thing", "room"]
theorem sc_is_worths:FnScope JH uy (qm ux):=fsc
noncomputable def uz:qV:=(qM (sIf (dOr (Qp (xE (d1 (Qt "tuple") (qe 0)))) (Qp (xE (d1 qbq (qZ [] 1 [1] (jJ (qe 0)) (gNm 0) ftT (qr [.vl,.vl] yV (qd (qe 0) (qd (qe 1) qx)))))))) (jB (dC (.bl iE))) jE)
  (qM (jl 2 (qZ [] 1 [] (jJ (qe 0)) (gNm 0) ftT (d2 ixD (qe 0) (dC (.int 0)))))
  (jB (d2 eqD (qe 2) (d1 wb (qe 2))))))
noncomputable abbrev kK:jz:=jS JH [.val,.val] (uz)
abbrev gZ (e0:Ev):=qC e0 3 "is_worths" uy [.val,.val] .sh (kK)
theorem UH (Z:ZtE e0 ca) (T:kA e0 "is_worths" ux uy) (O:JG e0):gZ e0:=
 qB (k:=2) (own':=[]) (fb:=uz) T sc_is_worths λcdv f A outer s H E hr=>(qg (jh (PW.pt (yc (js (tv (zt rfl rfl Z.z_isinstance ja rfl Z.z_tuple kj (vr 0)))) (kD (js (tv (qy (KJ rfl rfl) rfl Z.z_all KQ (cmp (qL rfl (vr 0)) (λ_ _ _ _=>(jj O hr (by decide) xy rfl (qc (vr 0) (qc (vr 1) qf))))))))))) (ql (qo gb)) qP)
  (qg (qhf 2 sc_is_worths.nd (qL rfl (vr 0)) (λ_ _ _ _=>(ix hr (vr 0) qt)))
  (ka [2] (ql (qo (vJ (uU rfl hr.units) (vr 2) (gj rfl rfl rfl Z.z_sorted yk rfl Z.z_set ZK (vr 2))))))))
abbrev kT:Stmt:=top 26
abbrev xL:List Str:=["thing", "room"]
abbrev kU:List Str:=["thing", "room"]
theorem JI:FnScope xL kU (qm kT):=fsc
noncomputable def wO:qV:=(sIf (Qp (xE (qr [.vl,.vl] kK (qd (qe 0) (qd (qe 1) qx))))) (kg "NoWorths" (qd (dC (.str "worths are a rising tuple of unlike letters, each with a number within the room")) qx)) jE)
noncomputable abbrev wP:jz:=jS xL [.val,.val] (wO)
abbrev yz (e0:Ev):=qC e0 4 "check_worths" kU [.val,.val] .sh (wP)
theorem JJ (Z:ZtE e0 ca) (T:kA e0 "check_worths" kT kU) (o:gZ e0):yz e0:=
 qB (k:=3) (own':=[]) (fb:=wO) T JI λcdv f A outer s H E hr=>(ql (jh (js (tv (cN o hr (qc (vr 0) (qc (vr 1) qf))))) (ql (rz Z "NoWorths" (qc uQ qf))) qP))
abbrev QG:Stmt:=top 32
abbrev ZV:List Str:=["total", "room"]
abbrev QH:List Str:=["total", "room"]
theorem qcd:FnScope ZV QH (qm QG):=fsc
noncomputable def VY:qV:=(jB (dIf (qU (d2 geD (qe 0) (qe 1))) (d2 Za (qe 0) (qe 1)) (qe 0)))
noncomputable abbrev QI:jz:=jS ZV [.val,.val] (VY)
abbrev UI (e0:Ev):=qC e0 1 "within" QH [.val,.val] .sh (QI)
theorem qce (Z:ZtE e0 ca) (T:kA e0 "within" QG QH):UI e0:=
 qB (k:=0) (own':=[]) (fb:=VY) T qcd λcdv f A outer s H E hr=>(ql (qo (Yy (qK qgE (vr 0) (vr 1)) (qQ zk (vr 0) (vr 1)) (vr 0))))
abbrev yW:Stmt:=top 33
abbrev KY:List Str:=["words", "look", "room", "worths", "seen", "worth_of"]
abbrev yX:List Str:=["words", "look", "room", "worths"]
theorem sc_numbered:FnScope KY yX (qm yW):=fsc
noncomputable def yY:qV:=(qM (jl 4 (qr [.vl,.vl] wL (qd (qe 0) (qd (qe 1) qx))))
  (qM (vo (qr [.vl] wj (qd (qe 2) qx)))
  (qM (vo (qr [.vl,.vl] wP (qd (qe 3) (qd (qe 2) qx))))
  (qM (jl 5 (d1 qbu (qe 3)))
  (qM (sIf (Qp (xE (d1 qbq (qZ [] 1 [5] (jJ (qr [.vl] jp (qd (qe 4) qx))) (gNm 0) ftT (d2 inA (qe 0) (qe 1)))))) (kg "NoWorths" (qd (dC (.str "a letter that is seen has no worth")) qx)) jE)
  (jB (d1 wU (qZ [] 1 [2,5] (jJ (qe 4)) (gNm 0) ftT (qr [.vl,.vl] QI (qd (d2 vK (d2 ixD (qe 2) (d2 ixD (qe 0) (dC (.int 0)))) (d2 ixD (qe 2) (d2 ixD (qe 0) (dC (.int 1))))) (qd (qe 1) qx)))))))))))
noncomputable abbrev vI:jz:=jS KY [.val,.val,.val,.val] (yY)
abbrev JK (e0:Ev):=qC e0 6 "numbered" yX [.val,.val,.val,.val] .sh (vI)
theorem Xa (Z:ZtE e0 ca) (T:kA e0 "numbered" yW yX) (G:ud e0) (X:yz e0) (m:ul e0) (o:vx e0) (O:UI e0):JK e0:=
 qB (k:=5) (own':=[]) (fb:=yY) T sc_numbered λcdv f A outer s H E hr=>(qg (se 4 sc_numbered.nd (cN m hr (qc (vr 0) (qc (vr 1) qf))))
  (qg (jD (cN G hr (qc (vr 2) qf)))
  (qg (jD (cN X hr (qc (vr 3) (qc (vr 2) qf))))
  (qg (se 5 sc_numbered.nd (ju (qbw rfl rfl) rfl Z.z_dict VD (vr 3)))
  (qg (jh (js (tv (qy (KJ rfl rfl) rfl Z.z_all KQ (cmp (qL rfl (cN o hr (qc (vr 4) qf))) (λ_ _ _ _=>(vJ (qfv rfl hr.units) (vr 0) (vr 1))))))) (ql (rz Z "NoWorths" (qc uQ qf))) qP)
  (ql (qo (ju (yL rfl) rfl Z.z_tuple kj (cmp (qL rfl (vr 4)) (λ_ _ _ _=>(jj O hr (by decide) xy rfl (qc (qQ (jH rfl) (ix hr (vr 2) (ix hr (vr 0) qt)) (ix hr (vr 2) (ix hr (vr 0) qt))) (qc (vr 1) qf)))))))))))))
abbrev wx:Stmt:=top 51
abbrev Qa:List Str:=["words", "look", "room", "numbers", "thing", "given"]
abbrev wy:List Str:=["words", "look", "room", "numbers", "thing"]
theorem sc_is_telling:FnScope Qa wy (qm wx):=fsc
noncomputable def yA (ca:Str->Addr):qV:=(qM (vo (qr [.vl,.vl,.vl,.vl] jX (qd (qe 0) (qd (qe 1) (qd (qe 2) (qd (qe 3) qx))))))
  (qM (qh3 6 iw (qi3 ca ["NoWorths"]) (jl 5 (qr [.vl,.vl,.vl,.vl] vI (qd (qe 0) (qd (qe 1) (qd (qe 2) (qd (qe 4) qx)))))) (jB (dC (.bl iE))))
  (jB (d2 eqD (qe 5) (qe 3)))))
noncomputable abbrev va (ca:Str->Addr):jz:=jS Qa [.val,.val,.val,.val,.val] (yA ca)
abbrev uA (ca:Str->Addr) (e0:Ev):=qC e0 7 "is_telling" wy [.val,.val,.val,.val,.val] .sh (va ca)
theorem VZ (Z:ZtE e0 ca) (T:kA e0 "is_telling" wx wy) (O:JK e0) (o:kq e0):uA ca e0:=
 qB (k:=6) (own':=[]) (fb:=yA ca) T sc_is_telling λcdv f A outer s H E hr=>(qg (jD (cN o hr (qc (vr 0) (qc (vr 1) (qc (vr 2) (qc (vr 3) qf))))))
  (qg (qdW (own2:=[]) (n:=6) rfl rfl rfl rfl (Z.mref "NoWorths" (by decide +kernel)) (qmA (Z.xs.val "NoWorths" (by decide +kernel)) Z.s_NoWorths) rfl (λpn xe E hx=>(ql (se 5 sc_is_telling.nd (jj O hr (by decide) hx rfl (qc (vr 0) (qc (vr 1) (qc (vr 2) (qc (vr 4) qf)))))))) (λe=>(ql (qo gb))))
  (ql (qo (vJ (uU rfl hr.units) (vr 5) (vr 3))))))
abbrev yZ:Stmt:=top 53
abbrev gy:List Str:=["words", "look", "room", "numbers", "count", "root", "choices"]
abbrev xa:List Str:=["words", "look", "room", "numbers"]
theorem sc_how_many:FnScope gy xa (qm yZ):=fsc
noncomputable def xb:qV:=(qM (sIf (qU (d2 qa9 (qr [.vl,.vl,.vl,.vl] qar (qd (qe 0) (qd (qe 1) (qd (qe 2) (qd (qe 3) qx))))) (dC .non))) (jB (dC (.int 0))) jE)
  (qM (jl 4 (dC (.int 1)))
  (qM (KC (jJ (qr [.vl,.vl,.vl] jY (qd (qr [.vl,.vl] wL (qd (qe 0) (qd (qe 1) qx))) (qd (qe 2) (qd (qe 3) qx))))) (jG 2 (qw (gNm 5) (qw (gNm 6) jF)))
  (jl 4 (d2 Yw (qe 4) (d1 kC (qe 6)))))
  (jB (qe 4)))))
noncomputable abbrev xc:jz:=jS gy [.val,.val,.val,.val] (xb)
abbrev xT (e0:Ev):=qC e0 8 "how_many" xa [.val,.val,.val,.val] .sh (xc)
theorem Xb (Z:ZtE e0 ca) (T:kA e0 "how_many" yZ xa) (m:ul e0) (P:ZQ e0) (o:vU e0):xT e0:=
 qB (k:=7) (own':=[]) (fb:=xb) T sc_how_many λcdv f A outer s H E hr=>(qg (jh (qK qbb (cN P hr (qc (vr 0) (qc (vr 1) (qc (vr 2) (qc (vr 3) qf))))) QZ) (ql (qo qt)) qP)
  (qg (se 4 sc_how_many.nd qt)
  (qg (jV aO rfl (qL rfl (cN o hr (qc (cN m hr (qc (vr 0) (qc (vr 1) qf))) (qc (vr 2) (qc (vr 3) qf))))) (vg rfl rfl (qF (gn 5 sc_how_many.nd) (qF (gn 6 sc_how_many.nd) jT)))
  (ql (se 4 sc_how_many.nd (qQ KA (vr 4) (qy (ji rfl) rfl Z.z_len jb (vr 6))))))
  (ql (qo (vr 4))))))
abbrev uB:Stmt:=top 54
abbrev JL:List Str:=["roots", "at", "starts", "rest", "root", "choices"]
abbrev uC:List Str:=["roots", "at"]
theorem sc_starts_at:FnScope JL uC (qm uB):=fsc
noncomputable def xU:qV:=(qM (jl 2 (dC (.dct [])))
  (qM (jl 3 (qe 1))
  (qM (KC (qlo (qe 0)) (jG 2 (qw (gNm 4) (qw (gNm 5) jF)))
  (qM (Qh 2 (d2 ixD (qe 5) (d2 yb (qe 3) (d1 kC (qe 5)))) (qe 4))
  (jl 3 (d2 gc (qe 3) (d1 kC (qe 5))))))
  (jB (qe 2)))))
noncomputable abbrev xV:jz:=jS JL [.val,.val] (xU)
abbrev Qb (e0:Ev):=qC e0 1 "starts_at" uC [.val,.val] .sh (xV)
theorem UJ (Z:ZtE e0 ca) (T:kA e0 "starts_at" uB uC):Qb e0:=
 qB (k:=0) (own':=[]) (fb:=xU) T sc_starts_at λcdv f A outer s H E hr=>(qg (sO 2 sc_starts_at.nd Vs)
  (qg (se 3 sc_starts_at.nd (vr 1))
  (qg (jV aO rfl (qhe rfl rfl Z.z_reversed (vr 0)) (vg rfl rfl (qF (gn 4 sc_starts_at.nd) (qF (gn 5 sc_starts_at.nd) jT)))
  (qg (Qv (n:=2) hr.units rfl (bI rfl) (by decide) (ix hr (vr 5) (qQ vh (vr 3) (qy (ji rfl) rfl Z.z_len jb (vr 5)))) (vr 4))
  (ql (se 3 sc_starts_at.nd (qQ Ja (vr 3) (qy (ji rfl) rfl Z.z_len jb (vr 5)))))))
  (ka [2] (ql (qo (vr 2)))))))
abbrev uD:Stmt:=top 55
abbrev JM:List Str:=["words", "look", "room", "numbers", "at", "count", "seen"]
abbrev uE:List Str:=["words", "look", "room", "numbers", "at"]
theorem sc_worths_at:FnScope JM uE (qm uD):=fsc
noncomputable def xW:qV:=(qM (jl 5 (qr [.vl,.vl,.vl,.vl] xc (qd (qe 0) (qd (qe 1) (qd (qe 2) (qd (qe 3) qx))))))
  (qM (sIf (Qp (xE (qr [.vl,.vl,.vl] jo (qd (qe 4) (qd (dC (.int 0)) (qd (d2 Za (qe 5) (dC (.int 1))) qx)))))) (kg "NoPlace" (qd (dC (.str "there are no worths of this number")) qx)) jE)
  (qM (jl 6 (qr [.vl,.vl] wL (qd (qe 0) (qd (qe 1) qx))))
  (jB (qr [.vl,.vl,.vl,.vl] vD (qd (qe 6) (qd (qe 2) (qd (qe 3) (qd (qr [.vl,.vl] xV (qd (qr [.vl,.vl,.vl] jY (qd (qe 6) (qd (qe 2) (qd (qe 3) qx)))) (qd (qe 4) qx))) qx)))))))))
noncomputable abbrev kL:jz:=jS JM [.val,.val,.val,.val,.val] (xW)
abbrev Qc (e0:Ev):=qC e0 9 "worths_at" uE [.val,.val,.val,.val,.val] .sh (kL)
theorem UK (Z:ZtE e0 ca) (T:kA e0 "worths_at" uD uE) (g:jK e0) (m:ul e0) (o:vU e0) (B:wN e0) (K:xT e0) (a:Qb e0):Qc e0:=
 qB (k:=8) (own':=[]) (fb:=xW) T sc_worths_at λcdv f A outer s H E hr=>(qg (se 5 sc_worths_at.nd (cN K hr (qc (vr 0) (qc (vr 1) (qc (vr 2) (qc (vr 3) qf))))))
  (qg (jh (js (tv (cN g hr (qc (vr 4) (qc qt (qc (qQ zk (vr 5) qt) qf)))))) (ql (rz Z "NoPlace" (qc uQ qf))) qP)
  (qg (se 6 sc_worths_at.nd (cN m hr (qc (vr 0) (qc (vr 1) qf))))
  (ql (qo (cN B hr (qc (vr 6) (qc (vr 2) (qc (vr 3) (qc (cN a hr (qc (cN o hr (qc (vr 6) (qc (vr 2) (qc (vr 3) qf)))) (qc (vr 4) qf))) qf))))))))))
abbrev xf:Stmt:=top 56
abbrev KZ:List Str:=["words", "look", "room", "numbers", "thing", "is_one", "seen", "worth_of", "place", "root", "choices"]
abbrev xg:List Str:=["words", "look", "room", "numbers", "thing"]
theorem sc_place_of:FnScope KZ xg (qm xf):=fsc
noncomputable def gz (ca:Str->Addr):qV:=(qM (jl 5 (qr [.vl,.vl,.vl,.vl,.vl] (va ca) (qd (qe 0) (qd (qe 1) (qd (qe 2) (qd (qe 3) (qd (qe 4) qx)))))))
  (qM (jl 6 (qr [.vl,.vl] wL (qd (qe 0) (qd (qe 1) qx))))
  (qM (sIf (dOr (Qp (xE (qe 5))) (qU (d2 neD (d1 kC (qe 4)) (d1 kC (qr [.vl] jp (qd (qe 6) qx)))))) (kg "NoWorths" (qd (dC (.str "these are no worths of just the letters that are seen, by which words have these numbers")) qx)) jE)
  (qM (jl 7 (d1 qbu (qe 4)))
  (qM (jl 8 (dC (.int 0)))
  (qM (KC (jJ (qr [.vl,.vl,.vl] jY (qd (qe 6) (qd (qe 2) (qd (qe 3) qx))))) (jG 2 (qw (gNm 9) (qw (gNm 10) jF)))
  (jl 8 (d2 vK (d2 Yw (qe 8) (d1 kC (qe 10))) (dM qko Jr (qe 10) (d2 ixD (qe 7) (qe 9))))))
  (jB (qe 8))))))))
noncomputable abbrev xh (ca:Str->Addr):jz:=jS KZ [.val,.val,.val,.val,.val] (gz ca)
abbrev JO (ca:Str->Addr) (e0:Ev):=qC e0 8 "place_of" xg [.val,.val,.val,.val,.val] .sh (xh ca)
theorem Xc (Z:ZtE e0 ca) (T:kA e0 "place_of" xf xg) (m:ul e0) (o:vx e0) (u:vU e0) (a:uA ca e0):JO ca e0:=
 qB (k:=7) (own':=[]) (fb:=gz ca) T sc_place_of λcdv f A outer s H E hr=>(qg (se 5 sc_place_of.nd (cN a hr (qc (vr 0) (qc (vr 1) (qc (vr 2) (qc (vr 3) (qc (vr 4) qf)))))))
  (qg (se 6 sc_place_of.nd (cN m hr (qc (vr 0) (qc (vr 1) qf))))
  (qg (jh (PW.pt (yc (js (tv (vr 5))) (kD (qK (Ki rfl hr.units) (qy (ji rfl) rfl Z.z_len jb (vr 4)) (qy (ji rfl) rfl Z.z_len jb (cN o hr (qc (vr 6) qf))))))) (ql (rz Z "NoWorths" (qc uQ qf))) qP)
  (qg (se 7 sc_place_of.nd (ju (qbw rfl rfl) rfl Z.z_dict VD (vr 4)))
  (qg (se 8 sc_place_of.nd qt)
  (qg (jV aO rfl (qL rfl (cN u hr (qc (vr 6) (qc (vr 2) (qc (vr 3) qf))))) (vg rfl rfl (qF (gn 9 sc_place_of.nd) (qF (gn 10 sc_place_of.nd) jT)))
  (ql (se 8 sc_place_of.nd (qQ (jH rfl) (qQ KA (vr 8) (qy (ji rfl) rfl Z.z_len jb (vr 10))) (qei PySem.F.slot_list_index PySem.F.type_list_index (qej rfl hr.units) rfl (vr 10) (ix hr (vr 7) (vr 9)))))))
  (ql (qo (vr 8)))))))))
abbrev jL:Stmt:=top 58
abbrev kM:List Str:=["seen", "room", "numbers", "gone", "kept"]
abbrev jM:List Str:=["seen", "room", "numbers", "gone"]
theorem sc_can_be_left_out:FnScope kM jM (qm jL):=fsc
noncomputable def kN:qV:=(qM (jl 4 (qZ [] 1 [3] (kf (d1 kC (qe 0))) (gNm 0) (qU (d2 Qu (qe 0) (qe 1))) (qe 0)))
  (jB (d2 qfm (qr [.vl,.vl,.vl] yQ (qd (qZ [] 1 [0] (jJ (qe 4)) (gNm 0) ftT (d2 ixD (qe 1) (qe 0))) (qd (qe 1) (qd (qZ [] 1 [2] (jJ (qe 4)) (gNm 0) ftT (d2 ixD (qe 1) (qe 0))) qx)))) (dC .non))))
noncomputable abbrev jx:jz:=jS kM [.val,.val,.val,.val] (kN)
abbrev wz (e0:Ev):=qC e0 5 "can_be_left_out" jM [.val,.val,.val,.val] .sh (jx)
theorem zN (Z:ZtE e0 ca) (T:kA e0 "can_be_left_out" jL jM) (C:zL e0):wz e0:=
 qB (k:=4) (own':=[]) (fb:=kN) T sc_can_be_left_out λcdv f A outer s H E hr=>(qg (qhf 4 sc_can_be_left_out.nd (vE rfl Z.z_range (qy (ji rfl) rfl Z.z_len jb (vr 0))) (λ_ _ _ _=>(vr 0)) (ht:=λ_ _ _ _=>(gf (qK (wW rfl hr.units) (vr 0) (vr 1)))))
  (ka [4] (ql (qo (vJ qba (cN C hr (qc (cmp (qL rfl (vr 4)) (λ_ _ _ _=>(ix hr (vr 1) (vr 0)))) (qc (vr 1) (qc (cmp (qL rfl (vr 4)) (λ_ _ _ _=>(ix hr (vr 1) (vr 0)))) qf)))) QZ)))))
abbrev wA:Stmt:=top 59
abbrev yB:List Str:=["choices", "count", "found", "choice", "start"]
abbrev wB:List Str:=["choices", "count"]
theorem sc_one_longer:FnScope yB wB (qm wA):=fsc
noncomputable def yC:qV:=(qM (jl 2 (gK qx))
  (qM (KC (jJ (qe 0)) (gNm 3)
  (qM (jl 4 (dIf (qU (d2 gtD (d1 kC (qe 3)) (dC (.int 0)))) (d2 vK (d2 ixD (qe 3) (d1 qh4 (dC (.int 1)))) (dC (.int 1))) (dC (.int 0))))
  (vo (Vw 2 qgW (qZ [2] 1 [3] (gl (qe 4) (qe 1)) (gNm 0) ftT (d2 vK (qe 1) (xF (qd (qe 0) qx))))))))
  (jB (qe 2))))
noncomputable abbrev vc:jz:=jS yB [.val,.val] (yC)
abbrev zO (e0:Ev):=qC e0 1 "one_longer" wB [.val,.val] .sh (vc)
theorem Wa (Z:ZtE e0 ca) (T:kA e0 "one_longer" wA wB):zO e0:=
 qB (k:=0) (own':=[]) (fb:=yC) T sc_one_longer λcdv f A outer s H E hr=>(qg (sO 2 sc_one_longer.nd (kB qf))
  (qg (jV aO rfl (qL rfl (vr 0)) (gn 3 sc_one_longer.nd)
  (qg (se 4 sc_one_longer.nd (Yy (qK qgD (qy (ji rfl) rfl Z.z_len jb (vr 3)) qt) (qQ (jH rfl) (ix hr (vr 3) (qgw qbo qt)) qt) qt))
  (ql (jD (Uf (i:=2) rfl (bI rfl) (by decide) (cmp (qae rfl Z.z_range (vr 4) (vr 1)) (λ_ _ _ _=>(qQ (jH rfl) (vr 1) (vm (qc (vr 0) qf))))))))))
  (ka [2] (ql (qo (vr 2))))))
abbrev QJ:Stmt:=top 60
abbrev Wb:List Str:=["seen", "room", "numbers", "choices", "found"]
abbrev QK:List Str:=["seen", "room", "numbers"]
theorem sc_fewest:FnScope Wb QK (qm QJ):=fsc
noncomputable def Wc:qV:=(qM (jl 3 (gK λρ=>.ok ([(.tup [])],ρ)))
  (qM (jl 4 (gK qx))
  (qM (jm (qU (d2 eqD (d1 kC (qe 4)) (dC (.int 0))))
  (qM (jl 4 (qZ [] 1 [0,1,2] (jJ (qe 3)) (gNm 0) (xE (qr [.vl,.vl,.vl,.vl] jx (qd (qe 1) (qd (qe 2) (qd (qe 3) (qd (qe 0) qx)))))) (qe 0)))
  (jl 3 (qr [.vl,.vl] vc (qd (qe 3) (qd (d1 kC (qe 0)) qx))))) 20)
  (jB (qe 4)))))
noncomputable abbrev QL:jz:=jS Wb [.val,.val,.val] (Wc)
abbrev JP (e0:Ev):=qC e0 6 "fewest" QK [.val,.val,.val] .sh (QL)
theorem qcf (Z:ZtE e0 ca) (T:kA e0 "fewest" QJ QK) (o:wz e0) (a:zO e0):JP e0:=
 qB (k:=5) (own':=[]) (fb:=Wc) T sc_fewest λcdv f A outer s H E hr=>(qg (se 3 sc_fewest.nd (qbS 7 rfl))
  (qg (se 4 sc_fewest.nd (kB qf))
  (qg (Je 20 aO (qK (uU rfl hr.units) (qy (ji rfl) rfl Z.z_len jb (vr 4)) qt)
  (qg (qhf 4 sc_fewest.nd (qL rfl (vr 3)) (λ_ _ _ _=>(vr 0)) (ht:=λ_ _ _ _=>(gf (tv (jj o hr (by decide) xy rfl (qc (vr 1) (qc (vr 2) (qc (vr 3) (qc (vr 0) qf)))))))))
  (ka [4] (ql (se 3 sc_fewest.nd (cN a hr (qc (vr 3) (qc (qy (ji rfl) rfl Z.z_len jb (vr 0)) qf))))))))
  (ql (qo (vr 4))))))
abbrev xi:Stmt:=top 61
abbrev Va:List Str:=["words", "look", "room", "numbers", "seen"]
abbrev xj:List Str:=["words", "look", "room", "numbers"]
theorem sc_left_out:FnScope Va xj (qm xi):=fsc
noncomputable def Vb:qV:=(qM (jl 4 (qr [.vl,.vl,.vl,.vl] jX (qd (qe 0) (qd (qe 1) (qd (qe 2) (qd (qe 3) qx))))))
  (jB (d2 ixD (qr [.vl,.vl,.vl] QL (qd (qe 4) (qd (qe 2) (qd (qe 3) qx)))) (dC (.int 0)))))
noncomputable abbrev xl:jz:=jS Va [.val,.val,.val,.val] (Vb)
abbrev JQ (e0:Ev):=qC e0 7 "left_out" xj [.val,.val,.val,.val] .sh (xl)
theorem Xd (Z:ZtE e0 ca) (T:kA e0 "left_out" xi xj) (o:kq e0) (N:JP e0):JQ e0:=
 qB (k:=6) (own':=[]) (fb:=Vb) T sc_left_out λcdv f A outer s H E hr=>(qg (se 4 sc_left_out.nd (cN o hr (qc (vr 0) (qc (vr 1) (qc (vr 2) (qc (vr 3) qf))))))
  (ql (qo (ix hr (cN N hr (qc (vr 4) (qc (vr 2) (qc (vr 3) qf)))) qt))))
abbrev wC:Stmt:=top 58
abbrev kt:List Str:=["seen", "room", "numbers", "gone", "kept"]
abbrev ku:List Str:=["seen", "room", "numbers", "gone"]
theorem sc_can_be_left_outL:FnScope kt ku (qm wC):=fsc
noncomputable def kw:qV:=(qM (jl 4 (qZ [2] 1 [3] (kf (d1 kC (qe 0))) (gNm 0) (qU (d2 Qu (qe 0) (qe 1))) (qe 0)))
  (jB (d2 qfm (qr [.vl,.vl,.vl] yQ (qd (qZ [2] 1 [0] (jJ (qe 4)) (gNm 0) ftT (d2 ixD (qe 1) (qe 0))) (qd (qe 1) (qd (qZ [2] 1 [2] (jJ (qe 4)) (gNm 0) ftT (d2O 1 ixD (qe 0))) qx)))) (dC .non))))
noncomputable abbrev qR:jz:=jS kt [.val,.val,.io,.val] (kw)
abbrev vV (e0:Ev):=qC e0 5 "can_be_left_out" ku [.val,.val,.io,.val] .sh (qR)
theorem xX (Z:ZtE e0 ca) (T:kA e0 "can_be_left_out" wC ku) (C:zL e0):vV e0:=
 qB (k:=4) (own':=[2]) (fb:=kw) T sc_can_be_left_outL λcdv f A outer s H E hr=>(qg (qhf 4 sc_can_be_left_outL.nd (vE rfl Z.z_range (qy (ji rfl) rfl Z.z_len jb (vr 0))) (λ_ _ _ _=>(vr 0)) (ht:=λ_ _ _ _=>(gf (qK (wW rfl hr.units) (vr 0) (vr 1)))))
  (ka [4] (ql (qo (vJ qba (cN C hr (qc (cmp (qL rfl (vr 4)) (λ_ _ _ _=>(ix hr (vr 1) (vr 0)))) (qc (vr 1) (qc (cmp (qL rfl (vr 4)) (λ_ _ _ _=>(qbT (i:=1) rfl hr.units rfl (by first | exact cx (cx rfl) | exact cx (bI rfl)) (by decide) (vr 0) (λ_ _=>rfl)))) qf)))) QZ)))))
abbrev kx:Stmt:=top 62
abbrev vW:List Str:=["seen", "room", "numbers", "gone", "found", "place", "at"]
abbrev ky:List Str:=["seen", "room", "numbers", "gone"]
theorem sc_least_without:FnScope vW ky (qm kx):=fsc
noncomputable def vX:qV:=(qM (jl 4 (d1 Ug (qe 2)))
  (qM (KC (qb0 (qe 3)) (jG 2 (qw (gNm 5) (qw (gNm 6) jF)))
  (qM (xH 4 (dC (.int 0)) (qe 6))
  (jm (Qp (xE (qr [.vl,.vl,.sl 4,.vl] qR (qd (qe 0) (qd (qe 1) (kb (qd (Zq (qe 3) (iu (d2 vK (qe 5) (dC (.int 1)))) iw iw) qx)))))))
  (xH 4 (d2 vK (d2O 4 ixD (qe 6)) (dC (.int 1))) (qe 6)) 20)))
  (jB (d1 wU (qe 4)))))
noncomputable abbrev vY:jz:=jS vW [.val,.val,.val,.val] (vX)
abbrev uS (e0:Ev):=qC e0 6 "least_without" ky [.val,.val,.val,.val] .sh (vY)
theorem Qk (Z:ZtE e0 ca) (T:kA e0 "least_without" kx ky) (o:vV e0):uS e0:=
 qB (k:=5) (own':=[]) (fb:=vX) T sc_least_without λcdv f A outer s H E hr=>(qg (sO 4 sc_least_without.nd (ju (YE rfl) rfl Z.z_list Jv (vr 2)))
  (qg (jV aO rfl (qb2 rfl rfl Z.z_enumerate (vr 3)) (vg rfl rfl (qF (gn 5 sc_least_without.nd) (qF (gn 6 sc_least_without.nd) jT)))
  (qg (Ju (n:=4) rfl (bI rfl) (by decide) qt (vr 6))
  (ql (Je 20 aO (js (tv (cN o hr (qc (vr 0) (qc (vr 1) (sl 4 (qc (qd4 rfl (vr 3) (qd3 (qQ (jH rfl) (vr 5) qt)) Zr Zr) qf)))))))
  (ql (Ju (n:=4) rfl (bI rfl) (by decide) (qQ (jH rfl) (qbT (i:=4) rfl hr.units rfl (bI rfl) (by decide) (vr 6) (λ_ _=>rfl)) qt) (vr 6)))))))
  (ql (qo (ju (yL rfl) rfl Z.z_tuple kj (vO 4))))))
abbrev QM:Stmt:=top 63
abbrev ZW:List Str:=["words", "look", "room", "numbers", "seen"]
abbrev QN:List Str:=["words", "look", "room", "numbers"]
theorem sc_mended:FnScope ZW QN (qm QM):=fsc
noncomputable def ZX:qV:=(qM (jl 4 (qr [.vl,.vl,.vl,.vl] jX (qd (qe 0) (qd (qe 1) (qd (qe 2) (qd (qe 3) qx))))))
  (jB (d1 qeu (qZ [] 1 [4,2,3] (jJ (qr [.vl,.vl,.vl] QL (qd (qe 4) (qd (qe 2) (qd (qe 3) qx))))) (gNm 0) ftT (qr [.vl,.vl,.vl,.vl] vY (qd (qe 1) (qd (qe 2) (qd (qe 3) (qd (qe 0) qx)))))))))
noncomputable abbrev QO:jz:=jS ZW [.val,.val,.val,.val] (ZX)
abbrev UL (e0:Ev):=qC e0 7 "mended" QN [.val,.val,.val,.val] .sh (QO)
theorem qcg (Z:ZtE e0 ca) (T:kA e0 "mended" QM QN) (o:kq e0) (N:JP e0) (V:uS e0):UL e0:=
 qB (k:=6) (own':=[]) (fb:=ZX) T sc_mended λcdv f A outer s H E hr=>(qg (se 4 sc_mended.nd (cN o hr (qc (vr 0) (qc (vr 1) (qc (vr 2) (qc (vr 3) qf))))))
  (ql (qo (qy (qhd rfl rfl hr.units) rfl Z.z_min qfz (cmp (qL rfl (cN N hr (qc (vr 4) (qc (vr 2) (qc (vr 3) qf))))) (λ_ _ _ _=>(jj V hr (by decide) xy rfl (qc (vr 1) (qc (vr 2) (qc (vr 3) (qc (vr 0) qf)))))))))))
abbrev xm:Stmt:=top 65
abbrev Vc:List Str:=["_law_script", "_law_k"]
abbrev kX:List Str:=["_law_script", "_law_k"]
theorem Xe:FnScope Vc kX (qm xm):=fsc
noncomputable def wY:qV:=(qM (sIf (qU (d2 ltD (qe 1) (d1 kC (qe 0)))) (jB (d2 ixD (qe 0) (qe 1))) jE)
  (qM (sIf (qU (d2 eqD (qe 0) (gK qx))) (jB (dC (.int 0))) jE)
  (jB (d2 vK (d2 Yw (d2 ixD (qe 0) (d2 yb (qe 1) (d1 kC (qe 0)))) (dC (.int 31))) (qe 1)))))
noncomputable abbrev gA:jz:=jS Vc [.val,.val] (wY)
abbrev JR (e0:Ev):=qC e0 1 "_law_cell_at" kX [.val,.val] .sh (gA)
theorem Xf (Z:ZtE e0 ca) (T:kA e0 "_law_cell_at" xm kX):JR e0:=
 qB (k:=0) (own':=[]) (fb:=wY) T Xe λcdv f A outer s H E hr=>(qg (jh (qK qiL (vr 1) (qy (ji rfl) rfl Z.z_len jb (vr 0))) (ql (qo (ix hr (vr 0) (vr 1)))) qP)
  (qg (jh (qK (uU rfl hr.units) (vr 0) (kB qf)) (ql (qo qt)) qP)
  (ql (qo (qQ (jH rfl) (qQ KA (ix hr (vr 0) (qQ vh (vr 1) (qy (ji rfl) rfl Z.z_len jb (vr 0)))) qt) (vr 1))))))
abbrev QP:Stmt:=top 66
abbrev ZY:List Str:=["_law_script", "_law_k", "_law_many", "_law_drawn"]
abbrev wE:List Str:=["_law_script", "_law_k", "_law_many"]
theorem sc_Lmixed:FnScope ZY wE (qm QP):=fsc
noncomputable def We:qV:=(qM (jl 3 (d2 yb (d2 vK (d2 vK (d2 Yw (qr [.vl,.vl] gA (qd (qe 0) (qd (qe 1) qx))) (dC (.int 1103515245))) (d2 Yw (dC (.int 7919)) (qe 1))) (dC (.int 12345))) (dC (.int 2147483647))))
  (jB (d2 yb (d2 yb (d2 yb (d2 qln (qe 3) (dC (.int 5))) (dC (.int 2147483647))) (dC (.int 999983))) (qe 2))))
noncomputable abbrev Wf:jz:=jS ZY [.val,.val,.val] (We)
abbrev UM (e0:Ev):=qC e0 2 "_law_mixed" wE [.val,.val,.val] .sh (Wf)
theorem qch (Z:ZtE e0 ca) (T:kA e0 "_law_mixed" QP wE) (O:JR e0):UM e0:=
 qB (k:=1) (own':=[]) (fb:=We) T sc_Lmixed λcdv f A outer s H E hr=>(qg (se 3 sc_Lmixed.nd (qQ vh (qQ (jH rfl) (qQ (jH rfl) (qQ KA (cN O hr (qc (vr 0) (qc (vr 1) qf))) qt) (qQ KA qt (vr 1))) qt) qt))
  (ql (qo (qQ vh (qQ vh (qQ vh (qQ qje (vr 3) qt) qt) qt) (vr 2)))))
abbrev Wg:Stmt:=top 67
abbrev qci:List Str:=["_law_script", "_law_town", "_law_many"]
abbrev uF:List Str:=["_law_script", "_law_town", "_law_many"]
theorem qeC:FnScope qci uF (qm Wg):=fsc
noncomputable def Xg:qV:=(qM (vo (Vw 1 Ue (dC (.int 0))))
  (jB (qr [.vl,.vl,.vl] Wf (qd (qe 0) (qd (d1 kC (qe 1)) (qd (qe 2) qx))))))
noncomputable abbrev jQ:jz:=jS qci [.val,.io,.val] (Xg)
abbrev xn (e0:Ev):=qC e0 3 "_law_draw" uF [.val,.io,.val] .sh (jQ)
theorem qeD (Z:ZtE e0 ca) (T:kA e0 "_law_draw" Wg uF) (O:UM e0):xn e0:=
 qB (k:=2) (own':=[1]) (fb:=Xg) T qeC λcdv f A outer s H E hr=>(qg (jD (yg (i:=1) rfl rfl (bI rfl) (by decide) qt))
  (ql (qo (cN O hr (qc (vr 0) (qc (qy (ji rfl) rfl Z.z_len jb (vO 1)) (qc (vr 2) qf)))))))
abbrev Wh:Stmt:=top 68
abbrev qcj:List Str:=["_law_script", "_law_town", "_law_some"]
abbrev uG:List Str:=["_law_script", "_law_town", "_law_some"]
theorem qeE:FnScope qcj uG (qm Wh):=fsc
noncomputable def Xh:qV:=(jB (d2 ixD (qe 2) (qr [.vl,.sl 1,.vl] jQ (qd (qe 0) (kb (qd (d1 kC (qe 2)) qx))))))
noncomputable abbrev JS:jz:=jS qcj [.val,.io,.val] (Xh)
abbrev Wi (e0:Ev):=qC e0 4 "_law_pick" uG [.val,.io,.val] .sh (JS)
theorem qeF (Z:ZtE e0 ca) (T:kA e0 "_law_pick" Wh uG) (o:xn e0):Wi e0:=
 qB (k:=3) (own':=[1]) (fb:=Xh) T qeE λcdv f A outer s H E hr=>(ql (qo (ix hr (vr 2) (cN o hr (qc (vr 0) (sl 1 (qc (qy (ji rfl) rfl Z.z_len jb (vr 2)) qf)))))))
abbrev Wj:Stmt:=top 69
abbrev qck:List Str:=["_law_script", "_law_town", "_law_letters_here", "_law_most"]
abbrev uH:List Str:=["_law_script", "_law_town", "_law_letters_here", "_law_most"]
theorem qeG:FnScope qck uH (qm Wj):=fsc
noncomputable def Xi:qV:=(jB (d1 (qbL "") (qZ [1] 1 [0,1,2] (kf (d2 vK (dC (.int 1)) (qr [.vl,.sl 1,.vl] jQ (qd (qe 0) (kb (qd (qe 3) qx)))))) (gNm 0) ftT (qr [.vl,.sl 2,.vl] JS (qd (qe 1) (kb (qd (qe 3) qx)))))))
noncomputable abbrev Wl:jz:=jS qck [.val,.io,.val,.val] (Xi)
abbrev ZZ (e0:Ev):=qC e0 5 "_law_word" uH [.val,.io,.val,.val] .sh (Wl)
theorem qeH (Z:ZtE e0 ca) (T:kA e0 "_law_word" Wj uH) (o:xn e0) (U:Wi e0):ZZ e0:=
 qB (k:=4) (own':=[1]) (fb:=Xi) T qeG λcdv f A outer s H E hr=>(ql (qo (qg6 rfl (cmp (vE rfl Z.z_range (qQ (jH rfl) qt (cN o hr (qc (vr 0) (kO (i:=1) rfl (cx (bI rfl)) (by decide) (qc (vr 3) qf)))))) (λ_ _ _ _=>(jj U hr (by decide) xy rfl (qc (vr 1) (kO (i:=2) rfl (by first | exact cx (cx rfl) | exact cx (bI rfl)) (by decide) (qc (vr 3) qf)))))))))
abbrev QQ:Stmt:=top 70
abbrev Ga:List Str:=["_law_script", "_law_town", "_law_most", "_law_letters_here", "_law_made", "_law_k", "_law_word_here"]
abbrev wF:List Str:=["_law_script", "_law_town", "_law_most"]
theorem sc_Lwords:FnScope Ga wF (qm QQ):=fsc
noncomputable def Wm:qV:=(qM (jl 3 (qr [.vl,.sl 1,.vl] JS (qd (qe 0) (kb (qd (gK λρ=>.ok ([(.lst [(.str "a"),(.str "b")]),(.lst [(.str "a"),(.str "b"),(.str "c")]),(.lst [(.str "a"),(.str "b"),(.str "c"),(.str "d")]),(.lst [(.str "k"),(.str "m"),(.str "z"),(.str "a"),(.str "e")])],ρ)) qx)))))
  (qM (jl 4 (gK qx))
  (qM (KC (kf (d2 vK (dC (.int 1)) (qr [.vl,.sl 1,.vl] jQ (qd (qe 0) (kb (qd (qe 2) qx)))))) (gNm 5)
  (qM (jl 6 (qr [.vl,.sl 1,.vl,.vl] Wl (qd (qe 0) (kb (qd (qe 3) (qd (dC (.int 6)) qx))))))
  (sIf (qU (d2 Qu (qe 6) (qe 4))) (vo (Vw 4 Ue (qe 6))) jE)))
  (jB (d1 wU (qe 4))))))
noncomputable abbrev Wn:jz:=jS Ga [.val,.io,.val] (Wm)
abbrev UN (e0:Ev):=qC e0 6 "_law_words" wF [.val,.io,.val] .sh (Wn)
theorem qcl (Z:ZtE e0 ca) (T:kA e0 "_law_words" QQ wF) (o:xn e0) (U:Wi e0) (O:ZZ e0):UN e0:=
 qB (k:=5) (own':=[1]) (fb:=Wm) T sc_Lwords λcdv f A outer s H E hr=>(qg (se 3 sc_Lwords.nd (cN U hr (qc (vr 0) (sl 1 (qc (qbS 16 rfl) qf)))))
  (qg (sO 4 sc_Lwords.nd (kB qf))
  (qg (jV aO rfl (vE rfl Z.z_range (qQ (jH rfl) qt (cN o hr (qc (vr 0) (sl 1 (qc (vr 2) qf)))))) (gn 5 sc_Lwords.nd)
  (qg (se 6 sc_Lwords.nd (cN O hr (qc (vr 0) (sl 1 (qc (vr 3) (qc qt qf))))))
  (ql (jh (qK (wW rfl hr.units) (vr 6) (vO 4)) (ql (jD (yg (i:=4) rfl rfl (bI rfl) (by decide) (vr 6)))) qP))))
  (ql (qo (ju (yL rfl) rfl Z.z_tuple kj (vO 4)))))))
abbrev Wo:Stmt:=top 71
abbrev qcm:List Str:=["_law_script", "_law_town"]
abbrev uI:List Str:=["_law_script", "_law_town"]
theorem qeI:FnScope qcm uI (qm Wo):=fsc
noncomputable def Xj:qV:=(jB (xF (qd (d2 Za (qr [.vl,.sl 1,.vl] jQ (qd (qe 0) (kb (qd (dC (.int 6)) qx)))) (dC (.int 3))) (qd (d2 Za (qr [.vl,.sl 1,.vl] jQ (qd (qe 0) (kb (qd (dC (.int 6)) qx)))) (dC (.int 3))) qx))))
noncomputable abbrev Xk:jz:=jS qcm [.val,.io] (Xj)
abbrev Gb (e0:Ev):=qC e0 4 "_law_look" uI [.val,.io] .sh (Xk)
theorem qeJ (Z:ZtE e0 ca) (T:kA e0 "_law_look" Wo uI) (o:xn e0):Gb e0:=
 qB (k:=3) (own':=[1]) (fb:=Xj) T qeI λcdv f A outer s H E hr=>(ql (qo (vm (qc (qQ zk (cN o hr (qc (vr 0) (sl 1 (qc qt qf)))) qt) (qc (qQ zk (cN o hr (qc (vr 0) (sl 1 (qc qt qf)))) qt) qf)))))
abbrev qeK:Stmt:=top 72
abbrev qjr:List Str:=["_law_word_here", "_law_place", "_law_spots"]
abbrev zQ:List Str:=["_law_word_here", "_law_place"]
theorem sc_Lat:FnScope qjr zQ (qm qeK):=fsc
noncomputable def qjs:qV:=(qM (jl 2 (qZ [] 1 [1,0] (kf (d1 kC (qe 0))) (gNm 0) (dOr (qU (d2 eqD (qe 0) (qe 1))) (qU (d2 eqD (qe 0) (d2 vK (qe 1) (d1 kC (qe 2)))))) (qe 0)))
  (qM (sIf (qU (d2 neD (qe 2) (gK qx))) (jB (d2 ixD (qe 0) (d2 ixD (qe 2) (dC (.int 0))))) jE)
  (jB (dIf (qU (d2 geD (qe 1) (dC (.int 0)))) (d2 ixD (qe 0) (d1 qh4 (dC (.int 1)))) (d2 ixD (qe 0) (dC (.int 0)))))))
noncomputable abbrev qcn:jz:=jS qjr [.val,.val] (qjs)
abbrev qfD (e0:Ev):=qC e0 1 "_law_at" zQ [.val,.val] .sh (qcn)
theorem qjt (Z:ZtE e0 ca) (T:kA e0 "_law_at" qeK zQ):qfD e0:=
 qB (k:=0) (own':=[]) (fb:=qjs) T sc_Lat λcdv f A outer s H E hr=>(qg (qhf 2 sc_Lat.nd (vE rfl Z.z_range (qy (ji rfl) rfl Z.z_len jb (vr 0))) (λ_ _ _ _=>(vr 0)) (ht:=λ_ _ _ _=>(gf (PW.pt (yc (qK (uU rfl hr.units) (vr 0) (vr 1)) (kD (qK (uU rfl hr.units) (vr 0) (qQ (jH rfl) (vr 1) (qy (ji rfl) rfl Z.z_len jb (vr 2))))))))))
  (ka [2] (qg (jh (qK (Ki rfl hr.units) (vr 2) (kB qf)) (ql (qo (ix hr (vr 0) (ix hr (vr 2) qt)))) qP)
  (ql (qo (Yy (qK qgE (vr 1) qt) (ix hr (vr 0) (qgw qbo qt)) (ix hr (vr 0) qt)))))))
abbrev Wp:Stmt:=top 73
abbrev Xl:List Str:=["_law_words_here", "_law_look_here"]
abbrev uJ:List Str:=["_law_words_here", "_law_look_here"]
theorem qeL:FnScope Xl uJ (qm Wp):=fsc
noncomputable def Xm:qV:=(jB (qZ [] 1 [1] (jJ (qe 0)) (gNm 0) ftT (xF (qd (qr [.vl,.vl] qcn (qd (qe 0) (qd (d2 ixD (qe 1) (dC (.int 0))) qx))) (qd (qr [.vl,.vl] qcn (qd (qe 0) (qd (d2 ixD (qe 1) (dC (.int 1))) qx))) qx)))))
noncomputable abbrev JT:jz:=jS Xl [.val,.val] (Xm)
abbrev Wq (e0:Ev):=qC e0 2 "_law_seen" uJ [.val,.val] .sh (JT)
theorem qeM (Z:ZtE e0 ca) (T:kA e0 "_law_seen" Wp uJ) (O:qfD e0):Wq e0:=
 qB (k:=1) (own':=[]) (fb:=Xm) T qeL λcdv f A outer s H E hr=>(ql (qo (cmp (qL rfl (vr 0)) (λ_ _ _ _=>(vm (qc (jj O hr (by decide) xy rfl (qc (vr 0) (qc (ix hr (vr 1) qt) qf))) (qc (jj O hr (by decide) xy rfl (qc (vr 0) (qc (ix hr (vr 1) qt) qf))) qf)))))))
abbrev xo:Stmt:=top 74
abbrev Vd:List Str:=["_law_words_here", "_law_look_here", "_law_made", "_law_pair"]
abbrev kY:List Str:=["_law_words_here", "_law_look_here"]
theorem sc_Lletters:FnScope Vd kY (qm xo):=fsc
noncomputable def gB:qV:=(qM (jl 2 (gK qx))
  (qM (KC (jJ (qr [.vl,.vl] JT (qd (qe 0) (qd (qe 1) qx)))) (gNm 3)
  (vo (Vw 2 qgW (d1 Ug (qe 3)))))
  (jB (d1 wb (qe 2)))))
noncomputable abbrev xp:jz:=jS Vd [.val,.val] (gB)
abbrev JU (e0:Ev):=qC e0 3 "_law_letters" kY [.val,.val] .sh (xp)
theorem Xn (Z:ZtE e0 ca) (T:kA e0 "_law_letters" xo kY) (o:Wq e0):JU e0:=
 qB (k:=2) (own':=[]) (fb:=gB) T sc_Lletters λcdv f A outer s H E hr=>(qg (sO 2 sc_Lletters.nd (kB qf))
  (qg (jV aO rfl (qL rfl (cN o hr (qc (vr 0) (qc (vr 1) qf)))) (gn 3 sc_Lletters.nd)
  (ql (jD (Uf (i:=2) rfl (bI rfl) (by decide) (ju (YE rfl) rfl Z.z_list Jv (vr 3))))))
  (ql (qo (gj rfl rfl rfl Z.z_sorted yk rfl Z.z_set ZK (vO 2))))))
abbrev qeN:Stmt:=top 75
abbrev qhl:List Str:=["_law_words_here", "_law_look_here", "_law_room", "_law_book"]
abbrev zR:List Str:=["_law_words_here", "_law_look_here", "_law_room", "_law_book"]
theorem qju:FnScope qhl zR (qm qeN):=fsc
noncomputable def qhm:qV:=(jB (d1 wU (qZ [] 2 [2,3] (jJ (qr [.vl,.vl] JT (qd (qe 0) (qd (qe 1) qx)))) (jG 2 (qw (gNm 0) (qw (gNm 1) jF))) ftT (d2 yb (d2 vK (d2 ixD (qe 3) (qe 0)) (d2 ixD (qe 3) (qe 1))) (qe 2)))))
noncomputable abbrev qhn:jz:=jS qhl [.val,.val,.val,.val] (qhm)
abbrev qfE (e0:Ev):=qC e0 3 "_law_by" zR [.val,.val,.val,.val] .sh (qhn)
theorem qjv (Z:ZtE e0 ca) (T:kA e0 "_law_by" qeN zR) (o:Wq e0):qfE e0:=
 qB (k:=2) (own':=[]) (fb:=qhm) T qju λcdv f A outer s H E hr=>(ql (qo (ju (yL rfl) rfl Z.z_tuple kj (cmp (qL rfl (cN o hr (qc (vr 0) (qc (vr 1) qf)))) (λ_ _ _ _=>(qQ vh (qQ (jH rfl) (ix hr (vr 3) (vr 0)) (ix hr (vr 3) (vr 1))) (vr 2))) (hg:=λ_ _ _ _=>(vg rfl rfl (qF (gC 0) (qF (gC 1) jT))))))))
abbrev Wr:Stmt:=top 76
abbrev Xo:List Str:=["_law_script", "_law_town", "_law_most", "_law_wide", "_law_spoil", "_law_room", "_law_look_here", "_law_names", "_law_book", "_law_numbers", "_law_k"]
abbrev uK:List Str:=["_law_script", "_law_town", "_law_most", "_law_wide"]
theorem sc_Ltold:FnScope Xo uK (qm Wr):=fsc
noncomputable def Xp:qV:=(qM (jl 4 (qr [.vl,.sl 1,.vl] jQ (qd (qe 0) (kb (qd (dC (.int 4)) qx)))))
  (qM (jl 5 (d2 vK (dC (.int 1)) (qr [.vl,.sl 1,.vl] jQ (qd (qe 0) (kb (qd (qe 3) qx))))))
  (qM (jl 6 (qr [.vl,.sl 1] Xk (qd (qe 0) (kb qx))))
  (qM (jl 7 (qr [.vl,.sl 1,.vl] Wn (qd (qe 0) (kb (qd (qe 2) qx)))))
  (qM (jl 8 (d1 Uw (qZ [1] 1 [0,1,5] (jJ (qr [.vl,.vl] xp (qd (qe 7) (qd (qe 6) qx)))) (gNm 0) ftT (xF (qd (qe 0) (qd (qr [.vl,.sl 2,.vl] jQ (qd (qe 1) (kb (qd (qe 3) qx)))) qx))))))
  (qM (jl 9 (d1 Ug (qr [.vl,.vl,.vl,.vl] qhn (qd (qe 7) (qd (qe 6) (qd (qe 5) (qd (qe 8) qx)))))))
  (qM (KC (kf (d2 Yw (d2 gc (qe 4) (dC (.int 2))) (d2 vK (dC (.int 1)) (d2 yb (qe 4) (dC (.int 2)))))) (gNm 10)
  (xH 9 (qr [.vl,.sl 1,.vl] jQ (qd (qe 0) (kb (qd (qe 5) qx)))) (qr [.vl,.sl 1,.vl] jQ (qd (qe 0) (kb (qd (d1 kC (qe 9)) qx))))))
  (jB (xF (qd (qe 7) (qd (qe 6) (qd (qe 5) (qd (d1 wU (qe 9)) qx)))))))))))))
noncomputable abbrev Xq:jz:=jS Xo [.val,.io,.val,.val] (Xp)
abbrev Gc (e0:Ev):=qC e0 7 "_law_told" uK [.val,.io,.val,.val] .sh (Xq)
theorem qeO (Z:ZtE e0 ca) (T:kA e0 "_law_told" Wr uK) (o:xn e0) (m:UN e0) (t:Gb e0) (b:JU e0) (O:qfE e0):Gc e0:=
 qB (k:=6) (own':=[1]) (fb:=Xp) T sc_Ltold λcdv f A outer s H E hr=>(qg (se 4 sc_Ltold.nd (cN o hr (qc (vr 0) (kO (i:=1) rfl (cx (bI rfl)) (by decide) (qc qt qf)))))
  (qg (se 5 sc_Ltold.nd (qQ (jH rfl) qt (cN o hr (qc (vr 0) (kO (i:=1) rfl (cx (bI rfl)) (by decide) (qc (vr 3) qf))))))
  (qg (se 6 sc_Ltold.nd (cN t hr (qc (vr 0) (kO (i:=1) rfl (cx (bI rfl)) (by decide) qf))))
  (qg (se 7 sc_Ltold.nd (cN m hr (qc (vr 0) (kO (i:=1) rfl (cx (bI rfl)) (by decide) (qc (vr 2) qf)))))
  (qg (se 8 sc_Ltold.nd (ju (ZE rfl rfl) rfl Z.z_dict VD (cmp (qL rfl (cN b hr (qc (vr 7) (qc (vr 6) qf)))) (λ_ _ _ _=>(vm (qc (vr 0) (qc (jj o hr (by decide) xy rfl (qc (vr 1) (kO (i:=2) rfl (by first | exact cx (cx rfl) | exact cx (bI rfl)) (by decide) (qc (vr 3) qf)))) qf)))))))
  (qg (sO 9 sc_Ltold.nd (ju (YE rfl) rfl Z.z_list Jv (cN O hr (qc (vr 7) (qc (vr 6) (qc (vr 5) (qc (vr 8) qf)))))))
  (qg (jV aO rfl (vE rfl Z.z_range (qQ KA (qQ Ja (vr 4) qt) (qQ (jH rfl) qt (qQ vh (vr 4) qt)))) (gn 10 sc_Ltold.nd)
  (ql (Ju (n:=9) rfl (bI rfl) (by decide) (cN o hr (qc (vr 0) (kO (i:=1) rfl (cx (bI rfl)) (by decide) (qc (vr 5) qf)))) (cN o hr (qc (vr 0) (kO (i:=1) rfl (cx (bI rfl)) (by decide) (qc (qy (ji rfl) rfl Z.z_len jb (vO 9)) qf)))))))
  (ql (qo (vm (qc (vr 7) (qc (vr 6) (qc (vr 5) (qc (ju (yL rfl) rfl Z.z_tuple kj (vO 9)) qf))))))))))))))
abbrev qco:Stmt:=top 77
abbrev qho:List Str:=["_law_script", "_law_town", "_law_many", "_law_free", "_law_made", "_law_at_here", "_law_names", "_law_look_here", "_law_room", "_law_numbers"]
abbrev qjw:List Str:=["_law_script"]
theorem sc_law:FnScope qho qjw (qm qco):=fsc
noncomputable def qhp (ca:Str->Addr):qV:=(qM (jl 1 (gK qx))
  (qM (qk2 (qr [.vl,.sl 1,.vl,.vl] Xq (qd (qe 0) (kb (qd (dC (.int 6)) (qd (dC (.int 12)) qx))))) (jG 4 (qw (gNm 6) (qw (gNm 7) (qw (gNm 8) (qw (gNm 9) jF))))))
  (qM (jl 2 (qr [.vl,.vl,.vl,.vl] xc (qd (qe 6) (qd (qe 7) (qd (qe 8) (qd (qe 9) qx))))))
  (qM (jl 3 (d2 qfm (qr [.vl,.vl,.vl,.vl] qar (qd (qe 6) (qd (qe 7) (qd (qe 8) (qd (qe 9) qx))))) (dC .non)))
  (qM (sIf (dOr (qU (d2 neD (d2 gtD (qe 2) (dC (.int 0))) (qe 3))) (qU (d2 neD (d2 eqD (qr [.vl,.vl,.vl,.vl] xl (qd (qe 6) (qd (qe 7) (qd (qe 8) (qd (qe 9) qx))))) (xF qx)) (qe 3)))) (jB (dC (.bl iE))) jE)
  (qM (sIf (qU (d2 neD (d2 eqD (qr [.vl,.vl,.vl,.vl] QO (qd (qe 6) (qd (qe 7) (qd (qe 8) (qd (qe 9) qx))))) (qe 9)) (qe 3))) (jB (dC (.bl iE))) jE)
  (qM (sIf (Qp (xE (qe 3))) (jB (dC (.bl iC))) jE)
  (qM (jl 4 (qr [.vl,.vl,.vl,.vl] QF (qd (qe 6) (qd (qe 7) (qd (qe 8) (qd (qe 9) qx))))))
  (qM (jl 5 (qr [.vl,.vl,.vl,.vl,.vl] (xh ca) (qd (qe 6) (qd (qe 7) (qd (qe 8) (qd (qe 9) (qd (qe 4) qx)))))))
  (qM (sIf (dOr (Qp (qU (yd leD ltD (dC (.int 0)) (qe 5) (qe 2)))) (qU (d2 neD (qr [.vl,.vl,.vl,.vl,.vl] kL (qd (qe 6) (qd (qe 7) (qd (qe 8) (qd (qe 9) (qd (qe 5) qx)))))) (qe 4)))) (jB (dC (.bl iE))) jE)
  (jB (qr [.vl,.vl,.vl,.vl,.vl] (va ca) (qd (qe 6) (qd (qe 7) (qd (qe 8) (qd (qe 9) (qd (qr [.vl,.vl,.vl,.vl,.vl] kL (qd (qe 6) (qd (qe 7) (qd (qe 8) (qd (qe 9) (qd (d2 Za (qe 2) (dC (.int 1))) qx)))))) qx)))))))))))))))))
noncomputable abbrev qeP (ca:Str->Addr):jz:=jS qho [.val] (qhp ca)
theorem qjx {f:Addr} {fd:j6} (Z:ZtE e0 ca) (F:Fun e0.K "law" "law" qco f fd) (a:ZQ e0) (l:UG e0) (c:uA ca e0) (b:xT e0) (o:Qc e0) (d:JO ca e0) (e:JQ e0) (j:UL e0) (O:Gc e0):FnOk e0.P e0.w e0.K e0.mg e0.base (CXk e0.P e0.w) 10 f fd qjw (spD e0.K e0.cv [.val] .sh (qeP ca)):=
 qlR (k:=9) (own':=[]) (fb:=qhp ca) F sc_law rfl (xD rfl) (.inl rfl) (λcdv A outer s H E hr=>(qg (sO 1 sc_law.nd (kB qf))
  (qg (qgO (cN O hr (qc (vr 0) (sl 1 (qc qt (qc qt qf))))) (vg rfl rfl (qF (gn 6 sc_law.nd) (qF (gn 7 sc_law.nd) (qF (gn 8 sc_law.nd) (qF (gn 9 sc_law.nd) jT))))))
  (qg (se 2 sc_law.nd (cN b hr (qc (vr 6) (qc (vr 7) (qc (vr 8) (qc (vr 9) qf))))))
  (qg (se 3 sc_law.nd (vJ qba (cN a hr (qc (vr 6) (qc (vr 7) (qc (vr 8) (qc (vr 9) qf))))) QZ))
  (qg (jh (PW.pt (yc (qK (Ki rfl hr.units) (vJ qgD (vr 2) qt) (vr 3)) (kD (qK (Ki rfl hr.units) (vJ (uU rfl hr.units) (cN e hr (qc (vr 6) (qc (vr 7) (qc (vr 8) (qc (vr 9) qf))))) (vm qf)) (vr 3))))) (ql (qo gb)) qP)
  (qg (jh (qK (Ki rfl hr.units) (vJ (uU rfl hr.units) (cN j hr (qc (vr 6) (qc (vr 7) (qc (vr 8) (qc (vr 9) qf))))) (vr 9)) (vr 3)) (ql (qo gb)) qP)
  (qg (jh (js (tv (vr 3))) (ql (qo gb)) qP)
  (qg (se 4 sc_law.nd (cN l hr (qc (vr 6) (qc (vr 7) (qc (vr 8) (qc (vr 9) qf))))))
  (qg (se 5 sc_law.nd (cN d hr (qc (vr 6) (qc (vr 7) (qc (vr 8) (qc (vr 9) (qc (vr 4) qf)))))))
  (qg (jh (PW.pt (yc (js (Jc Vr qiL qt (vr 5) (vr 2))) (kD (qK (Ki rfl hr.units) (cN o hr (qc (vr 6) (qc (vr 7) (qc (vr 8) (qc (vr 9) (qc (vr 5) qf)))))) (vr 4))))) (ql (qo gb)) qP)
  (ql (qo (cN c hr (qc (vr 6) (qc (vr 7) (qc (vr 8) (qc (vr 9) (qc (cN o hr (qc (vr 6) (qc (vr 7) (qc (vr 8) (qc (vr 9) (qc (qQ zk (vr 2) qt) qf)))))) qf))))))))))))))))))) λ_=>.inr rfl
end
end Kx
namespace Kx
open PySem PySem.Spec L2 L2.D2
variable {ρ:Sl} {ds:List D} {d:D} {n:Nat} {i:Int} {x y:Str}
section
variable {as:List AK} {os:List D} {ms:List PM} {j:Int} {b:Bool} {ks:List (Key×D)}
@[simp] theorem qmH:vf [] [] ρ=iu []:=rfl
@[simp] theorem qmI:vf (.sl n::as) (d::ds) ρ=match ρ[n]? with | some (iu d)=>(vf as ds ρ).map (d::·) | _=>none:=rfl
@[simp] theorem qmJ:vf (.vl::as) (d::ds) ρ=(vf as ds ρ).map (d::·):=rfl
@[simp] theorem qmK:vf (.fr::as) (d::ds) ρ=(vf as ds ρ).map (d::·):=rfl
@[simp] theorem qmL:Qq [] [] ρ=ρ:=rfl
@[simp] theorem qmM:Qq (.sl n::as) (d::ds) ρ=Qq as ds (ρ.set n (iu d)):=rfl
@[simp] theorem qmN:Qq (.vl::as) (d::ds) ρ=Qq as ds ρ:=rfl
@[simp] theorem qmO:Qq (.fr::as) (d::ds) ρ=Qq as ds ρ:=rfl
@[simp] theorem qmP:ke ρ n []=[]:=rfl
@[simp] theorem qmQ:ke ρ n (.io::ms)=((ρ[n]?).getD iw).getD .non::ke ρ (n+1) ms:=rfl
@[simp] theorem qmR:ke ρ n (.val::ms)=.non::ke ρ (n+1) ms:=rfl
@[simp] theorem qmS:vK (.int i) (.int j)=.ok (.int (i+j)):=rfl
@[simp] theorem qmT:vK (.str x) (.str y)=if x.length+y.length<=sizeLine then .ok (.str (x++y)) else .bad:=rfl
@[simp] theorem qmD:vK (.lst ds) (.lst os)=if ds.length+os.length<=sizeLine then .ok (.lst (ds++os)) else .bad:=rfl
@[simp] theorem qmU:vK (.tup ds) (.tup os)=if ds.length+os.length<=sizeLine then .ok (.tup (ds++os)) else .bad:=rfl
@[simp] theorem qmV:qfm .non .non=.ok (.bl iC):=rfl
@[simp] theorem qmW:qfm (.tup ds) .non=.ok (.bl iE):=rfl
@[simp] theorem qmX:qa9 .non .non=.ok (.bl iE):=rfl
@[simp] theorem qmY:qa9 (.tup ds) .non=.ok (.bl iC):=rfl
@[simp] theorem ylI:ltD (.int i) (.int j)=.ok (.bl (decide (i < j))):=rfl
@[simp] theorem ylS:ltD (.str x) (.str y)=.ok (.bl (vn x y)):=rfl
@[simp] theorem yeI:leD (.int i) (.int j)=.ok (.bl (decide (i<=j))):=rfl
@[simp] theorem yeS:leD (.str x) (.str y)=.ok (.bl (!vn y x)):=rfl
@[simp] theorem ygI:gtD (.int i) (.int j)=.ok (.bl (decide (j < i))):=rfl
@[simp] theorem ysI:Za (.int i) (.int j)=.ok (.int (i - j)):=rfl
@[simp] theorem ytB:qaA (.bl b)=.ok b:=rfl
@[simp] theorem ytI:qaA (.int i)=.ok (i != 0):=rfl
@[simp] theorem ytN:qaA .non=.ok false:=rfl
@[simp] theorem ytL:qaA (.lst ds)=.ok (!ds.isEmpty):=rfl
@[simp] theorem ytT:qaA (.tup ds)=.ok (!ds.isEmpty):=rfl
@[simp] theorem ynS:kC (.str x)=.ok (.int x.length):=rfl
@[simp] theorem ynL:kC (.lst ds)=.ok (.int ds.length):=rfl
@[simp] theorem ynT:kC (.tup ds)=.ok (.int ds.length):=rfl
end
variable {α:Type}
theorem wH (xs:List α) (k:Nat):atI xs (k:Int)=xs[k]?:=by
 unfold atI ixN;rw [if_pos (by lia)];by_cases h:k < xs.length;·rw [if_pos (by lia)];simp
 ·rw [if_neg (by lia),ck (by lia)];rfl
theorem qjy {xs:List α} (a:0<=i) (h1:i < xs.length):∃ d,atI xs i=iu d/\d∈xs:=by
 obtain ⟨k,rfl⟩:=dw a;have h:k < xs.length:=by lia
 exact ⟨xs[k],by rw [wH,aj h],bG h⟩
theorem big:2000<=sizeLine:=by rw [iL]; decide
abbrev scr (ns:List Int):D:=.lst (ns.map .int)
theorem qhq (ns:List Int) (k:Nat):∃ i,gA [scr ns,.int k]=.ok (.int i,[.non,.non]):=by
 by_cases h:k < ns.length;·refine ⟨ns[k],?_⟩;refine runD_ap.trans ?_;simp [wY,qv,ixD,h,wH]
 ·by_cases a:ns=[]
  ·subst a;have b:¬((k:Int) < 0):=by lia
   exact ⟨0,by refine runD_ap.trans ?_; simp [wY,qv,ixD,eqD,eqN,wS,b]⟩
  ·have hp:0 < ns.length:=dR.mpr a;have c:k % ns.length < ns.length:=fm _ hp;have e:atI (ns.map D.int) ((k:Int) % (ns.length:Int))=iu (.int ns[k % ns.length]):=by rw [show ((k:Int) % (ns.length:Int))=((k % ns.length:Nat):Int) by simp,wH,aF,aj c];rfl
   refine ⟨ns[k % ns.length] * 31+k,?_⟩;refine runD_ap.trans ?_;simp [wY,qv,ixD,eqD,eqN,h,a,yb,Yw,wR,hp,e,CMul]
variable {many:Int}
theorem qeQ (ns:List Int) (k:Nat) (h:0 < many):∃ r,0<=r/\r < many/\Wf [scr ns,.int k,.int many]=.ok (.int r,[.non,.non,.non]):=by
 obtain ⟨c,a⟩:=qhq ns k;have h1:=bJ (c * 1103515245+7919 * k+12345) (show (2147483647:Int)≠0 by decide);have h2:=bn (c * 1103515245+7919 * k+12345) (show (0:Int) < 2147483647 by decide);generalize hd:(c * 1103515245+7919 * (k:Int)+12345) % 2147483647=d at h1 h2;have b:L2.D2.qh2 d 5:=⟨⟨by lia,by lia⟩,by lia,by lia⟩
 refine ⟨d ^ 5 % 2147483647 % 999983 % many,bJ _ (by lia),bn _ h,?_⟩;refine runD_ap.trans ?_;simp [We,qv,a,Yw,yb,qln,wR,h,hd,b,show ∀ j,CMul 7919 j from λj=>.inl ⟨by lia,by lia⟩,show ∀ i,CMul i 1103515245 from λi=>.inr ⟨by lia,by lia⟩]
theorem wQ (ns:List Int) (t:List D) (c:0 < many) (ht:t.length < 1000):∃ r,0<=r/\r < many/\jQ [scr ns,.lst t,.int many]=.ok (.int r,[.non,.lst (t++[.int 0]),.non]):=by obtain ⟨r,a,h1,h⟩:=qeQ ns (t.length+1) c;have hl:t.length < sizeLine:=aK (eY ht (by decide)) big;refine ⟨r,a,h1,?_⟩;simp at h;refine runD_ap.trans ?_;simp [Xg,qv,xP,Ue,hl,h]
theorem qcp (ns:List Int) (t xs:List D) (hx:xs≠[]) (ht:t.length < 1000):∃ d,d∈xs/\JS [scr ns,.lst t,.lst xs]=.ok (d,[.non,.lst (t++[.int 0]),.non]):=by have hp:0 < xs.length:=dR.mpr hx;obtain ⟨r,a,h1,h⟩:=wQ ns t (many:=(xs.length:Int)) (by lia) ht;obtain ⟨d,e,hd⟩:=qjy (xs:=xs) a h1;refine ⟨d,hd,?_⟩;refine runD_ap.trans ?_;simp [Xh,qv,h,ixD,e]
def az (c:Nat):Prop:=97<=c/\c<=122
def qeR (w:Str):Prop:=1<=w.length/\w.length<=6/\∀ c∈w.cps.toList,az c
theorem JV (x:Str):x.length=x.cps.size:=rfl
theorem qcq (x y:Str):(x++y).cps=x.cps++y.cps:=rfl
def qks (ls:List Str):Prop:=ls≠[]/\∀ x∈ls,∃ c,az c/\x=⟨#[c]⟩
theorem qcr:∀ cs:List Nat,fR (aZ "") (cs.map λc=>(⟨#[c]⟩:Str))=⟨cs.toArray⟩:=by
 intro cs;have e:∀ cs:List Nat,Str.join (aZ "") (cs.map λc=>(⟨#[c]⟩:Str))=⟨cs.toArray⟩:=by
  intro cs
  induction cs with
  | nil=>rfl
  | cons c cs j=>
   cases cs with
   | nil=>rfl
   | cons d ds=>
    show (⟨#[c]⟩:Str)++aZ ""++Str.join (aZ "") ((d::ds).map λc=>(⟨#[c]⟩:Str))=_;rw [j];have:((⟨#[c]⟩:Str)++aZ ""++(⟨(d::ds).toArray⟩:Str)).cps=(c::d::ds).toArray:=by
     rw [qcq,qcq];have:(aZ "").cps=#[]:=by decide +kernel
     rw [this];simp
    generalize h:(⟨#[c]⟩:Str)++aZ ""++(⟨(d::ds).toArray⟩:Str)=x at this;obtain ⟨y⟩:=x;simp only at this;rw [this]
 unfold fR;rw [StrLaws.glued_eq_join];exact e cs
theorem Gd:∀ cs:List Nat,((cs.map λc=>(⟨#[c]⟩:Str)).map (·.length)).sum=cs.length
 | []=>rfl
 | c::cs=>by
  have j:=Gd cs;rw [aD,aD,List.sum_cons,j,aq];show 1 + _=_
  lia
theorem wZ:∀ ws:List Str,Kn (ws.map D.str)=iu ws
 | []=>rfl
 | w::ws=>by simp [Kn,wZ ws]
variable {ls:List Str}
theorem UO (ns:List Int) (hl:qks ls):∀ (ds:List D) (t:List D) (k:Option D),t.length+ds.length < 1000 ->∃ (cs:List Nat) (a:List D) (k':Option D),a.length=t.length+ds.length/\cs.length=ds.length/\(∀ c∈cs,az c) /\
   jn (gNm 0) ftT (qr [.vl,.sl 2,.vl] JS (qd (qe 1) (kb (qd (qe 3) qx)))) ds [k,iu (scr ns),iu (.lst t),iu (.lst (ls.map D.str))]
    = .ok ((cs.map λc=>(⟨#[c]⟩:Str)).map D.str,[k',iu (scr ns),iu (.lst a),iu (.lst (ls.map D.str))])
 | [],t,k,_=>⟨[],t,k,by simp,rfl,by simp,rfl⟩
 | d::ds,t,k,ht=>by
  rw [aq] at ht;obtain ⟨e,i,hp⟩:=qcp ns t (ls.map D.str) (by simpa using hl.1) (by lia);obtain ⟨x,hx,rfl⟩:=ah.mp i;obtain ⟨c,b,rfl⟩:=hl.2 x hx;obtain ⟨cs,a,k',m,g,z,f⟩:=UO ns hl ds (t++[.int 0]) (iu d) (by rw [ai]; simp; lia);refine ⟨c::cs,a,k',?_,by simp [g],?_,?_⟩
  ·rw [m,ai,aq];simp
   lia
  ·intro y h;rcases ac.mp h with rfl | h;·exact b
   ·exact z y h
  ·simp [jn,xx,hp,f]
theorem qhr (ns:List Int) (t:List D) (hl:qks ls) (ht:t.length < 900):∃ w a,qeR w/\a.length<=t.length+8/\Wl [scr ns,.lst t,.lst (ls.map D.str),.int 6]=.ok (.str w,[.non,.lst a,.non,.non]):=by
 obtain ⟨r,r0,r1,hr⟩:=wQ ns t (many:=6) (by lia) (by lia);have n:(gL 0 (1+r).toNat).length=(1+r).toNat:=by simp [gL]
 obtain ⟨cs,a,k',m,d,b,y⟩:=UO ns hl (gL 0 (1+r).toNat) (t++[.int 0]) iw (by rw [n,ai]; simp; lia);rw [n] at m d;rw [ai] at m;simp at m;refine ⟨⟨cs.toArray⟩,a,⟨?_,?_,?_⟩,by lia,?_⟩;·show 1<=cs.toArray.size;simp; lia
 ·show cs.toArray.size<=6;simp; lia
 ·simpa using b
 ·refine runD_ap.trans ?_;have k:-(2 ^ 62:Int)<=1+r/\1+r < 2 ^ 62:=by lia
  have e:=big;have z:(gL 0 (1+r).toNat).length<=sizeLine:=by rw [n]; lia
  have e0:h8 (aZ "")=0:=by decide +kernel
  have h:=Gd cs;have G:qbL (aZ "") (.lst ((cs.map λc=>(⟨#[c]⟩:Str)).map D.str))=.ok (.str ⟨cs.toArray⟩):=by unfold qbL;simp only [wZ,qcr,h];rw [if_pos ⟨by simp [e0]; lia,by show cs.toArray.size<=_; simp; lia⟩]
  simp only [Xi,qv,Jq,qad,qZ];simp [-bf,hr,kf,-Int.reducePow,k,z,vp,y,jI,G]
theorem zS (w:Str):∀ ws:List Str,Qo 7 (.str w) (ws.map D.str)=iu (decide (w∈ws))
 | []=>by simp [Qo]
 | a::ws=>by
  have j:=zS w ws;simp only [aD,Qo,j];simp [eqN,eqS];by_cases h:a=w;·simp [h]
  ·simp [h,bo h]
def jt (ws:List Str):Prop:=1<=ws.length/\ws.length<=6/\ws.Nodup/\∀ w∈ws,qeR w
abbrev qcs:qV:=(qM (jl 6 (qr [.vl,.sl 1,.vl,.vl] Wl (qd (qe 0) (kb (qd (qe 3) (qd (dC (.int 6)) qx))))))
  (sIf (qU (d2 Qu (qe 6) (qe 4))) (vo (Vw 4 Ue (qe 6))) jE))
theorem gE (ns:List Int) (m:D) (h:qks ls):∀ (ds:List D) (n:List D) (ws:List Str) (k u:Option D),n.length+8 * ds.length < 900->ws.length+ds.length<=100->ws.Nodup->(∀ w∈ws,qeR w) ->∃ (t:List D) (c:List Str) (k' W:Option D),t.length<=n.length+8 * ds.length/\c.length<=ws.length+ds.length/\ws.length<=c.length/\(ds≠[]->1<=c.length)/\c.Nodup/\(∀ w∈c,qeR w) /\
   vF (gNm 5) qcs ds [iu (scr ns),iu (.lst n),iu m,iu (.lst (ls.map D.str)),iu (.lst (ws.map D.str)),k,u]=.ok (.nx,[iu (scr ns),iu (.lst t),iu m,iu (.lst (ls.map D.str)),iu (.lst (c.map D.str)),k',W])
 | [],n,ws,k,u,_,_,hn,hw=>⟨n,ws,k,u,by simp,by simp,by simp,by simp,hn,hw,rfl⟩
 | d::ds,n,ws,k,u,ht,hl,hn,hw=>by
  rw [aq] at ht hl;obtain ⟨w,j,s,y,hg⟩:=qhr ns n h (by lia);have o:=big;have p:ws.length < sizeLine:=by lia
  by_cases e:w∈ws
  ·obtain ⟨t,c,k',W,A,i,f,v,q,l,g⟩:=gE ns m h ds j ws (iu d) (iu (.str w)) (by lia) (by lia) hn hw;refine ⟨t,c,k',W,by rw [aq]; lia,by rw [aq]; lia,f,λ_=>?_,q,l,?_⟩
   ·have:0 < ws.length:=bD e
    lia
   ·rw [<-g];simp [vF,qcs,hg,Qu,GL,inD,zS,e]
  ·obtain ⟨t,c,k',W,A,i,f,v,q,l,g⟩:=gE ns m h ds j (ws++[w]) (iu d) (iu (.str w)) (by lia) (by rw [ai]; simp; lia) (bZ.mpr ⟨hn,by simp,λa r b o=>by
    rw [ap.mp o];exact λz=>e (z ▸ r)⟩) (λx hx=>by
    rcases ao.mp hx with hx | hx;·exact hw x hx
    ·rw [ap.mp hx];exact s)
   rw [ai] at i f;simp at i f;refine ⟨t,c,k',W,by rw [aq]; lia,by rw [aq]; lia,by lia,λ_=>by lia,q,l,?_⟩;rw [<-g];simp [vF,qcs,hg,Qu,GL,inD,zS,e,xP,Ue,p]
noncomputable def LETS:List (List Str):=[["a", "b"],["a", "b", "c"],["a", "b", "c", "d"],["k", "m", "z", "a", "e"]]
theorem qhs:∀ ls∈LETS,qks ls:=by
 have h1:∀ ls∈LETS,∀ x∈ls,x∈(["a", "b", "c", "d", "k", "m", "z", "e"]:List Str):=by decide +kernel
 have h2:∀ ls∈LETS,ls≠[]:=by decide +kernel
 intro ls h;refine ⟨h2 ls h,λx hx=>?_⟩;have i:=h1 ls h x hx;simp only [ac,ba,or_false] at i;rcases i with rfl | rfl | rfl | rfl | rfl | rfl | rfl | rfl;·exact ⟨97,by unfold az; decide,by decide +kernel⟩
 ·exact ⟨98,by unfold az; decide,by decide +kernel⟩
 ·exact ⟨99,by unfold az; decide,by decide +kernel⟩
 ·exact ⟨100,by unfold az; decide,by decide +kernel⟩
 ·exact ⟨107,by unfold az; decide,by decide +kernel⟩
 ·exact ⟨109,by unfold az; decide,by decide +kernel⟩
 ·exact ⟨122,by unfold az; decide,by decide +kernel⟩
 ·exact ⟨101,by unfold az; decide,by decide +kernel⟩
theorem qeS (ns:List Int) (t:List D) (ht:t.length < 700):∃ ws a,jt ws/\ws.length<=6/\a.length<=t.length+50/\Wn [scr ns,.lst t,.int 6]=.ok (.tup (ws.map D.str),[.non,.lst a,.non]):=by
 obtain ⟨d,hd,hp⟩:=qcp ns t (LETS.map λl=>.lst (l.map D.str)) (by simp [LETS]) (by lia);obtain ⟨ls,h,rfl⟩:=ah.mp hd;have hl:=qhs ls h;obtain ⟨r,r0,r1,hr⟩:=wQ ns (t++[.int 0]) (many:=6) (by lia) (by rw [ai]; simp; lia);have n:(gL 0 (1+r).toNat).length=(1+r).toNat:=by simp [gL]
 obtain ⟨a,c,k',W,m,k,o,y,q,i,b⟩:=gE ns (.int 6) hl (gL 0 (1+r).toNat) (t++[.int 0]++[.int 0]) [] iw iw (by rw [n,ai,ai]; simp; lia) (by rw [n]; simp; lia) cP (by simp);have e:gL 0 (1+r).toNat≠[]:=λz=>by
  rw [z] at n;simp at n
  lia
 refine ⟨c,a,⟨y e,?_,q,i⟩,?_,?_,?_⟩
 ·rw [n] at k;simp at k
  lia
 ·rw [n] at k;simp at k
  lia
 ·rw [n,ai,ai] at m;simp at m
  lia
 ·refine runD_ap.trans ?_;have g:-(2 ^ 62:Int)<=1+r/\1+r < 2 ^ 62:=by lia
  have j:=big;have f:4<=sizeLine:=by lia
  simp only [aT,fU,ci,bU] at b hr;simp only [LETS,aD,bU] at hp;simp [Wm,qv,hp,hr,kf,-Int.reducePow,g,f,b,wU]
def Vl (p q:Int):Prop:=(-3<=p/\p<=2)/\-3<=q/\q<=2
theorem qht (ns:List Int) (t:List D) (ht:t.length < 900):∃ p q a,Vl p q/\a.length=t.length+2/\Xk [scr ns,.lst t]=.ok (.tup [.int p,.int q],[.non,.lst a]):=by
 obtain ⟨r,r0,r1,hr⟩:=wQ ns t (many:=6) (by lia) (by lia);obtain ⟨u,b,j,f⟩:=wQ ns (t++[.int 0]) (many:=6) (by lia) (by rw [ai]; simp; lia);have d:=big;have z:2<=sizeLine:=by lia
 refine ⟨r - 3,u - 3,t++[.int 0,.int 0],⟨⟨by lia,by lia⟩,by lia,by lia⟩,by simp,?_⟩;refine runD_ap.trans ?_;simp only [aT,fU,ci] at f;simp [Xj,qv,hr,f,wR,z]
noncomputable def zT (n:Nat) (p:Int):Nat:=(max 0 (min (if 0<=p then p else (n:Int)+p) ((n:Int) - 1))).toNat
noncomputable def qaB (w:Str) (p:Int):Str:=⟨#[(w.cps.toList[zT w.length p]?).getD 0]⟩
variable {w:Str}
theorem Qd (h:qeR w) (p:Int):vS [.str w,.int p]=.ok (.str (qaB w p),[.non,.non]):=by
 have h1:=h.1;have a:(w.cps.toList.length:Int)=w.length:=by simp [JV]
 have key:∀ q:Int,q=(if 0<=p then p else (w.length:Int)+p)->atI w.cps.toList (if 0 < (if (w.length:Int) - 1 < q then (w.length:Int) - 1 else q) then (if (w.length:Int) - 1 < q then (w.length:Int) - 1 else q) else 0)=iu ((w.cps.toList[zT w.length p]?).getD 0):=by
  intro q hq;have e:(if 0 < (if (w.length:Int) - 1 < q then (w.length:Int) - 1 else q) then (if (w.length:Int) - 1 < q then (w.length:Int) - 1 else q) else 0)=(zT w.length p:Int):=by
   unfold zT;rw [<-hq];have:1<=(w.length:Int):=by omega
   generalize (w.length:Int)=n at *;split <;> split <;> omega
  have hl:zT w.length p < w.cps.toList.length:=by
   have F:w.cps.toList.length=w.length:=by simp [JV]
   rw [F];unfold zT;omega
  rw [e,wH,aj hl];rfl
 refine runD_ap.trans ?_;by_cases hp:0<=p;·have k:=key p (by rw [if_pos hp]);simp [uj,qv,geD,wR,hp,qke,qkf,ixD,k,qaB]
 ·have k:=key (w.length+p) (by rw [if_neg hp]);simp [uj,qv,geD,wR,hp,qke,qkf,ixD,k,qaB]
theorem qct (h:qeR w):(∃ a,w=⟨#[a]⟩)\/(∃ a b,w=⟨#[a,b]⟩)\/(∃ a b c,w=⟨#[a,b,c]⟩)\/(∃ a b c d,w=⟨#[a,b,c,d]⟩)\/(∃ a b c d e,w=⟨#[a,b,c,d,e]⟩)\/∃ a b c d e f,w=⟨#[a,b,c,d,e,f]⟩:=by
 obtain ⟨⟨l⟩⟩:=w;have h1:1<=l.length:=h.1;have h2:l.length<=6:=h.2.1
 match l,h1,h2 with
 | [a],_,_=>exact .inl ⟨a,rfl⟩
 | [a,b],_,_=>exact .inr (.inl ⟨a,b,rfl⟩)
 | [a,b,c],_,_=>exact .inr (.inr (.inl ⟨a,b,c,rfl⟩))
 | [a,b,c,d],_,_=>exact .inr (.inr (.inr (.inl ⟨a,b,c,d,rfl⟩)))
 | [a,b,c,d,e],_,_=>exact .inr (.inr (.inr (.inr (.inl ⟨a,b,c,d,e,rfl⟩))))
 | [a,b,c,d,e,f],_,_=>exact .inr (.inr (.inr (.inr (.inr ⟨a,b,c,d,e,f,rfl⟩))))
variable {p:Int}
theorem UP (h:qeR w) (g:-3<=p) (h1:p<=2):qcn [.str w,.int p]=.ok (.str (qaB w p),[.non,.non]):=by
 have hp:p=-3\/p=-2\/p=-1\/p=0\/p=1\/p=2:=by lia
 rcases qct h with ⟨a,rfl⟩ | ⟨a,b,rfl⟩ | ⟨a,b,c,rfl⟩ | ⟨a,b,c,d,rfl⟩ | ⟨a,b,c,d,e,rfl⟩ | ⟨a,b,c,d,e,f,rfl⟩ <;> rcases hp with rfl | rfl | rfl | rfl | rfl | rfl <;> kernel_rfl
variable {own:List Nat}
theorem gF (ρc:Sl):∀ (cap:List Nat) (n:Nat) (ρ:Sl),(∀ k∈cap,k∉own)->jI own ρc n cap ρ=ρ
 | [],n,ρ,_=>rfl
 | k::cap,n,ρ,h=>by unfold jI;rw [if_neg (h k (ae ..))];exact gF ρc cap (n+1) ρ λx hx=>h x (aa _ hx)
variable {caps:Sl}
theorem qjz {fe:je} {ft:uX} {P:D->Bool} {F:D->D}:∀ (ds:List D) (x:Option D),(∀ d∈ds,ft (iu d::caps)=.ok (P d,iu d::caps))->(∀ d∈ds,P d=iC->fe (iu d::caps)=.ok (F d,iu d::caps))->∃ n,jn (gNm 0) ft fe ds (x::caps)=.ok ((ds.filter P).map F,n::caps)
 | [],x,_,_=>⟨x,rfl⟩
 | d::ds,x,h,h'=>by
  obtain ⟨n,e⟩:=qjz ds (iu d) (λd' hd=>h d' (aa _ hd)) λd' hd=>h' d' (aa _ hd);refine ⟨n,?_⟩;have h1:=h d (ae ..);have h2:=h' d (ae ..);cases q:P d with
  | true=>simp [jn,xx,h1,q,h2 q,e]
  | false=>simp [jn,xx,h1,q,e]
variable {cap:List Nat} {ρ1:Sl}
theorem qcu {fi:uV} {fe:je} {ft:uX} (P:D->Bool) (F:D->D) (l:∀ k∈cap,k∉own) (h:fi ρ=.ok (ds,ρ1)) (hl:ds.length<=sizeLine)
  (ht:∀ d∈ds,ft (iu d::cap.map λk=>(ρ1[k]?).getD iw)=.ok (P d,iu d::cap.map λk=>(ρ1[k]?).getD iw)) (i:∀ d∈ds,P d=iC->fe (iu d::cap.map λk=>(ρ1[k]?).getD iw)=.ok (F d,iu d::cap.map λk=>(ρ1[k]?).getD iw)) :
  qZ own 1 cap fi (gNm 0) ft fe ρ=.ok (.lst ((ds.filter P).map F),ρ1):=by
 obtain ⟨n,e⟩:=qjz ds iw ht i;unfold qZ;rw [h];simp only [kZ];rw [if_pos hl,show vp 1 cap ρ1=iw::cap.map λk=>(ρ1[k]?).getD iw from rfl,e];simp only [kZ,gF _ _ _ _ l]
theorem Xr {fi:uV} {fe:je} (F:D->D) (l:∀ k∈cap,k∉own) (h:fi ρ=.ok (ds,ρ1)) (hl:ds.length<=sizeLine) (ht:∀ d∈ds,fe (iu d::cap.map λk=>(ρ1[k]?).getD iw)=.ok (F d,iu d::cap.map λk=>(ρ1[k]?).getD iw)):qZ own 1 cap fi (gNm 0) ftT fe ρ=.ok (.lst (ds.map F),ρ1):=by have e:=qcu (ft:=ftT) (λ_=>iC) F l h hl (λ_ _=>rfl) λd hd _=>ht d hd;rw [fA.mpr λ_ _=>rfl] at e;exact e
theorem uT {fi:uV} {fe:je} (F:D->D) (h:fi ρ=.ok (ds,ρ1)) (hl:ds.length<=sizeLine) (ht:∀ d∈ds,fe (iu d::cap.map λk=>(ρ1[k]?).getD iw)=.ok (F d,iu d::cap.map λk=>(ρ1[k]?).getD iw)):qZ [] 1 cap fi (gNm 0) ftT fe ρ=.ok (.lst (ds.map F),ρ1):=Xr F (λ_ _=>by simp) h hl ht
theorem qfF {fe:je} {ft:uX} {P:D×D->Bool} {F:D×D->D}:∀ (ps:List (D×D)) (x y:Option D),(∀ p∈ps,ft (iu p.1::iu p.2::caps)=.ok (P p,iu p.1::iu p.2::caps))->(∀ p∈ps,P p=iC->fe (iu p.1::iu p.2::caps)=.ok (F p,iu p.1::iu p.2::caps)) ->∃ n s,jn (jG 2 (qw (gNm 0) (qw (gNm 1) jF))) ft fe (ps.map λp=>.tup [p.1,p.2]) (x::y::caps)=.ok ((ps.filter P).map F,n::s::caps)
 | [],x,y,_,_=>⟨x,y,rfl⟩
 | p::ps,x,y,h,h'=>by
  obtain ⟨n,s,e⟩:=qfF ps (iu p.1) (iu p.2) (λd' hd=>h d' (aa _ hd)) λd' hd=>h' d' (aa _ hd);refine ⟨n,s,?_⟩;have h1:=h p (ae ..);have h2:=h' p (ae ..);cases q:P p with
  | true=>simp [jn,xx,jG,qw,jF,h1,q,h2 q,e]
  | false=>simp [jn,xx,jG,qw,jF,h1,q,e]
theorem qhu {fi:uV} {fe:je} {ft:uX} {ps:List (D×D)} (P:D×D->Bool) (F:D×D->D) (l:∀ k∈cap,k∉own) (h:fi ρ=.ok (ps.map λp=>.tup [p.1,p.2],ρ1)) (hl:ps.length<=sizeLine)
  (ht:∀ p∈ps,ft (iu p.1::iu p.2::cap.map λk=>(ρ1[k]?).getD iw)=.ok (P p,iu p.1::iu p.2::cap.map λk=>(ρ1[k]?).getD iw))
  (i:∀ p∈ps,P p=iC->fe (iu p.1::iu p.2::cap.map λk=>(ρ1[k]?).getD iw)=.ok (F p,iu p.1::iu p.2::cap.map λk=>(ρ1[k]?).getD iw)) :
  qZ own 2 cap fi (jG 2 (qw (gNm 0) (qw (gNm 1) jF))) ft fe ρ=.ok (.lst ((ps.filter P).map F),ρ1):=by
 obtain ⟨n,s,e⟩:=qfF ps iw iw ht i;unfold qZ;rw [h];simp only [kZ];rw [if_pos (by rw [ax]; exact hl),show vp 2 cap ρ1=iw::iw::cap.map λk=>(ρ1[k]?).getD iw from rfl,e];simp only [kZ,gF _ _ _ _ l]
noncomputable def qp (ws:List Str) (p q:Int):List (Str×Str):=ws.map λw=>(qaB w p,qaB w q)
noncomputable def jy (l:List (Str×Str)):List D:=l.map λx=>.tup [.str x.1,.str x.2]
theorem jA (h:n<=2000):n<=sizeLine:=bv h big
abbrev Wd (ws:List Str):D:=.tup (ws.map D.str)
abbrev Ld (p q:Int):D:=.tup [.int p,.int q]
variable {ws:List Str} {q:Int}
theorem Ve {G:jz} (h:jt ws) (a:∀ w∈ws,G [.str w,.int p]=.ok (.str (qaB w p),[.non,.non])/\G [.str w,.int q]=.ok (.str (qaB w q),[.non,.non])):qZ [] 1 [1] (jJ (qe 0)) (gNm 0) ftT (xF (qd (qr [.vl,.vl] G (qd (qe 0) (qd (d2 ixD (qe 1) (dC (.int 0))) qx))) (qd (qr [.vl,.vl] G (qd (qe 0) (qd (d2 ixD (qe 1) (dC (.int 1))) qx))) qx))) [iu (Wd ws),iu (Ld p q)]
   = .ok (.lst (jy (qp ws p q)),[iu (Wd ws),iu (Ld p q)]):=by
 have e:=uT (cap:=[1]) (fi:=jJ (qe 0)) (ρ:=[iu (Wd ws),iu (Ld p q)]) (ρ1:=[iu (Wd ws),iu (Ld p q)]) (ds:=ws.map D.str)
  (fe:=(xF (qd (qr [.vl,.vl] G (qd (qe 0) (qd (d2 ixD (qe 1) (dC (.int 0))) qx))) (qd (qr [.vl,.vl] G (qd (qe 0) (qd (d2 ixD (qe 1) (dC (.int 1))) qx))) qx))))
  (λd=>match d with | .str w=>.tup [.str (qaB w p),.str (qaB w q)] | d=>d) (by simp [jw]) (by rw [ax]; exact jA (by have:=h.2.1; lia)) (λd hd=>by obtain ⟨w,c,rfl⟩:=ah.mp hd;obtain ⟨h1,h2⟩:=a w c;have z:2<=sizeLine:=jA (by lia);simp [ixD,atI,ixN,h1,h2,z])
 rw [e];simp [jy,qp]
theorem JW (h:jt ws) (hl:Vl p q):JT [Wd ws,Ld p q]=.ok (.lst (jy (qp ws p q)),[.non,.non]):=by
 refine runD_ap.trans ?_;have e:=Ve (G:=qcn) h (p:=p) (q:=q) λw c=>⟨UP (h.2.2.2 w c) hl.1.1 hl.1.2,UP (h.2.2.2 w c) hl.2.1 hl.2.2⟩
 unfold Xm;rw [Jq,show qv Xl [Wd ws,Ld p q]=[iu (Wd ws),iu (Ld p q)] from rfl,e];rfl
def Pl:D->Prop
 | .raw _=>False
 | .xcp _=>False
 | .ins _ _=>False
 | .dct _=>False
 | .at_ _ _=>False
 | _=>True
@[simp] theorem kk1:kG "NoneType" "int"=iu false:=by decide +kernel
@[simp] theorem kk2:kG "bool" "int"=iu true:=by decide +kernel
@[simp] theorem kk3:kG "int" "int"=iu true:=by decide +kernel
@[simp] theorem kk4:kG "str" "int"=iu false:=by decide +kernel
@[simp] theorem kk5:kG "tuple" "int"=iu false:=by decide +kernel
@[simp] theorem kk6:kG "list" "int"=iu false:=by decide +kernel
@[simp] theorem kb1:kG "NoneType" "bool"=iu false:=by decide +kernel
@[simp] theorem kb2:kG "bool" "bool"=iu true:=by decide +kernel
@[simp] theorem kb3:kG "int" "bool"=iu false:=by decide +kernel
@[simp] theorem kb4:kG "str" "bool"=iu false:=by decide +kernel
@[simp] theorem kb5:kG "tuple" "bool"=iu false:=by decide +kernel
@[simp] theorem kb6:kG "list" "bool"=iu false:=by decide +kernel
@[simp] theorem ks1:kG "NoneType" "str"=iu false:=by decide +kernel
@[simp] theorem ks2:kG "bool" "str"=iu false:=by decide +kernel
@[simp] theorem ks3:kG "int" "str"=iu false:=by decide +kernel
@[simp] theorem ks4:kG "str" "str"=iu true:=by decide +kernel
@[simp] theorem ks5:kG "tuple" "str"=iu false:=by decide +kernel
@[simp] theorem ks6:kG "list" "str"=iu false:=by decide +kernel
@[simp] theorem kt1:kG "NoneType" "tuple"=iu false:=by decide +kernel
@[simp] theorem kt2:kG "bool" "tuple"=iu false:=by decide +kernel
@[simp] theorem kt3:kG "int" "tuple"=iu false:=by decide +kernel
@[simp] theorem kt4:kG "str" "tuple"=iu false:=by decide +kernel
@[simp] theorem kt5:kG "tuple" "tuple"=iu true:=by decide +kernel
@[simp] theorem kt6:kG "list" "tuple"=iu false:=by decide +kernel
noncomputable def Kt:D->Bool
 | .tup _=>iC
 | _=>iE
noncomputable def isInt:D->Bool
 | .int _=>iC
 | .bl _=>iC
 | _=>iE
theorem qcv (h:Pl d):Qt "tuple" d=.ok (.bl (Kt d)):=by cases d <;> first | exact h.elim | simp [Qt,tyN,Kt]
noncomputable def qcw:D->Bool
 | .str x=>decide (x.length=1)&&(!vn x "a"&&!vn "z" x)
 | _=>iE
noncomputable def Kh (lo hi:Int):D->Bool
 | .int i=>decide (lo<=i)&&decide (i<=hi)
 | _=>iE
theorem Qe (h:Pl d):vR [d]=.ok (.bl (qcw d),[.non]):=by
 refine runD_ap.trans ?_;cases d <;> first
  | exact h.elim
  | (simp [vQ,qv,Qt,tyN,qcw]; done)
  | skip
 rename_i x;by_cases h1:x.length=1
 ·have c:(x.length:Int)=1:=by lia
  cases h2:vn x "a" <;> simp [vQ,qv,Qt,tyN,eqD,eqN,eqS,qcw,h1,c,h2]
 ·have c:¬(x.length:Int)=1:=by lia
  simp [vQ,qv,Qt,tyN,eqD,eqN,eqS,qcw,h1,c]
theorem jN (h:Pl d) (lo hi:Int):jo [d,.int lo,.int hi]=.ok (.bl (Kh lo hi d),[.non,.non,.non]):=by
 refine runD_ap.trans ?_;cases d <;> first
  | exact h.elim
  | (simp [wf,qv,Qt,tyN,Kh]; done)
  | skip
 rename_i i;by_cases h1:lo<=i <;> simp [wf,qv,Qt,tyN,Kh,h1]
theorem qfG {c:Nat} (h:az c):qcw (.str ⟨#[c]⟩)=true:=by
 have g:(aZ "a").cps.toList=[97]:=by decide +kernel
 have z:(aZ "z").cps.toList=[122]:=by decide +kernel
 obtain ⟨h1,h2⟩:=h;have i:¬([c]:List Nat) < [97]:=by rw [List.cons_lt_cons_iff];simp;omega
 have l:¬([122]:List Nat) < [c]:=by rw [List.cons_lt_cons_iff];simp;omega
 have e1:vn ⟨#[c]⟩ (aZ "a")=false:=by unfold vn;rw [g];exact decide_eq_false i
 have e:vn (aZ "z") ⟨#[c]⟩=false:=by unfold vn;rw [z];exact decide_eq_false l
 simp [qcw,JV,e1,e]
theorem Vf (f:α->Bool):∀ l:List α,gN (l.map λx=>.bl (f x))=iu (l.map f)
 | []=>rfl
 | a::l=>by have j:=Vf f l;simp [gN,j]
theorem zU (f:α->Bool) (l:List α):qbq (.lst (l.map λx=>.bl (f x)))=.ok (.bl (l.all f)):=by simp only [qbq,Vf];simp [List.all_map,Function.comp_def]
theorem qcx (h:qeR w) (p:Int):∃ c,az c/\qaB w p=⟨#[c]⟩:=by
 have n:w.cps.toList.length=w.length:=by simp [JV]
 have hl:zT w.length p < w.cps.toList.length:=by have:=h.1;rw [n];unfold zT;omega
 refine ⟨w.cps.toList[zT w.length p],h.2.2 _ (bG hl),?_⟩;unfold qaB;rw [aj hl];rfl
theorem qas (h:qeR w):zF [.str w]=.ok (.bl iC,[.non]):=by
 refine runD_ap.trans ?_;have e:=uT (cap:=[]) (fi:=jJ (qe 0)) (ρ:=[iu (.str w)]) (ρ1:=[iu (.str w)]) (ds:=Uj w) (fe:=qr [.vl] vR (qd (qe 0) qx)) (λd=>.bl (qcw d)) (by simp [jw]) (by
   have:=h.2.1;simp [Uj,<-JV];exact jA (by lia)) (λd hd=>by
   obtain ⟨c,a,rfl⟩:=ah.mp hd;have h1:=Qe (d:=.str ⟨#[c]⟩) trivial;simp [h1])
 have g:(Uj w).all qcw=true:=by rw [aR];intro d hd;obtain ⟨c,a,rfl⟩:=ah.mp hd;exact qfG (h.2.2 c a)
 have h1:(1:Int)<=w.length:=by have:=h.1; lia
 have b:(w.length:Int)<=6:=by have:=h.2.1; lia
 simp only [Jx,qv,aD,bU,aq,bj,Nat.reduceAdd,fE,dh,bh];simp [Qt,tyN,h1,b,e,zU,g]
theorem xY:∀ (ws ks:List Str),ws.Nodup->(∀ x∈ws,x∉ks)->ws.foldl zu ks=ks++ws
 | [],ks,_,_=>by simp
 | w::ws,ks,hn,hd=>by
  have h1:=aN.mp hn;rw [cg,show zu ks w=ks++[w] from if_neg (hd w (ae ..)),xY ws (ks++[w]) h1.2 ?_];·simp
  ·intro x hx z;rcases ao.mp z with z | z;·exact hd x (aa _ hx) z
   ·rw [ap.mp z] at hx;exact h1.1 hx
theorem yD (ws:List Str):∀ ks:List Str,ks.Nodup->(ws.foldl zu ks).Nodup/\∀ x,x∈ws.foldl zu ks↔x∈ks\/x∈ws:=by
 induction ws with
 | nil=>intro ks n; exact ⟨n,λx=>by simp⟩
 | cons w ws j=>
  intro ks n;have r:(zu ks w).Nodup:=by
   unfold zu;split;·exact n
   ·rename_i h;exact bZ.mpr ⟨n,by simp,λa g b d=>by rw [ap.mp d];exact λz=>h (z ▸ g)⟩
  obtain ⟨a,b⟩:=j (zu ks w) r;refine ⟨a,λx=>?_⟩;rw [cg,b x];unfold zu;split
  ·rename_i h;constructor
   ·rintro (q | q);·exact .inl q
    ·exact .inr (aa _ q)
   ·rintro (q | q);·exact .inl q
    ·rcases ac.mp q with rfl | q;·exact .inl h
     ·exact .inr q
  ·simp [ao,or_assoc]
theorem Xu (h:jt ws):gp [.tup (ws.map D.str)]=.ok (.bl iC,[.non]):=by
 refine runD_ap.trans ?_;have e:=uT (cap:=[]) (fi:=jJ (qe 0)) (ρ:=[iu (.tup (ws.map D.str))]) (ρ1:=[iu (.tup (ws.map D.str))]) (ds:=ws.map D.str) (fe:=qr [.vl] zF (qd (qe 0) qx)) (λd=>.bl iC) (by simp [jw]) (by
   rw [ax];exact jA (by have:=h.2.1; lia)) (λd hd=>by
   obtain ⟨w,c,rfl⟩:=ah.mp hd;have h1:=qas (h.2.2.2 w c);simp [h1])
 have h1:(1:Int)<=ws.length:=by have:=h.1; lia
 have b:(ws.length:Int)<=6:=by have:=h.2.1; lia
 have f:ws.foldl zu []=ws:=by rw [xY ws [] h.2.2.1 (by simp)]; simp
 have a:ws.length < 4000:=by lia
 have g:=zU (λ_:D=>iC) (ws.map D.str);simp only [gm,qv,aD,bU,aq,bj,Nat.reduceAdd,fE,dh,bh];simp [-bf,Qt,tyN,h1,b,e,g,Jp,xG,wZ,f,a,eqD,eqN,eqS]
theorem Ku (w:jt ws):ug [.tup (ws.map D.str)]=.ok (.non,[.non]):=by refine runD_ap.trans ?_;have h:=Xu w;simp [uf,qv,h]
theorem qat (hl:Vl p q):JA [.tup [.int p,.int q]]=.ok (.bl iC,[.non]):=by
 refine runD_ap.trans ?_;have e:=uT (cap:=[]) (fi:=jJ (qe 0)) (ρ:=[iu (.tup [.int p,.int q])]) (ρ1:=[iu (.tup [.int p,.int q])]) (ds:=[.int p,.int q]) (fe:=qr [.vl,.vl,.vl] jo (qd (qe 0) (qd (dC (.int (-3))) (qd (dC (.int 2)) qx)))) (λd=>.bl (Kh (-3) 2 d)) (by simp [jw]) (jA (by simp)) (λd hd=>by
   have hd:d=.int p\/d=.int q:=by simpa using hd
   have h1:=jN (d:=.int p) trivial (-3) 2;have h2:=jN (d:=.int q) trivial (-3) 2;rcases hd with rfl | rfl;·simp [h1]
   ·simp [h2])
 have A:Kh (-3) 2 (.int p)=true:=by simp [Kh]; exact hl.1
 have z:Kh (-3) 2 (.int q)=true:=by simp [Kh]; exact hl.2
 simp only [Jz,qv,aD,bU,aq,bj,Nat.reduceAdd,fE,dh,bh];simp [Qt,tyN,neD,eqN,eqS,e,qbq,gN,A,z]
theorem Ws (hl:Vl p q):yr [.tup [.int p,.int q]]=.ok (.non,[.non]):=by refine runD_ap.trans ?_;have h:=qat hl;simp [yq,qv,h]
theorem Ge (h:jt ws) (hl:Vl p q):wL [Wd ws,Ld p q]=.ok (.lst (jy (qp ws p q)),[.non,.non]):=by
 refine runD_ap.trans ?_;have e:=Ve (G:=vS) h (p:=p) (q:=q) λw c=>⟨Qd (h.2.2.2 w c) p,Qd (h.2.2.2 w c) q⟩
 have k:=Ku h;have c2:=Ws hl;simp only [YV,qv,aD,bU,aq,bj,Nat.reduceAdd,fE,dh,bh];simp [k,c2,e]
theorem UQ {a b:List Str} (g:a.Nodup) (d:b.Nodup) (h:∀ x,x∈a↔x∈b):a.Perm b:=(List.perm_ext_iff_of_nodup g d).mpr h
theorem qcy {a b:List Str} (h:∀ x,x∈a↔x∈b):jP (a.foldl zu [])=jP (b.foldl zu []):=by
 obtain ⟨n1,m1⟩:=yD a [] cP;obtain ⟨n2,B⟩:=yD b [] cP;have p:=UQ n1 n2 λx=>by rw [m1,B,h]
 exact yj ((qI _).trans (p.trans (qI _).symm)) (qS _) (qS _)
noncomputable def LS (l:List (Str×Str)):List Str:=jP ((l.map (·.1)++l.map (·.2)).foldl zu [])
theorem mem_LS {l:List (Str×Str)}:x∈LS l↔∃ p∈l,x=p.1\/x=p.2:=by
 unfold LS;rw [(qI _).mem_iff,(yD _ [] cP).2];simp only [ba,false_or,ao,ah];constructor
 ·rintro (⟨p,hp,rfl⟩ | ⟨p,hp,rfl⟩);·exact ⟨p,hp,.inl rfl⟩
  ·exact ⟨p,hp,.inr rfl⟩
 ·rintro ⟨p,hp,rfl | rfl⟩;·exact .inl ⟨p,hp,rfl⟩
  ·exact .inr ⟨p,hp,rfl⟩
theorem uL {l:List (Str×Str)} (hl:l.length<=20):jp [.lst (jy l)]=.ok (.lst ((LS l).map D.str),[.non]):=by
 refine runD_ap.trans ?_;have z:(jy l).length<=sizeLine:=by unfold jy;rw [ax];exact jA (by lia)
 have e1:=uT (cap:=[]) (fi:=jJ (qe 0)) (ρ:=[iu (.lst (jy l))]) (ρ1:=[iu (.lst (jy l))]) (ds:=jy l) (fe:=d2 ixD (qe 0) (dC (.int 0))) (λd=>match d with | .tup [a,b]=>a | d=>d) (by simp [jw]) z (λd hd=>by obtain ⟨x,hx,rfl⟩:=ah.mp hd;simp [ixD,atI,ixN]);have i:=uT (cap:=[]) (fi:=jJ (qe 0)) (ρ:=[iu (.lst (jy l))]) (ρ1:=[iu (.lst (jy l))]) (ds:=jy l) (fe:=d2 ixD (qe 0) (dC (.int 1))) (λd=>match d with | .tup [a,b]=>b | d=>d) (by simp [jw]) z (λd hd=>by obtain ⟨x,hx,rfl⟩:=ah.mp hd;simp [ixD,atI,ixN]);have f1:(jy l).map (λd=>match d with | .tup [a,b]=>a | d=>d)=(l.map (·.1)).map D.str:=by simp [jy]
 have f2:(jy l).map (λd=>match d with | .tup [a,b]=>b | d=>d)=(l.map (·.2)).map D.str:=by simp [jy]
 rw [f1] at e1;rw [f2] at i;have c:l.length+l.length<=sizeLine:=jA (by lia);have j:l.length+l.length < 64:=by lia
 simp only [yu,qv,aD,bU,aq,bj,Nat.reduceAdd,fE,dh,bh,Jq,qad,qld,e1,i,kZ];simp only [qmD,ax,if_pos c,qk9,kZ,<-cH,wb,xG,wZ,ai,if_pos j];simp [LS]
theorem Gf:∀ l:List (Str×Str),(l.flatMap λp=>[p.1,p.2]).length=2 * l.length
 | []=>rfl
 | a::l=>by
  rw [cX,ai,Gf l,aq];simp
  lia
variable {a:D}
theorem at0 {l:List D}:atI (a::l) 0=iu a:=by have:=wH (a::l) 0;simpa using this
variable {b:D}
theorem at1 {l:List D}:atI (a::b::l) 1=iu b:=by have:=wH (a::b::l) 1;simpa using this
noncomputable def prL (l:List (Str×Int)):List D:=l.map λx=>.tup [.str x.1,.int x.2]
noncomputable def qD (l:List (Str×Int)):List Str:=l.map (·.1)
noncomputable def bk (l:List (Str×Int)):List (Key×D):=l.map λx=>(.inr x.1,.int x.2)
theorem JX:∀ l:List (Str×Int),yh (prL l)=iu (bk l)
 | []=>rfl
 | x::l=>by have j:=JX l;unfold prL at j ⊢;rw [aD];simp [yh,qd6,KL,j,bk]
theorem Xv:∀ (l:List (Str×Int)) (a:List (Key×D)),(qD l).Nodup->(∀ x∈l,∀ p∈a,p.1≠.inr x.1)->(bk l).foldl (λa p=>KM a p.1 p.2) a=a++bk l
 | [],a,_,_=>by simp [bk]
 | x::l,a,hn,hd=>by
  have h1:=aN.mp (show (x.1::qD l).Nodup from hn);have hp:KM a (.inr x.1) (.int x.2)=a++[(.inr x.1,.int x.2)]:=by unfold KM;rw [if_neg];simp only [List.any_eq_true,decide_eq_true_eq,not_exists,not_and];exact λp hp=>hd x (ae ..) p hp
  have j:=Xv l (a++[(.inr x.1,.int x.2)]) h1.2 (λy h p hp=>by
   rcases ao.mp hp with hp | hp;·exact hd y (aa _ h) p hp
   ·rw [ap.mp hp];intro z;have z:x.1=y.1:=bu.inj z;exact h1.1 (z ▸ ah.mpr ⟨y,h,rfl⟩))
  show ((bk l).foldl (λa p=>KM a p.1 p.2) (KM a (.inr x.1) (.int x.2)))=a++(.inr x.1,.int x.2)::bk l;rw [hp,j];simp
variable {l:List (Str×Int)}
theorem qcz (h:(qD l).Nodup):qbu (.tup (prL l))=.ok (.dct (bk l)):=by have e:=Xv l [] h (λ_ _ p hp=>by cases hp);simp at e;simp [qbu,JX,e]
noncomputable def qY (l:List (Str×Int)) (x:Str):Int:=((l.find? λy=>decide (y.1=x)).map (·.2)).getD 0
theorem jW:∀ {l:List (Str×Int)} {x:Str},x∈qD l->(x,qY l x)∈l/\(bk l).find? (λkv=>decide (kv.1=bu x))=iu (.inr x,.int (qY l x))
 | [],x,h=>by cases h
 | a::l,x,h=>by
  by_cases e:a.1=x
  ·have c:qY (a::l) x=a.2:=by simp [qY,e]
   rw [c];refine ⟨?_,?_⟩;·rw [<-e];exact ae ..
   ·simp [bk,e]
  ·have hx:x∈qD l:=by
    rcases ac.mp (show x∈a.1::qD l from h) with z | z;·exact absurd z.symm e
    ·exact z
   obtain ⟨h1,h2⟩:=jW hx;have c:qY (a::l) x=qY l x:=by simp [qY,e]
   rw [c];refine ⟨aa _ h1,?_⟩;rw [<-h2];simp [bk,e]
theorem qau (h:x∈qD l):ixD (.dct (bk l)) (.str x)=.ok (.int (qY l x)):=by simp [ixD,(jW h).2]
abbrev nn4:Sl:=[iu .non,iu .non,iu .non,iu .non]
theorem zV (h:Pl d):wj [d]=if Kh 1 99 d=iC then .ok (.non,[.non]) else .exc "NoRoom" [iu .non]:=by refine runD_ap.trans ?_;have h1:=jN h 1 99;have z:1<=sizeLine:=jA (by lia);cases e:Kh 1 99 d <;> simp [yl,qv,h1,e,kg]
noncomputable def qdp (l:List (Str×Int)) (s:List (Str×Str)) (r:Int):List D:=s.map λx=>.int ((qY l x.1+qY l x.2) % r)
theorem qE {ms:List PM} {f g:qV} (h:f ρ=.ok (.nx,ρ1)):qab ms (qM f g ρ)=qab ms (g ρ1):=by rw [YM,h];rfl
abbrev qjA:qV:=(vo (Vw 2 qgW (d1 Ug (qe 3))))
theorem UR (a b:Option D):∀ (l:List (Str×Str)) (made:List Str) (x:Option D),made.length+2 * l.length<=1000->∃ n,vF (gNm 3) qjA (jy l) [a,b,iu (.lst (made.map D.str)),x]=.ok (.nx,[a,b,iu (.lst ((made++l.flatMap λp=>[p.1,p.2]).map D.str)),n])
 | [],made,x,_=>⟨x,by simp [jy,vF]⟩
 | p::l,made,x,h=>by rw [aq] at h;obtain ⟨n,e⟩:=UR a b l (made++[p.1,p.2]) (iu (.tup [.str p.1,.str p.2])) (by rw [ai]; simp; lia);refine ⟨n,?_⟩;have z:2<=sizeLine:=jA (by lia);have c:made.length+2<=sizeLine:=jA (by lia);rw [show (made++(p::l).flatMap λp=>[p.1,p.2])=(made++[p.1,p.2])++l.flatMap λp=>[p.1,p.2] by simp,<-e];simp [jy,vF,qjA,xP,qgW,Ug,z,c]
theorem Kv (w:jt ws) (hl:Vl p q):xp [Wd ws,Ld p q]=.ok (.lst ((LS (qp ws p q)).map D.str),[.non,.non]):=by
 refine runD_ap.trans ?_;have h1:=JW w hl;have a:(qp ws p q).length<=6:=by simp [qp]; exact w.2.1
 obtain ⟨n,e⟩:=UR (iu (Wd ws)) (iu (Ld p q)) (qp ws p q) [] iw (by simp; lia);have h:((qp ws p q).flatMap λp=>[p.1,p.2]).length < 64:=by
  rw [Gf]
  lia
 have c:jP (((qp ws p q).flatMap λp=>[p.1,p.2]).foldl zu [])=LS (qp ws p q):=qcy λx=>by
  simp only [cu,ao,ah,ac,ba,or_false];constructor
  ·rintro ⟨p,hp,rfl | rfl⟩;·exact .inl ⟨p,hp,rfl⟩
   ·exact .inr ⟨p,hp,rfl⟩
  ·rintro (⟨p,hp,rfl⟩ | ⟨p,hp,rfl⟩);·exact ⟨p,hp,.inl rfl⟩
   ·exact ⟨p,hp,.inr rfl⟩
 simp only [bU,ci] at e;simp [gB,qv,h1,jw];rw [e];simp only [kZ,qad,qbK,dq,et,wb,xG,wZ,if_pos h,c];simp
variable {r:Int}
theorem qcA (w:jt ws) (hl:Vl p q) (hr:0 < r) (k:∀ x∈LS (qp ws p q),x∈qD l):qhn [Wd ws,Ld p q,.int r,.dct (bk l)]=.ok (.tup (qdp l (qp ws p q) r),[.non,.non,.non,.non]):=by
 refine runD_ap.trans ?_;have h1:=JW w hl;have n:(qp ws p q).length<=6:=by simp [qp]; exact w.2.1
 have e:=qhu (own:=[]) (cap:=[2,3]) (fi:=jJ (qr [.vl,.vl] JT (qd (qe 0) (qd (qe 1) qx)))) (ft:=ftT) (fe:=d2 yb (d2 vK (d2 ixD (qe 3) (qe 0)) (d2 ixD (qe 3) (qe 1))) (qe 2))
  (ρ:=[iu (Wd ws),iu (Ld p q),iu (.int r),iu (.dct (bk l))]) (ρ1:=[iu (Wd ws),iu (Ld p q),iu (.int r),iu (.dct (bk l))]) (ps:=(qp ws p q).map λx=>(.str x.1,.str x.2)) (λ_=>iC) (λd=>match d with | (.str a,.str b)=>.int ((qY l a+qY l b) % r) | _=>.non) (by simp)
  (by simp [h1,jw,jy]) (by rw [ax]; exact jA (by lia)) (λ_ _=>rfl) (λd hd _=>by obtain ⟨x,hx,rfl⟩:=ah.mp hd;have c:=qau (k x.1 (mem_LS.mpr ⟨x,hx,.inl rfl⟩));have j:=qau (k x.2 (mem_LS.mpr ⟨x,hx,.inr rfl⟩));simp [c,j,yb,wR,hr])
 rw [fA.mpr (λ_ _=>rfl)] at e;have f:((qp ws p q).map λx=>(D.str x.1,D.str x.2)).map (λd=>match d with | (.str a,.str b)=>.int ((qY l a+qY l b) % r) | _=>.non)=qdp l (qp ws p q) r:=by simp [qdp]
 rw [f] at e;unfold qhm;rw [Jq,qad,show qv qhl [Wd ws,Ld p q,.int r,.dct (bk l)]=[iu (Wd ws),iu (Ld p q),iu (.int r),iu (.dct (bk l))] from rfl,e];simp [wU]
variable {room:Int}
theorem Vg (ns:List Int) (hr:0 < room):∀ (L:List Str) (t:List D) (x:Option D),t.length+L.length < 1000 ->∃ (es:List (Str×Int)) (b:List D) (n:Option D),qD es=L/\(∀ e∈es,0<=e.2/\e.2 < room)/\b.length=t.length+L.length /\
   jn (gNm 0) ftT (xF (qd (qe 0) (qd (qr [.vl,.sl 2,.vl] jQ (qd (qe 1) (kb (qd (qe 3) qx)))) qx))) (L.map D.str) [x,iu (scr ns),iu (.lst t),iu (.int room)]=.ok (prL es,[n,iu (scr ns),iu (.lst b),iu (.int room)])
 | [],t,x,_=>⟨[],t,x,rfl,by simp,by simp,rfl⟩
 | a::L,t,x,h=>by
  rw [aq] at h;obtain ⟨r,r0,r1,hd⟩:=wQ ns t (many:=room) hr (by lia);obtain ⟨es,b,n,m,B,k,z⟩:=Vg ns hr L (t++[.int 0]) (iu (.str a)) (by rw [ai]; simp; lia);have N:2<=sizeLine:=jA (by lia);refine ⟨(a,r)::es,b,n,by simp [qD] at m ⊢; exact m,λe i=>?_,by rw [k,ai]; simp; lia,?_⟩
  ·rcases ac.mp i with rfl | i;·exact ⟨r0,r1⟩
   ·exact B e i
  ·simp [jn,xx,hd,N,z,prL]
theorem qcB (w:jt ws) (p q:Int):(LS (qp ws p q)).length<=12:=by
 have c:(qp ws p q).length<=6:=by simp [qp]; exact w.2.1
 unfold LS;rw [(qI _).length_eq];have:=Ul ((qp ws p q).map (·.1)++(qp ws p q).map (·.2)) [];simp only [ai,ax,bj] at this
 lia
theorem qjB (a:jt ws) (p q:Int):∀ x∈LS (qp ws p q),∃ c,az c/\x=⟨#[c]⟩:=λx hx=>by
 obtain ⟨y,D,h⟩:=mem_LS.mp hx;obtain ⟨w,m,rfl⟩:=ah.mp D;rcases h with rfl | rfl;·exact qcx (a.2.2.2 w m) p
 ·exact qcx (a.2.2.2 w m) q
abbrev Pr:=Str×Str
abbrev Wk:=List Nat
noncomputable def inL (l:Wk):List D:=l.map λ(k:Nat)=>.int (k:Nat)
abbrev lD (l:Wk):D:=.lst (inL l)
abbrev nD (ns:List Int):D:=.tup (ns.map D.int)
abbrev pD (p:Pr):D:=.tup [.str p.1,.str p.2]
noncomputable def nI (ns:List Int) (k:Nat):Int:=(ns[k]?).getD 0
variable {ns:List Int}
theorem qfH {k:Nat} (h:k < ns.length):ixD (nD ns) (.int (k:Nat))=.ok (.int (nI ns k)):=by unfold ixD nI;simp only [];rw [wH,aF,aj h];rfl
noncomputable def qN (ns:List Int) (t:Int) (l:Wk):Int:=l.foldl (λa k=>nI ns k - a) t
def qhv (nd:D) (ns:List Int):Prop:=∀ k:Nat,k < ns.length->ixD nd (.int (k:Nat))=.ok (.int (nI ns k))
theorem qcC (ns:List Int):qhv (nD ns) ns:=λ_ h=>qfH h
theorem Gg (ns:List Int):qhv (.lst (ns.map D.int)) ns:=λk h=>by unfold ixD nI;simp only [];rw [wH,aF,aj h];rfl
theorem Vh {nd:D} {ns:List Int} (d:qhv nd ns) {a s:Option D}:∀ (l:Wk) (t:Int) (x:Option D),(∀ k∈l,k < ns.length)->∃ n,vF (gNm 4) (jl 3 (d2 Za (d2 ixD (qe 1) (qe 4)) (qe 3))) (inL l) [a,iu nd,s,iu (.int t),x]=.ok (.nx,[a,iu nd,s,iu (.int (qN ns t l)),n])
 | [],t,x,_=>⟨x,rfl⟩
 | k::l,t,x,h=>by have b:=d k (h k (ae ..));obtain ⟨n,e⟩:=Vh d (a:=a) (s:=s) l (nI ns k - t) (iu (.int (k:Nat))) λj G=>h j (aa _ G);refine ⟨n,?_⟩;have e0:qN ns t (k::l)=qN ns (nI ns k - t) l:=rfl;rw [e0,<-e];simp [inL,vF,b,wR]
variable {nd:D}
theorem xZ (d:qhv nd ns) {l:Wk} (h:∀ k∈l,k < ns.length) (t:Int):vH [lD l,nd,.int t]=.ok (.int (qN ns t l),[.non,.non,.non]):=by obtain ⟨n,e⟩:=Vh d (a:=iu (lD l)) (s:=iu (.int t)) l t iw h;refine runD_ap.trans ?_;unfold gt;rw [show qv gq [lD l,nd,.int t]=[iu (lD l),iu nd,iu (.int t),iw,iw] from rfl];refine (qE (ρ1:=[iu (lD l),iu nd,iu (.int t),iu (.int t),iw]) (by simp)).trans ?_;refine (qE (ρ1:=[iu (lD l),iu nd,iu (.int t),iu (.int (qN ns t l)),n]) (by rw [kI]; exact e)).trans ?_;simp
noncomputable def odd (l:Wk):Bool:=decide (l.length % 2=1)
theorem JY (l:Wk):um [lD l]=.ok (.bl (odd l),[.non]):=by
 refine runD_ap.trans ?_;have h:((inL l).length:Int) % 2=((l.length % 2:Nat):Int):=by simp [inL]
 by_cases q:l.length % 2=1;·simp [Qx,qv,yb,wR,eqD,eqN,eqS,h,odd,q]
 ·have g:¬((l.length % 2:Nat):Int)=1:=by omega
  simp [Qx,qv,yb,wR,eqD,eqN,eqS,h,odd,q,g];omega
noncomputable def qav (l:Wk) (r:Int) (ns:List Int):Bool:=if odd l=iC then decide (r % 2=0)&&decide (qN ns 0 l % 2=1) else !decide (qN ns 0 l % r=0)
theorem qhw (d:qhv nd ns) {l:Wk} (h:∀ k∈l,k < ns.length) (hr:1<=r):ZP [lD l,.int r,nd]=.ok (.bl (qav l r ns),[.non,.non,.non]):=by
 have h1:=xZ d h 0;have h2:=JY l;have a:0 < r:=by omega
 refine runD_ap.trans ?_;unfold qav;generalize qN ns 0 l=t at h1;cases q:odd l with
 | true=>rw [q] at h2;by_cases e1:r % 2=0 <;> simp [ZO,qv,h1,h2,yb,wR,eqD,eqN,eqS,e1] <;> rfl
 | false=>rw [q] at h2;simp [ZO,qv,h1,h2,yb,wR,neD,eqN,eqS,a];rfl
abbrev Wy:=List (Str×Str×Wk)
noncomputable def wD (W:Wy):List (Key×D):=W.map λe=>(.inr e.1,.tup [.str e.2.1,lD e.2.2])
noncomputable def kW (W:Wy):List Str:=W.map (·.1)
theorem qfI (W:Wy) (x:Str):qbx (wD W) (.inr x)=decide (x∈kW W):=by
 unfold qbx wD kW
 induction W with
 | nil=>rfl
 | cons e W j=>
  rw [aD,cL,j];by_cases h:e.1=x;·subst h; simp
  ·have h2:¬(bu e.1:Key)=bu x:=λz=>h (bu.inj z);have i:¬x=e.1:=λz=>h z.symm;simp [h2,i]
variable {W:Wy}
theorem qfJ {r:Str} {l:Wk} (h:x∉kW W):KM (wD W) (.inr x) (.tup [.str r,lD l])=wD (W++[(x,r,l)]):=by
 unfold KM;have h1:((wD W).any λp=>decide (p.1=(bu x:Key)))=false:=by have:=qfI W x;unfold qbx at this;rw [this];exact decide_eq_false h
 rw [h1,if_neg be];unfold wD;rw [cH];rfl
theorem qhx:∀ {W:Wy} {e:Str×Str×Wk},(kW W).Nodup->e∈W->ixD (.dct (wD W)) (.str e.1)=.ok (.tup [.str e.2.1,lD e.2.2])
 | [],e,_,h=>by cases h
 | a::W,e,hn,h=>by
  have r:=aN.mp (show (a.1::kW W).Nodup from hn);rcases ac.mp h with rfl | h;·simp [ixD,wD]
  ·have b:a.1≠e.1:=λz=>r.1 (by rw [z]; exact ah.mpr ⟨e,h,rfl⟩);have j:=qhx r.2 h;unfold ixD at j ⊢;simp only [wD,aD] at j ⊢;have h2:¬(bu a.1:Key)=bu e.1:=λz=>b (bu.inj z);rw [bC (by simpa using h2)];exact j
inductive Path (seen:List Pr) (r:Str):Wk->Str->Prop
 | nil:Path seen r [] r
 | snoc {l:Wk} {x y:Str} {k:Nat} {p:Pr}:Path seen r l x->seen[k]?=iu p->(p=(x,y)\/p=(y,x))->Path seen r (l++[k]) y
variable {seen:List Pr}
theorem Path.lt {r:Str} {l:Wk} (h:Path seen r l x):∀ k∈l,k < seen.length:=by
 induction h with
 | nil=>simp
 | snoc _ e _ j=>
  intro k a;rcases ao.mp a with a | a;·exact j k a
  ·rw [ap.mp a];exact (aC.mp e).1
structure WI (seen:List Pr) (W:Wy):Prop where
 nd:(kW W).Nodup
 sub:∀ x∈kW W,x∈LS seen
 path:∀ e∈W,Path seen e.2.1 e.2.2 e.1
 len:∀ e∈W,e.2.2.length < W.length
theorem vd (W V:Wy):kW (W++V)=kW W++kW V:=by simp [kW]
theorem WI.add (h:WI seen W) {r:Str} {l:Wk} (hx:x∉kW W) (c:x∈LS seen) (hp:Path seen r l x) (hl:l.length<=W.length):WI seen (W++[(x,r,l)]) where
 nd:=by rw [vd];refine bZ.mpr ⟨h.nd,by simp [kW],λa g b d=>?_⟩;rw [show kW [(x,r,l)]=[x] from rfl] at d;rw [ap.mp d];exact λz=>hx (z ▸ g)
 sub:=λy D=>by
  rw [vd] at D;rcases ao.mp D with D | D;·exact h.sub y D
  ·rw [show y=x from ap.mp D]; exact c
 path:=λe i=>by
  rcases ao.mp i with i | i;·exact h.path e i
  ·rw [ap.mp i]; exact hp
 len:=λe i=>by
  rw [ai];rcases ao.mp i with i | i;·have:=h.len e i; simp; omega
  ·rw [ap.mp i]; simp; omega
theorem Xw:∀ {a b:List Str},a.Nodup->(∀ x∈a,x∈b)->a.length<=b.length
 | [],b,_,_=>br _
 | x::a,b,hn,h=>by have r:=aN.mp hn;have hx:=h x (ae ..);have j:=Xw (b:=b.erase x) r.2 λy D=>(List.mem_erase_of_ne (λz=>r.1 (by rw [<-z]; exact D))).mpr (h y (aa _ D));rw [List.length_erase_of_mem hx] at j;have:=bD hx;rw [aq];omega
theorem WI.le (h:WI seen W):W.length<=(LS seen).length:=by have:=Xw h.nd h.sub;simpa [kW] using this
noncomputable def oth (p:Pr) (x:Str):Str:=if x=p.1 then p.2 else p.1
theorem qeT (p:Pr) (x:Str):kS [pD p,.str x]=.ok (.str (oth p x),[.non,.non]):=by refine runD_ap.trans ?_;unfold oth;by_cases h:x=p.1 <;> simp [wM,qv,ixD,at0,at1,eqD,eqN,eqS,h]
theorem qhy (p:Pr) (x:Str):inA (.str x) (pD p)=.ok (.bl (decide (x=p.1\/x=p.2))):=by have h:=zS x [p.1,p.2];simp only [aD,bU] at h;show (inD (.str x) (pD p)).bind (λb=>Out.ok (D.bl b))=_;unfold inD;simp only [h];simp
theorem Gh (W:Wy) (x:Str):Qu (.str x) (.dct (wD W))=.ok (.bl (!decide (x∈kW W))):=by unfold Qu;simp only [KL];rw [qfI]
theorem qjC {p:Pr} (hp:p∈seen) (x:Str):oth p x∈LS seen:=by
 rw [mem_LS];refine ⟨p,hp,?_⟩;unfold oth;split;·exact .inr rfl
 ·exact .inl rfl
abbrev spB:qV:=(qM (jl 7 (qr [.vl,.vl] kS (qd (qe 6) (qd (qe 4) qx))))
  (sIf (qgC (qU (d2 inA (qe 4) (qe 6))) (qU (d2 Qu (qe 7) (qe 2)))) (qM (Qh 2 (xF (qd (qe 1) (qd (d2 vK (d2 ixD (d2O 2 ixD (qe 4)) (dC (.int 1))) (gK (qd (qe 5) qx))) qx))) (qe 7))
  (vo (Vw 3 Ue (qe 7)))) jE))
theorem qcD {f g:qV} (h:f ρ=.ok (.nx,ρ1)):qM f g ρ=g ρ1:=by rw [YM,h];rfl
variable {ρ2:Sl}
theorem ua {g:D->Sl->Out Sl} {fb:qV} (h1:g d ρ=.ok ρ1) (h2:fb ρ1=.ok (.nx,ρ2)):vF g fb (d::ds) ρ=vF g fb ds ρ2:=by rw [vF,h1];simp only [Out.plain,kZ];rw [h2];rfl
theorem qjD {g:D->Sl->Out Sl} {fb:qV} {v:D} (h1:g d ρ=.ok ρ1) (h2:fb ρ1=.ok (.rt v,ρ2)):vF g fb (d::ds) ρ=.ok (.rt v,ρ2):=by rw [vF,h1];simp only [Out.plain,kZ];rw [h2];rfl
variable {root:Str} {ly:Wk}
theorem qhz (A:(LS seen).length<=20) (s:WI seen W) (c:(y,root,ly)∈W) {k:Nat} {p:Pr} (j:seen[k]?=iu p) (Q:List Str) (B:Q.length<=1000) (sd U:Option D):∃ (M:Wy) (rch:Option D),WI seen (W++M)/\(∀ e∈M,e.2.1=root)/\M.length<=1/\((y=p.1\/y=p.2)->oth p y∈kW (W++M)) /\
   spB [sd,iu (.str root),iu (.dct (wD W)),iu (.lst (Q.map D.str)),iu (.str y),iu (.int (k:Nat)),iu (pD p),U]=.ok (.nx,[sd,iu (.str root),iu (.dct (wD (W++M))),iu (.lst ((Q++kW M).map D.str)),iu (.str y),iu (.int (k:Nat)),iu (pD p),rch]):=by
 have h1:=qeT p y;have h2:=qhy p y;have i:=Gh W (oth p y);have S:=s.le;have v:=big;have a:=s.len _ c;have m:p∈seen:=aQ j;by_cases q:(y=p.1\/y=p.2)/\oth p y∉kW W
 ·refine ⟨[(oth p y,root,ly++[k])],iu (.str (oth p y)),s.add q.2 (qjC m y) (.snoc (s.path _ c) j ?_) (by rw [ai]; simp; simp at a; lia),by simp,by simp,λ_=>by rw [vd]; exact ao.mpr (.inr (by simp [kW])),?_⟩
  ·obtain ⟨p1,p2⟩:=p;unfold oth;rcases q.1 with e | e;·have e:y=p1:=e;subst e;simp
   ·have e:y=p2:=e;subst e;by_cases z:y=p1;·subst z; simp
    ·simp [z]
  ·unfold spB;rw [qcD (ρ1:=[sd,iu (.str root),iu (.dct (wD W)),iu (.lst (Q.map D.str)),iu (.str y),iu (.int (k:Nat)),iu (pD p),iu (.str (oth p y))]) (by simp [h1])];have h:decide (y=p.1\/y=p.2)=true:=decide_eq_true q.1;have g:(!decide (oth p y∈kW W))=true:=by rw [decide_eq_false q.2]; rfl
   rw [h] at h2;rw [g] at i;have V:=qhx s.nd c;simp only [] at V;have b:ixD (.tup [.str root,lD ly]) (.int 1)=.ok (lD ly):=by simp [ixD,at1]
   have t:=qfJ (W:=W) (x:=oth p y) (r:=root) (l:=ly++[k]) q.2;have hl:(inL ly).length+1<=sizeLine:=by simp [inL]; simp at a; lia
   have o:1<=sizeLine:=by lia
   have N:2<=sizeLine:=by lia
   have d:(wD W).length < sizeLine:=by simp [wD]; lia
   have f:Q.length < sizeLine:=by lia
   have n:inL ly++[.int (k:Nat)]=inL (ly++[k]):=by simp [inL]
   rw [qjd,show qgC (qU (d2 inA (qe 4) (qe 6))) (qU (d2 Qu (qe 7) (qe 2))) [sd,iu (.str root),iu (.dct (wD W)),iu (.lst (Q.map D.str)),iu (.str y),iu (.int (k:Nat)),iu (pD p),iu (.str (oth p y))]=.ok (iC,[sd,iu (.str root),iu (.dct (wD W)),iu (.lst (Q.map D.str)),iu (.str y),iu (.int (k:Nat)),iu (pD p),iu (.str (oth p y))]) by simp [h2,i]];simp only [kZ,if_true];rw [qcD (ρ1:=[sd,iu (.str root),iu (.dct (wD (W++[(oth p y,root,ly++[k])]))),iu (.lst (Q.map D.str)),iu (.str y),iu (.int (k:Nat)),iu (pD p),iu (.str (oth p y))]) (by simp [Qh,d2O,V,b,o,N,hl,n,KL,d,t])];simp [xP,Ue,f,kW]
 ·refine ⟨[],iu (.str (oth p y)),by simpa using s,by simp,by simp,λz=>?_,?_⟩;·rw [bh];exact bN λw=>q ⟨z,w⟩
  ·unfold spB;rw [qcD (ρ1:=[sd,iu (.str root),iu (.dct (wD W)),iu (.lst (Q.map D.str)),iu (.str y),iu (.int (k:Nat)),iu (pD p),iu (.str (oth p y))]) (by simp [h1])];by_cases z:y=p.1\/y=p.2
   ·have h:decide (y=p.1\/y=p.2)=true:=decide_eq_true z;have u:oth p y∈kW W:=bN λw=>q ⟨z,w⟩;have g:(!decide (oth p y∈kW W))=false:=by rw [decide_eq_true u]; rfl
    rw [h] at h2;rw [g] at i;simp [h2,i,kW]
   ·have h:decide (y=p.1\/y=p.2)=false:=decide_eq_false z;rw [h] at h2;simp [h2,kW]
noncomputable def en (k0:Nat) (rest:List Pr):List D:=(rest.zipIdx k0).map λp=>.tup [.int (p.2:Nat),pD p.1]
theorem qjE (seen:List Pr):Js (jy seen)=en 0 seen:=by unfold Js en jy;rw [List.zipIdx_map,bf];rfl
theorem qfK (s:(LS seen).length<=20) (sd:Option D):∀ (rest:List Pr) (k0:Nat) (W:Wy) (Q:List Str) (a x U:Option D),seen.drop k0=rest->WI seen W->(y,root,ly)∈W->Q.length+rest.length<=500 ->∃ (M:Wy) (S c b:Option D),WI seen (W++M)/\(∀ e∈M,e.2.1=root)/\(∀ p∈rest,(y=p.1\/y=p.2)->oth p y∈kW (W++M))/\M.length<=rest.length /\
   vF (jG 2 (qw (gNm 5) (qw (gNm 6) jF))) spB (en k0 rest) [sd,iu (.str root),iu (.dct (wD W)),iu (.lst (Q.map D.str)),iu (.str y),a,x,U]=.ok (.nx,[sd,iu (.str root),iu (.dct (wD (W++M))),iu (.lst ((Q++kW M).map D.str)),iu (.str y),S,c,b])
 | [],k0,W,Q,a,x,U,_,hW,_,_=>⟨[],a,x,U,by simpa using hW,by simp,by simp,by simp,by simp [en,vF,kW]⟩
 | p::rest,k0,W,Q,a,x,U,hd,hW,hy,hQ=>by
  rw [aq] at hQ;have k:seen[k0]?=iu p:=by have:=congrArg List.head? hd;rw [List.head?_drop] at this;simpa using this
  have hd2:seen.drop (k0+1)=rest:=by have:=congrArg List.tail hd;rw [List.tail_drop] at this;simpa using this
  obtain ⟨M1,r1,o,n,m,l,q⟩:=qhz s hW hy k Q (by lia) sd U;have d:(kW M1).length<=1:=by simpa [kW] using m
  obtain ⟨M2,S,c,b,A,j,g,w,f⟩:=qfK s sd rest (k0+1) (W++M1) (Q++kW M1) (iu (.int (k0:Nat))) (iu (pD p)) r1 hd2 o (ao.mpr (.inl hy)) (by rw [ai]; lia);refine ⟨M1++M2,S,c,b,by rw [<-aT]; exact A,λe i=>?_,λZ h z=>?_,by rw [ai,aq]; lia,?_⟩
  ·rcases ao.mp i with i | i;·exact n e i
   ·exact j e i
  ·rw [<-aT,vd];rcases ac.mp h with rfl | h;·exact ao.mpr (.inl (l z))
   ·have:=g Z h z;rw [vd] at this;exact this
  ·rw [vd,<-aT,<-aT];refine cJ ?_ f;have e0:en k0 (p::rest)=.tup [.int (k0:Nat),pD p]::en (k0+1) rest:=by simp [en,fV]
   rw [e0];exact ua rfl q
theorem Gi {ft:uX} {fb:qV} (h1:ft ρ=.ok (iC,ρ1)) (h2:fb ρ1=.ok (.nx,ρ2)):jm ft fb (n+1) ρ=jm ft fb n ρ2:=by rw [jm,h1];simp only [kZ,if_true];rw [h2];rfl
theorem US {ft:uX} {fb:qV} (h1:ft ρ=.ok (iE,ρ1)):jm ft fb (n+1) ρ=.ok (.nx,ρ1):=by rw [jm,h1];rfl
abbrev spC:uX:=qU (d2 gtD (d1 kC (qe 3)) (dC (.int 0)))
abbrev spW:qV:=(qM (jl 4 (qbU 3)) (KC (qag (qe 0)) (jG 2 (qw (gNm 5) (qw (gNm 6) jF))) spB))
abbrev sD (seen:List Pr):D:=.lst (jy seen)
theorem Gj (w:seen.length<=10) (s:(LS seen).length<=20) (root:Str):∀ (n:Nat) (W:Wy) (Q:List Str) (c b a U:Option D),n<=100->WI seen W->(∀ x∈Q,∃ l,(x,root,l)∈W)->Q.length+((LS seen).length - W.length) < n ->∃ (M:Wy) (u S f d:Option D),WI seen (W++M)/\(∀ e∈M,e.2.1=root)/\(∀ x,x∈Q\/x∈kW M->∀ p∈seen,(x=p.1\/x=p.2)->oth p x∈kW (W++M)) /\
   jm spC spW n [iu (sD seen),iu (.str root),iu (.dct (wD W)),iu (.lst (Q.map D.str)),c,b,a,U]=.ok (.nx,[iu (sD seen),iu (.str root),iu (.dct (wD (W++M))),iu (.lst []),u,S,f,d])
 | 0,W,Q,c,b,a,U,_,_,_,h=>absurd h (Nat.not_lt_zero _)
 | n+1,W,[],c,b,a,U,_,hW,_,_=>⟨[],c,b,a,U,by simpa using hW,by simp,by simp [kW],by rw [bh];exact US (by simp [wR])⟩
 | n+1,W,y::Q,c,b,a,U,h100,hW,hQ,hm=>by
  obtain ⟨ly,v⟩:=hQ y (ae ..);rw [aq] at hm;obtain ⟨M1,S,f,d,m,k,H,I,G⟩:=qfK s (iu (sD seen)) seen 0 W Q b a U (by simp) hW v (by lia);have g:=m.le;rw [ai] at g;obtain ⟨M2,t,r,o,j,E,C,B,A⟩:=Gj w s root n (W++M1) (Q++kW M1) (iu (.str y)) S f d (by lia) m (λx hx=>by
   rcases ao.mp hx with hx | hx;·obtain ⟨l,hl⟩:=hQ x (aa _ hx);exact ⟨l,ao.mpr (.inl hl)⟩
   ·obtain ⟨e,i,rfl⟩:=ah.mp hx;refine ⟨e.2.2,ao.mpr (.inr ?_)⟩;rw [<-k e i];exact i) (by
   rw [ai,ai,show (kW M1).length=M1.length by simp [kW]]
   lia)
  refine ⟨M1++M2,t,r,o,j,by rw [<-aT]; exact E,λe i=>?_,λx hx p hp z=>?_,?_⟩
  ·rcases ao.mp i with i | i;·exact k e i
   ·exact C e i
  ·rw [<-aT];by_cases q:x=y;·subst q;rw [vd];exact ao.mpr (.inl (H p hp z))
   ·refine B x ?_ p hp z;rcases hx with hx | hx
    ·rcases ac.mp hx with e | hx;·exact absurd e q
     ·exact .inl (ao.mpr (.inl hx))
    ·rw [vd] at hx;rcases ao.mp hx with hx | hx;·exact .inl (ao.mpr (.inr hx))
     ·exact .inr hx
  ·rw [<-aT];refine cJ ?_ A;refine Gi (ρ1:=[iu (sD seen),iu (.str root),iu (.dct (wD W)),iu (.lst ((y::Q).map D.str)),c,b,a,U]) (by
    have:(0:Int) < (Q.length:Int)+1:=by lia
    simp [wR,this]) ?_
   unfold spW;rw [qcD (ρ1:=[iu (sD seen),iu (.str root),iu (.dct (wD W)),iu (.lst (Q.map D.str)),iu (.str y),b,a,U]) (by simp [qbU])];rw [kI,show qag (qe 0) [iu (sD seen),iu (.str root),iu (.dct (wD W)),iu (.lst (Q.map D.str)),iu (.str y),b,a,U]=.ok (Js (jy seen),[iu (sD seen),iu (.str root),iu (.dct (wD W)),iu (.lst (Q.map D.str)),iu (.str y),b,a,U]) from rfl,kZ,qjE];exact G
theorem qcE (q:seen.length<=6) (o:(LS seen).length<=12) (s:WI seen W) (hr:root∉kW W) (d:root∈LS seen):∃ M:Wy,WI seen (W++M)/\(∀ e∈M,e.2.1=root)/\(root,root,[])∈M/\(∀ x∈kW M,∀ p∈seen,(x=p.1\/x=p.2)->oth p x∈kW (W++M))/\QA [sD seen,.str root,.dct (wD W)]=.ok (.non,[.non,.non,.dct (wD (W++M))]):=by
 have h:=s.add hr d (r:=root) (l:=[]) .nil (br _);have S:=h.le;have b:=s.le;have v:=big;obtain ⟨M,u,n,j,f,m,k,z,y⟩:=Gj (by lia) (by lia) root 20 (W++[(root,root,[])]) [root] iw iw iw iw (by lia) h (λx hx=>⟨[],by rw [ap.mp hx]; exact ao.mpr (.inr (ap.mpr rfl))⟩) (by simp; lia);rw [aT] at m z y;refine ⟨[(root,root,[])]++M,m,λe i=>?_,ao.mpr (.inl (ap.mpr rfl)),λx hx p hp c=>z x ?_ p hp c,?_⟩
 ·rcases ao.mp i with i | i;·rw [ap.mp i]
  ·exact k e i
 ·rw [vd] at hx;rcases ao.mp hx with hx | hx;·exact .inl hx
  ·exact .inr hx
 ·refine runD_ap.trans ?_;unfold VT;rw [show qv VS [sD seen,.str root,.dct (wD W)]=[iu (sD seen),iu (.str root),iu (.dct (wD W)),iw,iw,iw,iw,iw] from rfl];have t:=qfJ (W:=W) (x:=root) (r:=root) (l:=[]) hr;rw [show lD []=.lst [] from rfl] at t;have N:2<=sizeLine:=by lia
  have g:1<=sizeLine:=by lia
  have a:(wD W).length < sizeLine:=by simp [wD]; lia
  refine (qE (ρ1:=[iu (sD seen),iu (.str root),iu (.dct (wD (W++[(root,root,[])]))),iw,iw,iw,iw,iw]) (by simp [Qh,N,KL,a,t])).trans ?_;refine (qE (ρ1:=[iu (sD seen),iu (.str root),iu (.dct (wD (W++[(root,root,[])]))),iu (.lst [.str root]),iw,iw,iw,iw]) (by simp [g])).trans ?_;exact (congrArg (qab [.val,.val,.io]) y).trans rfl
def CI (seen:List Pr) (W:Wy):Prop:=∀ e∈W,∀ p∈seen,(e.1=p.1\/e.1=p.2)->∃ a∈W,a.1=oth p e.1/\a.2.1=e.2.1
def RI (W:Wy):Prop:=∀ e∈W,(e.2.1,e.2.1,[])∈W
theorem qhA {p:Pr} (h:x=p.1\/x=p.2):oth p (oth p x)=x/\(oth p x=p.1\/oth p x=p.2):=by
 obtain ⟨a,b⟩:=p;unfold oth;simp only [];by_cases q:x=a
 ·subst q;simp only [if_true];by_cases d:b=x;·subst d; simp
  ·simp [d]
 ·have:x=b:=by rcases h with h | h; exact absurd h q; exact h
  subst this;simp [q]
theorem QR:∀ {W:Wy},(kW W).Nodup->∀ {e b:Str×Str×Wk},e∈W->b∈W->e.1=b.1->e=b
 | [],_,e,b,h,_,_=>by cases h
 | a::W,hn,e,b,h,h',q=>by
  have r:=aN.mp (show (a.1::kW W).Nodup from hn);rcases ac.mp h with h1 | h1
  ·rcases ac.mp h' with h2 | h2;·rw [h1,h2]
   ·exact absurd (show a.1∈kW W from ah.mpr ⟨b,h2,by rw [<-q,h1]⟩) r.1
  ·rcases ac.mp h' with h2 | h2;·exact absurd (show a.1∈kW W from ah.mpr ⟨e,h1,by rw [q,h2]⟩) r.1
   ·exact QR r.2 h1 h2 q
abbrev woB:qV:=(sIf (qU (d2 Qu (qe 2) (qe 1))) (vo (qr [.vl,.vl,.sl 1] QA (qd (qe 0) (qd (qe 2) (kb qx))))) jE)
def MI (W:Wy):Prop:=∀ e∈W,leS e.2.1 e.1
theorem qeU (x:Str):leS x x:=(Ut x x).elim id id
theorem JZ (v:seen.length<=6) (u:(LS seen).length<=12):∀ (xs:List Str) (W:Wy) (x:Option D),(∀ x∈xs,x∈LS seen)->xs.Pairwise leS->(∀ z∈LS seen,z∈kW W\/z∈xs)->WI seen W->CI seen W->RI W->MI W ->∃ (M:Wy) (n:Option D),WI seen (W++M)/\CI seen (W++M)/\RI (W++M)/\MI (W++M)/\(∀ x∈xs,x∈kW (W++M))/\vF (gNm 2) woB (xs.map D.str) [iu (sD seen),iu (.dct (wD W)),x]=.ok (.nx,[iu (sD seen),iu (.dct (wD (W++M))),n])
 | [],W,x,_,_,_,hW,hC,hR,hM=>⟨[],x,by simpa using hW,by simpa using hC,by simpa using hR,by simpa using hM,by simp,by simp [vF]⟩
 | y::xs,W,x,hx,hso,hal,hW,hC,hR,hM=>by
  have b:=aM.mp hso;have g:=Gh W y;by_cases q:y∈kW W
  ·obtain ⟨M,n,t,s,r,m,o,l⟩:=JZ v u xs W (iu (.str y)) (λz a=>hx z (aa _ a)) b.2 (λz a=>by
    rcases hal z a with h | h;·exact .inl h
    ·rcases ac.mp h with rfl | h;·exact .inl q
     ·exact .inr h) hW hC hR hM
   refine ⟨M,n,t,s,r,m,λz a=>?_,?_⟩
   ·rcases ac.mp a with rfl | a;·rw [vd]; exact ao.mpr (.inl q)
    ·exact o z a
   ·refine cJ (ua (ρ1:=[iu (sD seen),iu (.dct (wD W)),iu (.str y)]) rfl ?_) l;rw [decide_eq_true q] at g;simp [g]
  ·obtain ⟨M1,A,k,H,N,L⟩:=qcE v u hW q (hx y (ae ..));have C:RI (W++M1):=λe i=>by
    rcases ao.mp i with i | i;·exact ao.mpr (.inl (hR e i))
    ·rw [k e i];exact ao.mpr (.inr H)
   have G:CI seen (W++M1):=λe i p hp a=>by
    rcases ao.mp i with i | i;·obtain ⟨f,h1,h2⟩:=hC e i p hp a;exact ⟨f,ao.mpr (.inl h1),h2⟩
    ·have K:=N e.1 (ah.mpr ⟨e,i,rfl⟩) p hp a;obtain ⟨f,h1,h2⟩:=ah.mp K;refine ⟨f,h1,h2,?_⟩;rcases ao.mp h1 with c | c
     ·exfalso;obtain ⟨o1,o2⟩:=qhA a;rw [<-h2] at o1 o2;obtain ⟨j,J,I,_⟩:=hC f c p hp o2;rw [o1] at I;have:=QR A.nd (ao.mpr (.inl J)) (ao.mpr (.inr i)) I;subst this;have d:=A.nd;rw [vd] at d;exact (bZ.mp d).2.2 j.1 (ah.mpr ⟨j,J,rfl⟩) j.1 (ah.mpr ⟨j,i,rfl⟩) rfl
     ·rw [k f c,k e i]
   have E:MI (W++M1):=λe i=>by
    rcases ao.mp i with i | i;·exact hM e i
    ·rw [k e i];have d:=A.nd;rw [vd] at d;have w:e.1∉kW W:=λz=>(bZ.mp d).2.2 e.1 z e.1 (ah.mpr ⟨e,i,rfl⟩) rfl;have B:=A.sub e.1 (by rw [vd]; exact ao.mpr (.inr (ah.mpr ⟨e,i,rfl⟩)));rcases hal e.1 B with h | h;·exact absurd h w
     ·rcases ac.mp h with h | h;·rw [h]; exact qeU _
      ·exact b.1 e.1 h
   obtain ⟨M2,n,t,s,r,m,o,l⟩:=JZ v u xs (W++M1) (iu (.str y)) (λz a=>hx z (aa _ a)) b.2 (λz a=>by
    rcases hal z a with h | h;·exact .inl (by rw [vd]; exact ao.mpr (.inl h))
    ·rcases ac.mp h with rfl | h;·exact .inl (by rw [vd]; exact ao.mpr (.inr (ah.mpr ⟨_,H,rfl⟩)))
     ·exact .inr h) A G C E
   rw [aT] at t s r m o l;refine ⟨M1++M2,n,t,s,r,m,λz a=>?_,?_⟩
   ·rcases ac.mp a with rfl | a;·rw [vd,vd];exact ao.mpr (.inr (ao.mpr (.inl (ah.mpr ⟨_,H,rfl⟩))))
    ·exact o z a
   ·refine cJ (ua (ρ1:=[iu (sD seen),iu (.dct (wD W)),iu (.str y)]) rfl ?_) l;rw [decide_eq_false q] at g;simp [g,L]
theorem Vi (d:seen.length<=6) (s:(LS seen).length<=12):∃ W:Wy,WI seen W/\CI seen W/\RI W/\MI W/\(∀ x∈LS seen,x∈kW W)/\wX [sD seen]=.ok (.dct (wD W),[.non]):=by obtain ⟨W,n,b,k,a,m,y,q⟩:=JZ d s (LS seen) [] iw (λ_ h=>h) (by unfold LS; exact qS _) (λz c=>.inr c) ⟨by simp [kW],by simp [kW],by simp,by simp⟩ (λe i=>by cases i) (λe i=>by cases i) (λe i=>by cases i);rw [ci] at b k a m y q;refine ⟨W,b,k,a,m,y,?_⟩;have u:=uL (l:=seen) (by lia);refine runD_ap.trans ?_;unfold JF;rw [show qv JE [sD seen]=[iu (sD seen),iw,iw] from rfl];refine (qE (ρ1:=[iu (sD seen),iu (.dct []),iw]) (by simp)).trans ?_;refine (qE (ρ1:=[iu (sD seen),iu (.dct (wD W)),n]) (by rw [kI,show jJ (qr [.vl] jp (qd (qe 0) qx)) [iu (sD seen),iu (.dct []),iw]=.ok ((LS seen).map D.str,[iu (sD seen),iu (.dct []),iw]) by simp [u,jw],kZ];exact q)).trans ?_;simp
noncomputable def qJ (W:Wy) (x:Str):Str×Wk:=((W.find? λe=>decide (e.1=x)).map (·.2)).getD (⟨#[]⟩,[])
theorem jq (h:x∈kW W):(x,qJ W x)∈W:=by
 unfold qJ;cases q:W.find? λe=>decide (e.1=x) with
 | none=>obtain ⟨e,i,rfl⟩:=ah.mp h;have:=cQ.mp q e i;simp at this
 | some e=>
  have h1:=bP q;have h2:e.1=x:=by simpa using fZ q
  rw [<-h2];exact h1
theorem Wt (n:(kW W).Nodup) (h:x∈kW W):ixD (.dct (wD W)) (.str x)=.ok (.tup [.str (qJ W x).1,lD (qJ W x).2]):=qhx n (jq h)
theorem qlp:ixD (.tup [a,b]) (.int 0)=.ok a:=by simp [ixD,at0]
theorem qlq:ixD (.tup [a,b]) (.int 1)=.ok b:=by simp [ixD,at1]
theorem qhB (a b:Wk):inL a++inL b=inL (a++b):=by simp [inL]
theorem za (a:Wk):(inL a).length=a.length:=by simp [inL]
theorem qjF (l:Wk):zA (lD l)=.ok (lD l.reverse):=by simp [zA,inL]
theorem qcF {a b:Wk} (h:a.length+b.length<=2000):vK (lD a) (lD b)=.ok (lD (a++b)):=by
 have z:(inL a).length+(inL b).length<=sizeLine:=by rw [za,za]; exact jA h
 show (if (inL a).length+(inL b).length<=sizeLine then Out.ok (D.lst (inL a++inL b)) else .bad)=_;rw [if_pos z,qhB]
abbrev Ci:=Str×Wk
noncomputable def cd (c:Ci):D:=.tup [.str c.1,lD c.2]
noncomputable def cD (C:List Ci):List D:=C.map cd
noncomputable def Xx (W:Wy) (p:Pr) (k:Nat):Ci:=((qJ W p.1).1,(qJ W p.1).2++[k]++(qJ W p.2).2.reverse)
noncomputable def CL (W:Wy) (k0:Nat) (rest:List Pr):List Ci:=(rest.zipIdx k0).map λp=>Xx W p.1 p.2
abbrev ciB:qV:=(qM (jl 5 (d1 zA (d2 ixD (d2 ixD (qe 1) (d2 ixD (qe 4) (dC (.int 1)))) (dC (.int 1)))))
  (vo (Vw 2 Ue (xF (qd (d2 ixD (d2 ixD (qe 1) (d2 ixD (qe 4) (dC (.int 0)))) (dC (.int 0))) (qd (d2 vK (d2 vK (d2 ixD (d2 ixD (qe 1) (d2 ixD (qe 4) (dC (.int 0)))) (dC (.int 1))) (gK (qd (qe 3) qx))) (qe 5)) qx))))))
theorem qhC (d:(LS seen).length<=20) (s:WI seen W) {p:Pr} (h1:p.1∈kW W) (h2:p.2∈kW W) {k:Nat} {acc:List D} (f:acc.length < 1000) (sd x:Option D):∃ S,ciB [sd,iu (.dct (wD W)),iu (.lst acc),iu (.int (k:Nat)),iu (pD p),x]=.ok (.nx,[sd,iu (.dct (wD W)),iu (.lst (acc++[cd (Xx W p k)])),iu (.int (k:Nat)),iu (pD p),S]):=by
 have i1:=Wt s.nd h1;have i2:=Wt s.nd h2;have i:=s.len _ (jq h1);have l:=s.len _ (jq h2);have e:=s.le;have v:=big;simp only [] at i l;have g:1<=sizeLine:=by lia
 have N:2<=sizeLine:=by lia
 have h:acc.length < sizeLine:=by lia
 have m:=qcF (a:=(qJ W p.1).2) (b:=[k]) (by simp; lia);have c:=qcF (a:=(qJ W p.1).2++[k]) (b:=(qJ W p.2).2.reverse) (by simp; lia);have m:vK (lD (qJ W p.1).2) (.lst [.int (k:Nat)])=.ok (lD ((qJ W p.1).2++[k])):=m;have r2:=qjF (qJ W p.2).2;refine ⟨iu (lD (qJ W p.2).2.reverse),?_⟩;unfold ciB Xx cd;rw [qcD (ρ1:=[sd,iu (.dct (wD W)),iu (.lst acc),iu (.int (k:Nat)),iu (pD p),iu (lD (qJ W p.2).2.reverse)]) (by simp [qlq,i2,r2])];simp [xP,qlp,qlq,i1,m,c,g,N,Ue,h]
theorem qcG (s:(LS seen).length<=20) (b:WI seen W) (sd:Option D):∀ (rest:List Pr) (k0:Nat) (acc:List Ci) (x c a:Option D),(∀ p∈rest,p.1∈kW W/\p.2∈kW W)->acc.length+rest.length<=500 ->∃ y u S,vF (jG 2 (qw (gNm 3) (qw (gNm 4) jF))) ciB (en k0 rest) [sd,iu (.dct (wD W)),iu (.lst (cD acc)),x,c,a]=.ok (.nx,[sd,iu (.dct (wD W)),iu (.lst (cD (acc++CL W k0 rest))),y,u,S])
 | [],k0,acc,x,c,a,_,_=>⟨x,c,a,by simp [en,CL,vF]⟩
 | p::rest,k0,acc,x,c,a,h,hl=>by
  rw [aq] at hl;obtain ⟨h1,h2⟩:=h p (ae ..);obtain ⟨r5,e⟩:=qhC s b h1 h2 (k:=k0) (acc:=cD acc) (by simp [cD]; lia) sd a;obtain ⟨y,u,S,j⟩:=qcG s b sd rest (k0+1) (acc++[Xx W p k0]) (iu (.int (k0:Nat))) (iu (pD p)) r5 (λq hq=>h q (aa _ hq)) (by rw [ai]; simp; lia);refine ⟨y,u,S,?_⟩;have e0:en k0 (p::rest)=.tup [.int (k0:Nat),pD p]::en (k0+1) rest:=by simp [en,fV]
  have e1:acc++CL W k0 (p::rest)=(acc++[Xx W p k0])++CL W (k0+1) rest:=by simp [CL,fV]
  rw [e0,e1];refine cJ (ua rfl e) ?_;rw [show cD acc++[cd (Xx W p k0)]=cD (acc++[Xx W p k0]) by simp [cD]];exact j
theorem vZ (g:∀ x∈LS seen,x∈kW W):∀ p∈seen,p.1∈kW W/\p.2∈kW W:=λp hp=>⟨g _ (mem_LS.mpr ⟨p,hp,.inl rfl⟩),g _ (mem_LS.mpr ⟨p,hp,.inr rfl⟩)⟩
theorem Vj (n:seen.length<=6) (c:(LS seen).length<=20) (s:WI seen W) (g:∀ x∈LS seen,x∈kW W):ww [sD seen,.dct (wD W)]=.ok (.lst (cD (CL W 0 seen)),[.non,.non]):=by obtain ⟨y,u,S,e⟩:=qcG c s (iu (sD seen)) seen 0 [] iw iw iw (vZ g) (by simp; lia);rw [ci] at e;refine runD_ap.trans ?_;unfold yx;rw [show qv yw [sD seen,.dct (wD W)]=[iu (sD seen),iu (.dct (wD W)),iw,iw,iw,iw] from rfl];refine (qE (ρ1:=[iu (sD seen),iu (.dct (wD W)),iu (.lst []),iw,iw,iw]) (by simp)).trans ?_;refine (qE (ρ1:=[iu (sD seen),iu (.dct (wD W)),iu (.lst (cD (CL W 0 seen))),y,u,S]) (by rw [kI,show qag (qe 0) [iu (sD seen),iu (.dct (wD W)),iu (.lst []),iw,iw,iw]=.ok (Js (jy seen),[iu (sD seen),iu (.dct (wD W)),iu (.lst []),iw,iw,iw]) from rfl,kZ,qjE];exact e)).trans ?_;simp
theorem qjG (s:WI seen W) (g:∀ x∈LS seen,x∈kW W):∀ c∈CL W 0 seen,∀ k∈c.2,k < seen.length:=by
 intro c d k h;obtain ⟨q,hq,rfl⟩:=ah.mp d;obtain ⟨p,j⟩:=q;have G:=List.mem_zipIdx hq;have hp:p∈seen:=by rw [G.2.2]; exact bG _
 obtain ⟨h1,h2⟩:=vZ g p hp;unfold Xx at h;simp only [ao,dO,ap] at h;rcases h with (h | h) | h;·exact (s.path _ (jq h1)).lt k h
 ·have:=G.2.1;omega
 ·exact (s.path _ (jq h2)).lt k h
noncomputable def fD (F:List Ci):List (Key×D):=F.map λc=>(.inr c.1,lD c.2)
noncomputable def kF (F:List Ci):List Str:=F.map (·.1)
theorem qfL (F:List Ci) (x:Str):qbx (fD F) (.inr x)=decide (x∈kF F):=by
 unfold qbx fD kF
 induction F with
 | nil=>rfl
 | cons e F j=>
  rw [aD,cL,j];by_cases h:e.1=x;·subst h; simp
  ·have h2:¬(bu e.1:Key)=bu x:=λz=>h (bu.inj z);have i:¬x=e.1:=λz=>h z.symm;simp [h2,i]
variable {F:List Ci}
theorem qjH {l:Wk} (h:x∉kF F):KM (fD F) (.inr x) (lD l)=fD (F++[(x,l)]):=by
 unfold KM;have h1:((fD F).any λp=>decide (p.1=(bu x:Key)))=false:=by have:=qfL F x;unfold qbx at this;rw [this];exact decide_eq_false h
 rw [h1,if_neg be];unfold fD;rw [cH];rfl
noncomputable def xA (F:List Ci) (x:Str):Wk:=((F.find? λc=>decide (c.1=x)).map (·.2)).getD []
theorem Xy:∀ (F:List Ci) (x:Str),(fD F).find? (λkv=>decide (kv.1=(bu x:Key)))=(F.find? λc=>decide (c.1=x)).map λc=>(bu c.1,lD c.2)
 | [],x=>rfl
 | c::F,x=>by
  have j:=Xy F x;unfold fD at j ⊢;rw [aD];by_cases h:c.1=x;·rw [bL (by simp [h]),bL (by simp [h])];rfl
  ·have h2:¬(bu c.1:Key)=bu x:=λz=>h (bu.inj z);rw [bC (by simpa using h2),bC (by simpa using h),j]
theorem qlr (h:x∈kF F):ixD (.dct (fD F)) (.str x)=.ok (lD (xA F x)):=by
 unfold ixD xA;simp only [Xy];cases q:F.find? λc=>decide (c.1=x) with
 | none=>obtain ⟨e,i,rfl⟩:=ah.mp h;have:=cQ.mp q e i;simp at this
 | some c=>rfl
theorem qjI (F:List Ci) (x:Str):qkq (fD F) (.inr x) (.lst [])=lD (xA F x):=by unfold qkq xA;rw [Xy];cases F.find? λc=>decide (c.1=x) <;> rfl
noncomputable def FO:List Ci->List Ci->List Ci
 | F,[]=>F
 | F,c::C=>FO (if odd c.2=iC/\c.1∉kF F then F++[c] else F) C
theorem Ka:∀ (C F:List Ci),(∀ c∈FO F C,c∈F\/c∈C)/\(∀ x∈kF F,x∈kF (FO F C))/\(∀ c∈C,odd c.2=iC->c.1∈kF (FO F C))/\(FO F C).length<=F.length+C.length
 | [],F=>⟨λc h=>.inl h,λx h=>h,by simp,by simp [FO]⟩
 | c::C,F=>by
  unfold FO;by_cases q:odd c.2=iC/\c.1∉kF F
  ·rw [if_pos q];obtain ⟨a,b,d,e⟩:=Ka C (F++[c]);refine ⟨λy D=>?_,λx hx=>b x (by simp [kF] at hx ⊢; exact .inl hx),λy D l=>?_,by rw [ai] at e; simp at e ⊢; lia⟩
   ·rcases a y D with h | h
    ·rcases ao.mp h with h | h;·exact .inl h
     ·exact .inr (by rw [ap.mp h]; exact ae ..)
    ·exact .inr (aa _ h)
   ·rcases ac.mp D with rfl | D;·exact b _ (by simp [kF])
    ·exact d y D l
  ·rw [if_neg q];obtain ⟨a,b,d,e⟩:=Ka C F;refine ⟨λy D=>?_,b,λy D l=>?_,by simp at e ⊢; lia⟩
   ·rcases a y D with h | h;·exact .inl h
    ·exact .inr (aa _ h)
   ·rcases ac.mp D with rfl | D;·exact b _ (bN λw=>q ⟨l,w⟩)
    ·exact d y D l
abbrev foB:qV:=(sIf (qgC (xE (qr [.vl] um (qd (qe 3) qx))) (qU (d2 Qu (qe 2) (qe 1)))) (Qh 1 (qe 3) (qe 2)) jE)
theorem qjJ (F:List Ci) (x:Str):Qu (.str x) (.dct (fD F))=.ok (.bl (!decide (x∈kF F))):=by unfold Qu;simp only [KL];rw [qfL]
theorem Xz (a:Option D):∀ (C F:List Ci) (V e:Option D),F.length+C.length<=500->∃ b y,vF (jG 2 (qw (gNm 2) (qw (gNm 3) jF))) foB (cD C) [a,iu (.dct (fD F)),V,e]=.ok (.nx,[a,iu (.dct (fD (FO F C))),b,y])
 | [],F,V,e,_=>⟨V,e,rfl⟩
 | c::C,F,V,e,hl=>by
  rw [aq] at hl;have h1:=JY c.2;have h2:=qjJ F c.1;have i:(fD F).length < sizeLine:=aK (by simp [fD]; lia) big;unfold FO;by_cases q:odd c.2=iC/\c.1∉kF F;·rw [if_pos q];obtain ⟨b,y,j⟩:=Xz a C (F++[c]) (iu (.str c.1)) (iu (lD c.2)) (by rw [ai]; simp; lia);refine ⟨b,y,cJ (ua (d:=cd c) (ρ1:=[a,iu (.dct (fD F)),iu (.str c.1),iu (lD c.2)]) rfl ?_) j⟩;rw [q.1] at h1;rw [decide_eq_false q.2] at h2;have hp:=qjH (F:=F) (x:=c.1) (l:=c.2) q.2;simp [h1,h2,Qh,KL,i,hp]
  ·rw [if_neg q];obtain ⟨b,y,j⟩:=Xz a C F (iu (.str c.1)) (iu (lD c.2)) (by lia);refine ⟨b,y,cJ (ua (d:=cd c) (ρ1:=[a,iu (.dct (fD F)),iu (.str c.1),iu (lD c.2)]) rfl ?_) j⟩;cases f:odd c.2 with
   | false=>rw [f] at h1;simp [h1]
   | true=>rw [f] at h1;have:c.1∈kF F:=bN λw=>q ⟨f,w⟩;rw [decide_eq_true this] at h2;simp [h1,h2]
theorem Gk (C:List Ci) (hl:C.length<=400):ut [.lst (cD C)]=.ok (.dct (fD (FO [] C)),[.non]):=by obtain ⟨b,y,e⟩:=Xz (iu (.lst (cD C))) C [] iw iw (by simp; lia);refine runD_ap.trans ?_;unfold xS;rw [show qv xR [.lst (cD C)]=[iu (.lst (cD C)),iw,iw,iw] from rfl];refine (qE (ρ1:=[iu (.lst (cD C)),iu (.dct []),iw,iw]) (by simp)).trans ?_;refine (qE (ρ1:=[iu (.lst (cD C)),iu (.dct (fD (FO [] C))),b,y]) (by rw [kI,show jJ (qe 0) [iu (.lst (cD C)),iu (.dct []),iw,iw]=.ok (cD C,[iu (.lst (cD C)),iu (.dct []),iw,iw]) from rfl,kZ];exact e)).trans ?_;simp
noncomputable def JN (F C:List Ci):List Ci:=(C.filter λc=>odd c.2).map λc=>(c.1,xA F c.1++c.2)
abbrev joT:uX:=xE (qr [.vl] um (qd (qe 1) qx))
abbrev joE:je:=xF (qd (qe 0) (qd (d2 vK (d2 ixD (qe 2) (qe 0)) (qe 1)) qx))
theorem qcH (h:∀ c∈F,c.2.length<=100):∀ (C:List Ci) (x y:Option D),(∀ c∈C,c.2.length<=100)->(∀ c∈C,odd c.2=iC->c.1∈kF F) ->∃ n s,jn (jG 2 (qw (gNm 0) (qw (gNm 1) jF))) joT joE (cD C) [x,y,iu (.dct (fD F))]=.ok (cD (JN F C),[n,s,iu (.dct (fD F))])
 | [],x,y,_,_=>⟨x,y,rfl⟩
 | c::C,x,y,hl,hk=>by
  obtain ⟨n,s,j⟩:=qcH h C (iu (.str c.1)) (iu (lD c.2)) (λd hd=>hl d (aa _ hd)) λd hd=>hk d (aa _ hd);refine ⟨n,s,?_⟩;have h1:=JY c.2;have N:2<=sizeLine:=jA (by lia);have e0:cD (c::C)=.tup [.str c.1,lD c.2]::cD C:=rfl;cases q:odd c.2 with
  | false=>
   rw [q] at h1;have e1:JN F (c::C)=JN F C:=by simp [JN,q]
   rw [e0,e1];simp [jn,xx,jG,qw,jF,h1,j]
  | true=>
   rw [q] at h1;have e1:JN F (c::C)=(c.1,xA F c.1++c.2)::JN F C:=by simp [JN,q]
   have m:=hk c (ae ..) q;have i1:=qlr m;have hg:(xA F c.1).length<=100:=by
    unfold xA;cases w:F.find? λd=>decide (d.1=c.1) with
    | none=>simp
    | some d=>exact h d (bP w)
   have l:=hl c (ae ..);have e:=qcF (a:=xA F c.1) (b:=c.2) (by lia);rw [e0,e1];simp [jn,xx,jG,qw,jF,h1,i1,e,N,j];simp [cD,cd]
theorem xq {nt:Nat} {fi:uV} {g:D->Sl->Out Sl} {ft:uX} {fe:je} {es:List D} (h:fi ρ=.ok (ds,ρ1)) (hl:ds.length<=sizeLine) (d:jn g ft fe ds (vp nt cap ρ1)=.ok (es,ρ2)):qZ own nt cap fi g ft fe ρ=.ok (.lst es,jI own ρ2 nt cap ρ1):=by unfold qZ;rw [h];simp only [kZ];rw [if_pos hl,d];rfl
abbrev baB:qV:=(sIf (xE (qr [.vl,.vl,.vl] ZP (qd (qe 7) (qd (qe 1) (qd (qe 2) qx))))) (jB (xF (qd (qe 6) (qd (qe 7) qx)))) jE)
theorem qcI (e:qhv nd ns) (hr:1<=r) (a b c d:Option D):∀ (L:List Ci) (x y:Option D),(∀ w∈L,∀ k∈w.2,k < ns.length)->∃ ρ,vF (jG 2 (qw (gNm 6) (qw (gNm 7) jF))) baB (cD L) [a,iu (.int r),iu nd,b,c,d,x,y]=.ok (match L.find? λw=>qav w.2 r ns with | some w=>.rt (cd w) | none=>.nx,ρ)
 | [],x,y,_=>⟨_,rfl⟩
 | w::L,x,y,h=>by
  have h1:=qhw e (h w (ae ..)) hr;have N:2<=sizeLine:=jA (by lia);cases q:qav w.2 r ns with
  | true=>rw [q] at h1;refine ⟨[a,iu (.int r),iu nd,b,c,d,iu (.str w.1),iu (lD w.2)],?_⟩;rw [bL (by simpa using q)];exact qjD (d:=cd w) (ρ1:=[a,iu (.int r),iu nd,b,c,d,iu (.str w.1),iu (lD w.2)]) rfl (by simp [h1,N,cd])
  | false=>rw [q] at h1;obtain ⟨ρ,j⟩:=qcI e hr a b c d L (iu (.str w.1)) (iu (lD w.2)) λv f=>h v (aa _ f);refine ⟨ρ,?_⟩;rw [bC (by simpa using q)];exact cJ (ua (d:=cd w) (ρ1:=[a,iu (.int r),iu nd,b,c,d,iu (.str w.1),iu (lD w.2)]) rfl (by simp [h1])) j
noncomputable def BO (W:Wy) (seen:List Pr) (r:Int) (ns:List Int):Option Ci:=(CL W 0 seen++JN (FO [] (CL W 0 seen)) (CL W 0 seen)).find? λw=>qav w.2 r ns
theorem qjK (h:(LS seen).length<=20) (s:WI seen W) (g:∀ x∈LS seen,x∈kW W):∀ c∈CL W 0 seen,c.2.length<=100:=by
 intro c d;obtain ⟨q,hq,rfl⟩:=ah.mp d;obtain ⟨p,j⟩:=q;have G:=List.mem_zipIdx hq;have hp:p∈seen:=by rw [G.2.2]; exact bG _
 obtain ⟨h1,h2⟩:=vZ g p hp;have i:=s.len _ (jq h1);have l:=s.len _ (jq h2);have S:=s.le;simp only [] at i l;unfold Xx;simp
 lia
theorem qcJ (W:Wy) (k0:Nat) (seen:List Pr):(CL W k0 seen).length=seen.length:=by simp [CL]
structure Sn (seen:List Pr) (W:Wy):Prop where
 n:seen.length<=6
 s:(LS seen).length<=12
 w:WI seen W
 C:CI seen W
 R:RI W
 a:∀ x∈LS seen,x∈kW W
 e:wX [sD seen]=.ok (.dct (wD W),[.non])
 z:∀ x∈LS seen,x.length<=2000
 m:MI W
theorem UT (S:Sn seen W) (m:qhv nd ns) (A:ns.length=seen.length) (hr:1<=r):yQ [sD seen,.int r,nd]=.ok (match BO W seen r ns with | some w=>cd w | none=>.non,[.non,.non,.non]):=by
 have u:(LS seen).length<=20:=by have:=S.s; lia
 have h1:=Vj S.n u S.w S.a;have o:=qcJ W 0 seen;have I:=S.n;have h2:=Gk (CL W 0 seen) (by lia);have b:=qjK u S.w S.a;have t:=qjG S.w S.a;obtain ⟨f1,_,p,f4⟩:=Ka (CL W 0 seen) [];have D:∀ c∈FO [] (CL W 0 seen),c∈CL W 0 seen:=λc i=>by
  rcases f1 c i with h | h;·cases h
  ·exact h
 unfold BO;generalize hC:CL W 0 seen=C at h1 h2 o b t p D;generalize E:FO [] C=F at h2 p D;obtain ⟨H,G,y⟩:=qcH (F:=F) (λc i=>b c (D c i)) C iw iw b p;refine runD_ap.trans ?_;unfold VW;rw [show qv VV [sD seen,.int r,nd]=[iu (sD seen),iu (.int r),iu (nd),iw,iw,iw,iw,iw] from rfl];have j:=S.e;refine (qE (ρ1:=[iu (sD seen),iu (.int r),iu (nd),iu (.lst (cD C)),iw,iw,iw,iw]) (by simp [j,h1])).trans ?_;refine (qE (ρ1:=[iu (sD seen),iu (.int r),iu (nd),iu (.lst (cD C)),iu (.dct (fD F)),iw,iw,iw]) (by simp [h2])).trans ?_;have x:=xq (own:=[]) (cap:=[4]) (nt:=2) (fi:=jJ (qe 3)) (g:=jG 2 (qw (gNm 0) (qw (gNm 1) jF))) (ft:=joT) (fe:=joE) (ρ:=[iu (sD seen),iu (.int r),iu (nd),iu (.lst (cD C)),iu (.dct (fD F)),iw,iw,iw]) (ρ1:=[iu (sD seen),iu (.int r),iu (nd),iu (.lst (cD C)),iu (.dct (fD F)),iw,iw,iw]) (ds:=cD C) rfl (by simp [cD]; exact jA (by lia)) y;refine (qE (ρ1:=[iu (sD seen),iu (.int r),iu (nd),iu (.lst (cD C)),iu (.dct (fD F)),iu (.lst (cD (JN F C))),iw,iw]) (by rw [gk,x]; rfl)).trans ?_;have B:(JN F C).length<=6:=by
  unfold JN;rw [ax];have:=cm (λc:Ci=>odd c.2) C
  lia
 have z:(cD C).length+(cD (JN F C)).length<=sizeLine:=by simp [cD]; exact jA (by lia)
 have l:∀ w∈C++JN F C,∀ k∈w.2,k < ns.length:=λw j k v=>by
  rw [A];rcases ao.mp j with h | h;·exact t w h k v
  ·obtain ⟨c,i,rfl⟩:=ah.mp h;have i:=(aG.mp i).1;rcases ao.mp v with h | h
   ·unfold xA at h;cases w:F.find? λd=>decide (d.1=c.1) with
    | none=>rw [w] at h; cases h
    | some d=>rw [w] at h;exact t d (D d (bP w)) k h
   ·exact t c i k h
 obtain ⟨ρ,e⟩:=qcI m hr (iu (sD seen)) (iu (.lst (cD C))) (iu (.dct (fD F))) (iu (.lst (cD (JN F C)))) (C++JN F C) iw iw l;have f:KC (jJ (d2 vK (qe 3) (qe 5))) (jG 2 (qw (gNm 6) (qw (gNm 7) jF))) baB [iu (sD seen),iu (.int r),iu (nd),iu (.lst (cD C)),iu (.dct (fD F)),iu (.lst (cD (JN F C))),iw,iw]=vF (jG 2 (qw (gNm 6) (qw (gNm 7) jF))) baB (cD (C++JN F C)) [iu (sD seen),iu (.int r),iu (nd),iu (.lst (cD C)),iu (.dct (fD F)),iu (.lst (cD (JN F C))),iw,iw]:=by rw [kI,show jJ (d2 vK (qe 3) (qe 5)) [iu (sD seen),iu (.int r),iu (nd),iu (.lst (cD C)),iu (.dct (fD F)),iu (.lst (cD (JN F C))),iw,iw]=.ok (cD (C++JN F C),[iu (sD seen),iu (.int r),iu (nd),iu (.lst (cD C)),iu (.dct (fD F)),iu (.lst (cD (JN F C))),iw,iw]) by simp [z,jw];simp [cD]];rfl
 cases q:(C++JN F C).find? λw=>qav w.2 r ns with
 | some w=>rw [q] at e;rw [YM,f.trans e];rfl
 | none=>rw [q] at e;refine (qE (f.trans e)).trans ?_;rfl
theorem zW (w:jt ws) (hl:Vl p q):wL [Wd ws,Ld p q]=.ok (sD (qp ws p q),[.non,.non]):=Ge w hl
def qG (n:Nat) (r:Int) (ns:List Int):Prop:=ns.length=n/\∀ i∈ns,0<=i/\i < r
theorem Wu (h:qG n r ns) (b:n<=50):yn [nD ns,.int (n:Nat),.int r]=.ok (.bl iC,[.non,.non,.non]):=by
 have ht:=qcv (d:=nD ns) trivial;have e:=uT (cap:=[2]) (fi:=jJ (qe 0)) (ρ:=[iu (nD ns),iu (.int (n:Nat)),iu (.int r)]) (ρ1:=[iu (nD ns),iu (.int (n:Nat)),iu (.int r)]) (ds:=ns.map D.int) (fe:=qr [.vl,.vl,.vl] jo (qd (qe 0) (qd (dC (.int 0)) (qd (d2 Za (qe 1) (dC (.int 1))) qx)))) (λd=>.bl (Kh 0 (r - 1) d)) (by simp [jw]) (by rw [ax,h.1]; exact jA (by lia)) (λd hd=>by obtain ⟨i,hi,rfl⟩:=ah.mp hd;have h1:=jN (d:=.int i) trivial 0 (r - 1);simp [wR,h1]);have g:=zU (Kh 0 (r - 1)) (ns.map D.int);have c:(ns.map D.int).all (Kh 0 (r - 1))=true:=by
  rw [aR];intro d hd;obtain ⟨i,hi,rfl⟩:=ah.mp hd;have:=h.2 i hi;simp [Kh]
  lia
 rw [c] at g;have a:(ns.map D.int).length=n:=by rw [ax,h.1]
 refine runD_ap.trans ?_;simp [-bf,ym,qv,ht,Kt,neD,eqN,eqS,h.1,e,g]
theorem Ql (h:qG n r ns) (a:n<=50):vP [nD ns,.int (n:Nat),.int r]=.ok (.non,[.non,.non,.non]):=by have h1:=Wu h a;refine runD_ap.trans ?_;simp [vN,qv,h1]
theorem Wv (w:jt ws) (hl:Vl p q) (a:1<=r) (h1:r<=99) (n:qG ws.length r ns):jX [Wd ws,Ld p q,.int r,nD ns]=.ok (sD (qp ws p q),[.non,.non,.non,.non]):=by have e1:=zW w hl;have i:=zV (d:=.int r) trivial;rw [if_pos (by simp [Kh]; exact ⟨a,h1⟩)] at i;have E:=Ql n (by have:=w.2.1; lia);refine runD_ap.trans ?_;simp [yt,qv,e1,i,E]
theorem qls (w:jt ws) (p q:Int):∃ W,Sn (qp ws p q) W:=by
 have h1:(qp ws p q).length<=6:=by simp [qp]; exact w.2.1
 have h2:=qcB w p q;obtain ⟨W,a,b,c,m,d,e⟩:=Vi h1 h2;exact ⟨W,h1,h2,a,b,c,d,e,λx hx=>by
  obtain ⟨k,_,rfl⟩:=qjB w p q x hx;show 1<=2000
  lia,m⟩
theorem qcK (h:jt ws) (hl:Vl p q) (a:1<=r) (h1:r<=99) (n:qG ws.length r ns) (S:Sn (qp ws p q) W):qar [Wd ws,Ld p q,.int r,nD ns]=.ok (match BO W (qp ws p q) r ns with | some w=>cd w | none=>.non,[.non,.non,.non,.non]):=by have e1:=Wv h hl a h1 n;have i:=UT S (qcC ns) (by rw [n.1]; simp [qp]) a;refine runD_ap.trans ?_;simp [qhj,qv,e1,i]
noncomputable def zX (t r:Int):Int:=if t % r % 2=0 then t % r / 2 else (t % r+r) / 2
theorem qhD (t:Int) (hr:1<=r):qca [.int t,.int r]=.ok (.int (zX t r),[.non,.non]):=by
 have a:0 < r:=by lia
 have d:∀ i,qgg i 2:=λi=>⟨by lia,by lia⟩
 unfold zX;refine runD_ap.trans ?_;by_cases q:t % r % 2=0 <;> simp [qb9,qv,yb,wR,a,eqD,eqN,eqS,gc,d,q]
noncomputable def rW (l:Wk) (r:Int) (ns:List Int):List Int:=if l=[] then (aH r.toNat).map λ(j:Nat)=>(j:Int) else if r % 2=0 then [zX (qN ns 0 l) r,zX (qN ns 0 l) r+r / 2] else [zX (qN ns 0 l) r]
abbrev iD (xs:List Int):D:=.lst (xs.map D.int)
theorem Kw {l:Wk} (h:∀ k∈l,k < ns.length) (hr:1<=r) (f:r<=99):vA [lD l,.int r,nD ns]=.ok (iD (rW l r ns),[.non,.non,.non]):=by
 have N:2<=sizeLine:=jA (by lia);have g:1<=sizeLine:=jA (by lia);have d:∀ i,qgg i 2:=λi=>⟨by lia,by lia⟩
 refine runD_ap.trans ?_;unfold rW;cases l with
 | nil=>
  have c:qek 0 r/\r - 0<=1000000:=⟨⟨⟨by lia,by lia⟩,by lia,by lia⟩,by lia⟩
  have e:zy (.int r)=.ok (.lst ((aH r.toNat).map λ(j:Nat)=>.int (j:Int))):=by unfold zy;dsimp only;rw [if_pos c,Int.sub_zero];simp [gL]
  rw [if_pos rfl,show iD ((aH r.toNat).map λ(j:Nat)=>(j:Int))=.lst ((aH r.toNat).map λ(j:Nat)=>.int (j:Int)) by simp [iD]];simp [kr,qv,inL,eqD,eqN,eqS,e]
 | cons a l=>
  have h1:=xZ (qcC ns) h 0;have h2:=qhD (qN ns 0 (a::l)) hr;have n:¬inL (a::l)=[]:=by simp [inL]
  rw [if_neg (by simp)];generalize hx:qN ns 0 (a::l)=t at h1 h2;generalize D:zX t r=w at h2;generalize z:lD (a::l)=ld at h1;have b:kC ld=.ok (.int ((inL (a::l)).length:Int)):=by rw [<-z]; rfl
  by_cases q:r % 2=0;·rw [if_pos q];simp [kr,qv,b,eqD,eqN,eqS,n,h1,h2,yb,wR,q,gc,d,N]
  ·rw [if_neg q];simp [kr,qv,b,eqD,eqN,eqS,n,h1,h2,yb,wR,q,g]
noncomputable def RT (W:Wy):List Str:=(jP (kW W)).filter λx=>decide ((qJ W x).1=x)
abbrev Rt:=Str×List Int
noncomputable def rd (x:Rt):D:=.tup [.str x.1,iD x.2]
noncomputable def RO (W:Wy) (seen:List Pr) (r:Int) (ns:List Int):List Rt:=(RT W).map λx=>(x,rW (xA (FO [] (CL W 0 seen)) x) r ns)
theorem XA:∀ W:Wy,YN (wD W)=iu (kW W)
 | []=>rfl
 | e::W=>by have j:=XA W;show (YN (wD W)).map (e.1::·)=_;rw [j];rfl
theorem uM (S:Sn seen W) (A:ns.length=seen.length) (hr:1<=r) (L:r<=99):jY [sD seen,.int r,nD ns]=.ok (.lst ((RO W seen r ns).map rd),[.non,.non,.non]):=by
 have G:(LS seen).length<=20:=by have:=S.s; lia
 have h1:=Vj S.n G S.w S.a;have i:=qcJ W 0 seen;have P:=S.n;have h2:=Gk (CL W 0 seen) (by lia);have t:=qjG S.w S.a;obtain ⟨f1,_,q,f4⟩:=Ka (CL W 0 seen) [];have j:∀ c∈FO [] (CL W 0 seen),c∈CL W 0 seen:=λc I=>by
  rcases f1 c I with h | h;·cases h
  ·exact h
 unfold RO;generalize hC:CL W 0 seen=C at h1 h2 i t q j;generalize K:FO [] C=F at h2 q j;have H:=S.w.le;have p:=S.s;have b:(kW W).length < 64:=by simp [kW]; lia
 have g:((kW W).all λy=>decide (y.length<=sizeLine))=true:=by rw [aR];intro y v;exact decide_eq_true (jA (S.z y (S.w.sub y v)))
 have o:ki (.dct (wD W))=.ok (.lst ((jP (kW W)).map D.str)):=by unfold ki;simp only [XA];rw [if_pos ⟨b,g⟩]
 have m:∀ x∈jP (kW W),x∈kW W:=λx hx=>(qI _).mem_iff.mp hx;have E:(jP (kW W)).length<=12:=by rw [(qI _).length_eq]; simp [kW]; lia
 refine runD_ap.trans ?_;unfold gx;rw [show qv gu [sD seen,.int r,nD ns]=[iu (sD seen),iu (.int r),iu (nD ns),iw,iw,iw] from rfl];have B:=S.e;refine (qE (ρ1:=[iu (sD seen),iu (.int r),iu (nD ns),iu (.dct (wD W)),iw,iw]) (by simp [B])).trans ?_;refine (qE (ρ1:=[iu (sD seen),iu (.int r),iu (nD ns),iu (.dct (wD W)),iu (.dct (fD F)),iw]) (by simp [h1,h2])).trans ?_;have u:=qcu (own:=[]) (cap:=[3]) (fi:=jJ (d1 ki (qe 3))) (ft:=qU (d2 eqD (d2 ixD (d2 ixD (qe 1) (qe 0)) (dC (.int 0))) (qe 0))) (fe:=qe 0) (ρ:=[iu (sD seen),iu (.int r),iu (nD ns),iu (.dct (wD W)),iu (.dct (fD F)),iw]) (ρ1:=[iu (sD seen),iu (.int r),iu (nD ns),iu (.dct (wD W)),iu (.dct (fD F)),iw]) (ds:=(jP (kW W)).map D.str) (λd=>match d with | .str x=>decide ((qJ W x).1=x) | _=>iE) (λd=>d) (by simp) (by simp [o,jw]) (by rw [ax]; exact jA (by lia)) (λd hd=>by obtain ⟨x,hx,rfl⟩:=ah.mp hd;have i1:=Wt S.w.nd (m x hx);simp [i1,qlp,eqD,eqN,eqS];rfl) (λd hd _=>by simp);have e1:(((jP (kW W)).map D.str).filter λd=>match d with | .str x=>decide ((qJ W x).1=x) | _=>iE).map (λd=>d)=(RT W).map D.str:=by rw [ib,List.filter_map];rfl
 rw [e1] at u;refine (qE (ρ1:=[iu (sD seen),iu (.int r),iu (nD ns),iu (.dct (wD W)),iu (.dct (fD F)),iu (.lst ((RT W).map D.str))]) (by rw [gk,u]; rfl)).trans ?_;have J:(RT W).length<=12:=by
  have:=cm (λx=>decide ((qJ W x).1=x)) (jP (kW W));unfold RT
  lia
 have N:2<=sizeLine:=jA (by lia);have c2:=uT (cap:=[1,2,4]) (fi:=jJ (qe 5)) (fe:=xF (qd (qe 0) (qd (qr [.vl,.vl,.vl] vA (qd (qem (qe 3) (qe 0) (gK qx)) (qd (qe 1) (qd (qe 2) qx)))) qx))) (ρ:=[iu (sD seen),iu (.int r),iu (nD ns),iu (.dct (wD W)),iu (.dct (fD F)),iu (.lst ((RT W).map D.str))]) (ρ1:=[iu (sD seen),iu (.int r),iu (nD ns),iu (.dct (wD W)),iu (.dct (fD F)),iu (.lst ((RT W).map D.str))]) (ds:=(RT W).map D.str) (λd=>match d with | .str x=>rd (x,rW (xA F x) r ns) | d=>d) (by simp [jw]) (by rw [ax]; exact jA (by lia)) (λd hd=>by
  obtain ⟨x,hx,rfl⟩:=ah.mp hd;have g1:=qjI F x;have l:∀ k∈xA F x,k < ns.length:=λk f=>by
   unfold xA at f;cases w:F.find? λd=>decide (d.1=x) with
   | none=>rw [w] at f; cases f
   | some d=>rw [w] at f;rw [A];exact t d (j d (bP w)) k f
  have M:=Kw l hr L;simp [qem,KL,g1,M,N,rd])
 have O:((RT W).map D.str).map (λd=>match d with | .str x=>rd (x,rW (xA F x) r ns) | d=>d)=((RT W).map λx=>(x,rW (xA F x) r ns)).map rd:=by rw [bf,bf];rfl
 rw [O] at c2;rw [Jq,c2];rfl
noncomputable def HM (W:Wy) (seen:List Pr) (r:Int) (ns:List Int):Int:=match BO W seen r ns with
 | some _=>0
 | none=>(RO W seen r ns).foldl (λa x=>a * (x.2.length:Int)) 1
theorem qcL (l:Wk) (hr:1<=r) (f:r<=99) (ns:List Int):(rW l r ns).length<=99:=by
 unfold rW;split;·simp; omega
 ·split <;> simp
theorem qcM (a b c d:Option D):∀ (L:List Rt) (t:Int) (x y:Option D),(∀ w∈L,w.2.length<=99)->∃ n s,vF (jG 2 (qw (gNm 5) (qw (gNm 6) jF))) (jl 4 (d2 Yw (qe 4) (d1 kC (qe 6)))) (L.map rd) [a,b,c,d,iu (.int t),x,y]=.ok (.nx,[a,b,c,d,iu (.int (L.foldl (λa x=>a * (x.2.length:Int)) t)),n,s])
 | [],t,x,y,_=>⟨x,y,rfl⟩
 | w::L,t,x,y,h=>by have g:=h w (ae ..);obtain ⟨n,s,j⟩:=qcM a b c d L (t * (w.2.length:Int)) (iu (.str w.1)) (iu (iD w.2)) λv e=>h v (aa _ e);have f:CMul t (w.2.length:Int):=.inr ⟨by lia,by lia⟩;refine ⟨n,s,cJ (ua (d:=rd w) (ρ1:=[a,b,c,d,iu (.int t),iu (.str w.1),iu (iD w.2)]) rfl ?_) j⟩;simp [Yw,wR,f]
theorem Kb (h:jt ws) (hl:Vl p q) (b:1<=r) (f:r<=99) (n:qG ws.length r ns) (S:Sn (qp ws p q) W):xc [Wd ws,Ld p q,.int r,nD ns]=.ok (.int (HM W (qp ws p q) r ns),[.non,.non,.non,.non]):=by
 have e1:=qcK h hl b f n S;have i:=zW h hl;have E:=uM S (ns:=ns) (by rw [n.1]; simp [qp]) b f;refine runD_ap.trans ?_;unfold HM;cases d:BO W (qp ws p q) r ns with
 | some c=>rw [d] at e1;simp [xb,qv,e1,cd]
 | none=>rw [d] at e1;obtain ⟨e,s,g⟩:=qcM (iu (Wd ws)) (iu (Ld p q)) (iu (.int r)) (iu (nD ns)) (RO W (qp ws p q) r ns) 1 iw iw (λw h=>by obtain ⟨x,_,rfl⟩:=ah.mp h;exact qcL _ b f _);unfold xb;rw [show qv gy [Wd ws,Ld p q,.int r,nD ns]=[iu (Wd ws),iu (Ld p q),iu (.int r),iu (nD ns),iw,iw,iw] from rfl];refine (qE (ρ1:=[iu (Wd ws),iu (Ld p q),iu (.int r),iu (nD ns),iw,iw,iw]) (by simp [e1])).trans ?_;refine (qE (ρ1:=[iu (Wd ws),iu (Ld p q),iu (.int r),iu (nD ns),iu (.int 1),iw,iw]) (by simp)).trans ?_;refine (qE (ρ1:=[iu (Wd ws),iu (Ld p q),iu (.int r),iu (nD ns),iu (.int ((RO W (qp ws p q) r ns).foldl (λa x=>a * (x.2.length:Int)) 1)),e,s]) (by rw [kI,show jJ (qr [.vl,.vl,.vl] jY (qd (qr [.vl,.vl] wL (qd (qe 0) (qd (qe 1) qx))) (qd (qe 2) (qd (qe 3) qx)))) [iu (Wd ws),iu (Ld p q),iu (.int r),iu (nD ns),iu (.int 1),iw,iw]=.ok ((RO W (qp ws p q) r ns).map rd,[iu (Wd ws),iu (Ld p q),iu (.int r),iu (nD ns),iu (.int 1),iw,iw]) by simp [i,E,jw],kZ];exact g)).trans ?_;simp
theorem UU (l:List Pr):(LS l).Nodup:=(qI _).nodup_iff.mpr (yD _ [] cP).1
theorem Gm (h:(qD l).Nodup):Uw (.lst (prL l))=.ok (.dct (bk l)):=by have:=Xv l [] h (by simp);unfold Uw;simp only [JX];rw [this];rfl
noncomputable def jk (l:List (Str×Int)) (s:List Pr) (r:Int):List Int:=s.map λx=>(qY l x.1+qY l x.2) % r
theorem qeV (l:List (Str×Int)) (s:List Pr) (r:Int):qdp l s r=(jk l s r).map D.int:=by unfold qdp jk;rw [bf];rfl
theorem iR0 {f:je} {k:Int} (a:0<=k) (h1:k<=2000) (h:f ρ=.ok (.int k,ρ1)):kf f ρ=.ok (gL 0 k.toNat,ρ1):=by
 have c:-(2 ^ 62:Int)<=k/\k < 2 ^ 62:=by lia
 simp [kf,h,-Int.reducePow,c]
abbrev stB:qV:=xH 9 (qr [.vl,.sl 1,.vl] jQ (qd (qe 0) (kb (qd (qe 5) qx)))) (qr [.vl,.sl 1,.vl] jQ (qd (qe 0) (kb (qd (d1 kC (qe 9)) qx))))
theorem qcN (l:List Int) (A:1<=n) (hr:1<=r) (a b c d e f:Option D):∀ (ks:List D) (t:List D) (ns:List Int) (x:Option D),t.length+2 * ks.length < 900->qG n r ns ->∃ (g:List D) (m:List Int) (q:Option D),g.length=t.length+2 * ks.length/\qG n r m/\vF (gNm 10) stB ks [iu (scr l),iu (.lst t),a,b,c,iu (.int r),d,e,f,iu (iD ns),x]=.ok (.nx,[iu (scr l),iu (.lst g),a,b,c,iu (.int r),d,e,f,iu (iD m),q])
 | [],t,ns,x,_,h=>⟨t,ns,x,by simp,h,rfl⟩
 | k::ks,t,ns,x,ht,h=>by
  rw [aq] at ht;obtain ⟨v,w,u,g1⟩:=wQ l t (many:=r) (by lia) (by lia);obtain ⟨i,z,i1,Y⟩:=wQ l (t++[.int 0]) (many:=(ns.length:Int)) (by rw [h.1]; lia) (by rw [ai]; simp; lia);obtain ⟨j,rfl⟩:=dw z;have G:j < ns.length:=by lia
  have h':qG n r (ns.set j v):=⟨by rw [cF]; exact h.1,λy s=>by
   rcases List.mem_or_eq_of_mem_set s with s | rfl;·exact h.2 y s
   ·exact ⟨w,u⟩⟩
  obtain ⟨g,m,q,E,C,B⟩:=qcN l A hr a b c d e f ks (t++[.int 0]++[.int 0]) (ns.set j v) (iu k) (by rw [ai,ai]; simp; lia) h';refine ⟨g,m,q,by rw [E,ai,ai,aq]; simp; lia,C,cJ (ua (ρ1:=[iu (scr l),iu (.lst t),a,b,c,iu (.int r),d,e,f,iu (iD ns),iu k]) rfl ?_) B⟩;have V:ixN (ns.map D.int).length (j:Int)=iu j:=by unfold ixN;rw [ax,if_pos (by lia),if_pos (by lia),cW]
  have o:(ns.map D.int).set j (.int v)=(ns.set j v).map D.int:=by rw [ic]
  have p:kC (iD ns)=.ok (.int (ns.length:Int)):=by simp
  simp only [stB,xH];simp only [qeh,qee,qef,qg3,qbK,qad,dq,et,kZ];simp [g1,p,Y];simp at V o;simp [V,o]
structure Told (ws:List Str) (p q r:Int) (ns:List Int):Prop where
 w:jt ws
 w5:ws.length<=6
 l:Vl p q
 r0:1<=r
 r9:r<=12
 n:qG ws.length r ns
theorem XB (a:List Int) (t:List D) (ht:t.length < 300):∃ ws p q r ns b,Told ws p q r ns/\b.length<=t.length+200 /\
  Xq [scr a,.lst t,.int 6,.int 12]=.ok (.tup [Wd ws,Ld p q,.int r,nD ns],[.non,.lst b,.non,.non]):=by
 obtain ⟨sp,s0,s1,g1⟩:=wQ a t (many:=4) (by lia) (by lia);obtain ⟨r',r0,r1,Y⟩:=wQ a (t++[.int 0]) (many:=12) (by lia) (by rw [ai]; simp; lia);obtain ⟨p,q,H,hl,d,W⟩:=qht a (t++[.int 0]++[.int 0]) (by rw [ai,ai]; simp; lia);rw [ai,ai] at d;simp at d;obtain ⟨ws,j,w,P,M,Q⟩:=qeS a H (by lia);have O:=qcB w p q;obtain ⟨es,c,U,k5,V,L,T⟩:=Vg a (room:=1+r') (by lia) (LS (qp ws p q)) j iw (by lia);have u:(qD es).Nodup:=by rw [k5]; exact UU _
 have hd:=Gm u;have z:=Kv w hl;have i:=qcA w hl (r:=1+r') (by lia) (l:=es) (by rw [k5]; exact λx hx=>hx);rw [qeV] at i;have E:(qp ws p q).length=ws.length:=by simp [qp]
 have v:qG ws.length (1+r') (jk es (qp ws p q) (1+r')):=⟨by unfold jk; rw [ax,E],λy K=>by obtain ⟨x,_,rfl⟩:=ah.mp K;exact ⟨bJ _ (by lia),bn _ (by lia)⟩⟩
 have h:0<=sp / 2 * (1+sp % 2)/\sp / 2 * (1+sp % 2)<=2:=by
  have:sp=0\/sp=1\/sp=2\/sp=3:=by lia
  rcases this with rfl | rfl | rfl | rfl <;> decide
 generalize N:sp / 2 * (1+sp % 2)=m at h;have e:(gL 0 m.toNat).length=m.toNat:=by simp [gL]
 obtain ⟨G,ns,J,o,A,R⟩:=qcN a (n:=ws.length) (w.1) (r:=1+r') (by lia) (iu (.int 6)) (iu (.int 12)) (iu (.int sp)) (iu (Ld p q)) (iu (Wd ws)) (iu (.dct (bk es))) (gL 0 m.toNat) c _ iw (by rw [e]; lia) v;rw [e] at o;refine ⟨ws,p,q,1+r',ns,G,⟨w,P,hl,by lia,by lia,A⟩,by lia,?_⟩;refine runD_ap.trans ?_;unfold Xp;rw [show qv Xo [scr a,.lst t,.int 6,.int 12]=[iu (scr a),iu (.lst t),iu (.int 6),iu (.int 12),iw,iw,iw,iw,iw,iw,iw] from rfl];refine (qE (ρ1:=[iu (scr a),iu (.lst (t++[.int 0])),iu (.int 6),iu (.int 12),iu (.int sp),iw,iw,iw,iw,iw,iw]) (by simp [g1])).trans ?_;refine (qE (ρ1:=[iu (scr a),iu (.lst (t++[.int 0]++[.int 0])),iu (.int 6),iu (.int 12),iu (.int sp),iu (.int (1+r')),iw,iw,iw,iw,iw]) (by simp [Y])).trans ?_;refine (qE (ρ1:=[iu (scr a),iu (.lst H),iu (.int 6),iu (.int 12),iu (.int sp),iu (.int (1+r')),iu (Ld p q),iw,iw,iw,iw]) (by simp only [aT,fU,ci] at W ⊢;simp [W])).trans ?_;refine (qE (ρ1:=[iu (scr a),iu (.lst j),iu (.int 6),iu (.int 12),iu (.int sp),iu (.int (1+r')),iu (Ld p q),iu (Wd ws),iw,iw,iw]) (by simp [Q])).trans ?_;have S:=xq (own:=[1]) (cap:=[0,1,5]) (nt:=1) (fi:=jJ (qr [.vl,.vl] xp (qd (qe 7) (qd (qe 6) qx)))) (g:=gNm 0) (ft:=ftT) (fe:=xF (qd (qe 0) (qd (qr [.vl,.sl 2,.vl] jQ (qd (qe 1) (kb (qd (qe 3) qx)))) qx))) (ρ:=[iu (scr a),iu (.lst j),iu (.int 6),iu (.int 12),iu (.int sp),iu (.int (1+r')),iu (Ld p q),iu (Wd ws),iw,iw,iw]) (ρ1:=[iu (scr a),iu (.lst j),iu (.int 6),iu (.int 12),iu (.int sp),iu (.int (1+r')),iu (Ld p q),iu (Wd ws),iw,iw,iw]) (ds:=(LS (qp ws p q)).map D.str) (by simp [z,jw]) (by rw [ax]; exact jA (by lia)) T;refine (qE (ρ1:=[iu (scr a),iu (.lst c),iu (.int 6),iu (.int 12),iu (.int sp),iu (.int (1+r')),iu (Ld p q),iu (Wd ws),iu (.dct (bk es)),iw,iw]) (by rw [gk,qad,S,kZ];simp only [];rw [hd];rfl)).trans ?_;refine (qE (ρ1:=[iu (scr a),iu (.lst c),iu (.int 6),iu (.int 12),iu (.int sp),iu (.int (1+r')),iu (Ld p q),iu (Wd ws),iu (.dct (bk es)),iu (iD (jk es (qp ws p q) (1+r'))),iw]) (by simp [i,Ug])).trans ?_;have C:qgg sp 2:=⟨by lia,by lia⟩
 have B:CMul (sp / 2) (1+sp % 2):=.inr ⟨by lia,by lia⟩;have s:=iR0 (f:=d2 Yw (d2 gc (qe 4) (dC (.int 2))) (d2 vK (dC (.int 1)) (d2 yb (qe 4) (dC (.int 2))))) (ρ:=[iu (scr a),iu (.lst c),iu (.int 6),iu (.int 12),iu (.int sp),iu (.int (1+r')),iu (Ld p q),iu (Wd ws),iu (.dct (bk es)),iu (iD (jk es (qp ws p q) (1+r'))),iw]) (ρ1:=[iu (scr a),iu (.lst c),iu (.int 6),iu (.int 12),iu (.int sp),iu (.int (1+r')),iu (Ld p q),iu (Wd ws),iu (.dct (bk es)),iu (iD (jk es (qp ws p q) (1+r'))),iw]) (k:=m) h.1 (by lia) (by simp [gc,yb,Yw,wR,C,B,N]);refine (qE (ρ1:=[iu (scr a),iu (.lst G),iu (.int 6),iu (.int 12),iu (.int sp),iu (.int (1+r')),iu (Ld p q),iu (Wd ws),iu (.dct (bk es)),iu (iD ns),J]) (by rw [kI,s,kZ]; exact R)).trans ?_;have I:4<=sizeLine:=jA (by lia);simp [wU,I]
noncomputable def sg (l:Wk):Int:=if odd l=iC then -1 else 1
theorem qeW (k:Nat) (l:Wk):odd (k::l)=!odd l:=by
 unfold odd;rw [aq];by_cases h:l.length % 2=1;·rw [decide_eq_true h,decide_eq_false (by lia)]; rfl
 ·rw [decide_eq_false h,decide_eq_true (by lia)]; rfl
theorem qhE (k:Nat) (l:Wk):sg (k::l)=- sg l:=by unfold sg;rw [qeW];cases odd l <;> rfl
theorem yE (ns:List Int) (t:Int) (a b:Wk):qN ns t (a++b)=qN ns (qN ns t a) b:=eZ ..
theorem gG (ns:List Int) (t:Int) (k:Nat) (l:Wk):qN ns t (k::l)=qN ns (nI ns k - t) l:=rfl
theorem uN (ns:List Int):∀ (l:Wk) (t:Int),qN ns t l=qN ns 0 l+sg l * t
 | [],t=>by simp [qN,sg,odd]
 | k::l,t=>by
  have h1:=uN ns l (nI ns k - t);have h2:=uN ns l (nI ns k - 0);rw [gG,gG,h1,h2,qhE,ij,ij,Int.neg_mul];simp
  lia
theorem UV (ns:List Int):∀ (l:Wk) (s:Int),qN ns (qN ns s l) l.reverse=s
 | [],s=>rfl
 | k::l,s=>by
  have h:=UV ns l (nI ns k - s);rw [gG,cC,yE,h];show nI ns k - (nI ns k - s)=s
  lia
theorem qeX (l:Wk):sg l=1\/sg l=-1:=by
 unfold sg;split;·exact .inr rfl
 ·exact .inl rfl
theorem qjL {a:Int} (l:Wk):r ∣ sg l * a↔r ∣ a:=by
 rcases qeX l with h | h;·rw [h,fL]
 ·rw [h,Int.neg_one_mul,Int.dvd_neg]
theorem mod_iff {a b:Int}:a % r=b % r↔r ∣ a - b:=by rw [Int.emod_eq_emod_iff_emod_sub_eq_zero,Int.dvd_iff_emod_eq_zero]
theorem qeY {a b:Int} (h:r ∣ a - b) (B:0<=a) (m:a < r) (c:0<=b) (A:b < r):a=b:=by have:=mod_iff.mpr h;rwa [aU B m,aU c A] at this
def Sol (seen:List Pr) (r:Int) (ns:List Int) (v:Str->Int):Prop:=∀ (k:Nat) (p:Pr),seen[k]?=iu p->r ∣ v p.1+v p.2 - nI ns k
variable {v:Str->Int}
theorem Path.val (S:Sol seen r ns v) {ρ:Str} {l:Wk} (h:Path seen ρ l x):r ∣ v x - qN ns (v ρ) l:=by
 induction h with
 | nil=>show r ∣ v ρ - v ρ;rw [Int.sub_self];exact ⟨0,by simp⟩
 | snoc hp e hq j=>
  rename_i l x y k p;have a:=S k p e;have m:r ∣ v x+v y - nI ns k:=by
   rcases hq with rfl | rfl;·exact a
   ·rw [Int.add_comm (v x)]; exact a
  rw [yE];show r ∣ v y - (nI ns k - qN ns (v ρ) l);have e1:v y - (nI ns k - qN ns (v ρ) l)=(v x+v y - nI ns k) - (v x - qN ns (v ρ) l):=by lia
  rw [e1];exact dL m j
def okS (r:Int) (ns:List Int) (c:Wk) (s:Int):Prop:=r ∣ qN ns s c - s
theorem Ww {c:Wk} (h:odd c=iE) (s:Int):okS r ns c s↔r ∣ qN ns 0 c:=by unfold okS;rw [uN,show sg c=1 by unfold sg; rw [h]; rfl,fL,Int.add_sub_cancel]
theorem Wx {c:Wk} (h:odd c=iC) (s:Int):okS r ns c s↔r ∣ qN ns 0 c - 2 * s:=by unfold okS;rw [uN,show sg c=-1 by unfold sg; rw [h]; rfl,show qN ns 0 c + -1 * s - s=qN ns 0 c - 2 * s by lia]
theorem qcO (W:Wy) (p:Pr) (k:Nat) (r:Int) (ns:List Int) (s:Int):okS r ns (Xx W p k).2 s↔r ∣ qN ns s (qJ W p.1).2+qN ns s (qJ W p.2).2 - nI ns k:=by
 unfold okS Xx;simp only [];rw [yE,yE];have h1:=UV ns (qJ W p.2).2 s;generalize qN ns s (qJ W p.1).2=A;generalize qN ns s (qJ W p.2).2=B at h1;generalize (qJ W p.2).2.reverse=L at h1;show r ∣ qN ns (nI ns k - A) L - s↔_;have e:qN ns (nI ns k - A) L - s=sg L * (nI ns k - A - B):=by
  have h2:=uN ns L (nI ns k - A);have i:=uN ns L B;rw [h1] at i;rw [h2,ij (sg L) (nI ns k - A) B]
  lia
 rw [e,qjL,show nI ns k - A - B=-(A+B - nI ns k) by lia,Int.dvd_neg]
theorem qjM {k:Nat} {p:Pr} (h:seen[k]?=iu p):Xx W p k∈CL W 0 seen:=ah.mpr ⟨(p,k),List.mem_zipIdx_iff_getElem?.mpr h,rfl⟩
theorem qhF {c:Ci} (h:c∈CL W 0 seen):∃ (k:Nat) (p:Pr),seen[k]?=iu p/\c=Xx W p k:=by obtain ⟨q,hq,rfl⟩:=ah.mp h;obtain ⟨p,k⟩:=q;exact ⟨k,p,List.mem_zipIdx_iff_getElem?.mp hq,rfl⟩
theorem qhG (p:Pr):oth p p.1=p.2:=by unfold oth; rw [if_pos rfl]
theorem UW (S:Sn seen W) {p:Pr} (hp:p∈seen):(qJ W p.1).1=(qJ W p.2).1:=by obtain ⟨h1,h2⟩:=vZ S.a p hp;obtain ⟨e,h,e1,i⟩:=S.C _ (jq h1) p hp (.inl rfl);simp only [] at e1 i;rw [qhG] at e1;have:=QR S.w.nd h (jq h2) e1;rw [this] at i;exact i.symm
theorem qfM (S:Sn seen W) (h:Sol seen r ns v):∀ c∈CL W 0 seen,okS r ns c.2 (v c.1):=by
 intro c f;obtain ⟨k,p,d,rfl⟩:=qhF f;have hp:=aQ d;obtain ⟨h1,h2⟩:=vZ S.a p hp;have j:=(S.w.path _ (jq h1)).val h;have b:=(S.w.path _ (jq h2)).val h;simp only [] at j b;rw [<-UW S hp] at b;show okS r ns (Xx W p k).2 (v (qJ W p.1).1);rw [qcO];have s:=h k p d;generalize qN ns (v (qJ W p.1).1) (qJ W p.1).2=A at j;generalize qN ns (v (qJ W p.1).1) (qJ W p.2).2=B at b;have e:A+B - nI ns k=(v p.1+v p.2 - nI ns k) - (v p.1 - A) - (v p.2 - B):=by lia
 rw [e];exact dL (dL s j) b
noncomputable def vO (W:Wy) (r:Int) (ns:List Int) (σ:Str->Int) (x:Str):Int:=qN ns (σ (qJ W x).1) (qJ W x).2 % r
theorem qfN (S:Sn seen W) {σ:Str->Int} (h:∀ c∈CL W 0 seen,okS r ns c.2 (σ c.1)):Sol seen r ns (vO W r ns σ):=by
 intro k p a;have hp:=aQ a;have h1:=h _ (qjM a);have h1:okS r ns (Xx W p k).2 (σ (qJ W p.1).1):=h1;rw [qcO] at h1;unfold vO;rw [<-UW S hp];generalize qN ns (σ (qJ W p.1).1) (qJ W p.1).2=A at h1;generalize qN ns (σ (qJ W p.1).1) (qJ W p.2).2=B at h1;have d1:r ∣ A - A % r:=cq;have d2:r ∣ B - B % r:=cq;have e:A % r+B % r - nI ns k=(A+B - nI ns k) - (A - A % r) - (B - B % r):=by lia
 rw [e];exact dL (dL h1 d1) d2
theorem qcP:∀ (C F:List Ci),∀ c∈FO F C,c∈F\/(c∈C/\odd c.2=iC)
 | [],F,c,h=>.inl h
 | d::C,F,c,h=>by
  unfold FO at h;by_cases q:odd d.2=iC/\d.1∉kF F
  ·rw [if_pos q] at h;rcases qcP C _ c h with h | h
   ·rcases ao.mp h with h | h;·exact .inl h
    ·rw [ap.mp h];exact .inr ⟨ae ..,q.1⟩
   ·exact .inr ⟨aa _ h.1,h.2⟩
  ·rw [if_neg q] at h;rcases qcP C _ c h with h | h;·exact .inl h
   ·exact .inr ⟨aa _ h.1,h.2⟩
theorem Wz (h:x∈kF F):(x,xA F x)∈F:=by
 unfold xA;cases q:F.find? λc=>decide (c.1=x) with
 | none=>obtain ⟨e,i,rfl⟩:=ah.mp h;have:=cQ.mp q e i;simp at this
 | some c=>
  have h1:=bP q;have h2:c.1=x:=by simpa using fZ q
  rw [<-h2];exact h1
theorem qeZ (h:x∉kF F):xA F x=[]:=by
 unfold xA;cases q:F.find? λc=>decide (c.1=x) with
 | none=>rfl
 | some c=>
  have h1:=bP q;have h2:c.1=x:=by simpa using fZ q
  exact absurd (ah.mpr ⟨c,h1,h2⟩) h
theorem qcQ (a b:Wk):odd (a++b)=(odd a != odd b):=by
 unfold odd;rw [ai];by_cases h1:a.length % 2=1 <;> by_cases h2:b.length % 2=1;·rw [decide_eq_true h1,decide_eq_true h2,decide_eq_false (by lia)]; rfl
 ·rw [decide_eq_true h1,decide_eq_false h2,decide_eq_true (by lia)]; rfl
 ·rw [decide_eq_false h1,decide_eq_true h2,decide_eq_true (by lia)]; rfl
 ·rw [decide_eq_false h1,decide_eq_false h2,decide_eq_false (by lia)]; rfl
theorem QS {c:Wk} (h:odd c=iE):qav c r ns=iE↔r ∣ qN ns 0 c:=by unfold qav;rw [h,if_neg be,Int.dvd_iff_emod_eq_zero];simp
theorem qcR {c:Wk} (h:odd c=iC):qav c r ns=iE↔¬(r % 2=0/\qN ns 0 c % 2=1):=by unfold qav;rw [h,if_pos rfl];simp
theorem qfO (ns:List Int) (f c:Wk) (h:odd c=iC):qN ns 0 (f++c)=qN ns 0 c - qN ns 0 f:=by
 rw [yE,uN,show sg c=-1 by unfold sg; rw [h]; rfl]
 lia
section
abbrev FF (W:Wy) (seen:List Pr):List Ci:=FO [] (CL W 0 seen)
theorem qcS {c:Ci} (h:c∈FF W seen):c∈CL W 0 seen/\odd c.2=true:=by
 rcases qcP _ _ c h with h | h;·cases h
 ·exact h
theorem bo_none:BO W seen r ns=iw↔∀ c∈CL W 0 seen,(odd c.2=iE->r ∣ qN ns 0 c.2)/\(odd c.2=iC->¬(r % 2=0/\qN ns 0 c.2 % 2=1)/\r ∣ qN ns 0 c.2 - qN ns 0 (xA (FF W seen) c.1)):=by
 unfold BO;rw [cQ];have k:∀ c∈CL W 0 seen,odd c.2=iC->odd (xA (FF W seen) c.1)=true:=λc d l=>(qcS (Wz ((Ka _ _).2.2.1 c d l))).2;constructor
 ·intro h c d;have h1:qav c.2 r ns=false:=by simpa using h c (ao.mpr (.inl d))
  refine ⟨λl=>(QS l).mp h1,λl=>⟨(qcR l).mp h1,?_⟩⟩;have h2:qav (xA (FF W seen) c.1++c.2) r ns=false:=by have:=h (c.1,xA (FF W seen) c.1++c.2) (ao.mpr (.inr (ah.mpr ⟨c,aG.mpr ⟨d,by simpa using l⟩,rfl⟩)));simpa using this
  rw [QS (by rw [qcQ,k c d l,l]; rfl),qfO _ _ _ l] at h2;exact h2
 ·intro h w a;rcases ao.mp a with a | a
  ·cases l:odd w.2 with
   | false=>simpa using (QS l).mpr ((h w a).1 l)
   | true=>simpa using (qcR l).mpr ((h w a).2 l).1
  ·obtain ⟨c,d,rfl⟩:=ah.mp a;obtain ⟨d,l⟩:=aG.mp d;have l:odd c.2=true:=by simpa using l
   have:qav (xA (FF W seen) c.1++c.2) r ns=false:=by rw [QS (by rw [qcQ,k c d l,l]; rfl),qfO _ _ _ l];exact ((h c d).2 l).2
   simpa using this
theorem qhH (S:Sn seen W) (a:Sol seen r ns v):BO W seen r ns=none:=by
 have hok:=qfM S a;rw [bo_none];intro c d;refine ⟨λl=>(Ww l _).mp (hok c d),λl=>?_⟩;have h1:=(Wx l _).mp (hok c d);have h:=Wz ((Ka (CL W 0 seen) []).2.2.1 c d l);obtain ⟨f1,f2⟩:=qcS h;have h2:=(Wx f2 _).mp (hok _ f1);refine ⟨λ⟨e1,i⟩=>?_,?_⟩
 ·obtain ⟨m,h⟩:=h1;obtain ⟨j,G⟩:=ez e1;rw [G,fP] at h
  lia
 ·simp only [] at h2;have e:qN ns 0 c.2 - qN ns 0 (xA (FF W seen) c.1)=(qN ns 0 c.2 - 2 * v c.1) - (qN ns 0 (xA (FF W seen) c.1) - 2 * v c.1):=by lia
  rw [e];exact dL h1 h2
end
theorem qcT {t s:Int} (hr:1<=r) (s0:0<=s) (s1:s < r) (hp:¬(r % 2=0/\t % 2=1)):r ∣ t - 2 * s↔s∈(if r % 2=0 then [zX t r,zX t r+r / 2] else [zX t r]):=by
 have b:0 < r:=by lia
 have k:=bJ t (show r≠0 by lia);have g:=bn t b;have hd:r ∣ t - t % r:=cq;have a:r % 2=0->t % r % 2=0:=λe=>by
  obtain ⟨m,c⟩:=hd;obtain ⟨j,G⟩:=ez e;have:t % 2=0:=by
   have:=Int.emod_two_eq t;rcases this with h | h;·exact h
   ·exact absurd ⟨e,h⟩ hp
  have l:r * m=2 * (j * m):=by rw [G,fP]
  generalize t % r=u at c ⊢
  lia
 have key:r ∣ t - 2 * s↔(t % r - 2 * s=0\/t % r - 2 * s=-r):=by
  constructor
  ·intro h;have h2:r ∣ t % r - 2 * s:=by
    have e:t % r - 2 * s=(t - 2 * s) - (t - t % r):=by lia
    rw [e];exact dL h hd
   generalize t % r=u at *;by_cases q:2 * s<=u;·refine .inl ?_;have:=dA h2;rwa [aU (by lia) (by lia)] at this
   ·by_cases d:2 * s<=u+r
    ·refine .inr ?_;have i:r ∣ u - 2 * s+r:=eG h2 ⟨1,by simp⟩;have:=dA i;rw [aU (by lia) (by lia)] at this
     lia
    ·exfalso;have i:r ∣ u - 2 * s+r+r:=eG (eG h2 ⟨1,by simp⟩) ⟨1,by simp⟩;have:=dA i;rw [aU (by lia) (by lia)] at this
     lia
  ·intro h;have e:t - 2 * s=(t - t % r)+(t % r - 2 * s):=by lia
   rw [e];refine eG hd ?_;rcases h with h | h;·rw [h]; exact ⟨0,by simp⟩
   ·rw [h]; exact ⟨-1,by simp⟩
 rw [key];clear hp hd key;unfold zX;by_cases q:r % 2=0
 ·have f:=a q;clear a;rw [if_pos q,if_pos f];generalize t % r=u at *;simp only [ac,ba,or_false];constructor
  ·rintro (h | h);·exact .inl (by lia)
   ·exact .inr (by lia)
  ·rintro (h | h);·exact .inl (by lia)
   ·exact .inr (by lia)
 ·rw [if_neg q];clear a;generalize t % r=u at *;rw [ap];by_cases d:u % 2=0
  ·rw [if_pos d];constructor;·rintro (h | h) <;> lia
   ·intro h; exact .inl (by lia)
  ·rw [if_neg d];constructor;·rintro (h | h) <;> lia
   ·intro h; exact .inr (by lia)
theorem qhI {t:Int} (hr:1<=r):0<=zX t r/\zX t r < r/\(r % 2=0->t % r % 2=0->zX t r+r / 2 < r):=by have k:=bJ t (show r≠0 by lia);have c:=bn t (show 0 < r by lia);unfold zX;generalize t % r=u at *;split <;> refine ⟨by lia,by lia,λh h2=>by lia⟩
section
abbrev ch (W:Wy) (seen:List Pr) (r:Int) (ns:List Int) (x:Str):List Int:=rW (xA (FF W seen) x) r ns
theorem qe0 (hr:1<=r) (p:BO W seen r ns=iw) (x:Str) (s:Int):s∈ch W seen r ns x↔(0<=s/\s < r)/\∀ c∈CL W 0 seen,c.1=x->okS r ns c.2 s:=by
 have a:=bo_none.mp p;unfold ch rW;by_cases q:x∈kF (FF W seen)
 ·have n:=Wz q;obtain ⟨f1,f2⟩:=qcS n;simp only [] at f2;have k:xA (FF W seen) x≠[]:=λz=>by rw [z] at f2; exact absurd f2 (by decide)
  have f:=(a _ f1).2 f2;simp only [] at f;rw [if_neg k];have hT:∀ s,(∀ c∈CL W 0 seen,c.1=x->okS r ns c.2 s)↔r ∣ qN ns 0 (xA (FF W seen) x) - 2 * s:=λs=>by
   constructor;·intro h;exact (Wx f2 s).mp (h _ f1 rfl)
   ·intro h c g o;cases l:odd c.2 with
    | false=>exact (Ww l s).mpr ((a c g).1 l)
    | true=>
     have h1:=((a c g).2 l).2;rw [o] at h1;rw [Wx l];have e:qN ns 0 c.2 - 2 * s=(qN ns 0 c.2 - qN ns 0 (xA (FF W seen) x))+(qN ns 0 (xA (FF W seen) x) - 2 * s):=by lia
     rw [e];exact eG h1 h
  rw [hT s];generalize qN ns 0 (xA (FF W seen) x)=t at f;have y:=qhI (t:=t) hr;have d:r % 2=0->t % r % 2=0:=λe=>by
   obtain ⟨m,n⟩:r ∣ t - t % r:=cq;obtain ⟨j,G⟩:=ez e;have:t % 2=0:=by
    rcases Int.emod_two_eq t with h | h;·exact h
    ·exact absurd ⟨e,h⟩ f.1
   have v:r * m=2 * (j * m):=by rw [G,fP]
   generalize t % r=u at n ⊢
   lia
  constructor
  ·intro h;have b:0<=s/\s < r:=by
    by_cases i:r % 2=0
    ·rw [if_pos i] at h;simp only [ac,ba,or_false] at h;have:=y.2.2 i (d i);rcases h with rfl | rfl;·exact ⟨y.1,y.2.1⟩
     ·exact ⟨by lia,this⟩
    ·rw [if_neg i] at h;rw [ap.mp h];exact ⟨y.1,y.2.1⟩
   exact ⟨b,(qcT hr b.1 b.2 f.1).mpr h⟩
  ·rintro ⟨b,h⟩;exact (qcT hr b.1 b.2 f.1).mp h
 ·rw [qeZ q,if_pos rfl];constructor
  ·intro h;obtain ⟨j,G,rfl⟩:=ah.mp h;have:=aL.mp G;refine ⟨⟨by lia,by lia⟩,λc g o=>?_⟩;cases l:odd c.2 with
   | false=>exact (Ww l _).mpr ((a c g).1 l)
   | true=>exact absurd (by rw [<-o]; exact (Ka (CL W 0 seen) []).2.2.1 c g l) q
  ·rintro ⟨⟨s0,s1⟩,_⟩;exact ah.mpr ⟨s.toNat,aL.mpr (by lia),by lia⟩
theorem qlt (hr:1<=r) (x:Str):(ch W seen r ns x).Nodup:=by
 unfold ch rW;split;·have:(aH r.toNat).Nodup:=List.nodup_range;exact fM _ (λa b h=>by lia) this
 ·split
  ·refine aN.mpr ⟨λh=>?_,by simp⟩;have:=ap.mp h
   lia
  ·simp
end
abbrev Ln:=List (Str×Int)
noncomputable def evS (r:Int) (x:Str) (rows:List Ln):List Ln:=rows.flatMap λl=>(aH r.toNat).map λ(j:Nat)=>l++[(x,(j:Int))]
noncomputable def EV (r:Int) (rows:List Ln):List Str->List Ln
 | []=>rows
 | x::L=>EV r (evS r x rows) L
variable {rows:List Ln}
theorem XC (hr:1<=r) {l:Ln}:l∈evS r x rows↔∃ a∈rows,∃ i:Int,0<=i/\i < r/\l=a++[(x,i)]:=by
 unfold evS;rw [cu];constructor;·rintro ⟨a,b,h⟩;obtain ⟨j,G,rfl⟩:=ah.mp h;have:=aL.mp G;exact ⟨a,b,j,by lia,by lia,rfl⟩
 ·rintro ⟨a,b,i,z,i1,rfl⟩;exact ⟨a,b,ah.mpr ⟨i.toNat,aL.mpr (by lia),by rw [Int.toNat_of_nonneg z]⟩⟩
theorem qfP (hr:1<=r):∀ (L:List Str) (rows:List Ln) (l:Ln),l∈EV r rows L↔∃ b∈rows,∃ m:Ln,l=b++m/\qD m=L/\∀ e∈m,0<=e.2/\e.2 < r
 | [],rows,l=>by
  constructor;·intro h;exact ⟨l,h,[],by simp,rfl,by simp⟩
  ·rintro ⟨b,d,m,rfl,k,_⟩;have:m=[]:=by cases m with
    | nil=>rfl
    | cons a m=>cases k
   subst this;rw [bh];exact d
 | x::L,rows,l=>by
  show l∈EV r (evS r x rows) L↔_;rw [qfP hr L];constructor
  ·rintro ⟨g,h1,m,rfl,k,f⟩;obtain ⟨b,d,i,z,i1,rfl⟩:=(XC hr).mp h1;refine ⟨b,d,(x,i)::m,by simp,by simp [qD] at k ⊢; exact k,λe c=>?_⟩;rcases ac.mp c with rfl | c;·exact ⟨z,i1⟩
   ·exact f e c
  ·rintro ⟨b,d,m,rfl,k,f⟩;cases m with
   | nil=>cases k
   | cons a m=>obtain ⟨y,i⟩:=a;have k:y::qD m=x::L:=k;injection k with h1 h2;subst h1;have:=f (y,i) (ae ..);exact ⟨b++[(y,i)],(XC hr).mpr ⟨b,d,i,this.1,this.2,rfl⟩,m,by simp,h2,λe c=>f e (aa _ c)⟩
theorem qjN (h:rows.Nodup):(evS r x rows).Nodup:=by
 unfold evS;unfold List.Nodup;rw [dF];constructor;·intro l hl;have:(aH r.toNat).Nodup:=List.nodup_range;exact fM _ (λa b h=>λz=>by have:=List.append_cancel_left z;simp at this;exact h (by lia)) this
 ·refine cY (λ{a b} c=>?_) h;intro y D z d e;obtain ⟨i,_,rfl⟩:=ah.mp D;obtain ⟨j,_,rfl⟩:=ah.mp d;exact c (List.append_inj_left' e rfl)
theorem qjO:∀ (L:List Str) (rows:List Ln),rows.Nodup->(EV r rows L).Nodup
 | [],rows,h=>h
 | x::L,rows,h=>qjO L _ (qjN h)
abbrev EV0 (r:Int) (L:List Str):List Ln:=EV r [[]] L
theorem zb (hr:1<=r) {L:List Str} {l:Ln}:l∈EV0 r L↔qD l=L/\∀ e∈l,0<=e.2/\e.2 < r:=by
 rw [qfP hr];constructor;·rintro ⟨b,a,m,rfl,h⟩;rw [ap.mp a,ci];exact h
 ·intro h;exact ⟨[],ap.mpr rfl,l,rfl,h⟩
theorem kz (f:Str->Int):∀ {L:List Str} {x:Str},x∈L->qY (L.map λx=>(x,f x)) x=f x
 | [],x,h=>by cases h
 | y::L,x,h=>by
  unfold qY;rw [aD];by_cases q:y=x;·subst q;rw [bL (by simp)];rfl
  ·rw [bC (by simpa using q)];rcases ac.mp h with h | h;·exact absurd h.symm q
   ·exact kz f h
theorem gH:∀ {l:Ln},(qD l).Nodup->l=(qD l).map λx=>(x,qY l x)
 | [],_=>rfl
 | (y,i)::l,h=>by
  have n:=aN.mp (show (y::qD l).Nodup from h);have j:=gH n.2;show (y,i)::l=(y,qY ((y,i)::l) y)::(qD l).map λx=>(x,qY ((y,i)::l) x)
  have e1:qY ((y,i)::l) y=i:=by unfold qY; rw [bL (by simp)]; rfl
  have e:((qD l).map λx=>(x,qY ((y,i)::l) x))=(qD l).map λx=>(x,qY l x):=by refine cf λx hx=>?_;have:y≠x:=λz=>n.1 (z ▸ hx);show (x,qY ((y,i)::l) x)=_;unfold qY;rw [bC (by simpa using this)]
  rw [e1,e,<-j]
theorem uO (f:Str->Int) (L:List Str):qD (L.map λx=>(x,f x))=L:=by unfold qD;rw [bf];exact ib L
theorem zY {α:Type} [DecidableEq α]:∀ {a b:List α},a.Nodup->(∀ x∈a,x∈b)->a.length<=b.length
 | [],b,_,_=>br _
 | x::a,b,hn,h=>by
  have r:=aN.mp hn;have hx:=h x (ae ..);have j:=zY (b:=b.erase x) r.2 λy D=>(List.mem_erase_of_ne (λz=>r.1 (by rw [<-z]; exact D))).mpr (h y (aa _ D));rw [List.length_erase_of_mem hx] at j;have:=bD hx;rw [aq]
  lia
variable {β:Type}
theorem qcU [DecidableEq β] {A:List α} {B:List β} (f:α->β) (hA:A.Nodup) (d:∀ a∈A,f a∈B) (hi:∀ a∈A,∀ b∈A,f a=f b->a=b):A.length<=B.length:=by
 have h:(A.map f).Nodup:=by unfold List.Nodup;rw [dH];refine dZ (λ{a b} g e c=>λz=>c (hi a g b e z)) hA
 have:=zY h (b:=B) λx hx=>by obtain ⟨a,g,rfl⟩:=ah.mp hx;exact d a g
 rwa [ax] at this
noncomputable def PV (c:Str->List Int):List Str->List Ln
 | []=>[[]]
 | x::R=>(c x).flatMap λs=>(PV c R).map λl=>(x,s)::l
theorem Gn {γ:Type} (P:List β) (g:α->β->γ):∀ c:List α,(c.flatMap λs=>P.map (g s)).length=c.length * P.length
 | []=>by simp
 | a::c=>by
  rw [cX,ai,Gn P g c,ax,aq,ig]
  lia
theorem Go (c:Str->List Int):∀ (R:List Str) (t:Int),(R.map λx=>((x,c x):Rt)).foldl (λa x=>a * (x.2.length:Int)) t=t * ((PV c R).length:Int)
 | [],t=>by simp [PV]
 | x::R,t=>by rw [aD,cg,Go c R,show PV c (x::R)=(c x).flatMap λs=>(PV c R).map λl=>(x,s)::l from rfl,Gn,Int.natCast_mul,fP]
theorem wG (c:Str->List Int):∀ {R:List Str} {l:Ln},l∈PV c R↔qD l=R/\∀ e∈l,e.2∈c e.1
 | [],l=>by
  constructor;·intro h;rw [ap.mp h];exact ⟨rfl,by simp⟩
  ·rintro ⟨h,_⟩;cases l with
   | nil=>exact ap.mpr rfl
   | cons a l=>cases h
 | x::R,l=>by
  unfold PV;rw [cu];constructor
  ·rintro ⟨s,d,h⟩;obtain ⟨b,hl,rfl⟩:=ah.mp h;obtain ⟨h1,h2⟩:=(wG c).mp hl;refine ⟨by show x::qD b=_; rw [h1],λe i=>?_⟩;rcases ac.mp i with rfl | i;·exact d
   ·exact h2 e i
  ·rintro ⟨h1,h2⟩;cases l with
   | nil=>cases h1
   | cons a l=>obtain ⟨y,s⟩:=a;have h1:y::qD l=x::R:=h1;injection h1 with h3 h4;subst h3;exact ⟨s,h2 _ (ae ..),ah.mpr ⟨l,(wG c).mpr ⟨h4,λe i=>h2 e (aa _ i)⟩,rfl⟩⟩
theorem qjP (c:Str->List Int) (f:∀ x,(c x).Nodup):∀ R:List Str,(PV c R).Nodup
 | []=>by simp [PV]
 | x::R=>by
  unfold PV;unfold List.Nodup;rw [dF];constructor;·intro s i;exact fM _ (λa b h=>λz=>by injection z with _ z; exact h z) (qjP c f R)
  ·refine cY (λ{a b} d=>?_) (f x);intro y D z g e;obtain ⟨l,_,rfl⟩:=ah.mp D;obtain ⟨m,_,rfl⟩:=ah.mp g;injection e with e _;injection e with _ e;exact d e
section
theorem QT (n:qG seen.length r ns) (l:Ln):jk l seen r=ns↔Sol seen r ns (qY l):=by
 have a:∀ k p,seen[k]?=iu p->∃ i,ns[k]?=iu i/\nI ns k=i/\0<=i/\i < r:=λk p h=>by
  have t:k < ns.length:=by rw [n.1]; exact (aC.mp h).1
  refine ⟨ns[k],aj t,by unfold nI; rw [aj t]; rfl,n.2 _ (bG t)⟩
 constructor
 ·intro h k p hp;obtain ⟨i,e1,e,z,i1⟩:=a k p hp;rw [<-h] at e1;unfold jk at e1;rw [aF,hp] at e1;have e1:(qY l p.1+qY l p.2) % r=i:=by simpa using e1
  rw [e];apply mod_iff.mp;rw [e1,aU z i1]
 ·intro h;apply e7;intro k;unfold jk;rw [aF];cases hp:seen[k]? with
  | none=>
   have:ns[k]?=none:=by rw [bM] at hp ⊢;rw [n.1];exact hp
   rw [this];rfl
  | some p=>obtain ⟨i,e1,e,z,i1⟩:=a k p hp;have:=mod_iff.mpr (h k p hp);rw [e,aU z i1] at this;rw [e1,<-this];rfl
theorem uP (S:Sn seen W) (D:y∈kW W):(qJ W y).1∈kW W/\qJ W (qJ W y).1=((qJ W y).1,[]):=by have h1:=S.R _ (jq D);have h2:(qJ W y).1∈kW W:=ah.mpr ⟨_,h1,rfl⟩;have:=QR S.w.nd (jq h2) h1 rfl;refine ⟨h2,?_⟩;injection this
theorem mem_RT:x∈RT W↔x∈kW W/\(qJ W x).1=x:=by unfold RT;rw [aG,(qI _).mem_iff];simp
theorem UX (S:Sn seen W):(RT W).Nodup:=((qI _).nodup_iff.mpr S.w.nd).filter _
theorem qaw (S:Sn seen W) (hr:1<=r) (hn:qG seen.length r ns):HM W seen r ns=(((EV0 r (LS seen)).filter λl=>decide (jk l seen r=ns)).length:Int)/\(BO W seen r ns=iw↔0 < ((EV0 r (LS seen)).filter λl=>decide (jk l seen r=ns)).length):=by
 have hA:∀ l,l∈(EV0 r (LS seen)).filter (λl=>decide (jk l seen r=ns))↔(qD l=LS seen/\∀ e∈l,0<=e.2/\e.2 < r)/\Sol seen r ns (qY l):=λl=>by rw [aG,zb hr,decide_eq_true_eq,QT hn]
 have C:((EV0 r (LS seen)).filter λl=>decide (jk l seen r=ns)).Nodup:=(qjO _ _ (by simp)).filter _;generalize (EV0 r (LS seen)).filter (λl=>decide (jk l seen r=ns))=A at hA C;have h:∀ l∈A,∀ x∈LS seen,0<=qY l x/\qY l x < r:=λl hl x hx=>by obtain ⟨⟨h1,h2⟩,_⟩:=(hA l).mp hl;exact h2 _ (jW (by rw [h1]; exact hx)).1
 unfold HM;cases T:BO W seen r ns with
 | some c=>
  have:A=[]:=by
   cases A with
   | nil=>rfl
   | cons l A=>have:=qhH S ((hA l).mp (ae ..)).2;rw [T] at this;cases this
  rw [this];simp
 | none=>
  have f:=qe0 hr T;have L:∀ x∈RT W,x∈LS seen:=λx hx=>S.w.sub x (mem_RT.mp hx).1;have Q:∀ c∈CL W 0 seen,c.1∈RT W:=λc i=>by obtain ⟨k,p,G,rfl⟩:=qhF i;have hp:=(vZ S.a p (aQ G)).1;obtain ⟨h1,h2⟩:=uP S hp;exact mem_RT.mpr ⟨h1,by show (qJ W (qJ W p.1).1).1=_; rw [h2]; rfl⟩
  have K:A.length<=(PV (ch W seen r ns) (RT W)).length:=by
   refine qcU (λl=>(RT W).map λx=>(x,qY l x)) C (λl hl=>?_) (λa H b g e=>?_);·refine (wG _).mpr ⟨uO _ _,λe v=>?_⟩;obtain ⟨x,hx,rfl⟩:=ah.mp v;refine (f x _).mpr ⟨h l hl x (L x hx),λc i P=>?_⟩;have:=qfM S ((hA l).mp hl).2 c i;rw [P] at this;exact this
   ·obtain ⟨⟨q,X⟩,a3⟩:=(hA a).mp H;obtain ⟨⟨o,V⟩,b3⟩:=(hA b).mp g;have t:∀ x∈RT W,qY a x=qY b x:=λx hx=>by have h1:=kz (qY a) hx;have h2:=kz (qY b) hx;rw [<-h1,<-h2];exact congrArg (λl=>qY l x) e
    have B:∀ y∈LS seen,qY a y=qY b y:=λy D=>by
     have j:=S.a y D;obtain ⟨r1,r2⟩:=uP S j;have N:(qJ W y).1∈RT W:=mem_RT.mpr ⟨r1,by rw [r2]⟩;have I:=(S.w.path _ (jq j)).val a3;have R:=(S.w.path _ (jq j)).val b3;simp only [] at I R;rw [t _ N] at I;have h1:=h a H y D;have h2:=h b g y D;refine qeY ?_ h1.1 h1.2 h2.1 h2.2;have e1:qY a y - qY b y=(qY a y - qN ns (qY b (qJ W y).1) (qJ W y).2) - (qY b y - qN ns (qY b (qJ W y).1) (qJ W y).2):=by lia
     rw [e1];exact dL I R
    have n:(qD a).Nodup:=by rw [q]; exact UU _
    have d:(qD b).Nodup:=by rw [o]; exact UU _
    rw [gH n,gH d,q,o];exact cf λy D=>by rw [B y D]
  have J:(PV (ch W seen r ns) (RT W)).length<=A.length:=by
   refine qcU (λl=>(LS seen).map λx=>(x,vO W r ns (qY l) x)) (qjP _ (λx=>qlt hr x) _) (λl hl=>?_) (λa H b g e=>?_)
   ·obtain ⟨F,Z⟩:=(wG _).mp hl;have hok:∀ c∈CL W 0 seen,okS r ns c.2 (qY l c.1):=λc i=>by have:=Z _ (jW (by rw [F]; exact Q c i)).1;exact ((f _ _).mp this).2 c i rfl
    have hs:=qfN S hok;refine (hA _).mpr ⟨⟨uO _ _,λe v=>?_⟩,λk p G=>?_⟩;·obtain ⟨x,_,rfl⟩:=ah.mp v;exact ⟨bJ _ (by lia),bn _ (by lia)⟩
    ·have hp:=aQ G;have m1:p.1∈LS seen:=mem_LS.mpr ⟨p,hp,.inl rfl⟩;have Y:p.2∈LS seen:=mem_LS.mpr ⟨p,hp,.inr rfl⟩;rw [kz (vO W r ns (qY l)) m1,kz (vO W r ns (qY l)) Y];exact hs k p G
   ·obtain ⟨q,X⟩:=(wG _).mp H;obtain ⟨o,V⟩:=(wG _).mp g;have M:∀ x∈RT W,qY a x=qY b x:=λx hx=>by
     have m:=L x hx;have h1:=kz (vO W r ns (qY a)) m;have h2:=kz (vO W r ns (qY b)) m;have E:vO W r ns (qY a) x=vO W r ns (qY b) x:=by rw [<-h1,<-h2];exact congrArg (λl=>qY l x) e
     obtain ⟨k1,k2⟩:=mem_RT.mp hx;obtain ⟨_,r2⟩:=uP S k1;rw [k2] at r2;unfold vO at E;rw [r2] at E;have E:qY a x % r=qY b x % r:=E;have U:=((f x _).mp (X _ (jW (by rw [q]; exact hx)).1)).1;have c2:=((f x _).mp (V _ (jW (by rw [o]; exact hx)).1)).1;rwa [aU U.1 U.2,aU c2.1 c2.2] at E
    have n:(qD a).Nodup:=by rw [q]; exact UX S
    have d:(qD b).Nodup:=by rw [o]; exact UX S
    rw [gH n,gH d,q,o];exact cf λy D=>by rw [M y D]
  have u:A.length=(PV (ch W seen r ns) (RT W)).length:=fY K J;have s:0 < (PV (ch W seen r ns) (RT W)).length:=by
   have hl:((RT W).map λx=>(x,((ch W seen r ns x).head?).getD 0))∈PV (ch W seen r ns) (RT W):=(wG _).mpr ⟨uO _ _,λe v=>by
    obtain ⟨x,_,rfl⟩:=ah.mp v;show ((ch W seen r ns x).head?).getD 0∈ch W seen r ns x;have O:ch W seen r ns x≠[]:=by
     unfold ch rW;split
     ·intro z;have:=congrArg g5 z;simp at this
      lia
     ·split <;> simp
    cases i:ch W seen r ns x with
    | nil=>exact absurd i O
    | cons a l=>exact ae ..⟩
   exact bD hl
  refine ⟨?_,λ_=>by rw [u]; exact s,λ_=>rfl⟩;have:=Go (ch W seen r ns) (RT W) 1;rw [fL,<-u] at this;exact this
end
noncomputable def sub (l:List α) (ks:Wk):List α:=ks.filterMap λk=>l[k]?
noncomputable def kept (n:Nat) (g:Wk):Wk:=(aH n).filter λk=>decide (k∉g)
abbrev gD (g:Wk):D:=.tup (inL g)
theorem XD {l:List α} {ks:Wk} {x:α} (h:x∈sub l ks):x∈l:=by obtain ⟨k,_,a⟩:=d6.mp h;exact aQ a
theorem QU {l:List α} {k:Nat} {x:α} (h:l[k]?=iu x) (ks:Wk):sub l (k::ks)=x::sub l ks:=by unfold sub;rw [List.filterMap_cons_some h]
theorem ub (l:List α):∀ ks:Wk,(∀ k∈ks,k < l.length)->(sub l ks).length=ks.length
 | [],_=>rfl
 | k::ks,h=>by have a:=h k (ae ..);rw [QU (aj a),aq,ub l ks (λj G=>h j (aa _ G)),aq]
variable {g:Wk}
theorem qcV:∀ k∈kept n g,k < n:=λk h=>aL.mp (aG.mp h).1
theorem qe1 (n:Nat) (g:Wk):(kept n g).length<=n:=by have:=cm (λk=>decide (k∉g)) (aH n);rw [bQ] at this;exact this
theorem UY (k:Nat):∀ g:Wk,Qo 7 (.int (k:Nat)) (inL g)=iu (decide (k∈g))
 | []=>by simp [Qo,inL]
 | a::g=>by
  have j:=UY k g;simp only [inL,aD,Qo] at j ⊢;rw [j];by_cases h:a=k;·subst h; simp [eqN,eqS]
  ·have h2:¬(a:Int)=(k:Int):=by lia
   have i:¬k=a:=λz=>h z.symm;simp [eqN,eqS,h2,i]
theorem qe2 (k:Nat) (g:Wk):Qu (.int (k:Nat)) (gD g)=.ok (.bl (!decide (k∈g))):=by show (inD (.int (k:Nat)) (gD g)).bind (λb=>Out.ok (D.bl (!b)))=_;unfold inD;simp only [UY];rfl
theorem qlu {k:Nat} {p:Pr} (h:seen[k]?=iu p):ixD (sD seen) (.int (k:Nat))=.ok (pD p):=by unfold ixD;simp only [];unfold jy;rw [wH,aF,h];rfl
noncomputable def slv (r:Int) (seen:List Pr) (ns:List Int):List Ln:=(EV0 r (LS seen)).filter λl=>decide (jk l seen r=ns)
noncomputable def okB (r:Int) (seen:List Pr) (ns:List Int) (g:Wk):Bool:=decide (0 < (slv r (sub seen (kept seen.length g)) (sub ns (kept seen.length g))).length)
theorem qlv (l:List Pr):(LS l).length<=2 * l.length:=by
 have:=Xw (a:=LS l) (b:=l.map (·.1)++l.map (·.2)) (UU l) λx hx=>by
  obtain ⟨p,hp,h⟩:=mem_LS.mp hx;rcases h with rfl | rfl;·exact ao.mpr (.inl (ah.mpr ⟨p,hp,rfl⟩))
  ·exact ao.mpr (.inr (ah.mpr ⟨p,hp,rfl⟩))
 rw [ai,ax,ax] at this
 lia
theorem qjQ (S:Sn seen W) (ks:Wk) (k:ks.length<=6):∃ f,Sn (sub seen ks) f:=by
 have n:(sub seen ks).length<=6:=by unfold sub;exact bv (List.length_filterMap_le ..) k
 have s:(LS (sub seen ks)).length<=12:=by have:=qlv (sub seen ks); lia
 obtain ⟨f,a,b,c,m,d,e⟩:=Vi n s;exact ⟨f,n,s,a,b,c,d,e,λx hx=>by obtain ⟨p,hp,h⟩:=mem_LS.mp hx;exact S.z x (mem_LS.mpr ⟨p,XD hp,h⟩),m⟩
variable {ms:List Int} {N:D}
theorem Gp {fe:je} (f:∀ k:Nat,k < ms.length->fe [iu (.int k),iu N]=.ok (.int (nI ms k),[iu (.int k),iu N])):∀ (ks:Wk) (x:Option D),(∀ k∈ks,k < ms.length)->∃ n,jn (gNm 0) ftT fe (inL ks) [x,iu N]=.ok ((sub ms ks).map D.int,[n,iu N])
 | [],x,_=>⟨x,rfl⟩
 | k::ks,x,h=>by
  have a:=h k (ae ..);have i1:=f k a;obtain ⟨n,i⟩:=Gp f ks (iu (.int (k:Nat))) λj G=>h j (aa _ G);refine ⟨n,?_⟩;have e:sub ms (k::ks)=nI ms k::sub ms ks:=by rw [QU (aj a)];unfold nI;rw [aj a];rfl
  rw [e];show jn _ _ _ (.int (k:Nat)::inL ks) _=_;simp [jn,xx,i1,i]
theorem qcW (S:Sn seen W) (hr:1<=r) (w:qG seen.length r ns) (g:Wk) {o:List Nat} (m:o=[]\/o=[2]) {fe:je} (H:∀ k:Nat,k < ns.length->fe [iu (.int k),iu N]=.ok (.int (nI ns k),[iu (.int k),iu N])):∃ e,(qM (jl 4 (qZ o 1 [3] (kf (d1 kC (qe 0))) (gNm 0) (qU (d2 Qu (qe 0) (qe 1))) (qe 0)))
  (jB (d2 qfm (qr [.vl,.vl,.vl] yQ (qd (qZ o 1 [0] (jJ (qe 4)) (gNm 0) ftT (d2 ixD (qe 1) (qe 0))) (qd (qe 1) (qd (qZ o 1 [2] (jJ (qe 4)) (gNm 0) ftT fe) qx)))) (dC .non)))) [iu (sD seen),iu (.int r),iu N,iu (gD g),iw]=.ok (.rt (.bl (okB r seen ns g)),[iu (sD seen),iu (.int r),iu N,iu (gD g),e]):=by
 have L:=S.n;have u:=qe1 seen.length g;have t:=qcV (n:=seen.length) (g:=g);have s:kf (d1 kC (qe 0)) [iu (sD seen),iu (.int r),iu N,iu (gD g),iw]=.ok ((aH seen.length).map λ(j:Nat)=>.int j,[iu (sD seen),iu (.int r),iu N,iu (gD g),iw]):=by rw [iR0 (k:=(seen.length:Int)) (ρ1:=[iu (sD seen),iu (.int r),iu N,iu (gD g),iw]) (by lia) (by lia) (by simp [jy]),cW];simp [gL]
 have v:=qcu (own:=o) (cap:=[3]) (fi:=kf (d1 kC (qe 0))) (ft:=qU (d2 Qu (qe 0) (qe 1))) (fe:=qe 0) (λd=>match d with | .int i=>decide (i.toNat∉g) | _=>iE) (λd=>d) (by rcases m with rfl | rfl <;> decide) s (by simp; exact jA (by lia)) (λd hd=>by obtain ⟨j,G,rfl⟩:=ah.mp hd;have:=qe2 j g;simp [this]) (λd hd _=>by simp);have e1:(((aH seen.length).map λ(j:Nat)=>D.int j).filter λd=>match d with | .int i=>decide (i.toNat∉g) | _=>iE).map (λd=>d)=inL (kept seen.length g):=by rw [ib,List.filter_map];unfold inL kept;congr 1
 rw [e1] at v;generalize p:kept seen.length g=ks at v u t;have c2:=Xr (own:=o) (cap:=[0]) (fi:=jJ (qe 4)) (fe:=d2 ixD (qe 1) (qe 0)) (ρ:=[iu (sD seen),iu (.int r),iu N,iu (gD g),iu (.lst (inL ks))]) (ρ1:=[iu (sD seen),iu (.int r),iu N,iu (gD g),iu (.lst (inL ks))]) (ds:=inL ks) (λd=>match d with | .int i=>pD ((seen[i.toNat]?).getD (⟨#[]⟩,⟨#[]⟩)) | d=>d) (by rcases m with rfl | rfl <;> decide) (by simp [jw]) (by rw [za]; exact jA (by lia)) (λd hd=>by obtain ⟨j,G,rfl⟩:=ah.mp hd;have B:=t j G;have:=qlu (aj B);simp [this,aj B]);have K:(inL ks).map (λd=>match d with | .int i=>pD ((seen[i.toNat]?).getD (⟨#[]⟩,⟨#[]⟩)) | d=>d)=jy (sub seen ks):=by
  unfold inL jy sub;rw [bf,List.map_filterMap];have:∀ l:Wk,(∀ k∈l,k < seen.length)->l.map ((λd=>match d with | .int i=>pD ((seen[i.toNat]?).getD (⟨#[]⟩,⟨#[]⟩)) | d=>d) ∘ λ(k:Nat)=>D.int (k:Nat))=l.filterMap λk=>(seen[k]?).map λx=>.tup [.str x.1,.str x.2]:=λl=>by
   induction l with
   | nil=>intro _; rfl
   | cons k l E=>intro h;have b:=h k (ae ..);rw [aD,E (λj G=>h j (aa _ G)),List.filterMap_cons_some (by rw [aj b]; rfl)];simp [aj b]
  exact this ks t
 rw [K] at c2;have a:∀ k∈ks,k < ns.length:=λk b=>by rw [w.1]; exact t k b
 obtain ⟨A,C⟩:=Gp H ks iw a;have J:=xq (own:=o) (cap:=[2]) (nt:=1) (fi:=jJ (qe 4)) (g:=gNm 0) (ft:=ftT) (fe:=fe) (ρ:=[iu (sD seen),iu (.int r),iu N,iu (gD g),iu (.lst (inL ks))]) (ρ1:=[iu (sD seen),iu (.int r),iu N,iu (gD g),iu (.lst (inL ks))]) (ds:=inL ks) (by simp [jw]) (by rw [za]; exact jA (by lia)) C;rw [show jI o [A,iu N] 1 [2] [iu (sD seen),iu (.int r),iu N,iu (gD g),iu (.lst (inL ks))]=[iu (sD seen),iu (.int r),iu N,iu (gD g),iu (.lst (inL ks))] by rcases m with rfl | rfl <;> rfl] at J;obtain ⟨y,z⟩:=qjQ S ks (by lia);have F:qG (sub seen ks).length r (sub ns ks):=⟨by rw [ub seen ks t,ub ns ks a],λi hi=>w.2 i (XD hi)⟩
 have f:=UT z (Gg (sub ns ks)) F.1 hr;have I:okB r seen ns g=decide (BO y (sub seen ks) r (sub ns ks)=iw):=by unfold okB slv;rw [p];exact (decide_eq_decide.mpr (qaw z hr F).2).symm
 refine ⟨iu (.lst (inL ks)),(qcD (ρ1:=[iu (sD seen),iu (.int r),iu N,iu (gD g),iu (.lst (inL ks))]) (by rw [gk,v]; rfl)).trans ?_⟩;rw [I];cases q:BO y (sub seen ks) r (sub ns ks) with
 | none=>rw [q] at f;simp [c2,J,f]
 | some c=>rw [q] at f;simp [c2,J,f,cd]
theorem qjR (S:Sn seen W) (hr:1<=r) (n:qG seen.length r ns) (g:Wk) (hg:g.length<=2000):jx [sD seen,.int r,nD ns,gD g]=.ok (.bl (okB r seen ns g),[.non,.non,.non,.non]):=by
 obtain ⟨e,h⟩:=qcW S hr n g (.inl rfl) (N:=nD ns) (fe:=d2 ixD (qe 1) (qe 0)) λk a=>by simp [qfH a]
 refine runD_ap.trans ?_;unfold kN;rw [show qv kM [sD seen,.int r,nD ns,gD g]=[iu (sD seen),iu (.int r),iu (nD ns),iu (gD g),iw] from rfl,h];rfl
theorem qhJ (S:Sn seen W) (hr:1<=r) (n:qG seen.length r ns) (g:Wk) (hg:g.length<=2000):qR [sD seen,.int r,iD ns,gD g]=.ok (.bl (okB r seen ns g),[.non,.non,iD ns,.non]):=by
 obtain ⟨e,h⟩:=qcW S hr n g (.inr rfl) (N:=iD ns) (fe:=d2O 1 ixD (qe 0)) λk a=>by simp [d2O,Gg ns k a]
 refine runD_ap.trans ?_;unfold kw;rw [show qv kt [sD seen,.int r,iD ns,gD g]=[iu (sD seen),iu (.int r),iu (iD ns),iu (gD g),iw] from rfl,h];rfl
noncomputable def stt (g:Wk):Nat:=match g.getLast? with
 | some k=>k+1
 | none=>0
noncomputable def OL1 (n:Nat) (g:Wk):List Wk:=(im (stt g) (n - stt g)).map λk=>g++[k]
noncomputable def OL (n:Nat) (cs:List Wk):List Wk:=cs.flatMap (OL1 n)
noncomputable def gR (cs:List Wk):List D:=cs.map gD
theorem iR2 {fa fb:je} {j:Int} (a:-100<=i) (h1:i<=1000) (k0:-100<=j) (k1:j<=1000) (h:fa ρ=.ok (.int i,ρ1)) (h':fb ρ1=.ok (.int j,ρ2)):gl fa fb ρ=.ok (gL i (j - i).toNat,ρ2):=by
 have k:qek i j:=⟨⟨by lia,by lia⟩,by lia,by lia⟩
 simp [gl,h,h',k]
abbrev olB:qV:=(qM (jl 4 (dIf (qU (d2 gtD (d1 kC (qe 3)) (dC (.int 0)))) (d2 vK (d2 ixD (qe 3) (d1 qh4 (dC (.int 1)))) (dC (.int 1))) (dC (.int 0))))
  (vo (Vw 2 qgW (qZ [2] 1 [3] (gl (qe 4) (qe 1)) (gNm 0) ftT (d2 vK (qe 1) (xF (qd (qe 0) qx)))))))
theorem qhK (g:Wk) (k:Nat):ixD (gD (g++[k])) (.int (-1))=.ok (.int (k:Nat)):=by
 unfold ixD;simp only [];unfold atI ixN;rw [za,ai];simp only [aq,bj];rw [if_neg (by lia),if_pos (by lia)];have:(-1+((g.length+(0+1):Nat):Int)).toNat=g.length:=by lia
 rw [this];simp [inL]
theorem qhL (v:n<=6) (g:Wk) (hg:g.length<=50) (p:∀ k∈g,k < n) (acc:List Wk) (x:acc.length<=1000000) (a c:Option D):∃ u,olB [a,iu (.int (n:Nat)),iu (.lst (gR acc)),iu (gD g),c]=.ok (.nx,[a,iu (.int (n:Nat)),iu (.lst (gR (acc++OL1 n g))),iu (gD g),u]):=by
 have z:1<=sizeLine:=jA (by lia);have t:stt g<=n:=by
  unfold stt;cases q:g.getLast? with
  | none=>simp
  | some k=>
   have:=p k (List.mem_of_getLast? q);simp
   lia
 have r:dIf (qU (d2 gtD (d1 kC (qe 3)) (dC (.int 0)))) (d2 vK (d2 ixD (qe 3) (d1 qh4 (dC (.int 1)))) (dC (.int 1))) (dC (.int 0)) [a,iu (.int (n:Nat)),iu (.lst (gR acc)),iu (gD g),c]=.ok (.int (stt g:Nat),[a,iu (.int (n:Nat)),iu (.lst (gR acc)),iu (gD g),c]):=by
  unfold stt;cases q:g.getLast? with
  | none=>have f:g=[]:=List.getLast?_eq_none_iff.mp q;subst f;simp [inL,wR]
  | some k=>
   obtain ⟨g',rfl⟩:=List.getLast?_eq_some_iff.mp q;have hl:=qhK g' k;have h:kC (gD (g'++[k]))=.ok (.int ((g'.length+1:Nat):Int)):=by simp [inL]
   have y:(0:Int) < ((g'.length+1:Nat):Int):=by lia
   generalize gD (g'++[k])=gd at hl h;simp [h,wR,qh4,hl]
 refine ⟨iu (.int (stt g:Nat)),?_⟩;unfold olB;rw [qcD (ρ1:=[a,iu (.int (n:Nat)),iu (.lst (gR acc)),iu (gD g),iu (.int (stt g:Nat))]) (by rw [gk,r]; rfl)];have s:=iR2 (fa:=qe 4) (fb:=qe 1) (ρ:=[a,iu (.int (n:Nat)),iu (.lst (gR acc)),iu (gD g),iu (.int (stt g:Nat))]) (ρ1:=[a,iu (.int (n:Nat)),iu (.lst (gR acc)),iu (gD g),iu (.int (stt g:Nat))]) (ρ2:=[a,iu (.int (n:Nat)),iu (.lst (gR acc)),iu (gD g),iu (.int (stt g:Nat))]) (i:=(stt g:Nat)) (j:=(n:Nat)) (by lia) (by lia) (by lia) (by lia) rfl rfl;have e:gL (stt g:Nat) (((n:Nat):Int) - (stt g:Nat)).toNat=(im (stt g) (n - stt g)).map λ(k:Nat)=>D.int (k:Nat):=by unfold gL;rw [List.range'_eq_map_range,bf,show (((n:Nat):Int) - (stt g:Nat)).toNat=n - stt g by lia];refine cf λk _=>?_;show D.int ((stt g:Nat)+(k:Nat))=D.int ((stt g+k:Nat):Int);rw [Int.natCast_add]
 rw [e] at s;have o:g.length+1<=sizeLine:=jA (by lia);have l:=Xr (own:=[2]) (cap:=[3]) (fi:=gl (qe 4) (qe 1)) (fe:=d2 vK (qe 1) (xF (qd (qe 0) qx))) (λd=>match d with | .int k=>.tup (inL g++[.int k]) | d=>d) (by decide) s (by rw [ax,List.length_range']; exact jA (by lia)) (λd hd=>by
  obtain ⟨j,w,rfl⟩:=ah.mp hd;have b:(inL g).length+1<=sizeLine:=by rw [za]; exact o
  simp [z,b])
 have e1:((im (stt g) (n - stt g)).map λ(k:Nat)=>D.int (k:Nat)).map (λd=>match d with | .int k=>.tup (inL g++[.int k]) | d=>d)=gR (OL1 n g):=by unfold gR OL1;rw [bf,bf];refine cf λk _=>?_;show D.tup (inL g++[.int (k:Nat)])=gD (g++[k]);simp [inL]
 rw [e1] at l;have m:(gR acc).length+(gR (OL1 n g)).length<=sizeLine:=by
  have:(OL1 n g).length<=6:=by simp [OL1]; lia
  unfold gR;rw [ax,ax];exact bv (by lia) (show 1100000<=sizeLine by rw [iL]; decide)
 have hA:gR (acc++OL1 n g)=gR acc++gR (OL1 n g):=by simp [gR]
 rw [hA];generalize gR (OL1 n g)=G at l m;have hi:xP ([a,iu (.int (n:Nat)),iu (.lst (gR acc)),iu (gD g),iu (.int (stt g:Nat))]:Sl)[2]?=true:=rfl;rw [qeg,qg4,if_pos hi,l,kZ];simp only [dq,et];simp [qgW,m]
theorem qcX (h:n<=6) (g:Wk):(OL1 n g).length<=6:=by simp [OL1]; lia
theorem qcY (b:n<=6) (a:Option D):∀ (cs acc:List Wk) (x c:Option D),(∀ g∈cs,g.length<=50/\∀ k∈g,k < n)->acc.length+6 * cs.length<=1000000 ->∃ y u,vF (gNm 3) olB (gR cs) [a,iu (.int (n:Nat)),iu (.lst (gR acc)),x,c]=.ok (.nx,[a,iu (.int (n:Nat)),iu (.lst (gR (acc++OL n cs))),y,u])
 | [],acc,x,c,_,_=>⟨x,c,by simp [gR,OL,vF]⟩
 | g::cs,acc,x,c,h,hl=>by rw [aq] at hl;obtain ⟨h1,h2⟩:=h g (ae ..);obtain ⟨t,e⟩:=qhL b g h1 h2 acc (by lia) a c;have l:=qcX b g;obtain ⟨y,u,j⟩:=qcY b a cs (acc++OL1 n g) (iu (gD g)) t (λm f=>h m (aa _ f)) (by rw [ai]; lia);refine ⟨y,u,cJ (ua (d:=gD g) (ρ1:=[a,iu (.int (n:Nat)),iu (.lst (gR acc)),iu (gD g),c]) rfl e) (cJ j ?_)⟩;rw [show OL n (g::cs)=OL1 n g++OL n cs from cX,aT]
variable {cs:List Wk}
theorem WA (a:n<=6) (h:∀ g∈cs,g.length<=50/\∀ k∈g,k < n) (hl:cs.length<=100000):vc [.lst (gR cs),.int (n:Nat)]=.ok (.lst (gR (OL n cs)),[.non,.non]):=by obtain ⟨y,u,e⟩:=qcY a (iu (.lst (gR cs))) cs [] iw iw h (by simp; lia);refine runD_ap.trans ?_;unfold yC;rw [show qv yB [.lst (gR cs),.int (n:Nat)]=[iu (.lst (gR cs)),iu (.int (n:Nat)),iw,iw,iw] from rfl];refine (qE (ρ1:=[iu (.lst (gR cs)),iu (.int (n:Nat)),iu (.lst []),iw,iw]) (by simp)).trans ?_;refine (qE (ρ1:=[iu (.lst (gR cs)),iu (.int (n:Nat)),iu (.lst (gR (OL n cs))),y,u]) (by rw [kI,show jJ (qe 0) [iu (.lst (gR cs)),iu (.int (n:Nat)),iu (.lst []),iw,iw]=.ok (gR cs,[iu (.lst (gR cs)),iu (.int (n:Nat)),iu (.lst []),iw,iw]) from rfl,kZ];exact e)).trans ?_;simp
noncomputable def FW (n:Nat) (P:Wk->Bool):Nat->List Wk->List Wk
 | 0,cs=>cs.filter P
 | m+1,cs=>if cs.filter P=[] then FW n P m (OL n cs) else cs.filter P
theorem qcZ (h:g∈OL n cs):∃ a∈cs,∃ k,k < n/\g=a++[k]:=by obtain ⟨a,c,h1⟩:=cu.mp h;obtain ⟨k,b,rfl⟩:=ah.mp h1;have:=e8.mp b;exact ⟨a,c,k,by omega,rfl⟩
theorem qhM {i:Nat} (hi:i < n) (h:aH i∈cs):aH (i+1)∈OL n cs:=by
 refine cu.mpr ⟨_,h,ah.mpr ⟨i,?_,by rw [List.range_succ]⟩⟩;have:stt (aH i)=i:=by
  unfold stt;cases i with
  | zero=>rfl
  | succ j=>rw [List.range_succ,List.getLast?_append]; simp
 rw [this];exact e8.mpr ⟨aB _,by lia⟩
theorem qc0 (h:n<=6):∀ cs:List Wk,(OL n cs).length<=6 * cs.length
 | []=>by simp [OL]
 | g::cs=>by
  have j:=qc0 h cs;have:=qcX h g;rw [show OL n (g::cs)=OL1 n g++OL n cs from cX,ai,aq]
  lia
abbrev fwC:uX:=qU (d2 eqD (d1 kC (qe 4)) (dC (.int 0)))
abbrev fwT (G:jz):uX:=xE (qr [.vl,.vl,.vl,.vl] G (qd (qe 1) (qd (qe 2) (qd (qe 3) (qd (qe 0) qx)))))
abbrev fwB (G O:jz):qV:=(qM (jl 4 (qZ [] 1 [0,1,2] (jJ (qe 3)) (gNm 0) (fwT G) (qe 0)))
  (jl 3 (qr [.vl,.vl] O (qd (qe 3) (qd (d1 kC (qe 0)) qx)))))
variable {P:Wk->Bool}
theorem qc1 {G:jz} {c:D} (d:∀ g:Wk,g.length<=50->G [a,b,c,gD g]=.ok (.bl (P g),[.non,.non,.non,.non])):∀ (cs:List Wk) (x:Option D),(∀ g∈cs,g.length<=50) ->∃ n,jn (gNm 0) (fwT G) (qe 0) (gR cs) [x,iu a,iu b,iu c]=.ok (gR (cs.filter P),[n,iu a,iu b,iu c])
 | [],x,_=>⟨x,rfl⟩
 | g::cs,x,h=>by
  have h1:=d g (h g (ae ..));obtain ⟨n,j⟩:=qc1 d cs (iu (gD g)) λm e=>h m (aa _ e);refine ⟨n,?_⟩;have e0:gR (g::cs)=gD g::gR cs:=rfl;rw [e0];cases q:P g with
  | true=>rw [List.filter_cons_of_pos q];rw [q] at h1;simp [jn,xx,h1,j];rfl
  | false=>rw [List.filter_cons_of_neg (by rw [q]; exact be)];rw [q] at h1;simp [jn,xx,h1,j]
theorem qhN:okB r seen ns (aH seen.length)=true:=by
 have h:kept seen.length (aH seen.length)=[]:=by unfold kept;rw [List.filter_eq_nil_iff];intro k h;simp at h ⊢;exact h
 unfold okB;rw [h];show decide (0 < (slv r (sub seen []) (sub ns [])).length)=iC;have:slv r (sub seen []) (sub ns [])=[[]]:=by
  show (EV0 r (LS [])).filter _=_;have hl:LS []=[]:=by decide +kernel
  rw [hl];rfl
 rw [this];rfl
theorem qe3 {G O:jz} (t:seen.length<=6) {c:D} (s:∀ g:Wk,g.length<=50->G [sD seen,b,c,gD g]=.ok (.bl (P g),[.non,.non,.non,.non]))
  (r:∀ cs:List Wk,(∀ g∈cs,g.length<=50/\∀ k∈g,k < seen.length)->cs.length<=100000->O [.lst (gR cs),.int (seen.length:Nat)]=.ok (.lst (gR (OL seen.length cs)),[.non,.non])) (q:P (aH seen.length)=iC):∀ (m i:Nat) (cs:List Wk),m+i=seen.length->aH i∈cs->(∀ g∈cs,g.length<=i/\∀ k∈g,k < seen.length)->cs.length<=6 ^ i ->
  ∃ y f0 fs,FW seen.length P m cs=f0::fs/\∀ f:Nat,m+2<=f->jm fwC (fwB G O) f [iu (sD seen),iu b,iu c,iu (.lst (gR cs)),iu (.lst [])]=.ok (.nx,[iu (sD seen),iu b,iu c,y,iu (.lst (gR (f0::fs)))]):=by
 intro m;have n:kC (sD seen)=.ok (.int (seen.length:Nat)):=by simp [jy]
 have step:∀ (i:Nat) (cs:List Wk),i<=6->(∀ g∈cs,g.length<=i/\∀ k∈g,k < seen.length)->cs.length<=6 ^ i->∀ fu,jm fwC (fwB G O) (fu+1) [iu (sD seen),iu b,iu c,iu (.lst (gR cs)),iu (.lst [])]=jm fwC (fwB G O) fu [iu (sD seen),iu b,iu c,iu (.lst (gR (OL seen.length cs))),iu (.lst (gR (cs.filter P)))]:=λi cs hi d hl fu=>by obtain ⟨C,A⟩:=qc1 s cs iw (λg hg=>by have:=(d g hg).1; lia);have w:6 ^ i<=46656:=bv (Nat.pow_le_pow_right (by lia) hi) (by decide);have h1:=r cs (λg hg=>⟨by have:=(d g hg).1; lia,(d g hg).2⟩) (by lia);have d1:=xq (own:=[]) (cap:=[0,1,2]) (nt:=1) (fi:=jJ (qe 3)) (g:=gNm 0) (ft:=fwT G) (fe:=qe 0) (ρ:=[iu (sD seen),iu b,iu c,iu (.lst (gR cs)),iu (.lst [])]) (ρ1:=[iu (sD seen),iu b,iu c,iu (.lst (gR cs)),iu (.lst [])]) (ds:=gR cs) rfl (by unfold gR; rw [ax]; exact bv (by lia) (show 1100000<=sizeLine by rw [iL]; decide)) A;refine Gi (ρ1:=[iu (sD seen),iu b,iu c,iu (.lst (gR cs)),iu (.lst [])]) (by simp [eqD,eqN,eqS]) ?_;unfold fwB;rw [qcD (ρ1:=[iu (sD seen),iu b,iu c,iu (.lst (gR cs)),iu (.lst (gR (cs.filter P)))]) (by rw [gk,d1]; rfl)];simp [n,h1]
 have stop:∀ (y:Option D) (f0:Wk) (fs:List Wk) (fu:Nat),jm fwC (fwB G O) (fu+1) [iu (sD seen),iu b,iu c,y,iu (.lst (gR (f0::fs)))]=.ok (.nx,[iu (sD seen),iu b,iu c,y,iu (.lst (gR (f0::fs)))]):=λy f0 fs fu=>by
  refine US ?_;have e:¬((fs.length:Int)+1=0):=by lia
  simp [gR,eqD,eqN,eqS,e]
 induction m with
 | zero=>
  intro i cs hi l d hl;have hi:i=seen.length:=by lia
  have e:cs.filter P≠[]:=List.ne_nil_of_mem (aG.mpr ⟨by rw [hi] at l; exact l,q⟩);cases h:cs.filter P with
  | nil=>exact absurd h e
  | cons f0 fs=>
   refine ⟨iu (.lst (gR (OL seen.length cs))),f0,fs,h,λf u=>?_⟩;obtain ⟨fu,rfl⟩:∃ fu,f=fu+1+1:=⟨f - 2,by lia⟩
   rw [step i cs (by lia) d hl,h];exact stop _ _ _ _
 | succ m o=>
  intro i cs hi l d hl;cases h:cs.filter P with
  | nil=>
   obtain ⟨y,f0,fs,e1,z⟩:=o (i+1) (OL seen.length cs) (by lia) (qhM (by lia) l) (λg hg=>by
    obtain ⟨x,v,k,p,rfl⟩:=qcZ hg;obtain ⟨E,B⟩:=d x v;refine ⟨by rw [ai]; simp; lia,λj a=>?_⟩;rcases ao.mp a with a | a;·exact B j a
    ·rw [ap.mp a]; exact p) (by
    have:=qc0 t cs;rw [Nat.pow_succ]
    lia)
   refine ⟨y,f0,fs,?_,λf u=>?_⟩;·unfold FW;rw [if_pos h];exact e1
   ·obtain ⟨fu,rfl⟩:∃ fu,f=fu+1:=⟨f - 1,by lia⟩
    rw [step i cs (by lia) d hl,h];exact z fu (by lia)
  | cons f0 fs=>
   refine ⟨iu (.lst (gR (OL seen.length cs))),f0,fs,?_,λf u=>?_⟩;·unfold FW;rw [if_neg (by rw [h]; simp)];exact h
   ·obtain ⟨fu,rfl⟩:∃ fu,f=fu+1+1:=⟨f - 2,by lia⟩
    rw [step i cs (by lia) d hl,h];exact stop _ _ _ _
theorem qhO (S:Sn seen W) (a:1<=r) (h:qG seen.length r ns):∃ y f0 fs,FW seen.length (okB r seen ns) seen.length [[]]=f0::fs/\∀ f:Nat,seen.length+2<=f->jm fwC (fwB jx vc) f [iu (sD seen),iu (.int r),iu (nD ns),iu (.lst (gR [[]])),iu (.lst [])]=.ok (.nx,[iu (sD seen),iu (.int r),iu (nD ns),y,iu (.lst (gR (f0::fs)))]):=
 qe3 S.n (λg hg=>qjR S a h g (by lia)) (λcs h1 h2=>WA S.n h1 h2) qhN seen.length 0 [[]] rfl (by simp) (by simp) (by simp)
theorem UZ (S:Sn seen W) (b:1<=r) (a:qG seen.length r ns):∃ f0 fs,FW seen.length (okB r seen ns) seen.length [[]]=f0::fs/\QL [sD seen,.int r,nD ns]=.ok (.lst (gR (f0::fs)),[.non,.non,.non]):=by obtain ⟨y,f0,fs,m,k⟩:=qhO S b a;have h:=S.n;have z:=k 20 (by lia);refine ⟨f0,fs,m,?_⟩;have g:1<=sizeLine:=jA (by lia);refine runD_ap.trans ?_;unfold Wc;generalize d:jx=G at z;generalize c:vc=O at z;rw [show qv Wb [sD seen,.int r,nD ns]=[iu (sD seen),iu (.int r),iu (nD ns),iw,iw] from rfl];refine (qE (ρ1:=[iu (sD seen),iu (.int r),iu (nD ns),iu (.lst (gR [[]])),iw]) (by simp [g,gR,inL])).trans ?_;refine (qE (ρ1:=[iu (sD seen),iu (.int r),iu (nD ns),iu (.lst (gR [[]])),iu (.lst [])]) (by simp)).trans ?_;generalize (20:Nat)=fu at z;refine (qE z).trans ?_;simp
variable {sd:D}
theorem qe4 {G T:jz} {c x:D} {ls:List D} (hT:T [a,b,c,d]=.ok (sd,[.non,.non,.non,.non])) (h:G [sd,c,d]=.ok (.lst (x::ls),[.non,.non,.non])):qab [.val,.val,.val,.val] ((qM (jl 4 (qr [.vl,.vl,.vl,.vl] T (qd (qe 0) (qd (qe 1) (qd (qe 2) (qd (qe 3) qx)))))) (jB (d2 ixD (qr [.vl,.vl,.vl] G (qd (qe 4) (qd (qe 2) (qd (qe 3) qx)))) (dC (.int 0))))) [iu a,iu b,iu c,iu d,iw])=.ok (x,[.non,.non,.non,.non]):=by
 have V:ixD (.lst (x::ls)) (.int 0)=.ok x:=by simp [ixD,at0]
 simp [hT,h,V]
theorem XE (w:jt ws) (hl:Vl p q) (a:1<=r) (f:r<=99) (n:qG ws.length r ns) (S:Sn (qp ws p q) W):∃ f0 fs,FW ws.length (okB r (qp ws p q) ns) ws.length [[]]=f0::fs/\xl [Wd ws,Ld p q,.int r,nD ns]=.ok (gD f0,[.non,.non,.non,.non]):=by
 have E:(qp ws p q).length=ws.length:=by simp [qp]
 have e1:=Wv w hl a f n;obtain ⟨f0,fs,m,h⟩:=UZ S a (ns:=ns) (by rw [E]; exact n);rw [E] at m;exact ⟨f0,fs,m,runD_ap.trans (qe4 e1 h)⟩
theorem qc2 (hr:1<=r) (n:qG seen.length r ns) (l:Ln):l∈slv r seen ns↔(qD l=LS seen/\∀ e∈l,0<=e.2/\e.2 < r)/\Sol seen r ns (qY l):=by unfold slv;rw [aG,zb hr,decide_eq_true_eq,QT n]
theorem qc3 (hr:1<=r) (n:qG seen.length r ns):0 < (slv r seen ns).length↔∃ v,Sol seen r ns v:=by
 constructor;·intro h;obtain ⟨l,hl⟩:=cz h;exact ⟨_,((qc2 hr n l).mp hl).2⟩
 ·rintro ⟨v,c⟩;refine bD (a:=(LS seen).map λx=>(x,v x % r)) ((qc2 hr n _).mpr ⟨⟨uO _ _,λe i=>?_⟩,λk p b=>?_⟩);·obtain ⟨x,_,rfl⟩:=ah.mp i;exact ⟨bJ _ (by lia),bn _ (by lia)⟩
  ·have hp:=aQ b;have m1:p.1∈LS seen:=mem_LS.mpr ⟨p,hp,.inl rfl⟩;have B:p.2∈LS seen:=mem_LS.mpr ⟨p,hp,.inr rfl⟩;rw [kz (λx=>v x % r) m1,kz (λx=>v x % r) B];have w:=c k p b;have d1:r ∣ v p.1 % r - v p.1:=Int.dvd_emod_sub_self;have d2:r ∣ v p.2 % r - v p.2:=Int.dvd_emod_sub_self;have e:v p.1 % r+v p.2 % r - nI ns k=(v p.1+v p.2 - nI ns k)+(v p.1 % r - v p.1)+(v p.2 % r - v p.2):=by lia
   rw [e];exact eG (eG w d1) d2
def cnd (seen:List Pr) (r:Int) (ns:List Int) (v:Str->Int) (k:Nat):Prop:=∀ p,seen[k]?=iu p->r ∣ v p.1+v p.2 - nI ns k
theorem XF {seen:List Pr} {r:Int} {ns:List Int} (hl:ns.length=seen.length) {v:Str->Int}:∀ ks:Wk,(∀ k∈ks,k < seen.length)->(Sol (sub seen ks) r (sub ns ks) v↔∀ k∈ks,cnd seen r ns v k)
 | [],_=>⟨λ_ k a=>(nomatch a),λ_ k p a=>(by simp [sub] at a)⟩
 | k::ks,h=>by
  have a:=h k (ae ..);have b:=XF (v:=v) (r:=r) hl ks λj G=>h j (aa _ G);have e1:seen[k]?=iu seen[k]:=aj a;have e:ns[k]?=iu (nI ns k):=by unfold nI; rw [aj (by rw [hl]; exact a)]; rfl
  rw [QU e1,QU e];constructor
  ·intro S j G;rcases ac.mp G with rfl | G
   ·intro p hp;rw [e1] at hp;cases hp;exact S 0 _ rfl
   ·exact (b.mp λi p hp=>S (i+1) p hp) j G
  ·intro d i p hp;cases i with
   | zero=>have hp:iu seen[k]=iu p:=hp;cases hp;exact d k (ae ..) _ e1
   | succ i=>exact (b.mpr λj G=>d j (aa _ G)) i p hp
theorem yF (hr:1<=r) (a:qG seen.length r ns) (g:Wk):okB r seen ns g=iC↔∃ v,∀ k,k < seen.length->k∉g->cnd seen r ns v k:=by
 unfold okB;have t:=qcV (n:=seen.length) (g:=g);have h:∀ k,k∈kept seen.length g↔k < seen.length/\k∉g:=λk=>by unfold kept;rw [aG,aL];simp
 generalize kept seen.length g=ks at t h;have F:qG (sub seen ks).length r (sub ns ks):=⟨by rw [ub seen ks t,ub ns ks (λk b=>by rw [a.1]; exact t k b)],λi hi=>a.2 i (XD hi)⟩
 rw [decide_eq_true_eq,qc3 hr F];constructor;·rintro ⟨v,c⟩;exact ⟨v,λk h1 h2=>(XF a.1 ks t).mp c k ((h k).mpr ⟨h1,h2⟩)⟩
 ·rintro ⟨v,c⟩;exact ⟨v,(XF a.1 ks t).mpr λk b=>c k ((h k).mp b).1 ((h k).mp b).2⟩
def Inc (n:Nat) (g:Wk):Prop:=g.Pairwise (· < ·)/\∀ k∈g,k < n
theorem qfQ {i:Nat} (h:∀ g,Inc n g->g.length=i->g∈cs):∀ g,Inc n g->g.length=i+1->g∈OL n cs:=by
 intro g hg hl;have e:g≠[]:=λz=>by rw [z] at hl; cases hl
 have hd:=List.dropLast_concat_getLast e;generalize c:g.getLast e=k at hd;generalize f:g.dropLast=g0 at hd;subst hd;have hp:=cZ.mp hg.1;have b:Inc n g0:=⟨hp.1,λj G=>hg.2 j (ao.mpr (.inl G))⟩
 have a:k < n:=hg.2 k (ao.mpr (.inr (ap.mpr rfl)));refine cu.mpr ⟨g0,h g0 b (by rw [ai] at hl; simpa using hl),ah.mpr ⟨k,e8.mpr ?_,rfl⟩⟩;have:stt g0<=k:=by
  unfold stt;cases q:g0.getLast? with
  | none=>simp
  | some j=>
   have:=hp.2.2 j (List.mem_of_getLast? q) k (ap.mpr rfl);simp
   lia
 lia
theorem qhP (h:Inc n g):g.length<=n:=by have d:g.Nodup:=h.1.imp λc=>aE c;have:=zY d (b:=aH n) λx hx=>aL.mpr (h.2 x hx);rwa [bQ] at this
theorem qfR:∀ (m i:Nat) (cs:List Wk) (f0:Wk) (fs:List Wk),m+i=n->(∀ g∈cs,g.length=i)->(∀ g,Inc n g->g.length=i->g∈cs)->FW n P m cs=f0::fs ->P f0=iC/\f0.length<=n/\∀ g,Inc n g->P g=iC->i<=g.length->f0.length<=g.length
 | 0,i,cs,f0,fs,hi,hs,hc,D=>by
  have h1:f0∈cs.filter P:=by have D:cs.filter P=f0::fs:=D;rw [D]; exact ae ..
  obtain ⟨a,b⟩:=aG.mp h1;have:=hs f0 a;exact ⟨b,by lia,λg hg hp hl=>by lia⟩
 | m+1,i,cs,f0,fs,hi,hs,hc,D=>by
  unfold FW at D;by_cases q:cs.filter P=[]
  ·rw [if_pos q] at D;obtain ⟨a,b,c⟩:=qfR m (i+1) (OL n cs) f0 fs (by lia) (λg hg=>by obtain ⟨d,h,k,_,rfl⟩:=qcZ hg;rw [ai,hs d h];rfl) (qfQ hc) D;refine ⟨a,b,λg hg hp hl=>c g hg hp ?_⟩;by_cases e:g.length=i;·have:=aG.mpr ⟨hc g hg e,hp⟩;rw [q] at this;cases this
   ·lia
  ·rw [if_neg q] at D;have h1:f0∈cs.filter P:=by rw [D]; exact ae ..
   obtain ⟨a,b⟩:=aG.mp h1;have:=hs f0 a;exact ⟨b,by lia,λg hg hp hl=>by lia⟩
variable {f0:Wk}
theorem qc4 {fs:List Wk} (h:FW n P n [[]]=f0::fs):P f0=iC/\f0.length<=n/\∀ g,Inc n g->P g=iC->f0.length<=g.length:=by obtain ⟨a,b,c⟩:=qfR n 0 [[]] f0 fs (by lia) (λg hg=>by rw [ap.mp hg]; rfl) (λg _ hl=>by rw [bg hl]; exact ap.mpr rfl) h;exact ⟨a,b,λg hg hp=>c g hg hp (br _)⟩
theorem qc5:(1100000:Nat)<=sizeLine:=by rw [iL]; decide
theorem Kc:∀ (a b:List Int),wS (eqN 7) (a.map D.int) (b.map D.int)=iu (decide (a.take (min a.length b.length)=b.take (min a.length b.length)))
 | [],b=>by simp [wS]
 | a::l,[]=>by simp [wS]
 | a::l,b::m=>by have j:=Kc l m;simp only [aD,wS,j,eqN,eqS,aq,Nat.succ_eq_add_one,Nat.add_min_add_right,List.take_succ_cons];by_cases h:a=b <;> simp [h]
theorem Gq (a b:List Int):eqD (nD a) (nD b)=.ok (.bl (decide (a=b))):=by
 by_cases h:a.length=b.length;·have e:=Kc a b;rw [h,Nat.min_self,dN,<-h,dN] at e;simp [eqD,eqN,h,e]
 ·have c:a≠b:=λz=>h (by rw [z]);simp [eqD,eqN,h,c,Kc]
noncomputable def ltW:Wk->Wk->Bool
 | x::xs,y::ys=>if x=y then ltW xs ys else decide (x < y)
 | [],_::_=>iC
 | _,[]=>iE
theorem qjS (h:∀ g∈cs,Inc n g):∀ g∈OL n cs,Inc n g:=λg hg=>by
 obtain ⟨f,l,hg⟩:=cu.mp hg;obtain ⟨k,i,rfl⟩:=ah.mp hg;have i:=e8.mp i;have hi:=h f l;refine ⟨cZ.mpr ⟨hi.1,by simp,λa d b j=>?_⟩,λx hx=>?_⟩
 ·rw [ap.mp j];have e:f≠[]:=λz=>by rw [z] at d; cases d
  have hd:=List.dropLast_concat_getLast e;generalize f.getLast e=c at hd;generalize f.dropLast=g1 at hd;subst hd;have t:stt (g1++[c])=c+1:=by simp [stt]
  rw [t] at i;rcases ao.mp d with d | d
  ·have:=(cZ.mp hi.1).2.2 a d c (ap.mpr rfl)
   lia
  ·rw [ap.mp d]
   lia
 ·rcases ao.mp hx with hx | hx;·exact hi.2 x hx
  ·rw [ap.mp hx]
   lia
noncomputable def LT (g h:Wk):Bool:=if g.length=h.length then (if g=h then iE else ltW g h) else decide (g.length < h.length)
theorem qc6:∀ a b:Wk,a.Pairwise (· < ·)->b.Pairwise (· < ·)->(∀ x∈a,x∈b)->b.length<=a.length->a=b
 | [],b,_,_,_,hl=>(bg (by simpa using hl)).symm
 | x::a,[],_,_,h,_=>by have:=h x (ae ..); cases this
 | x::a,y::b,ha,hb,h,hl=>by
  have G:=aM.mp ha;have g:=aM.mp hb;by_cases q:x=y
  ·subst q;rw [qc6 a b G.2 g.2 (λz c=>by
    rcases ac.mp (h z (aa _ c)) with e | e
    ·have:=G.1 z c
     lia
    ·exact e) (by simpa using hl)]
  ·have hx:x∈b:=by
    rcases ac.mp (h x (ae ..)) with e | e;·exact absurd e q
    ·exact e
   have j:=g.1 x hx;have d:(x::a).Nodup:=ha.imp λf=>aE f;have:=zY d (b:=b) λz c=>by
    rcases ac.mp (h z c) with e | e
    ·rcases ac.mp c with i | i
     ·lia
     ·have:=G.1 z i
      lia
    ·exact e
   rw [aq] at hl this;rw [aq] at hl
   lia
noncomputable def wr (n:Nat) (ms ns:List Int):Wk:=(aH n).filter λk=>decide (nI ms k≠nI ns k)
theorem Gr (n:Nat) (ms ns:List Int):Inc n (wr n ms ns):=⟨(e9 ..).filter _,λk h=>aL.mp (aG.mp h).1⟩
theorem qc7 {l:Ln} {k:Nat} {p:Pr} (h:seen[k]?=iu p):nI (jk l seen r) k=(qY l p.1+qY l p.2) % r:=by unfold nI jk;rw [aF,h];rfl
theorem qjT (a:qG n r ns) {k:Nat} (b:k < n):0<=nI ns k/\nI ns k < r:=by
 have h:k < ns.length:=by rw [a.1]; exact b
 have e:nI ns k=ns[k]:=by unfold nI; rw [aj h]; rfl
 rw [e];exact a.2 _ (bG h)
theorem qhQ (hr:1<=r) (n:qG seen.length r ns) (l:Ln):okB r seen ns (wr seen.length (jk l seen r) ns)=true:=by refine (yF hr n _).mpr ⟨qY l,λk h hg p hp=>?_⟩;have e:nI (jk l seen r) k=nI ns k:=bB λz=>hg (aG.mpr ⟨aL.mpr h,decide_eq_true z⟩);rw [qc7 hp] at e;rw [<-e];exact cq
theorem qlw (hr:1<=r) (n:qG seen.length r ns) (hg:okB r seen ns g=iC):∃ l∈EV0 r (LS seen),∀ k∈wr seen.length (jk l seen r) ns,k∈g:=by
 obtain ⟨v,c⟩:=(yF hr n g).mp hg;refine ⟨(LS seen).map λx=>(x,v x % r),(zb hr).mpr ⟨uO _ _,λe i=>?_⟩,λk a=>?_⟩;·obtain ⟨x,_,rfl⟩:=ah.mp i;exact ⟨bJ _ (by lia),bn _ (by lia)⟩
 ·obtain ⟨h1,h2⟩:=aG.mp a;have h1:=aL.mp h1;refine bB λh=>of_decide_eq_true h2 ?_;have hp:=aj h1;have d:=c k h1 h _ hp;have m1:seen[k].1∈LS seen:=mem_LS.mpr ⟨_,bG h1,.inl rfl⟩;have B:seen[k].2∈LS seen:=mem_LS.mpr ⟨_,bG h1,.inr rfl⟩;rw [qc7 hp,kz (λx=>v x % r) m1,kz (λx=>v x % r) B,<-Int.add_emod];obtain ⟨b,A⟩:=qjT n h1;rw [<-aU b A];exact Int.emod_eq_emod_iff_emod_sub_eq_zero.mpr (dA d)
theorem qe5 (hr:1<=r) (n:qG seen.length r ns) {fs:List Wk} (h:FW seen.length (okB r seen ns) seen.length [[]]=f0::fs):f0=[]↔0 < (slv r seen ns).length:=by
 obtain ⟨a,_,c⟩:=qc4 h;have e:okB r seen ns []=iC↔0 < (slv r seen ns).length:=by
  rw [yF hr n,qc3 hr n];constructor;·rintro ⟨v,b⟩;exact ⟨v,λk p hp=>b k (aC.mp hp).1 (by simp) p hp⟩
  ·rintro ⟨v,b⟩;exact ⟨v,λk _ _ p hp=>b k p hp⟩
 constructor;·intro z;subst z;exact e.mp a
 ·intro z;have:=c [] ⟨.nil,λk d=>by cases d⟩ (e.mpr z);exact bg (by simpa using this)
theorem QV:∀ a b:List Int,ltZ a b=iC->ltZ b a=iE
 | [],[],h=>by simp [ltZ] at h
 | [],_::_,_=>rfl
 | _::_,[],h=>by simp [ltZ] at h
 | x::a,y::b,h=>by
  unfold ltZ at h ⊢;by_cases q:x=y;·rw [if_pos q] at h;rw [if_pos q.symm];exact QV a b h
  ·rw [if_neg q] at h;rw [if_neg λz=>q z.symm];have:=of_decide_eq_true h;exact decide_eq_false (by lia)
theorem Yb:∀ a b:List Int,ltZ a b=iE->a=b\/ltZ b a=iC
 | [],[],_=>.inl rfl
 | [],_::_,h=>by simp [ltZ] at h
 | _::_,[],_=>.inr rfl
 | x::a,y::b,h=>by
  unfold ltZ at h;by_cases q:x=y
  ·rw [if_pos q] at h;rcases Yb a b h with e | e;·exact .inl (by rw [q,e])
   ·refine .inr ?_;unfold ltZ;rw [if_pos q.symm];exact e
  ·rw [if_neg q] at h;refine .inr ?_;unfold ltZ;rw [if_neg λz=>q z.symm];have:=of_decide_eq_false h;exact decide_eq_true (by lia)
theorem zZ:∀ a b c:List Int,ltZ a b=iC->ltZ b c=iC->ltZ a c=iC
 | [],[],_,h,_=>by simp [ltZ] at h
 | _::_,[],_,h,_=>by simp [ltZ] at h
 | _,_::_,[],_,h=>by simp [ltZ] at h
 | [],_::_,_::_,_,_=>rfl
 | x::a,y::b,z::c,h,h'=>by
  unfold ltZ at h h' ⊢;by_cases q:x=y
  ·rw [if_pos q] at h;by_cases d:y=z;·rw [if_pos d] at h';rw [if_pos (q.trans d)];exact zZ a b c h h'
   ·rw [if_neg d] at h';rw [q,if_neg d];exact h'
  ·rw [if_neg q] at h;have h1:=of_decide_eq_true h;by_cases d:y=z;·rw [if_neg (by lia)];exact decide_eq_true (by lia)
   ·rw [if_neg d] at h';have h2:=of_decide_eq_true h';rw [if_neg (by lia)];exact decide_eq_true (by lia)
theorem qfS:∀ (k:Nat) (a b:List Int),k < a.length->k < b.length->(∀ i,i < k->nI a i=nI b i)->nI a k < nI b k->ltZ a b=iC
 | _,[],_,h,_,_,_=>by simp at h
 | _,_,[],_,h,_,_=>by simp at h
 | 0,x::a,y::b,_,_,_,h=>by have h:x < y:=h;unfold ltZ;rw [if_neg (by lia)];exact decide_eq_true h
 | k+1,x::a,y::b,h1,h2,hi,h=>by have e:x=y:=hi 0 (by lia);unfold ltZ;rw [if_pos e];exact qfS k a b (by simpa using h1) (by simpa using h2) (λi s=>hi (i+1) (by lia)) h
theorem XG:∀ (ts:List (List Int)) (t:List Int),YQ t ts∈t::ts/\∀ x∈t::ts,x=YQ t ts\/ltZ (YQ t ts) x=iC
 | [],t=>⟨ap.mpr rfl,λx hx=>.inl (ap.mp hx)⟩
 | u::ts,t=>by
  show YQ (if ltZ u t then u else t) ts∈_/\∀ x∈_,x=YQ (if ltZ u t then u else t) ts\/ltZ (YQ (if ltZ u t then u else t) ts) x=iC;by_cases q:ltZ u t=iC
  ·rw [if_pos q];obtain ⟨a,b⟩:=XG ts u;refine ⟨aa _ a,λx hx=>?_⟩;rcases ac.mp hx with rfl | hx
   ·rcases b u (ae ..) with e | e;·exact .inr (by rw [<-e]; exact q)
    ·exact .inr (zZ _ _ _ e q)
   ·exact b x hx
  ·rw [if_neg q];obtain ⟨a,b⟩:=XG ts t;refine ⟨?_,λx hx=>?_⟩
   ·rcases ac.mp a with e | e;·rw [e]; exact ae ..
    ·exact aa _ (aa _ e)
   ·rcases ac.mp hx with rfl | hx;·exact b _ (ae ..)
    ·rcases ac.mp hx with rfl | hx
     ·rcases Yb x t (by simpa using q) with e | e;·rw [e]; exact b t (ae ..)
      ·rcases b t (ae ..) with i | i;·exact .inr (by rw [<-i]; exact e)
       ·exact .inr (zZ _ _ _ i e)
     ·exact b x (aa _ hx)
noncomputable def lv (r:Int) (seen:List Pr) (fs:List Int) (k:Nat) (g:Wk):Nat:=((aH r.toNat).find? λv=>okB r seen (fs.set k (v:Nat)) g).getD 0
noncomputable def lw (r:Int) (seen:List Pr):List Int->Wk->List Int
 | fs,[]=>fs
 | fs,k::g=>lw r seen (fs.set k (lv r seen fs k g:Nat)) g
theorem Ke {fs:List Int} {k:Nat} (h:k < fs.length) (x:Int) (i:Nat):nI (fs.set k x) i=if i=k then x else nI fs i:=by
 unfold nI;rw [List.getElem?_set];by_cases q:i=k;·rw [if_pos q.symm,if_pos q,if_pos h];rfl
 ·rw [if_neg λz=>q z.symm,if_neg q]
theorem Yc {fs:List Int} (h:qG n r fs) {x:Int} (a:0<=x) (h1:x < r) (k:Nat):qG n r (fs.set k x):=by
 refine ⟨by rw [cF]; exact h.1,λi hi=>?_⟩;rcases List.mem_or_eq_of_mem_set hi with h' | rfl;·exact h.2 i h'
 ·exact ⟨a,h1⟩
section
variable (hr:1<=r)
include hr
theorem qe6 {fs:List Int} (n:qG seen.length r fs) (m:qG seen.length r ms) {g':Wk} (h:okB r seen fs g=iC) (i:∀ k,k < seen.length->k∉g'->k∉g/\nI ms k=nI fs k):okB r seen ms g'=true:=by obtain ⟨v,d⟩:=(yF hr n g).mp h;refine (yF hr m g').mpr ⟨v,λk c hg p hp=>?_⟩;obtain ⟨a,b⟩:=i k c hg;rw [b];exact d k c a p hp
theorem qjU {fs:List Int} (n:qG seen.length r fs) {k:Nat} (j:k < seen.length) (h:okB r seen fs (k::g)=iC):(lv r seen fs k g:Int) < r/\okB r seen (fs.set k (lv r seen fs k g:Nat)) g=iC/\∀ v:Nat,v < lv r seen fs k g->okB r seen (fs.set k (v:Nat)) g=false:=by
 obtain ⟨v,u⟩:=(yF hr n _).mp h;have hp:=aj j;have w:0<=(v seen[k].1+v seen[k].2) % r:=bJ _ (by lia);have A:(v seen[k].1+v seen[k].2) % r < r:=bn _ (by lia);obtain ⟨x,hx⟩:=dw w;have hok:okB r seen (fs.set k (x:Nat)) g=true:=by
  refine (yF hr (Yc n (by lia) (by lia) k) g).mpr ⟨v,λi hi hg p a=>?_⟩;rw [Ke (by rw [n.1]; exact j)];by_cases q:i=k;·subst q;rw [hp] at a;cases a;rw [if_pos rfl,<-hx];exact cq
  ·rw [if_neg q];exact u i hi (λz=>by rcases ac.mp z with e | e; exact q e; exact hg e) p a
 have m:x∈aH r.toNat:=aL.mpr (by lia);unfold lv;cases q:(aH r.toNat).find? λv=>okB r seen (fs.set k (v:Nat)) g with
 | none=>have:=cQ.mp q x m;exact absurd hok this
 | some y=>
  obtain ⟨D,as,bs,s,c⟩:=List.find?_eq_some_iff_append.mp q;have t:y < r.toNat:=aL.mp (by rw [s]; exact aP _ (ae ..));refine ⟨by show (y:Int) < r; lia,D,λv b=>?_⟩;have b:v < y:=b;have d:v∈as:=by
   have f:as.length=y:=by
    have h1:(aH r.toNat)[as.length]?=iu y:=by rw [s]; simp
    have l:as.length < r.toNat:=by
     have:=congrArg g5 s;rw [bQ,ai,aq] at this
     lia
    rw [fB l] at h1;exact aI.inj h1
   have h2:as[v]?=iu v:=by have o:(aH r.toNat)[v]?=iu v:=fB (by lia);rw [s,cj (by lia)] at o;exact o
   exact aQ h2
  have:=c v d;simpa using this
theorem qjV:∀ (g:Wk) (fs:List Int),qG seen.length r fs->g.Pairwise (· < ·)->(∀ k∈g,k < seen.length)->okB r seen fs g=iC ->qG seen.length r (lw r seen fs g)/\okB r seen (lw r seen fs g) []=iC/\(∀ i,i∉g->nI (lw r seen fs g) i=nI fs i)/\∀ ms,qG seen.length r ms->okB r seen ms []=iC->(∀ i,i < seen.length->i∉g->nI ms i=nI fs i)->ms=lw r seen fs g\/ltZ (lw r seen fs g) ms=iC
 | [],fs,hn,_,_,h=>⟨hn,h,λ_ _=>rfl,λms m _ o=>.inl (by refine List.ext_getElem (by rw [m.1,show lw r seen fs []=fs from rfl,hn.1]) λi h1 h2=>?_;have A:i < fs.length:=h2;have:=o i (by rw [<-m.1]; exact h1) (by simp);unfold nI at this;rw [aj h1,aj A] at this;exact this)⟩
 | k::g,fs,hn,hs,hb,h=>by
  have l:=aM.mp hs;have n:=hb k (ae ..);have j:k < fs.length:=by rw [hn.1]; exact n
  obtain ⟨E,C,B⟩:=qjU hr hn n h;generalize I:lv r seen fs k g=x at E C B;have u:=Yc hn (x:=(x:Nat)) (by lia) E k;obtain ⟨a,b,c,d⟩:=qjV g (fs.set k (x:Nat)) u l.2 (λi hi=>hb i (aa _ hi)) C;have e:lw r seen fs (k::g)=lw r seen (fs.set k (x:Nat)) g:=by show lw r seen (fs.set k (lv r seen fs k g:Nat)) g=_; rw [I]
  rw [e];have w:k∉g:=λz=>cw _ (l.1 k z);refine ⟨a,b,λi hi=>?_,λms m G o=>?_⟩;·have s:i≠k:=λz=>hi (by rw [z]; exact ae ..);rw [c i λz=>hi (aa _ z),Ke j,if_neg s]
  ·have v:=qjT m n;obtain ⟨y,D⟩:=dw v.1;have t:okB r seen (fs.set k (y:Nat)) g=true:=qe6 hr m (Yc hn (by lia) (by lia) k) G λi hi f=>by
    refine ⟨by simp,?_⟩;rw [Ke j];by_cases q:i=k;·rw [if_pos q,q,D]
    ·rw [if_neg q];exact (o i hi (λz=>by rcases ac.mp z with e | e; exact q e; exact f e)).symm
   have H:x<=y:=bB λz=>by have:=B y (by lia);rw [t] at this;cases this
   by_cases q:x=y
   ·refine d ms m G λi hi f=>?_;rw [Ke j];by_cases p:i=k;·rw [if_pos p,p,D,q]
    ·rw [if_neg p];exact o i hi λz=>by rcases ac.mp z with e | e; exact p e; exact f e
   ·refine .inr (qfS k _ _ (by rw [a.1]; exact n) (by rw [m.1]; exact n) (λi s=>?_) ?_)
    ·have f:i∉g:=λz=>by have:=l.1 i z; lia
     rw [c i f,Ke j,if_neg (by lia),o i (by lia) λz=>by rcases ac.mp z with e | e; lia; exact f e]
    ·rw [c k w,Ke j,if_pos rfl,D];have:x < y:=by lia
     exact Int.ofNat_lt.mpr this
end
theorem qfT {fs:List Wk}:∀ (m i:Nat) (cs:List Wk),(∀ g,g∈cs↔Inc n g/\g.length=i)->FW n P m cs=f0::fs->∀ g,g∈f0::fs↔Inc n g/\g.length=f0.length/\P g=iC
 | 0,i,cs,hc,D=>by
  have D:cs.filter P=f0::fs:=D;have a:f0∈cs.filter P:=by rw [D]; exact ae ..
  have hl:=((hc f0).mp (aG.mp a).1).2;intro g;rw [<-D,aG,hc,hl,and_assoc]
 | m+1,i,cs,hc,D=>by
  unfold FW at D;by_cases q:cs.filter P=[];·rw [if_pos q] at D;refine qfT m (i+1) (OL n cs) (λg=>⟨λhg=>⟨qjS (λg hg=>((hc g).mp hg).1) g hg,?_⟩,λhg=>qfQ (λg h1 h2=>(hc g).mpr ⟨h1,h2⟩) g hg.1 hg.2⟩) D;obtain ⟨b,a,k,_,rfl⟩:=qcZ hg;rw [ai,((hc b).mp a).2];rfl
  ·rw [if_neg q] at D;have a:f0∈cs.filter P:=by rw [D]; exact ae ..
   have hl:=((hc f0).mp (aG.mp a).1).2;intro g;rw [<-D,aG,hc,hl,and_assoc]
theorem qc8 {fs:List Wk} (h:FW n P n [[]]=f0::fs):∀ g,g∈f0::fs↔Inc n g/\g.length=f0.length/\P g=true:=
 qfT n 0 [[]] (λg=>⟨λhg=>by rw [ap.mp hg]; exact ⟨⟨.nil,λk a=>by cases a⟩,rfl⟩,λhg=>by rw [bg hg.2]; exact ap.mpr rfl⟩) h
theorem QW (l:Ln) (seen:List Pr) (r:Int):(jk l seen r).length=seen.length:=by unfold jk;rw [ax]
theorem XH (l:Ln) (seen:List Pr) (hr:1<=r):qG seen.length r (jk l seen r):=⟨QW l seen r,λi hi=>by obtain ⟨p,_,rfl⟩:=ah.mp hi;exact ⟨bJ _ (by lia),bn _ (by lia)⟩⟩
theorem Vk (l:Ln) (seen:List Pr) (hr:1<=r):okB r seen (jk l seen r) []=true:=(yF hr (XH l seen hr) []).mpr ⟨qY l,λk _ _ p hp=>(QT (XH l seen hr) l).mp rfl k p hp⟩
theorem qfU {a b:List Int} (hl:a.length=b.length) (h:∀ i,i < a.length->nI a i=nI b i):a=b:=by refine List.ext_getElem hl λi h1 h2=>?_;have:=h i h1;unfold nI at this;rw [aj h1,aj h2] at this;exact this
theorem qc9 (hr:1<=r) (c:qG seen.length r ms) (h:okB r seen ms []=iC):∃ l∈EV0 r (LS seen),jk l seen r=ms:=by obtain ⟨l,hl,s⟩:=qlw hr c h;refine ⟨l,hl,qfU (by rw [QW,c.1]) λi hi=>bB λz=>?_⟩;have:=s i (aG.mpr ⟨aL.mpr (by rw [QW] at hi; exact hi),decide_eq_true z⟩);cases this
abbrev Nm:=Nat×List Int
noncomputable def LT2 (a b:Nm):Bool:=if a.1=b.1 then (if a.2=b.2 then iE else ltZ a.2 b.2) else decide (a.1 < b.1)
noncomputable def wn (seen:List Pr) (r:Int) (ns:List Int) (l:Ln):Nm:=((wr seen.length (jk l seen r) ns).length,jk l seen r)
noncomputable def MD (r:Int) (seen:List Pr) (ns:List Int) (f0:Wk) (fs:List Wk):List Int:=YQ (lw r seen ns f0) (fs.map (lw r seen ns))
theorem Yd (hr:1<=r) (v:qG seen.length r ns) {fs:List Wk} (h:FW seen.length (okB r seen ns) seen.length [[]]=f0::fs):(∃ l∈EV0 r (LS seen),wn seen r ns l=(f0.length,MD r seen ns f0 fs))/\∀ l,wn seen r ns l≠(f0.length,MD r seen ns f0 fs)->LT2 (f0.length,MD r seen ns f0 fs) (wn seen r ns l)=iC/\LT2 (wn seen r ns l) (f0.length,MD r seen ns f0 fs)=false:=by
 have D:=qc8 h;obtain ⟨_,_,n⟩:=qc4 h;obtain ⟨ma,mb⟩:=XG (fs.map (lw r seen ns)) (lw r seen ns f0);have t:lw r seen ns f0::fs.map (lw r seen ns)=(f0::fs).map (lw r seen ns):=rfl;rw [t] at ma mb;have T:YQ (lw r seen ns f0) (fs.map (lw r seen ns))=MD r seen ns f0 fs:=rfl;rw [T] at ma mb;have w:∀ g∈f0::fs,_:=λg hg=>qjV hr g ns v ((D g).mp hg).1.1 ((D g).mp hg).1.2 ((D g).mp hg).2.2;refine ⟨?_,λl f=>?_⟩;·obtain ⟨g,hg,e⟩:=ah.mp ma;obtain ⟨a,b,c,_⟩:=w g hg;obtain ⟨l,hl,p⟩:=qc9 hr a b;refine ⟨l,hl,?_⟩;unfold wn;rw [p];have A:wr seen.length (lw r seen ns g) ns=g:=qc6 _ _ (Gr _ _ _).1 ((D g).mp hg).1.1 (λk B=>bB λz=>of_decide_eq_true (aG.mp B).2 (c k z)) (by rw [((D g).mp hg).2.1];refine n _ (Gr _ _ _) ?_;rw [<-p];exact qhQ hr v l);rw [A,((D g).mp hg).2.1,e]
 ·have S:=n _ (Gr _ (jk l seen r) ns) (qhQ hr v l);unfold wn at f ⊢;generalize hg:wr seen.length (jk l seen r) ns=g at S f ⊢;unfold LT2;by_cases q:g.length=f0.length
  ·have F:g∈f0::fs:=(D g).mpr ⟨by rw [<-hg]; exact Gr _ _ _,q,by rw [<-hg]; exact qhQ hr v l⟩;obtain ⟨_,_,_,d⟩:=w g F;have hd:=d (jk l seen r) (XH l seen hr) (Vk l seen hr) λi hi x=>bB λz=>x (by rw [<-hg]; exact aG.mpr ⟨aL.mpr hi,decide_eq_true z⟩);have s:=mb _ (ah.mpr ⟨g,F,rfl⟩);have m:jk l seen r≠MD r seen ns f0 fs:=λz=>f (by rw [q,z]);have u:ltZ (MD r seen ns f0 fs) (jk l seen r)=true:=by
    rcases hd with e | e
    ·rcases s with j | j;·exact absurd (e.trans j) m
     ·rw [e]; exact j
    ·rcases s with j | j;·rw [<-j]; exact e
     ·exact zZ _ _ _ j e
   have o:MD r seen ns f0 fs≠jk l seen r:=λz=>m z.symm;simp only [q,if_true,if_neg m,if_neg o];exact ⟨u,QV _ _ u⟩
  ·have y:¬f0.length=g.length:=λz=>q z.symm;simp only [if_neg q,if_neg y];exact ⟨decide_eq_true (by lia),decide_eq_false (by lia)⟩
theorem qhR {xs:List D} (b:xs.length<=6) {j:Nat} (G:j<=6):slD (iu ((j:Int)+1)) iw iw (.tup xs)=.ok (.tup (xs.drop (j+1))):=by
 match xs,b with
 | [],_=>rcases j with _ | _ | _ | _ | _ | _ | _ | j <;> first | kernel_rfl | omega
 | [_],_=>rcases j with _ | _ | _ | _ | _ | _ | _ | j <;> first | kernel_rfl | omega
 | [_,_],_=>rcases j with _ | _ | _ | _ | _ | _ | _ | j <;> first | kernel_rfl | omega
 | [_,_,_],_=>rcases j with _ | _ | _ | _ | _ | _ | _ | j <;> first | kernel_rfl | omega
 | [_,_,_,_],_=>rcases j with _ | _ | _ | _ | _ | _ | _ | j <;> first | kernel_rfl | omega
 | [_,_,_,_,_],_=>rcases j with _ | _ | _ | _ | _ | _ | _ | j <;> first | kernel_rfl | omega
 | [_,_,_,_,_,_],_=>rcases j with _ | _ | _ | _ | _ | _ | _ | j <;> first | kernel_rfl | omega
 | _::_::_::_::_::_::_::_,h=>simp at h
abbrev lwC (G:jz):uX:=(Qp (xE (qr [.vl,.vl,.sl 4,.vl] G (qd (qe 0) (qd (qe 1) (kb (qd (Zq (qe 3) (iu (d2 vK (qe 5) (dC (.int 1)))) iw iw) qx)))))))
abbrev lwS:qV:=(xH 4 (d2 vK (d2O 4 ixD (qe 6)) (dC (.int 1))) (qe 6))
theorem qfV {G:jz} {rd:D} (d:g.length<=6) {i k:Nat} (hi:i<=6) {b:Bool} {n:Option D} (a:G [sd,rd,iD ms,gD (g.drop (i+1))]=.ok (.bl b,[.non,.non,iD ms,.non])):lwC G [iu sd,iu rd,n,iu (gD g),iu (iD ms),iu (.int (i:Nat)),iu (.int (k:Nat))]=.ok (!b,[iu sd,iu rd,n,iu (gD g),iu (iD ms),iu (.int (i:Nat)),iu (.int (k:Nat))]):=by
 have c:slD (iu ((i:Int)+1)) iw iw (gD g)=.ok (gD (g.drop (i+1))):=by
  have h:=qhR (xs:=inL g) (by rw [za]; exact d) hi;have e:(inL g).drop (i+1)=inL (g.drop (i+1)):=by unfold inL; rw [List.map_drop]
  rw [e] at h;exact h
 generalize gD (g.drop (i+1))=Y at a c;generalize gD g=T at c ⊢;simp [Zq,Vx,wR,c,a,xP]
theorem qjW {k:Nat} (h:k < ms.length) {a b c d e:Option D}:lwS [a,b,c,d,iu (iD ms),e,iu (.int (k:Nat))]=.ok (.nx,[a,b,c,d,iu (iD (ms.set k (nI ms k+1))),e,iu (.int (k:Nat))]):=by
 have i:=Gg ms k h;have V:ixN (ms.map D.int).length (k:Nat)=iu k:=by unfold ixN;rw [ax,if_pos (by lia),if_pos (by lia),cW]
 have o:(ms.map D.int).set k (.int (nI ms k+1))=(ms.set k (nI ms k+1)).map D.int:=by rw [ic]
 simp only [lwS,xH];simp [d2O,i,wR];simp at V o;simp [V,o]
theorem Gu {G:jz} {sd rd:D} {g:Wk} (p:g.length<=6) {i k:Nat} (hi:i<=6) {fs:List Int} (l:k < fs.length) {x:Nat} {n:Option D}
  (o:∀ v:Nat,v<=x->G [sd,rd,iD (fs.set k (v:Nat)),gD (g.drop (i+1))]=.ok (.bl (decide (v=x)),[.non,.non,iD (fs.set k (v:Nat)),.non])):∀ (m v f:Nat),v+m=x->m < f ->
  jm (lwC G) lwS f [iu sd,iu rd,n,iu (gD g),iu (iD (fs.set k (v:Nat))),iu (.int (i:Nat)),iu (.int (k:Nat))]=.ok (.nx,[iu sd,iu rd,n,iu (gD g),iu (iD (fs.set k (x:Nat))),iu (.int (i:Nat)),iu (.int (k:Nat))])
 | _,_,0,_,h=>by lia
 | 0,v,f+1,hv,_=>by
  have e:v=x:=by lia
  subst e;have j:=qfV (n:=n) (k:=k) p hi (o v (aB _));rw [decide_eq_true rfl] at j;rw [jm,j];rfl
 | m+1,v,f+1,hv,hm=>by
  have j:=qfV (n:=n) (k:=k) p hi (o v (by lia));rw [decide_eq_false (by lia)] at j;have s:=qjW (ms:=fs.set k (v:Nat)) (k:=k) (by rw [cF]; exact l) (a:=iu sd) (b:=iu rd) (c:=n) (d:=iu (gD g)) (e:=iu (.int (i:Nat)));have e:(fs.set k (v:Nat)).set k (nI (fs.set k (v:Nat)) k+1)=fs.set k ((v+1:Nat):Int):=by rw [List.set_set,Ke l,if_pos rfl];rfl
  rw [e] at s;have q:=Gu p hi l o (n:=n) m (v+1) f (by lia) (by lia);rw [jm,j,kZ];simp only [Bool.not_false,if_true];rw [s,kZ];exact q
abbrev lwT (G:jz):qV:=(qM (xH 4 (dC (.int 0)) (qe 6)) (jm (lwC G) lwS 20))
theorem qhS {G:jz} {sd rd:D} (b:g.length<=6) {i k:Nat} (hi:i<=6) {fs:List Int} (h:k < fs.length) {x:Nat} (hx:x < 19) {n:Option D}
  (a:∀ v:Nat,v<=x->G [sd,rd,iD (fs.set k (v:Nat)),gD (g.drop (i+1))]=.ok (.bl (decide (v=x)),[.non,.non,iD (fs.set k (v:Nat)),.non])) :
  lwT G [iu sd,iu rd,n,iu (gD g),iu (iD fs),iu (.int (i:Nat)),iu (.int (k:Nat))]=.ok (.nx,[iu sd,iu rd,n,iu (gD g),iu (iD (fs.set k (x:Nat))),iu (.int (i:Nat)),iu (.int (k:Nat))]):=by
 have V:ixN (fs.map D.int).length (k:Nat)=iu k:=by unfold ixN;rw [ax,if_pos (by lia),if_pos (by lia),cW]
 have o:(fs.map D.int).set k (.int 0)=(fs.set k ((0:Nat):Int)).map D.int:=by rw [ic]; rfl
 have w:=Gu b hi h a (n:=n) x 0 20 (by lia) (by lia);unfold lwT;rw [qcD (ρ1:=[iu sd,iu rd,n,iu (gD g),iu (iD (fs.set k ((0:Nat):Int))),iu (.int (i:Nat)),iu (.int (k:Nat))]) (by simp only [xH];simp;simp at V o;simp [V,o])];exact w
theorem qfW {seen:List Pr} {W:Wy} (S:Sn seen W) {r:Int} (hr:1<=r) (C:r<=18) {g:Wk} (u:g.length<=6) {n:Option D}:∀ (s:Wk) (i:Nat) (fs:List Int) (d c:Option D),g.drop i=s->i+s.length<=6->qG seen.length r fs->(∀ k∈s,k < seen.length)->okB r seen fs s=iC ->∃ b a,vF (jG 2 (qw (gNm 5) (qw (gNm 6) jF))) (lwT qR) (((inL s).zipIdx i).map λp=>.tup [.int (p.2:Nat),p.1]) [iu (sD seen),iu (.int r),n,iu (gD g),iu (iD fs),d,c]
   = .ok (.nx,[iu (sD seen),iu (.int r),n,iu (gD g),iu (iD (lw r seen fs s)),b,a])
 | [],i,fs,d,c,_,_,_,_,_=>⟨d,c,rfl⟩
 | k::rest,i,fs,d,c,hd,hl,hn,hb,ho=>by
  rw [aq] at hl;have o:=hb k (ae ..);obtain ⟨f,l,B⟩:=qjU hr hn o ho;have hd2:g.drop (i+1)=rest:=by rw [<-List.drop_drop,hd]; rfl
  have h:rest.length<=2000:=by lia
  generalize y:lv r seen fs k rest=x at f l B;have t:=qhS (G:=qR) (sd:=sD seen) (rd:=.int r) u (i:=i) (k:=k) (by lia) (fs:=fs) (by rw [hn.1]; exact o) (x:=x) (by lia) (n:=n) λv w=>by
   have A:=qhJ S hr (Yc hn (x:=(v:Nat)) (by lia) (by lia) k) rest h;rw [hd2,A];by_cases q:v=x;·rw [decide_eq_true q,q,l]
   ·rw [decide_eq_false q,B v (by lia)]
  obtain ⟨b,a,m⟩:=qfW S hr C u (n:=n) rest (i+1) (fs.set k (x:Nat)) (iu (.int (i:Nat))) (iu (.int (k:Nat))) hd2 (by lia) (Yc hn (by lia) f k) (λj z=>hb j (aa _ z)) l;refine ⟨b,a,?_⟩;have e:lw r seen fs (k::rest)=lw r seen (fs.set k (x:Nat)) rest:=by show lw r seen (fs.set k (lv r seen fs k rest:Nat)) rest=_; rw [y]
  rw [e];show vF _ _ (.tup [.int (i:Nat),.int (k:Nat)]::((inL rest).zipIdx (i+1)).map λp=>.tup [.int (p.2:Nat),p.1]) _=_;generalize qR=G at t m;exact cJ (ua (ρ1:=[iu (sD seen),iu (.int r),n,iu (gD g),iu (iD fs),iu (.int (i:Nat)),iu (.int (k:Nat))]) rfl t) m
theorem qe7 (S:Sn seen W) (hr:1<=r) (f:r<=18) (b:qG seen.length r ns) (hg:Inc seen.length g) (h:okB r seen ns g=iC):vY [sD seen,.int r,nD ns,gD g]=.ok (nD (lw r seen ns g),[.non,.non,.non,.non]):=by have c:=S.n;have l:g.length<=6:=bv (qhP hg) c;obtain ⟨a,x,e⟩:=qfW S hr f l (n:=iu (nD ns)) g 0 ns iw iw rfl (by lia) b hg.2 h;refine runD_ap.trans ?_;unfold vX;rw [show qv vW [sD seen,.int r,nD ns,gD g]=[iu (sD seen),iu (.int r),iu (nD ns),iu (gD g),iw,iw,iw] from rfl];generalize qR=G at e;refine (qE (ρ1:=[iu (sD seen),iu (.int r),iu (nD ns),iu (gD g),iu (iD ns),iw,iw]) (by simp [Ug])).trans ?_;refine (qE (ρ1:=[iu (sD seen),iu (.int r),iu (nD ns),iu (gD g),iu (iD (lw r seen ns g)),a,x]) (by rw [kI,show qb0 (qe 3) [iu (sD seen),iu (.int r),iu (nD ns),iu (gD g),iu (iD ns),iw,iw]=.ok (Js (inL g),[iu (sD seen),iu (.int r),iu (nD ns),iu (gD g),iu (iD ns),iw,iw]) from rfl,kZ];exact e)).trans ?_;simp [wU]
theorem Ye {L:jz} {c:D} (f:Wk->List Int):∀ (gs:List Wk) (x:Option D),(∀ g∈gs,L [a,b,c,gD g]=.ok (nD (f g),[.non,.non,.non,.non])) ->∃ n,jn (gNm 0) ftT (qr [.vl,.vl,.vl,.vl] L (qd (qe 1) (qd (qe 2) (qd (qe 3) (qd (qe 0) qx))))) (gR gs) [x,iu a,iu b,iu c]=.ok (gs.map λg=>nD (f g),[n,iu a,iu b,iu c])
 | [],x,_=>⟨x,rfl⟩
 | g::gs,x,h=>by have h1:=h g (ae ..);obtain ⟨n,i⟩:=Ye f gs (iu (gD g)) λj G=>h j (aa _ G);refine ⟨n,?_⟩;show jn _ _ _ (gD g::gR gs) _=_;generalize gD g=Y at h1 i;simp [jn,xx,h1,i]
theorem zB:∀ l:List Int,Jt (l.map D.int)=iu l
 | []=>rfl
 | x::l=>by have j:=zB l;simp [Jt,j]
theorem Gv (f:Wk->List Int):∀ gs:List Wk,Ko (gs.map λg=>nD (f g))=iu (gs.map f)
 | []=>rfl
 | g::gs=>by have j:=Gv f gs;have h:=zB (f g);simp only [aD,Ko,h,j];rfl
theorem qe8 {T F L:jz} {c:D} {f:Wk->List Int} {fs:List Wk} (z:(f0::fs).length<=sizeLine) (h1:T [a,b,c,d]=.ok (sd,[.non,.non,.non,.non])) (h2:F [sd,c,d]=.ok (.lst (gR (f0::fs)),[.non,.non,.non])) (i:∀ g∈f0::fs,L [sd,c,d,gD g]=.ok (nD (f g),[.non,.non,.non,.non])):qab [.val,.val,.val,.val] ((qM (jl 4 (qr [.vl,.vl,.vl,.vl] T (qd (qe 0) (qd (qe 1) (qd (qe 2) (qd (qe 3) qx))))))
  (jB (d1 qeu (qZ [] 1 [4,2,3] (jJ (qr [.vl,.vl,.vl] F (qd (qe 4) (qd (qe 2) (qd (qe 3) qx))))) (gNm 0) ftT (qr [.vl,.vl,.vl,.vl] L (qd (qe 1) (qd (qe 2) (qd (qe 3) (qd (qe 0) qx))))))))) [iu a,iu b,iu c,iu d,iw])=.ok (nD (YQ (f f0) (fs.map f)),[.non,.non,.non,.non]):=by
 obtain ⟨n,e⟩:=Ye (a:=sd) (b:=c) (c:=d) f (f0::fs) iw i;have J:=xq (own:=[]) (cap:=[4,2,3]) (nt:=1) (fi:=jJ (qr [.vl,.vl,.vl] F (qd (qe 4) (qd (qe 2) (qd (qe 3) qx))))) (g:=gNm 0) (ft:=ftT) (fe:=qr [.vl,.vl,.vl,.vl] L (qd (qe 1) (qd (qe 2) (qd (qe 3) (qd (qe 0) qx))))) (ρ:=[iu a,iu b,iu c,iu d,iu sd]) (ρ1:=[iu a,iu b,iu c,iu d,iu sd]) (ds:=gR (f0::fs)) (by simp [h2,jw]) (by unfold gR; rw [ax]; exact z) e;have h:jI [] [n,iu sd,iu c,iu d] 1 [4,2,3] [iu a,iu b,iu c,iu d,iu sd]=[iu a,iu b,iu c,iu d,iu sd]:=rfl;rw [h] at J;have m:qeu (.lst ((f0::fs).map λg=>nD (f g)))=.ok (nD (YQ (f f0) (fs.map f))):=by have:=Gv f (f0::fs);show (match Ko ((f0::fs).map λg=>nD (f g)) with | some (t::ts)=>Out.ok (D.tup ((YQ t ts).map D.int)) | _=>.bad)=_;rw [this];rfl
 refine (qE (ρ1:=[iu a,iu b,iu c,iu d,iu sd]) (by simp [h1])).trans ?_;generalize G:(f0::fs).map (λg=>nD (f g))=Gs at J m;simp [J,m]
theorem qfX {n:Nat} (h:n<=6) {P:Wk->Bool}:∀ (m:Nat) (cs:List Wk),(FW n P m cs).length<=6 ^ m * cs.length
 | 0,cs=>by show (cs.filter P).length<=6 ^ 0 * cs.length;rw [Nat.pow_zero,Nat.one_mul];exact cm _ _
 | m+1,cs=>by
  have j:=qfX h (P:=P) m (OL n cs);have h2:=qc0 h cs;have i:6 ^ m * (OL n cs).length<=6 ^ m * (6 * cs.length):=Nat.mul_le_mul_left _ h2;have a:6 ^ m * (6 * cs.length)=6 ^ (m+1) * cs.length:=by rw [Nat.pow_succ,Nat.mul_assoc]
  unfold FW;split
  ·lia
  ·have l:=cm P cs;have b:1 * cs.length<=6 ^ (m+1) * cs.length:=Nat.mul_le_mul_right _ (Nat.one_le_pow _ _ (by lia))
   lia
theorem qda (w:jt ws) (hl:Vl p q) (a:1<=r) (c:r<=18) (b:qG ws.length r ns) (S:Sn (qp ws p q) W):∃ f0 fs,FW (qp ws p q).length (okB r (qp ws p q) ns) (qp ws p q).length [[]]=f0::fs/\QO [Wd ws,Ld p q,.int r,nD ns]=.ok (nD (MD r (qp ws p q) ns f0 fs),[.non,.non,.non,.non]):=by
 have E:(qp ws p q).length=ws.length:=by simp [qp]
 have F:qG (qp ws p q).length r ns:=by rw [E]; exact b
 have e1:=Wv w hl a (by lia) b;obtain ⟨f0,fs,m,f⟩:=UZ S a F;have D:=qc8 m;have h:=qfX S.n (P:=okB r (qp ws p q) ns) (qp ws p q).length [[]];rw [m] at h;have d:6 ^ (qp ws p q).length<=6 ^ 6:=Nat.pow_le_pow_right (by lia) S.n;have z:(f0::fs).length<=sizeLine:=by
  refine bv ?_ qc5;have:(6:Nat) ^ 6=46656:=by decide
  rw [List.length_singleton] at h
  lia
 exact ⟨f0,fs,m,runD_ap.trans (qe8 z e1 f λg hg=>qe7 S a c F ((D g).mp hg).1 ((D g).mp hg).2.2)⟩
noncomputable def bl (W:Wy) (r:Int) (ns:List Int) (L:List Str) (l:Ln):Ln:=L.map λx=>(x,vO W r ns (qY l) x)
section
theorem qjX (S:Sn seen W) (hr:1<=r) (n:qG seen.length r ns) (j:BO W seen r ns=iw) {l:Ln} (hl:l∈PV (ch W seen r ns) (RT W)):bl W r ns (LS seen) l∈(EV0 r (LS seen)).filter λl=>decide (jk l seen r=ns):=by
 have b:=qe0 hr j;have Q:∀ c∈CL W 0 seen,c.1∈RT W:=λc d=>by obtain ⟨k,p,h,rfl⟩:=qhF d;have hp:=(vZ S.a p (aQ h)).1;obtain ⟨h1,h2⟩:=uP S hp;exact mem_RT.mpr ⟨h1,by show (qJ W (qJ W p.1).1).1=_; rw [h2]; rfl⟩
 obtain ⟨i,f⟩:=(wG _).mp hl;have hok:∀ c∈CL W 0 seen,okS r ns c.2 (qY l c.1):=λc d=>by have:=f _ (jW (by rw [i]; exact Q c d)).1;exact ((b _ _).mp this).2 c d rfl
 have s:=qfN S hok;rw [aG,zb hr,decide_eq_true_eq,QT n];unfold bl;refine ⟨⟨uO _ _,λe g=>?_⟩,λk p h=>?_⟩;·obtain ⟨x,_,rfl⟩:=ah.mp g;exact ⟨bJ _ (by lia),bn _ (by lia)⟩
 ·have hp:=aQ h;have m1:p.1∈LS seen:=mem_LS.mpr ⟨p,hp,.inl rfl⟩;have B:p.2∈LS seen:=mem_LS.mpr ⟨p,hp,.inr rfl⟩;rw [kz (vO W r ns (qY l)) m1,kz (vO W r ns (qY l)) B];exact s k p h
end
theorem XI (S:Sn seen W):jP (kW W)=LS seen:=by refine yj ?_ (qS _) (by unfold LS; exact qS _);exact (qI _).trans (UQ S.w.nd (UU _) λx=>⟨λh=>S.w.sub x h,λh=>S.a x h⟩)
abbrev wfB:qV:=(qM (jl 7 (d2 ixD (qe 3) (d2 ixD (d2 ixD (qe 4) (qe 6)) (dC (.int 0)))))
  (vo (Vw 5 Ue (xF (qd (qe 6) (qd (d2 yb (qr [.vl,.vl,.vl] vH (qd (d2 ixD (d2 ixD (qe 4) (qe 6)) (dC (.int 1))) (qd (qe 2) (qd (qe 7) qx)))) (qe 1)) qx))))))
variable {st:Ln}
theorem qdb (S:Sn seen W) (hr:1<=r) (A:ns.length=seen.length) (c:∀ y∈kW W,(qJ W y).1∈qD st) (a:Option D):∀ (L:List Str) (acc:Ln) (x y:Option D),(∀ z∈L,z∈kW W)->acc.length+L.length<=100 ->∃ n s,vF (gNm 6) wfB (L.map D.str) [a,iu (.int r),iu (nD ns),iu (.dct (bk st)),iu (.dct (wD W)),iu (.lst (prL acc)),x,y]=.ok (.nx,[a,iu (.int r),iu (nD ns),iu (.dct (bk st)),iu (.dct (wD W)),iu (.lst (prL (acc++bl W r ns L st))),n,s])
 | [],acc,x,y,_,_=>⟨x,y,by simp [vF,bl]⟩
 | z::L,acc,x,y,hL,hl=>by
  rw [aq] at hl;have b:=hL z (ae ..);have i1:=Wt S.w.nd b;have i2:=qau (c z b);have t:∀ k∈(qJ W z).2,k < ns.length:=λk m=>by rw [A];exact (S.w.path _ (jq b)).lt k m
  have i:=xZ (qcC ns) t (qY st (qJ W z).1);obtain ⟨n,s,j⟩:=qdb S hr A c a L (acc++[(z,vO W r ns (qY st) z)]) (iu (.str z)) (iu (.int (qY st (qJ W z).1))) (λw g=>hL w (aa _ g)) (by rw [ai]; simp; lia);have f:0 < r:=by lia
  have N:2<=sizeLine:=jA (by lia);have h:(prL acc).length < sizeLine:=aK (by simp [prL]; lia) big;have e:acc++[(z,vO W r ns (qY st) z)]++bl W r ns L st=acc++bl W r ns (z::L) st:=by simp [bl]
  rw [e] at j;have o:prL (acc++[(z,vO W r ns (qY st) z)])=prL acc++[.tup [.str z,.int (qN ns (qY st (qJ W z).1) (qJ W z).2 % r)]]:=by simp [prL,vO]
  refine ⟨n,s,cJ (ua (d:=.str z) (ρ1:=[a,iu (.int r),iu (nD ns),iu (.dct (bk st)),iu (.dct (wD W)),iu (.lst (prL acc)),iu (.str z),y]) rfl ?_) j⟩;rw [o];unfold wfB;rw [qcD (ρ1:=[a,iu (.int r),iu (nD ns),iu (.dct (bk st)),iu (.dct (wD W)),iu (.lst (prL acc)),iu (.str z),iu (.int (qY st (qJ W z).1))]) (by generalize D.dct (bk st)=Y at i2 ⊢;generalize D.dct (wD W)=Z at i1 ⊢;simp [i1,qlp,i2])];have hi:xP ([a,iu (.int r),iu (nD ns),iu (.dct (bk st)),iu (.dct (wD W)),iu (.lst (prL acc)),iu (.str z),iu (.int (qY st (qJ W z).1))]:Sl)[5]?=true:=rfl;generalize D.dct (bk st)=Y at i2 hi ⊢;generalize D.dct (wD W)=Z at i1 hi ⊢;generalize l:lD (qJ W z).2=U at i1 i;simp [i1,qlq,i,yb,wR,f,N,Ue,h,xP]
theorem qdc (S:Sn seen W) (hr:1<=r) (A:ns.length=seen.length) (c:∀ y∈kW W,(qJ W y).1∈qD st):vD [sD seen,.int r,nD ns,.dct (bk st)]=.ok (.tup (prL (bl W r ns (LS seen) st)),[.non,.non,.non,.non]):=by
 have j:=S.w.le;have p:=S.s;have b:(kW W).length < 64:=by simp [kW]; lia
 have g:((kW W).all λy=>decide (y.length<=sizeLine))=true:=by rw [aR];intro y f;exact decide_eq_true (jA (S.z y (S.w.sub y f)))
 have o:ki (.dct (wD W))=.ok (.lst ((LS seen).map D.str)):=by unfold ki;simp only [XA];rw [if_pos ⟨b,g⟩,XI S]
 obtain ⟨n,d,e⟩:=qdb S hr A c (iu (sD seen)) (LS seen) [] iw iw (λz h=>S.a z h) (by simp; lia);rw [ci] at e;have i:=S.e;refine runD_ap.trans ?_;unfold uw;rw [show qv uu [sD seen,.int r,nD ns,.dct (bk st)]=[iu (sD seen),iu (.int r),iu (nD ns),iu (.dct (bk st)),iw,iw,iw,iw] from rfl];refine (qE (ρ1:=[iu (sD seen),iu (.int r),iu (nD ns),iu (.dct (bk st)),iu (.dct (wD W)),iw,iw,iw]) (by simp [i])).trans ?_;refine (qE (ρ1:=[iu (sD seen),iu (.int r),iu (nD ns),iu (.dct (bk st)),iu (.dct (wD W)),iu (.lst []),iw,iw]) (by simp)).trans ?_;refine (qE (ρ1:=[iu (sD seen),iu (.int r),iu (nD ns),iu (.dct (bk st)),iu (.dct (wD W)),iu (.lst (prL (bl W r ns (LS seen) st))),n,d]) (by rw [kI,show jJ (d1 ki (qe 4)) [iu (sD seen),iu (.int r),iu (nD ns),iu (.dct (bk st)),iu (.dct (wD W)),iu (.lst []),iw,iw]=.ok ((LS seen).map D.str,[iu (sD seen),iu (.int r),iu (nD ns),iu (.dct (bk st)),iu (.dct (wD W)),iu (.lst []),iw,iw]) by simp [o,jw],kZ];exact e)).trans ?_;simp [wU]
def qlx (d:D):Prop:=Pl d/\∀ xs,d=.tup xs->∀ x∈xs,Pl x
noncomputable def qdd (room:Int):D->Bool
 | .tup [a,b]=>qcw a&&Kh 0 (room - 1) b
 | _=>iE
theorem XJ (h:qlx d) (room:Int):yV [d,.int room]=.ok (.bl (qdd room d),[.non,.non]):=by
 refine runD_ap.trans ?_;have ht:=qcv h.1;cases d with
 | tup xs=>
  have hp:=h.2 xs rfl
  match xs,hp with
  | [],_=>simp [kJ,qv,ht,Kt,neD,eqN,eqS,qdd]
  | [a],_=>simp [kJ,qv,ht,Kt,neD,eqN,eqS,qdd]
  | [a,b],hp=>have h1:=Qe (hp a (by simp));have h2:=jN (hp b (by simp)) 0 (room - 1);cases f:qcw a <;> simp [kJ,qv,ht,Kt,neD,eqN,eqS,qdd,ixD,at0,at1,h1,h2,f,wR]
  | a::b::c::l,_=>
   have e:¬((l.length:Int)+1+1+1=2):=by lia
   simp [kJ,qv,ht,Kt,neD,eqN,eqS,qdd,e]
 | _=>first | exact h.1.elim | simp [kJ,qv,ht,Kt,qdd]
def OkW (room:Int) (l:List (Str×Int)):Prop:=∀ x∈l,qcw (.str x.1)=iC/\0<=x.2/\x.2 < room
theorem qhT (h:OkW room l):(prL l).all (qdd room)=true:=by
 rw [aR];intro d hd;obtain ⟨x,hx,rfl⟩:=ah.mp hd;obtain ⟨h1,h2,i⟩:=h x hx;simp [qdd,h1,Kh,h2]
 lia
theorem Yg:∀ (a b:List Str),wS (eqN 7) (a.map D.str) (b.map D.str)=iu (decide (a.take (min a.length b.length)=b.take (min a.length b.length)))
 | [],b=>by simp [wS]
 | a::l,[]=>by simp [wS]
 | a::l,b::m=>by have j:=Yg l m;simp only [aD,wS,j,eqN,eqS,aq,Nat.succ_eq_add_one,Nat.add_min_add_right,List.take_succ_cons];by_cases h:a=b <;> simp [h]
theorem qe9 (a b:List Str):eqD (.lst (a.map D.str)) (.lst (b.map D.str))=.ok (.bl (decide (a=b))):=by
 by_cases h:a.length=b.length;·have e:=Yg a b;rw [h,Nat.min_self,dN,<-h,dN] at e;simp [eqD,eqN,h,e]
 ·have c:a≠b:=λz=>h (by rw [z]);simp [eqD,eqN,h,c]
noncomputable def XM (l:List (Str×Int)):Bool:=decide (qD l=jP ((qD l).foldl zu []))
theorem Yh (h:∀ d∈ds,qlx d) (hl:ds.length<=50) (room:Int):(ds.all (qdd room)=iE->kK [.tup ds,.int room]=.ok (.bl iE,[.non,.non]))/\∀ l,ds=prL l->OkW room l->kK [.tup ds,.int room]=.ok (.bl (XM l),[.non,.non]):=by
 have z:ds.length<=sizeLine:=jA (by lia);have ht:=qcv (d:=.tup ds) trivial;have e1:=uT (cap:=[1]) (fi:=jJ (qe 0)) (ρ:=[iu (.tup ds),iu (.int room),iw]) (ρ1:=[iu (.tup ds),iu (.int room),iw]) (ds:=ds) (fe:=qr [.vl,.vl] yV (qd (qe 0) (qd (qe 1) qx))) (λd=>.bl (qdd room d)) (by simp [jw]) z (λd hd=>by have h1:=XJ (h d hd) room;simp [h1]);have g:=zU (qdd room) ds;constructor;·intro c;refine runD_ap.trans ?_;simp [uz,qv,ht,Kt,e1,g,c]
 ·rintro l rfl w;refine runD_ap.trans ?_;have c:=qhT w;have i:=uT (cap:=[]) (fi:=jJ (qe 0)) (ρ:=[iu (.tup (prL l)),iu (.int room),iw]) (ρ1:=[iu (.tup (prL l)),iu (.int room),iw]) (ds:=prL l) (fe:=d2 ixD (qe 0) (dC (.int 0))) (λd=>match d with | .tup [a,b]=>a | d=>d) (by simp [jw]) z (λd hd=>by obtain ⟨x,hx,rfl⟩:=ah.mp hd;simp [ixD,at0]);have f2:(prL l).map (λd=>match d with | .tup [a,b]=>a | d=>d)=(qD l).map D.str:=by simp [prL,qD]
  rw [f2] at i;have j:(qD l).length < 64:=by
   simp [qD];simp [prL] at hl
   lia
  have m:=qe9 (qD l) (jP ((qD l).foldl zu []));simp [uz,qv,ht,Kt,e1,g,c,i,wb,xG,wZ,j,m,XM]
noncomputable def XN:List Str->Bool
 | x::y::l=>vn x y&&XN (y::l)
 | _=>iC
theorem qly (h:vn x y=iC):leS x y/\x≠y:=by
 unfold vn at h;have h:=of_decide_eq_true h;constructor;·exact List.le_of_lt h
 ·rintro rfl;exact List.lt_irrefl _ h
theorem qlz (h:leS x y) (n:x≠y):vn x y=true:=by
 cases e:vn x y with
 | true=>rfl
 | false=>exact absurd (zx h (strLt_false.mp e)) n
theorem XO:∀ (l:List Str),XN l=iC->l.Pairwise (λx y=>leS x y/\x≠y)
 | [],_=>eX
 | [x],_=>eh _ _
 | x::y::l,h=>by
  have h:(vn x y&&XN (y::l))=true:=h;rw [aV] at h;have j:=XO (y::l) h.2;have b:=qly h.1;refine aM.mpr ⟨λz c=>?_,j⟩;rcases ac.mp c with rfl | c;·exact b
  ·have a:=(aM.mp j).1 z c;refine ⟨zw b.1 a.1,λe=>?_⟩;subst e;exact b.2 (zx b.1 a.1)
theorem XQ:∀ (l:List Str),l.Pairwise (λx y=>leS x y/\x≠y)->XN l=iC
 | [],_=>rfl
 | [x],_=>rfl
 | x::y::l,h=>by have h1:=aM.mp h;have b:=h1.1 y (ae ..);show (vn x y&&XN (y::l))=iC;rw [qlz b.1 b.2,XQ (y::l) h1.2];rfl
theorem Gw {l:List Str} (h:l.Pairwise (λx y=>leS x y/\x≠y)):l.Nodup:=h.imp λh=>h.2
theorem Gx (L:List Str):decide (L=jP (L.foldl zu []))=XN L:=by
 cases e:XN L with
 | true=>
  have p:=XO L e;have n:=Gw p;have f:L.foldl zu []=L:=by rw [xY L [] n (by simp)]; simp
  rw [f];exact decide_eq_true (yj (qI L).symm (p.imp λh=>h.1) (qS L))
 | false=>refine decide_eq_false λz=>?_;have n:(jP (L.foldl zu [])).Nodup:=(qI _).nodup_iff.mpr (yD L [] cP).1;have c:=qS (L.foldl zu []);rw [<-z] at n c;have p:L.Pairwise (λx y=>leS x y/\x≠y):=c.and n;rw [XQ L p] at e;cases e
theorem qax (h:XM l=iC):(qD l).Nodup:=by unfold XM at h;rw [Gx] at h;exact Gw (XO _ h)
theorem qjY (l:List (Str×Int)) (x:Str):qbx (bk l) (.inr x)=decide (x∈qD l):=by
 unfold qbx bk qD;rw [List.any_map]
 induction l with
 | nil=>simp
 | cons a l j=>
  simp only [cL,aD,ac,j];by_cases h:a.1=x;·simp [h]
  ·simp [h,bo h]
theorem qfY (w:OkW room l) (h:x∈qD l):0<=qY l x/\qY l x < room:=(w _ (jW h).1).2
theorem Kf {b:Bool} (h:kK [d,.int room]=.ok (.bl b,[.non,.non])):wP [d,.int room]=if b=iC then .ok (.non,[.non,.non]) else .exc "NoWorths" [iu .non,iu .non]:=by refine runD_ap.trans ?_;cases b <;> simp [wO,qv,h,kg]
theorem qde (t room:Int):QI [.int t,.int room]=.ok (.int (if room<=t then t - room else t),[.non,.non]):=by refine runD_ap.trans ?_;by_cases h:room<=t <;> simp [VY,qv,geD,wR,h]
theorem qmE {a b:Int} (g:0<=a/\a < r) (d:0<=b/\b < r):(if r<=a+b then a+b - r else a+b)=(a+b) % r:=by
 split;·rw [<-Int.sub_emod_right,aU (by lia) (by lia)]
 ·rw [aU (by lia) (by lia)]
theorem XR (w:jt ws) (hl:Vl p q) (hr:Kh 1 99 (.int r)=iC) (o:OkW r l) (s:XM l=iC) (h:kK [.tup (prL l),.int r]=.ok (.bl iC,[.non,.non])):vI [Wd ws,Ld p q,.int r,.tup (prL l)]=if (LS (qp ws p q)).all (λx=>decide (x∈qD l))=iC then .ok (.tup (qdp l (qp ws p q) r),[.non,.non,.non,.non]) else .exc "NoWorths" nn4:=by
 refine runD_ap.trans ?_;have h1:=Ge w hl;have h2:=zV (d:=.int r) trivial;rw [hr] at h2;have i:=Kf h;have c:=qcz (qax s);have n:(qp ws p q).length<=6:=by simp [qp]; exact w.2.1
 have m:=uL (l:=qp ws p q) (by omega);have O:(LS (qp ws p q)).length<=2000:=by unfold LS;rw [(qI _).length_eq];have:=Ul ((qp ws p q).map (·.1)++(qp ws p q).map (·.2)) [];simp only [ai,ax,bj] at this;omega
 have e1:=uT (cap:=[5]) (fi:=jJ (qr [.vl] jp (qd (qe 4) qx))) (ρ:=[iu (Wd ws),iu (Ld p q),iu (.int r),iu (.tup (prL l)),iu (.lst (jy (qp ws p q))),iu (.dct (bk l))]) (ρ1:=[iu (Wd ws),iu (Ld p q),iu (.int r),iu (.tup (prL l)),iu (.lst (jy (qp ws p q))),iu (.dct (bk l))]) (ds:=(LS (qp ws p q)).map D.str)
  (fe:=d2 inA (qe 0) (qe 1)) (λd=>match d with | .str x=>.bl (decide (x∈qD l)) | d=>d) (by simp [m,jw]) (by rw [ax]; exact jA O) (λd hd=>by obtain ⟨x,hx,rfl⟩:=ah.mp hd;simp [inA,KL,qjY])
 rw [bf] at e1;have g:=zU (λx=>decide (x∈qD l)) (LS (qp ws p q));have e:qZ [] 1 [5] (jJ (qr [.vl] jp (qd (qe 4) qx))) (gNm 0) ftT (d2 inA (qe 0) (qe 1)) [iu (Wd ws),iu (Ld p q),iu (.int r),iu (.tup (prL l)),iu (.lst (jy (qp ws p q))),iu (.dct (bk l))]=.ok (.lst ((LS (qp ws p q)).map λx=>.bl (decide (x∈qD l))),[iu (Wd ws),iu (Ld p q),iu (.int r),iu (.tup (prL l)),iu (.lst (jy (qp ws p q))),iu (.dct (bk l))]):=e1;cases hA:(LS (qp ws p q)).all (λx=>decide (x∈qD l)) with
 | false=>rw [hA] at g;simp [yY,qv,h1,h2,i,c,e,g,kg]
 | true=>
  rw [hA] at g;have y:∀ x∈qp ws p q,x.1∈qD l/\x.2∈qD l:=λx hx=>by rw [aR] at hA;exact ⟨of_decide_eq_true (hA x.1 (mem_LS.mpr ⟨x,hx,.inl rfl⟩)),of_decide_eq_true (hA x.2 (mem_LS.mpr ⟨x,hx,.inr rfl⟩))⟩
  have f:=uT (cap:=[2,5]) (fi:=jJ (qe 4)) (ρ:=[iu (Wd ws),iu (Ld p q),iu (.int r),iu (.tup (prL l)),iu (.lst (jy (qp ws p q))),iu (.dct (bk l))]) (ρ1:=[iu (Wd ws),iu (Ld p q),iu (.int r),iu (.tup (prL l)),iu (.lst (jy (qp ws p q))),iu (.dct (bk l))]) (ds:=jy (qp ws p q))
   (fe:=qr [.vl,.vl] QI (qd (d2 vK (d2 ixD (qe 2) (d2 ixD (qe 0) (dC (.int 0)))) (d2 ixD (qe 2) (d2 ixD (qe 0) (dC (.int 1))))) (qd (qe 1) qx))) (λd=>match d with | .tup [.str a,.str b]=>.int ((qY l a+qY l b) % r) | d=>d) (by simp [jw]) (by simp [jy]; exact jA (by omega)) (λd hd=>by
    obtain ⟨x,hx,rfl⟩:=ah.mp hd;obtain ⟨i1,i2⟩:=y x hx;have k:=qau i1;have j:=qau i2;have wr:=qmE (qfY o i1) (qfY o i2);have wi:=qde (qY l x.1+qY l x.2) r;rw [wr] at wi;have k0:ixD (.tup [.str x.1,.str x.2]) (.int 0)=.ok (.str x.1):=by simp [ixD,at0]
    have k1:ixD (.tup [.str x.1,.str x.2]) (.int 1)=.ok (.str x.2):=by simp [ixD,at1]
    simp [k0,k1,k,j,wi])
  have f2:(jy (qp ws p q)).map (λd=>match d with | .tup [.str a,.str b]=>.int ((qY l a+qY l b) % r) | d=>d)=qdp l (qp ws p q) r:=by simp [jy,qdp]
  rw [f2] at f;simp [yY,qv,h1,h2,i,c,e,g,f,wU]
noncomputable def hd0 (l:List Int):Int:=(l.head?).getD 0
theorem qfZ (S:Sn seen W) (hr:1<=r) (n:qG seen.length r ns) (d:BO W seen r ns=iw):∀ x∈RT W,ch W seen r ns x≠[]:=by
 obtain ⟨k,c2⟩:=qaw S hr n;have y:=c2.mp d;have b:HM W seen r ns=((PV (ch W seen r ns) (RT W)).length:Int):=by unfold HM;rw [d];have:=Go (ch W seen r ns) (RT W) 1;rw [fL] at this;exact this
 have hp:0 < (PV (ch W seen r ns) (RT W)).length:=by omega
 intro x hx z;obtain ⟨l,hl⟩:=cz hp;obtain ⟨k1,k2⟩:=(wG _).mp hl;have:=k2 _ (jW (by rw [k1]; exact hx)).1;rw [show ch W seen r ns (x,qY l x).1=[] from z] at this;cases this
theorem qhU:(RO W seen r ns).map rd=(RT W).map λx=>rd (x,ch W seen r ns x):=by unfold RO;rw [bf];rfl
theorem qf0 (S:Sn seen W):(RT W).length<=100:=by
 have l:=cm (λx=>decide ((qJ W x).1=x)) (jP (kW W));have b:(jP (kW W)).length=(LS seen).length:=by rw [XI S]
 have:=S.s;unfold RT
 lia
variable {c:Str->List Int}
theorem qdf:∀ (R:List Str) (x y:Option D),(∀ x∈R,c x≠[])->∃ n s,jn (jG 2 (qw (gNm 0) (qw (gNm 1) jF))) ftT (xF (qd (qe 0) (qd (d2 ixD (qe 1) (dC (.int 0))) qx))) (R.map λx=>rd (x,c x)) [x,y]=.ok (prL (R.map λx=>(x,hd0 (c x))),[n,s])
 | [],x,y,_=>⟨x,y,rfl⟩
 | z::R,x,y,h=>by
  obtain ⟨n,s,j⟩:=qdf R (iu (.str z)) (iu (iD (c z))) λw b=>h w (aa _ b);have i1:ixD (iD (c z)) (.int 0)=.ok (.int (hd0 (c z))):=by
   have:=h z (ae ..);generalize c z=e at this ⊢;cases e with
   | nil=>exact absurd rfl this
   | cons v e=>simp [ixD,at0,hd0]
  have a:2<=sizeLine:=jA (by lia);refine ⟨n,s,?_⟩;show jn _ _ _ (.tup [.str z,iD (c z)]::_) _=.ok (.tup [.str z,.int (hd0 (c z))]::prL _,_);generalize iD (c z)=I at *;simp [jn,xx,jG,qw,jF,i1,j,a]
theorem qdg (w:jt ws) (hl:Vl p q) (a:1<=r) (i:r<=99) (g:qG ws.length r ns) (S:Sn (qp ws p q) W) (d:BO W (qp ws p q) r ns=iw):∃ l∈slv r (qp ws p q) ns,QF [Wd ws,Ld p q,.int r,nD ns]=.ok (.tup (prL l),[.non,.non,.non,.non]):=by
 have E:(qp ws p q).length=ws.length:=by simp [qp]
 have F:qG (qp ws p q).length r ns:=by rw [E]; exact g
 have e1:=qcK w hl a i g S;rw [d] at e1;have s:=zW w hl;have f:=uM S F.1 a i;have h:=qfZ S a F d;generalize qp ws p q=seen at *;rw [qhU] at f;have k:qD ((RT W).map λx=>(x,hd0 (ch W seen r ns x)))=RT W:=uO _ _;obtain ⟨u,t,C⟩:=qdf (RT W) iw iw h;have hd:=Gm (l:=(RT W).map λx=>(x,hd0 (ch W seen r ns x))) (by rw [k]; exact UX S);have n:((RT W).map λx=>(x,hd0 (ch W seen r ns x)))∈PV (ch W seen r ns) (RT W):=(wG _).mpr ⟨k,λe m=>by
  obtain ⟨x,hx,rfl⟩:=ah.mp m;have:=h x hx;show hd0 (ch W seen r ns x)∈ch W seen r ns x;generalize ch W seen r ns x=c at this ⊢;cases c with
  | nil=>exact absurd rfl this
  | cons y c=>exact ae ..⟩
 have b:=qdc S a F.1 (st:=(RT W).map λx=>(x,hd0 (ch W seen r ns x))) λy j=>by rw [k];obtain ⟨r1,r2⟩:=uP S j;exact mem_RT.mpr ⟨r1,by rw [r2]⟩
 have z:((RT W).map λx=>rd (x,ch W seen r ns x)).length<=sizeLine:=by have:=qf0 S;rw [ax];exact jA (by lia)
 refine ⟨_,qjX S a F d n,?_⟩;refine runD_ap.trans ?_;generalize (RT W).map (λx=>rd (x,ch W seen r ns x))=R at f C z;generalize prL (bl W r ns (LS seen) ((RT W).map λx=>(x,hd0 (ch W seen r ns x))))=V at b ⊢;generalize D.dct (bk ((RT W).map λx=>(x,hd0 (ch W seen r ns x))))=U at hd b;generalize prL ((RT W).map λx=>(x,hd0 (ch W seen r ns x)))=P at hd C;generalize nD ns=Y at *;generalize sD seen=Q at *;generalize Wd ws=W' at *;generalize Ld p q=L' at *;have o:=xq (own:=[]) (cap:=[]) (nt:=2) (fi:=jJ (qr [.vl,.vl,.vl] jY (qd (qe 4) (qd (qe 2) (qd (qe 3) qx))))) (ρ:=[iu W',iu L',iu (.int r),iu Y,iu Q,iw]) (ρ1:=[iu W',iu L',iu (.int r),iu Y,iu Q,iw]) (by simp [f,jw]) z C;simp [VX,qv,e1,s,o,jI,hd,b]
theorem qjZ {a b:List Int} (g:a.length=n) (d:b.length=n):(wr n a b).length=0↔a=b:=by
 constructor;·intro h;refine qfU (by lia) λi hi=>?_;refine bB λz=>?_;have:i∈wr n a b:=aG.mpr ⟨aL.mpr (by lia),decide_eq_true z⟩;rw [bg h] at this;cases this
 ·rintro rfl;unfold wr;simp
theorem qdh (hr:1<=r) (n:qG seen.length r ns) {fs:List Wk} (h:FW seen.length (okB r seen ns) seen.length [[]]=f0::fs) {l:Ln} (hl:jk l seen r=ns):f0=[]/\MD r seen ns f0 fs=ns:=by
 have o:okB r seen ns []=true:=by have:=Vk l seen hr;rw [hl] at this;exact this
 have a:f0.length=0:=by have:=(qc4 h).2.2 [] ⟨.nil,λk c=>by cases c⟩ o;simpa using this
 have f:f0=[]:=bg a;refine ⟨f,?_⟩;obtain ⟨⟨b,_,e⟩,_⟩:=Yd hr n h;have e1:=congrArg Prod.fst e;have i:=congrArg Prod.snd e;have e1:(wr seen.length (jk b seen r) ns).length=f0.length:=e1;have i:jk b seen r=MD r seen ns f0 fs:=i;rw [a] at e1;rw [<-i];exact (qjZ (QW b seen r) n.1).mp e1
noncomputable def ltL (a b:Ln):Bool:=ltZ (a.map (·.2)) (b.map (·.2))
theorem qdi:∀ (a b:List Int) (i j:Int),a.length=b.length->ltZ a b=iC->ltZ (a++[i]) (b++[j])=iC
 | [],[],_,_,_,h=>by simp [ltZ] at h
 | [],_::_,_,_,h,_=>by cases h
 | _::_,[],_,_,h,_=>by cases h
 | x::a,y::b,i,j,hl,h=>by
  unfold ltZ at h;show (if x=y then ltZ (a++[i]) (b++[j]) else decide (x < y))=iC;by_cases q:x=y;·rw [if_pos q] at h ⊢;exact qdi a b i j (by simpa using hl) h
  ·rw [if_neg q] at h ⊢;exact h
theorem Gy:∀ (a:List Int) (i j:Int),i < j->ltZ (a++[i]) (a++[j])=iC
 | [],i,j,h=>by show (if i=j then _ else decide (i < j))=iC;rw [if_neg (by lia)];exact decide_eq_true h
 | x::a,i,j,h=>by show (if x=x then ltZ (a++[i]) (a++[j]) else _)=iC;rw [if_pos rfl];exact Gy a i j h
theorem Yi (f g:Str->Int) (x:Str) (hx:f x < g x) (a:List Str):∀ L:List Str,(∀ y∈L,f y=g y)->ltZ ((L++x::a).map f) ((L++x::a).map g)=iC
 | [],_=>by show (if f x=g x then _ else decide (f x < g x))=iC;rw [if_neg (by lia)];exact decide_eq_true hx
 | y::L,h=>by show (if f y=g y then ltZ ((L++x::a).map f) ((L++x::a).map g) else _)=iC;rw [if_pos (h y (ae ..))];exact Yi f g x hx a L λz b=>h z (aa _ b)
theorem qf1 (f g:Str->Int):∀ R:List Str,ltZ (R.map f) (R.map g)=iC->∃ b x R2,R=b++x::R2/\(∀ y∈b,f y=g y)/\f x < g x
 | [],h=>by simp [ltZ] at h
 | x::R,h=>by
  have h:(if f x=g x then ltZ (R.map f) (R.map g) else decide (f x < g x))=true:=h;by_cases q:f x=g x
  ·rw [if_pos q] at h;obtain ⟨b,y,R2,e,h1,h2⟩:=qf1 f g R h;refine ⟨x::b,y,R2,by rw [e]; rfl,λz a=>?_,h2⟩;rcases ac.mp a with rfl | a;·exact q
   ·exact h1 z a
  ·rw [if_neg q] at h;exact ⟨[],x,R,rfl,(λy a=>by cases a),of_decide_eq_true h⟩
theorem qj0 (hl:∀ l∈rows,l.length=n) (h:rows.Pairwise λa b=>ltL a b=iC):(evS r x rows).Pairwise λa b=>ltL a b=true:=by
 unfold evS;rw [dF];constructor;·intro l _;refine dH.mpr (cY (λ{i j} e=>?_) e9);unfold ltL;rw [cH,cH];exact Gy _ _ _ (by show (i:Int) < (j:Int); lia)
 ·refine dZ (λ{a b} g f c=>?_) h;intro y D z d;obtain ⟨i,_,rfl⟩:=ah.mp D;obtain ⟨j,_,rfl⟩:=ah.mp d;unfold ltL at c ⊢;rw [cH,cH];exact qdi _ _ _ _ (by rw [ax,ax,hl a g,hl b f]) c
theorem qj1 (hr:1<=r):∀ (L:List Str) (n:Nat) (rows:List Ln),(∀ l∈rows,l.length=n)->(rows.Pairwise λa b=>ltL a b=iC)->(EV r rows L).Pairwise λa b=>ltL a b=iC
 | [],_,_,_,h=>h
 | x::L,n,rows,hl,h=>qj1 hr L (n+1) (evS r x rows) (λl h'=>by obtain ⟨c,d,i,_,_,rfl⟩:=(XC hr).mp h';rw [ai,hl c d];rfl) (qj0 hl h)
theorem qj2 (c:Str->List Int) (e:∀ x,(c x).Pairwise (· < ·)):∀ R:List Str,(PV c R).Pairwise λa b=>ltL a b=iC
 | []=>by simp [PV]
 | x::R=>by
  have j:=qj2 c e R;unfold PV;rw [dF];constructor
  ·intro s _;refine dH.mpr (cY (λ{a b} d=>?_) j);show (if s=s then ltZ (a.map (·.2)) (b.map (·.2)) else _)=iC;rw [if_pos rfl];exact d
  ·refine cY (λ{s t} h=>?_) (e x);intro y D z f;obtain ⟨a,_,rfl⟩:=ah.mp D;obtain ⟨b,_,rfl⟩:=ah.mp f;show (if s=t then _ else decide (s < t))=iC;rw [if_neg (by lia)];exact decide_eq_true h
theorem qf2:∀ a b:List Ln,(a.Pairwise λx y=>ltL x y=iC)->(b.Pairwise λx y=>ltL x y=iC)->(∀ x∈a,x∈b)->b.length<=a.length->a=b
 | [],b,_,_,_,hl=>(bg (by simpa using hl)).symm
 | x::a,[],_,_,h,_=>by have:=h x (ae ..); cases this
 | x::a,y::b,ha,hb,h,hl=>by
  have i:∀ l:Ln,ltL l l=iC->False:=λl q=>by have:=QV _ _ q;unfold ltL at q;rw [q] at this;cases this
  have n:∀ l m:Ln,ltL l m=iC->ltL m l=iC->False:=λl m q o=>by have:=QV _ _ q;unfold ltL at o;rw [o] at this;cases this
  have G:=aM.mp ha;have g:=aM.mp hb;by_cases q:x=y
  ·subst q;rw [qf2 a b G.2 g.2 (λz c=>by
    rcases ac.mp (h z (aa _ c)) with e | e;·exact (i x (by have:=G.1 z c; rw [e] at this; exact this)).elim
    ·exact e) (by simpa using hl)]
  ·have hx:x∈b:=by
    rcases ac.mp (h x (ae ..)) with e | e;·exact absurd e q
    ·exact e
   have f:=g.1 x hx;have j:(x::a).Nodup:=ha.imp λ{s t} d=>λe=>i s (by rw [<-e] at d; exact d);have:=zY j (b:=b) λz c=>by
    rcases ac.mp (h z c) with e | e
    ·rcases ac.mp c with k | k;·exact absurd (k.symm.trans e) q
     ·exact (n x y (by have:=G.1 z k; rw [e] at this; exact this) f).elim
    ·exact e
   rw [aq] at hl this;rw [aq] at hl
   lia
section
theorem Yj {l:Ln} (h:(qD l).Nodup):l.map (·.2)=(qD l).map (qY l):=by
 have e:=gH h
 conv=>lhs; rw [e]
 rw [bf];rfl
theorem qlA (S:Sn seen W) (hr:1<=r) (I:BO W seen r ns=iw) {l m:Ln} (hl:l∈PV (ch W seen r ns) (RT W)) (H:m∈PV (ch W seen r ns) (RT W)) (h:ltL l m=iC):ltL (bl W r ns (LS seen) l) (bl W r ns (LS seen) m)=true:=by
 have i:=qe0 hr I;obtain ⟨B,K⟩:=(wG _).mp hl;obtain ⟨A,J⟩:=(wG _).mp H;have t:(qD l).Nodup:=by rw [B]; exact UX S
 have f:(qD m).Nodup:=by rw [A]; exact UX S
 unfold ltL at h ⊢;rw [Yj t,Yj f,B,A] at h;obtain ⟨N,x,R2,E,h1,h2⟩:=qf1 (qY l) (qY m) (RT W) h;have b:x∈RT W:=by rw [E]; exact aP _ (ae ..)
 obtain ⟨k1,k2⟩:=mem_RT.mp b;have p:x∈LS seen:=S.w.sub x k1;obtain ⟨P,O,v⟩:=List.append_of_mem p;have o:(LS seen).Pairwise leS:=by unfold LS; exact qS _
 have L:(LS seen).Nodup:=UU _;have R:(RT W).Pairwise leS:=(qS _).filter _;have C:∀ (a:Ln),(bl W r ns (LS seen) a).map (·.2)=(LS seen).map (vO W r ns (qY a)):=λa=>by unfold bl;rw [bf];rfl
 rw [C,C,v];refine Yi _ _ x ?_ O P λy D=>?_;·obtain ⟨_,r2⟩:=uP S k1;rw [k2] at r2;unfold vO;rw [r2];show qY l x % r < qY m x % r;have G:=((i x _).mp (K _ (jW (by rw [B]; exact b)).1)).1;have c2:=((i x _).mp (J _ (jW (by rw [A]; exact b)).1)).1;rw [aU G.1 G.2,aU c2.1 c2.2];exact h2
 ·have k:y∈LS seen:=by rw [v]; exact bW _ D
  rw [v] at o L;have c:leS y x:=(cZ.mp o).2.2 y D x (ae ..);have s:y≠x:=(bZ.mp L).2.2 y D x (ae ..);have j:=S.a y k;obtain ⟨r1,r2⟩:=uP S j;have M:(qJ W y).1∈RT W:=mem_RT.mpr ⟨r1,by rw [r2]⟩;have d:leS (qJ W y).1 y:=S.m _ (jq j);have q:leS (qJ W y).1 x:=zw d c;have n:(qJ W y).1≠x:=λz=>s (zx c (by rw [<-z]; exact d));have u:(qJ W y).1∈N:=by
   have g:=M;rw [E] at g R;rcases ao.mp g with e | e;·exact e
   ·rcases ac.mp e with e | e;·exact absurd e n
    ·exact absurd (zx q ((aM.mp (cZ.mp R).2.1).1 _ e)) n
  unfold vO;rw [h1 _ u]
end
section
theorem qlB (hr:1<=r) (x:Str):(ch W seen r ns x).Pairwise (· < ·):=by
 unfold ch rW;split;·exact dH.mpr (cY (λ{a b} h=>by show (a:Int) < (b:Int); lia) e9)
 ·split
  ·refine aM.mpr ⟨λy D=>?_,by simp⟩;rw [ap.mp D]
   lia
  ·simp
theorem Yk (S:Sn seen W) (hr:1<=r) (n:qG seen.length r ns) (d:BO W seen r ns=iw):(EV0 r (LS seen)).filter (λl=>decide (jk l seen r=ns))=(PV (ch W seen r ns) (RT W)).map (bl W r ns (LS seen))/\HM W seen r ns=((PV (ch W seen r ns) (RT W)).length:Int):=by
 have H:HM W seen r ns=((PV (ch W seen r ns) (RT W)).length:Int):=by have:=Go (ch W seen r ns) (RT W) 1;rw [fL] at this;unfold HM;rw [d];exact this
 obtain ⟨k,_⟩:=qaw S hr n;refine ⟨(qf2 _ _ ?_ ((qj1 hr _ 0 [[]] (λl hl=>by rw [ap.mp hl]; rfl) (by simp)).filter _) (λx hx=>?_) ?_).symm,H⟩;·exact dH.mpr (dZ (λ{a b} c g h=>qlA S hr d c g h) (qj2 _ (λx=>qlB hr x) _))
 ·obtain ⟨l,hl,rfl⟩:=ah.mp hx;exact qjX S hr n d hl
 ·rw [ax];have:(((EV0 r (LS seen)).filter λl=>decide (jk l seen r=ns)).length:Int)=((PV (ch W seen r ns) (RT W)).length:Int):=by rw [<-k,H]
  exact eJ (Int.ofNat.inj this)
end
theorem qhV {γ:Type} (P:List β) (g:α->β->γ):∀ (c:List α) (i j:Nat) (a:α) (b:β),c[i]?=iu a->P[j]?=iu b->(c.flatMap λs=>P.map (g s))[i * P.length+j]?=iu (g a b)
 | [],i,j,a,b,h,_=>by simp at h
 | s::c,0,j,a,b,h,hj=>by
  have h:s=a:=by simpa using h
  subst h;have t:j < P.length:=(aC.mp hj).1;rw [cX,Nat.zero_mul,Nat.zero_add,cj (by rw [ax]; exact t),aF,hj];rfl
 | s::c,i+1,j,a,b,h,hj=>by have d:=qhV P g c i j a b (by simpa using h) hj;rw [cX,bY (by rw [ax,ig]; lia),ax,show (i+1) * P.length+j - P.length=i * P.length+j by rw [ig]; lia];exact d
noncomputable def dig (c:Str->List Int):List Str->Nat->Ln×Nat
 | [],a=>([],a)
 | x::R,a=>((x,((c x)[(dig c R a).2 % (c x).length]?).getD 0)::(dig c R a).1,(dig c R a).2 / (c x).length)
theorem qf3 (c:Str->List Int) (a:Nat):∀ R:List Str,(∀ x∈R,c x≠[])->(dig c R a).2=a / (PV c R).length/\(PV c R)[a % (PV c R).length]?=iu (dig c R a).1/\0 < (PV c R).length
 | [],_=>by simp [dig,PV,Nat.mod_one]
 | x::R,h=>by
  obtain ⟨h1,h2,i⟩:=qf3 c a R λy D=>h y (aa _ D);have k:0 < (c x).length:=dR.mpr (h x (ae ..));have n:(PV c (x::R)).length=(c x).length * (PV c R).length:=Gn (PV c R) (λs l=>(x,s)::l) (c x);have hi:(dig c R a).2 % (c x).length < (c x).length:=fm _ k;refine ⟨?_,?_,by rw [n]; exact Nat.mul_pos k i⟩;·show (dig c R a).2 / (c x).length=_;rw [n,h1,Nat.div_div_eq_div_mul,ii]
  ·rw [n,ii,Nat.mod_mul,Nat.add_comm,ii,<-h1];have:=qhV (PV c R) (λs l=>(x,s)::l) (c x) ((dig c R a).2 % (c x).length) (a % (PV c R).length) _ _ (aj hi) h2;show ((c x).flatMap λs=>(PV c R).map λl=>(x,s)::l)[_]?=_;rw [this];show iu ((x,(c x)[(dig c R a).2 % (c x).length])::(dig c R a).1)=iu ((x,((c x)[(dig c R a).2 % (c x).length]?).getD 0)::(dig c R a).1);rw [aj hi];rfl
noncomputable def stp (c:Str->List Int) (s:Ln×Nat) (x:Str):Ln×Nat:=(s.1++[(x,nI (c x) (s.2 % (c x).length))],s.2 / (c x).length)
theorem qdj (c:Str->List Int) (a:Nat):∀ R:List Str,R.reverse.foldl (stp c) ([],a)=((dig c R a).1.reverse,(dig c R a).2)
 | []=>rfl
 | x::R=>by rw [cC,eZ,qdj c a R];show ((dig c R a).1.reverse++[(x,nI (c x) ((dig c R a).2 % (c x).length))],(dig c R a).2 / (c x).length)=_;show _=(((x,((c x)[(dig c R a).2 % (c x).length]?).getD 0)::(dig c R a).1).reverse,_);rw [cC];rfl
abbrev qlC:qV:=(qM (Qh 2 (d2 ixD (qe 5) (d2 yb (qe 3) (d1 kC (qe 5)))) (qe 4)) (jl 3 (d2 gc (qe 3) (d1 kC (qe 5)))))
theorem qfa {cs:List Int} (e:cs≠[]) (i:cs.length<=99) {a:Nat} {acc:Ln} (hl:acc.length<=100) (hx:x∉qD acc) (u v:Option D):qlC [u,v,iu (.dct (bk acc)),iu (.int (a:Nat)),iu (.str x),iu (iD cs)]=.ok (.nx,[u,v,iu (.dct (bk (acc++[(x,nI cs (a % cs.length))]))),iu (.int (a / cs.length:Nat)),iu (.str x),iu (iD cs)]):=by
 have hp:0 < cs.length:=dR.mpr e;have n:kC (iD cs)=.ok (.int (cs.length:Int)):=by simp
 have h:(0:Int) < (cs.length:Int):=by lia
 have i1:ixD (iD cs) (.int ((a % cs.length:Nat):Int))=.ok (.int (nI cs (a % cs.length))):=Gg cs (a % cs.length) (fm _ hp);have f:(bk acc).length < sizeLine:=aK (by simp [bk]; lia) big;have t:KM (bk acc) (.inr x) (.int (nI cs (a % cs.length)))=bk (acc++[(x,nI cs (a % cs.length))]):=by
  unfold KM;have o:((bk acc).any λp=>decide (p.1=bu x))=false:=by rw [List.any_eq_false];intro p hp;obtain ⟨y,g,rfl⟩:=ah.mp hp;intro z;have z:=of_decide_eq_true z;exact hx (ah.mpr ⟨y,g,bu.inj z⟩)
  rw [o];simp [bk]
 have c:yb (.int (a:Int)) (.int (cs.length:Int))=.ok (.int ((a % cs.length:Nat):Int)):=by simp [yb,wR,h,e]
 have hd:gc (.int (a:Int)) (.int (cs.length:Int))=.ok (.int ((a / cs.length:Nat):Int)):=by
  have b:qgg (a:Int) (cs.length:Int):=by refine ⟨?_,?_⟩ <;> lia
  simp [gc,wR,b]
 generalize a % cs.length=k at c i1 t ⊢;generalize a / cs.length=d at hd ⊢;generalize iD cs=Y at n i1 ⊢;unfold qlC;rw [qcD (ρ1:=[u,v,iu (.dct (bk (acc++[(x,nI cs k)]))),iu (.int (a:Nat)),iu (.str x),iu Y]) (by simp only [Qh];simp [n,c,i1,KL,f,t])];simp [n,hd]
theorem Gz (u v:Option D):∀ (Q:List Str) (s:Ln×Nat) (y z:Option D),(∀ x∈Q,c x≠[]/\(c x).length<=99)->s.1.length+Q.length<=100->(qD s.1++Q).Nodup ->∃ b p,vF (jG 2 (qw (gNm 4) (qw (gNm 5) jF))) qlC (Q.map λx=>rd (x,c x)) [u,v,iu (.dct (bk s.1)),iu (.int (s.2:Nat)),y,z]=.ok (.nx,[u,v,iu (.dct (bk (Q.foldl (stp c) s).1)),iu (.int ((Q.foldl (stp c) s).2:Nat)),b,p])
 | [],s,y,z,_,_,_=>⟨y,z,rfl⟩
 | x::Q,s,y,z,hc,hl,hn=>by
  rw [aq] at hl;have hx:=hc x (ae ..);have e:x∉qD s.1:=λh=>(bZ.mp hn).2.2 x h x (ae ..) rfl;have t:=qfa hx.1 hx.2 (a:=s.2) (acc:=s.1) (by lia) e u v;have k:qD (stp c s x).1++Q=qD s.1++(x::Q):=by simp [stp,qD]
  obtain ⟨b,p,j⟩:=Gz u v Q (stp c s x) (iu (.str x)) (iu (iD (c x))) (λw f=>hc w (aa _ f)) (by simp [stp]; lia) (by rw [k]; exact hn);exact ⟨b,p,cJ (ua (d:=rd (x,c x)) (ρ1:=[u,v,iu (.dct (bk s.1)),iu (.int (s.2:Nat)),iu (.str x),iu (iD (c x))]) rfl t) j⟩
theorem qdk {R:List Str} (d:∀ x∈R,c x≠[]/\(c x).length<=99) (j:R.length<=100) (n:R.Nodup) {a:Nat}:xV [.lst (R.map λx=>rd (x,c x)),.int (a:Nat)]=.ok (.dct (bk (dig c R a).1.reverse),[.non,.non]):=by obtain ⟨s,p,e⟩:=Gz (iu (.lst (R.map λx=>rd (x,c x)))) (iu (.int (a:Nat))) R.reverse ([],a) iw iw (λx hx=>d x (dO.mp hx)) (by rw [fC]; simpa using j) (by show (([]:List Str)++R.reverse).Nodup; rw [ci]; exact (List.reverse_perm R).nodup_iff.mpr n);rw [qdj,List.map_reverse] at e;generalize R.map (λx=>rd (x,c x))=Q at *;refine runD_ap.trans ?_;simp only [bk,bU] at e;simp [xU,qv,kI,qlo,bk,e]
theorem XS:∀ {l:Ln},(qD l).Nodup->∀ {x:Str} {v w:Int},(x,v)∈l->(x,w)∈l->v=w
 | [],_,x,v,w,h,_=>by cases h
 | e::l,hn,x,v,w,h,h'=>by
  have r:=aN.mp (show (e.1::qD l).Nodup from hn);rcases ac.mp h with h1 | h1
  ·rcases ac.mp h' with h2 | h2;·rw [<-h1] at h2;exact (congrArg Prod.snd h2).symm
   ·exact absurd (show e.1∈qD l from ah.mpr ⟨(x,w),h2,by rw [<-h1]⟩) r.1
  ·rcases ac.mp h' with h2 | h2;·exact absurd (show e.1∈qD l from ah.mpr ⟨(x,v),h1,by rw [<-h2]⟩) r.1
   ·exact XS r.2 h1 h2
theorem qhW {l:Ln} (n:(qD l).Nodup) (hx:x∈qD l):qY l.reverse x=qY l x:=by
 have h1:=(jW hx).1;have h:x∈qD l.reverse:=by obtain ⟨e,i,q⟩:=ah.mp hx;exact ah.mpr ⟨e,dO.mpr i,q⟩
 have h2:=dO.mp (jW h).1;exact XS n h2 h1
theorem qj3 (w:jt ws) (hl:Vl p q) (h:1<=r) (s:r<=99) (v:qG ws.length r ns) (S:Sn (qp ws p q) W) {a:Nat} (o:(a:Int) < HM W (qp ws p q) r ns):∃ l,((EV0 r (LS (qp ws p q))).filter λl=>decide (jk l (qp ws p q) r=ns))[a]?=iu l/\kL [Wd ws,Ld p q,.int r,nD ns,.int (a:Nat)]=.ok (.tup (prL l),[.non,.non,.non,.non,.non]):=by
 have E:(qp ws p q).length=ws.length:=by simp [qp]
 have F:qG (qp ws p q).length r ns:=by rw [E]; exact v
 have h1:=Kb w hl h s v S;have h2:=jN (d:=.int (a:Nat)) trivial 0 (HM W (qp ws p q) r ns - 1);have k:Kh 0 (HM W (qp ws p q) r ns - 1) (.int (a:Nat))=true:=by
  simp [Kh]
  lia
 rw [k] at h2;have B:=zW w hl;have z:BO W (qp ws p q) r ns=none:=by
  cases q:BO W (qp ws p q) r ns with
  | none=>rfl
  | some c=>
   unfold HM at o;rw [q] at o;simp at o
   lia
 obtain ⟨C,H⟩:=Yk S h F z;have f:∀ x∈RT W,ch W (qp ws p q) r ns x≠[]/\(ch W (qp ws p q) r ns x).length<=99:=λx hx=>⟨qfZ S h F z x hx,qcL _ h s ns⟩
 have J:=qf0 S;have i:=uM S F.1 h s;have u:=qdk (c:=ch W (qp ws p q) r ns) (R:=RT W) f J (UX S) (a:=a);obtain ⟨_,d2,I⟩:=qf3 (ch W (qp ws p q) r ns) a (RT W) λx hx=>(f x hx).1;have G:a < (PV (ch W (qp ws p q) r ns) (RT W)).length:=by lia
 rw [Nat.mod_eq_of_lt G] at d2;have m:(dig (ch W (qp ws p q) r ns) (RT W) a).1∈PV (ch W (qp ws p q) r ns) (RT W):=aQ d2;obtain ⟨k1,k2⟩:=(wG _).mp m;have j:(qD (dig (ch W (qp ws p q) r ns) (RT W) a).1).Nodup:=by rw [k1]; exact UX S
 have t:∀ y∈kW W,(qJ W y).1∈qD (dig (ch W (qp ws p q) r ns) (RT W) a).1:=λy b=>by rw [k1];obtain ⟨r1,r2⟩:=uP S b;exact mem_RT.mpr ⟨r1,by rw [r2]⟩
 have g:=qdc S h F.1 (st:=(dig (ch W (qp ws p q) r ns) (RT W) a).1.reverse) λy b=>by obtain ⟨e,A,q⟩:=ah.mp (t y b);exact ah.mpr ⟨e,dO.mpr A,q⟩
 have n:bl W r ns (LS (qp ws p q)) (dig (ch W (qp ws p q) r ns) (RT W) a).1.reverse=bl W r ns (LS (qp ws p q)) (dig (ch W (qp ws p q) r ns) (RT W) a).1:=by unfold bl;refine cf λy b=>?_;unfold vO;rw [qhW j (t y (S.a y b))]
 rw [n] at g;refine ⟨_,by rw [C,aF,d2]; rfl,?_⟩;rw [qhU] at i;refine runD_ap.trans ?_;generalize D.lst ((RT W).map λx=>rd (x,ch W (qp ws p q) r ns x))=Z at i u;generalize D.dct (bk (dig (ch W (qp ws p q) r ns) (RT W) a).1.reverse)=V at u g;generalize D.tup (prL (bl W r ns (LS (qp ws p q)) (dig (ch W (qp ws p q) r ns) (RT W) a).1))=U at g ⊢;generalize nD ns=Y at h1 i g ⊢;simp [xW,qv,h1,wR,h2,B,i,u,g]
noncomputable def ixZ (c:List Int) (v:Int):Nat:=c.findIdx λa=>decide (a=v)
theorem GA (v:Int):∀ c:List Int,∃ b,Qo 7 (.int v) (c.map D.int)=iu b
 | []=>⟨_,rfl⟩
 | a::c=>by obtain ⟨b,h⟩:=GA v c;exact ⟨(a == v)||b,by rw [aD,Qo,h]; simp [eqN,eqS]⟩
theorem qdl {c:List Int} {v:Int} (h:v∈c):Jr (iD c) (.int v)=.ok (.int (ixZ c v))/\c[ixZ c v]?=iu v:=by
 obtain ⟨b,e⟩:=GA v c;have m:((c.map D.int).map λd=>eqN 7 d (.int v) == iu iC)=c.map λa=>decide (a=v):=by rw [bf];refine cf λa _=>?_;by_cases z:a=v <;> simp [eqN,eqS,z]
 have i:∃ x,x∈c/\(λa=>decide (a=v)) x=true:=⟨v,h,decide_eq_true rfl⟩
 have f:(c.map λa=>decide (a=v)).findIdx? id=iu (ixZ c v):=by rw [List.findIdx?_map];exact List.findIdx?_eq_some_of_exists i
 refine ⟨by simp only [Jr,e,m,f],?_⟩;have t:ixZ c v < c.length:=List.findIdx_lt_length_of_exists i;rw [aj t];have:(λa=>decide (a=v)) c[ixZ c v]=true:=List.findIdx_getElem (w:=t);rw [of_decide_eq_true this]
noncomputable def plc (c:Str->List Int) (v:Str->Int) (R:List Str) (t:Nat):Nat:=R.foldl (λt x=>t * (c x).length+ixZ (c x) (v x)) t
theorem qf4 (c:Str->List Int) (v:Str->Int):∀ (R:List Str) (m:Ln) (t:Nat),m∈PV c R->(∀ e∈m,v e.1=e.2)->∃ i,(PV c R)[i]?=iu m/\plc c v R t=t * (PV c R).length+i
 | [],m,t,hm,_=>⟨0,by have:m=[]:=ap.mp hm;rw [this];rfl,by simp [plc,PV]⟩
 | x::R,m,t,hm,hv=>by obtain ⟨s,h,h2⟩:=cu.mp (show m∈(c x).flatMap λs=>(PV c R).map λl=>(x,s)::l from hm);obtain ⟨l,hl,rfl⟩:=ah.mp h2;have hx:v x=s:=hv (x,s) (ae ..);obtain ⟨_,f⟩:=qdl h;obtain ⟨j,d,b⟩:=qf4 c v R l (t * (c x).length+ixZ (c x) s) hl (λe a=>hv e (aa _ a));refine ⟨ixZ (c x) s * (PV c R).length+j,qhV (PV c R) (λs l=>(x,s)::l) (c x) _ j s l f d,?_⟩;have n:(PV c (x::R)).length=(c x).length * (PV c R).length:=Gn (PV c R) (λs l=>(x,s)::l) (c x);show plc c v R (t * (c x).length+ixZ (c x) (v x))=_;rw [hx,b,n,Nat.add_mul,Nat.mul_assoc,Nat.add_assoc]
noncomputable def plZ (c:Str->List Int) (v:Str->Int) (R:List Str) (t:Int):Int:=R.foldl (λt x=>t * ((c x).length:Int)+(ixZ (c x) (v x):Int)) t
theorem GB (c:Str->List Int) (v:Str->Int):∀ (R:List Str) (t:Nat),plZ c v R (t:Int)=(plc c v R t:Int)
 | [],t=>rfl
 | x::R,t=>by have j:=GB c v R (t * (c x).length+ixZ (c x) (v x));rw [Int.natCast_add,Int.natCast_mul] at j;exact j
abbrev plB:qV:=(jl 8 (d2 vK (d2 Yw (qe 8) (d1 kC (qe 10))) (dM qko Jr (qe 10) (d2 ixD (qe 7) (qe 9)))))
theorem qhX {a b d e f g h:Option D} {B I:D} {t n v:Int} {z:Str} (h1:kC I=.ok (.int n)) (h2:Jr I (.int v)=.ok (.int i)) (j:ixD B (.str z)=.ok (.int v)) (c:qko I=iC) (l:CMul t n):plB [a,b,d,e,f,g,h,iu B,iu (.int t),iu (.str z),iu I]=.ok (.nx,[a,b,d,e,f,g,h,iu B,iu (.int (t * n+i)),iu (.str z),iu I]):=by simp [dM,c,h1,h2,j,Yw,wR,l]
theorem qlD {t n:Int} (a:0<=n) (h:n<=99):CMul t n:=.inr ⟨by lia,by lia⟩
theorem qf5 {P:qV} {S:Int->Option D->Option D->Sl} (h:∀ t x y z I,jG 2 (qw (gNm 9) (qw (gNm 10) jF)) (.tup [.str z,I]) (S t x y)=.ok (S t (iu (.str z)) (iu I))) {Q:Str->Prop} (m:∀ z,Q z->∀ t,P (S t (iu (.str z)) (iu (iD (c z))))=.ok (.nx,S (t * ((c z).length:Int)+(ixZ (c z) (v z):Int)) (iu (.str z)) (iu (iD (c z))))):∀ (R:List Str) (t:Int) (x y:Option D),(∀ z∈R,Q z) ->∃ n s,vF (jG 2 (qw (gNm 9) (qw (gNm 10) jF))) P (R.map λx=>rd (x,c x)) (S t x y)=.ok (.nx,S (plZ c v R t) n s)
 | [],t,x,y,_=>⟨x,y,rfl⟩
 | z::R,t,x,y,hR=>by obtain ⟨n,s,j⟩:=qf5 h m R (t * ((c z).length:Int)+(ixZ (c z) (v z):Int)) (iu (.str z)) (iu (iD (c z))) (λw a=>hR w (aa _ a));refine ⟨n,s,cJ ?_ j⟩;have e1:=h t x y z (iD (c z));have i:=m z (hR z (ae ..)) t;rw [aD];show vF _ P (.tup [.str z,iD (c z)]::_) _=_;generalize jG 2 (qw (gNm 9) (qw (gNm 10) jF))=G at *;simp [vF,e1,i]
theorem qhY {l:Ln} (a b d e f g h:Option D) (R:List Str) (t:Nat) (x y:Option D) (j:∀ z∈R,qY l z∈c z/\(c z).length<=99/\z∈qD l):∃ n s,vF (jG 2 (qw (gNm 9) (qw (gNm 10) jF))) plB (R.map λx=>rd (x,c x)) [a,b,d,e,f,g,h,iu (.dct (bk l)),iu (.int (t:Nat)),x,y]=.ok (.nx,[a,b,d,e,f,g,h,iu (.dct (bk l)),iu (.int (plc c (qY l) R t:Nat)),n,s]):=by obtain ⟨n,s,q⟩:=qf5 (P:=plB) (c:=c) (v:=qY l) (S:=λt x y=>[a,b,d,e,f,g,h,iu (.dct (bk l)),iu (.int t),x,y]) (λt x y z I=>rfl) (Q:=λz=>qY l z∈c z/\(c z).length<=99/\z∈qD l) (λz i t=>qhX (by simp) (qdl i.1).1 (qau i.2.2) rfl (qlD (by lia) (by lia))) R (t:Int) x y j;rw [GB] at q;exact ⟨n,s,q⟩
variable {ca:Str->Addr}
section
theorem qdm (T:Told ws p q r ns) {ks:List Int} (h:vI [Wd ws,Ld p q,.int r,d]=.ok (nD ks,[.non,.non,.non,.non])):va ca [Wd ws,Ld p q,.int r,nD ns,d]=.ok (.bl (decide (ks=ns)),[.non,.non,.non,.non,.non]):=by have h1:=Wv T.w T.l T.r0 (by have:=T.r9; lia) T.n;have h2:=Gq ks ns;refine runD_ap.trans ?_;generalize sD (qp ws p q)=Z at *;generalize Wd ws=W at *;generalize Ld p q=L at *;generalize nD ks=K at *;generalize nD ns=N at *;simp [yA,qh3,qv,h1,h,h2]
end
section
structure Line (ws:List Str) (p q r:Int) (l:Ln):Prop where
 k:qD l=LS (qp ws p q)
 v:∀ e∈l,0<=e.2/\e.2 < r
theorem qhZ {l:Ln}:∀ d∈prL l,qlx d:=λd hd=>by
 obtain ⟨x,_,rfl⟩:=ah.mp hd;refine ⟨trivial,λxs e y D=>?_⟩;cases e;rcases ac.mp D with rfl | D;·trivial
 ·rw [ap.mp D];trivial
theorem Line.pw {l:Ln} (h:Line ws p q r l):(qD l).Pairwise (λx y=>leS x y/\x≠y):=by rw [h.k];exact (qS _).and (UU _)
theorem Line.ok {l:Ln} (T:Told ws p q r ns) (h:Line ws p q r l):OkW r l:=λx hx=>by obtain ⟨c,d,e⟩:=qjB T.w p q x.1 (by rw [<-h.k]; exact ah.mpr ⟨x,hx,rfl⟩);have:=h.v x hx;exact ⟨by rw [e]; exact qfG d,this.1,this.2⟩
theorem Line.len {l:Ln} (T:Told ws p q r ns) (h:Line ws p q r l):l.length<=12/\0 < l.length:=by
 have h1:=qcB T.w p q;have e:l.length=(LS (qp ws p q)).length:=by rw [<-h.k]; simp [qD]
 refine ⟨by lia,?_⟩;have b:=T.w.1;rw [e];obtain ⟨w,a⟩:=cz (show 0 < ws.length by lia);exact bD (mem_LS.mpr ⟨_,ah.mpr ⟨w,a,rfl⟩,.inl rfl⟩)
theorem qfb (T:Told ws p q r ns) {l:Ln} (h:OkW r l) (hp:(qD l).Pairwise (λx y=>leS x y/\x≠y)) (n:l.length<=30):vI [Wd ws,Ld p q,.int r,.tup (prL l)]=if (LS (qp ws p q)).all (λx=>decide (x∈qD l))=iC then .ok (.tup (qdp l (qp ws p q) r),[.non,.non,.non,.non]) else .exc "NoWorths" nn4:=by
 have c:XM l=true:=by unfold XM;rw [Gx];exact XQ _ hp
 have d:Kh 1 99 (.int r)=true:=by
  have:=T.r0;have:=T.r9;simp [Kh]
  lia
 have hi:=(Yh (ds:=prL l) qhZ (by simp [prL]; lia) r).2 l rfl h;rw [c] at hi;exact XR T.w T.l d h c hi
theorem GC (T:Told ws p q r ns) {l:Ln} (h:Line ws p q r l):vI [Wd ws,Ld p q,.int r,.tup (prL l)]=.ok (nD (jk l (qp ws p q) r),[.non,.non,.non,.non]):=by rw [qfb T (h.ok T) h.pw (by have:=(h.len T).1; lia),if_pos (by rw [aR];intro x hx;rw [h.k];exact decide_eq_true hx)];unfold qdp jk nD;rw [bf];rfl
abbrev ql8 (ws:List Str) (p q r:Int) (ns:List Int):List Ln:=(EV0 r (LS (qp ws p q))).filter λl=>decide (jk l (qp ws p q) r=ns)
theorem qdn (T:Told ws p q r ns) (S:Sn (qp ws p q) W) {l:Ln} (hd:l∈ql8 ws p q r ns):∃ i:Nat,(ql8 ws p q r ns)[i]?=iu l/\xh ca [Wd ws,Ld p q,.int r,nD ns,.tup (prL l)]=.ok (.int (i:Nat),[.non,.non,.non,.non,.non]):=by
 have hr:=T.r0;have G:r<=99:=by have:=T.r9; lia
 have E:(qp ws p q).length=ws.length:=by simp [qp]
 have g:qG (qp ws p q).length r ns:=by rw [E]; exact T.n
 obtain ⟨O,hq⟩:=aG.mp hd;obtain ⟨k,K⟩:=(zb hr).mp O;have M:Line ws p q r l:=⟨k,K⟩
 have h1:=qdm (ca:=ca) T (GC T M);rw [decide_eq_true (of_decide_eq_true hq)] at h1;have C:BO W (qp ws p q) r ns=none:=(qaw S hr g).2.mpr (bD hd);obtain ⟨I,_⟩:=Yk S hr g C;have t:=qe0 hr C;have hd2:l∈(PV (ch W (qp ws p q) r ns) (RT W)).map (bl W r ns (LS (qp ws p q))):=by rw [<-I]; exact hd
 obtain ⟨m,y,f⟩:=ah.mp hd2;obtain ⟨m1,J⟩:=(wG _).mp y;have j:(qD m).Nodup:=by rw [m1]; exact UX S
 have h:∀ z∈RT W,qY l z=qY m z/\qY m z∈ch W (qp ws p q) r ns z/\z∈qD l:=λz a=>by
  have A:qY m z∈ch W (qp ws p q) r ns z:=J _ (jW (by rw [m1]; exact a)).1;obtain ⟨v,N⟩:=mem_RT.mp a;obtain ⟨_,r2⟩:=uP S v;rw [N] at r2;have L:z∈LS (qp ws p q):=by rw [<-XI S];exact (qI _).mem_iff.mpr v
  refine ⟨?_,A,by rw [k]; exact L⟩;rw [<-f];unfold bl;rw [kz (vO W r ns (qY m)) L];unfold vO;rw [r2];obtain ⟨⟨U,R⟩,_⟩:=(t _ _).mp A;show qY m z % r=qY m z;exact aU U R
 obtain ⟨i,hi,b⟩:=qf4 (ch W (qp ws p q) r ns) (qY l) (RT W) m 0 y (λe s=>by
  have a:e.1∈RT W:=by rw [<-m1]; exact ah.mpr ⟨e,s,rfl⟩
  rw [(h e.1 a).1];exact XS j (jW (ah.mpr ⟨e,s,rfl⟩)).1 s)
 rw [Nat.zero_mul,Nat.zero_add] at b;refine ⟨i,by show ((EV0 r (LS (qp ws p q))).filter λl=>decide (jk l (qp ws p q) r=ns))[i]?=iu l;rw [I,aF,hi];exact congrArg iu f,?_⟩;have h2:=zW T.w T.l;have u:=uL (l:=qp ws p q) (by have:=T.w5; lia);have Q:=qcz (l:=l) (by rw [k]; exact UU _);have H:=uM S g.1 hr G;rw [qhU] at H;have o:kC (.tup (prL l))=.ok (.int (LS (qp ws p q)).length):=by rw [<-k];simp [prL,qD]
 have d:kC (.lst ((LS (qp ws p q)).map D.str))=.ok (.int (LS (qp ws p q)).length):=by simp
 obtain ⟨x',F,lp⟩:=qhY (c:=ch W (qp ws p q) r ns) (l:=l) (iu (Wd ws)) (iu (Ld p q)) (iu (.int r)) (iu (nD ns)) (iu (.tup (prL l))) (iu (.bl iC)) (iu (sD (qp ws p q))) (RT W) 0 iw iw (λz a=>by obtain ⟨Y,X,V⟩:=h z a;exact ⟨by rw [Y]; exact X,qcL _ hr G ns,V⟩);rw [b] at lp;have u:jp [sD (qp ws p q)]=.ok (.lst ((LS (qp ws p q)).map D.str),[.non]):=u;generalize (RT W).map (λx=>rd (x,ch W (qp ws p q) r ns x))=RR at *;generalize sD (qp ws p q)=Z at *;generalize D.lst ((LS (qp ws p q)).map D.str)=LL at *;generalize D.tup (prL l)=P at *;generalize D.dct (bk l)=B at *;generalize Wd ws=W' at *;generalize Ld p q=L' at *;generalize nD ns=N' at *;refine runD_ap.trans ?_;rw [show ((0:Nat):Int)=0 from rfl] at lp;simp [gz,qv,h1,h2,o,u,d,neD,eqN,eqS,Q,kI,H,jw,lp]
end
theorem Yl {k:Nat}:∀ ds:List D,(∀ d∈ds,eqN k d d=iu iC)->wS (eqN k) ds ds=iu iC
 | [],_=>rfl
 | d::ds,h=>by have e:=h d (ae ..);have j:=Yl ds λd' hd=>h d' (aa _ hd);simp [wS,e,j]
theorem qh0 (l:Ln):neD (.tup (prL l)) (.tup (prL l))=.ok (.bl iE):=by
 have e:=Yl (k:=7) (prL l) λd hd=>by obtain ⟨x,_,rfl⟩:=ah.mp hd;simp [eqN,wS,eqS]
 simp [neD,eqN,e]
theorem qlE (g:Wk):eqD (gD g) (.tup [])=.ok (.bl (decide (g=[]))):=by
 cases g with
 | nil=>rfl
 | cons k g=>simp [eqD,eqN,inL,wS]
theorem qlF (b:Bool):neD (.bl b) (.bl b)=.ok (.bl iE):=by cases b <;> rfl
def qlG (ca:Str->Addr):Prop:=∀ x∈CS,∀ y∈CS,ca x=ca y->x=y
theorem YR (T:Told ws p q r ns) (S:Sn (qp ws p q) W):∃ (fr:Bool) (b m:D) (g:Wk),(fr=iC↔0 < (slv r (qp ws p q) ns).length)/\qar [Wd ws,Ld p q,.int r,nD ns]=.ok (b,[.non,.non,.non,.non])/\qfm b .non=.ok (.bl fr) /\
  xl [Wd ws,Ld p q,.int r,nD ns]=.ok (gD g,[.non,.non,.non,.non])/\eqD (gD g) (.tup [])=.ok (.bl fr)/\QO [Wd ws,Ld p q,.int r,nD ns]=.ok (m,[.non,.non,.non,.non])/\eqD m (nD ns)=.ok (.bl fr)/\(fr=iC↔BO W (qp ws p q) r ns=iw):=by
 have hr:=T.r0;have s:r<=99:=by have:=T.r9; lia
 have j:r<=18:=by have:=T.r9; lia
 have E:(qp ws p q).length=ws.length:=by simp [qp]
 have a:qG (qp ws p q).length r ns:=by rw [E]; exact T.n
 obtain ⟨_,c2⟩:=qaw S hr a;have C:=qcK T.w T.l hr s T.n S;obtain ⟨k,x,y,u⟩:=qda T.w T.l hr j T.n S;obtain ⟨f0,H,B,v⟩:=XE T.w T.l hr s T.n S;rw [<-E] at B;have o:=qe5 hr a B;obtain ⟨⟨A,f,t⟩,_⟩:=Yd hr a y;have d:jk A (qp ws p q) r=MD r (qp ws p q) ns k x:=congrArg Prod.snd t;have i:MD r (qp ws p q) ns k x=ns↔0 < (slv r (qp ws p q) ns).length:=by
  constructor;·intro e;exact bD (aG.mpr ⟨f,decide_eq_true (d.trans e)⟩)
  ·intro h;obtain ⟨l,hl⟩:=cz h;exact (qdh hr a y (of_decide_eq_true (aG.mp hl).2)).2
 have e1:=qlE f0;have G:=Gq (MD r (qp ws p q) ns k x) ns;refine ⟨decide (0 < (slv r (qp ws p q) ns).length),_,_,f0,decide_eq_true_iff,C,?_,v,?_,u,?_,decide_eq_true_iff.trans c2.symm⟩
 ·by_cases h:0 < (slv r (qp ws p q) ns).length;·rw [c2.mpr h,decide_eq_true h];rfl
  ·rw [decide_eq_false h];cases z:BO W (qp ws p q) r ns with
   | none=>exact absurd (c2.mp z) h
   | some c=>rfl
 ·rw [e1];congr 2;exact decide_eq_decide.mpr o
 ·rw [G];congr 2;exact decide_eq_decide.mpr i
theorem qj4 (hca:qlG ca) (c:List Int):qeP ca [scr c]=.ok (.bl iC,[.non]):=by
 refine runD_ap.trans ?_;obtain ⟨ws,p,q,r,ns,X,T,ht1,g1⟩:=XB c [] (by simp);have hr:=T.r0;have j:r<=99:=by have:=T.r9; omega
 have E:(qp ws p q).length=ws.length:=by simp [qp]
 have hn:qG (qp ws p q).length r ns:=by rw [E]; exact T.n
 obtain ⟨W,S⟩:=qls T.w p q;obtain ⟨o,_⟩:=qaw S hr hn;obtain ⟨fr,b,m,g,u,B,J,hg,I,x,H,C⟩:=YR T S;have y:=Kb T.w T.l hr j T.n S;have f:gtD (.int (HM W (qp ws p q) r ns)) (.int 0)=.ok (.bl fr):=by show Out.ok (D.bl (decide ((0:Int) < HM W (qp ws p q) r ns)))=_;congr 2;rw [Bool.eq_iff_iff,decide_eq_true_iff,u,o];exact Int.natCast_pos
 have A:=qlF fr;unfold qhp;rw [show qv qho [scr c]=[iu (scr c),iw,iw,iw,iw,iw,iw,iw,iw,iw] from rfl];refine (qE (ρ1:=[iu (scr c),iu (.lst []),iw,iw,iw,iw,iw,iw,iw,iw]) (by simp)).trans ?_;refine (qE (ρ1:=[iu (scr c),iu (.lst X),iw,iw,iw,iw,iu (Wd ws),iu (Ld p q),iu (.int r),iu (nD ns)]) (by simp [g1,jG,qw,jF])).trans ?_;have v:fr=iC->∃ l,∃ i:Nat,QF [Wd ws,Ld p q,.int r,nD ns]=.ok (.tup (prL l),[.non,.non,.non,.non])/\xh ca [Wd ws,Ld p q,.int r,nD ns,.tup (prL l)]=.ok (.int (i:Nat),[.non,.non,.non,.non,.non])/\(i:Int) < HM W (qp ws p q) r ns/\kL [Wd ws,Ld p q,.int r,nD ns,.int (i:Nat)]=.ok (.tup (prL l),[.non,.non,.non,.non,.non]):=λh=>by
  obtain ⟨l,hl,e⟩:=qdg T.w T.l hr j T.n S (C.mp h);obtain ⟨i,hi,e2⟩:=qdn (ca:=ca) T S (l:=l) hl;have d:(i:Int) < HM W (qp ws p q) r ns:=by rw [o];exact Int.ofNat_lt.mpr (aC.mp hi).1
  obtain ⟨l',s,K⟩:=qj3 T.w T.l hr j T.n S (a:=i) d;have:l'=l:=aI.inj (s.symm.trans hi);rw [this] at K;exact ⟨l,i,e,e2,d,K⟩
 have t:fr=iC->∃ l,kL [Wd ws,Ld p q,.int r,nD ns,.int (HM W (qp ws p q) r ns - 1)]=.ok (.tup (prL l),[.non,.non,.non,.non,.non])/\va ca [Wd ws,Ld p q,.int r,nD ns,.tup (prL l)]=.ok (.bl iC,[.non,.non,.non,.non,.non]):=λh=>by
  have hp:=u.mp h;have z:HM W (qp ws p q) r ns - 1=(((slv r (qp ws p q) ns).length - 1:Nat):Int):=by have:HM W (qp ws p q) r ns=((slv r (qp ws p q) ns).length:Int):=o;omega
  obtain ⟨l,hl,e⟩:=qj3 T.w T.l hr j T.n S (a:=(slv r (qp ws p q) ns).length - 1) (by rw [<-z]; omega);rw [z];obtain ⟨m1,Z⟩:=aG.mp (aQ hl);refine ⟨l,e,(qdm T (GC T ⟨((zb hr).mp m1).1,((zb hr).mp m1).2⟩)).trans ?_⟩;rw [Z]
 clear C o u;generalize gD g=G at *;generalize HM W (qp ws p q) r ns=M at *;generalize nD ns=N at *;generalize Wd ws=W' at *;generalize Ld p q=L' at *;cases fr with
 | false=>simp [y,B,J,f,hg,I,A,x,H]
 | true=>
  obtain ⟨l,i,R,Q,O,L⟩:=v rfl;obtain ⟨k,V,U⟩:=t rfl;have Y:=qh0 l;generalize D.tup (prL l)=P at *;generalize D.tup (prL k)=P2 at *;have l1:leD (.int 0) (.int (i:Nat))=.ok (.bl iC):=by show Out.ok (D.bl (decide ((0:Int)<=(i:Nat))))=_;rw [decide_eq_true (Int.natCast_nonneg i)]
  have F:ltD (.int (i:Nat)) (.int M)=.ok (.bl iC):=by show Out.ok (D.bl (decide (((i:Nat):Int) < M)))=_;rw [decide_eq_true O]
  have hs:Za (.int M) (.int 1)=.ok (.int (M - 1)):=rfl;simp [y,B,J,f,hg,I,A,x,H,R,Q,yd,l1,F,L,Y,hs,V,U]
end Kx
namespace Kx
open PySem PySem.Spec PyProof.Rows L2 L2.D2
variable {us:List iB} {P:List iB->Prop}
theorem ql9 (hl:us.length=0) (h:P []):P us:=List.length_eq_zero_iff.mp hl ▸ h
theorem qj5 {n:Nat} (hl:us.length=n+1):∃ a l,us=a::l/\l.length=n:=by
 cases us with
 | nil=>cases hl
 | cons a l=>exact ⟨a,l,rfl,Nat.succ.inj hl⟩
theorem qma (hl:us.length=1) (h:∀ a,P [a]):P us:=by obtain ⟨a,l,rfl,e⟩:=qj5 hl;exact ql9 (P:=λl=>P (a::l)) e (h a)
theorem qmb (hl:us.length=2) (h:∀ a b,P [a,b]):P us:=by obtain ⟨a,l,rfl,e⟩:=qj5 hl;exact qma (P:=λl=>P (a::l)) e (h a)
theorem qmc (hl:us.length=3) (h:∀ a b c,P [a,b,c]):P us:=by obtain ⟨a,l,rfl,e⟩:=qj5 hl;exact qmb (P:=λl=>P (a::l)) e (h a)
theorem qmd (hl:us.length=4) (h:∀ a b c d,P [a,b,c,d]):P us:=by obtain ⟨a,l,rfl,e⟩:=qj5 hl;exact qmc (P:=λl=>P (a::l)) e (h a)
theorem qmF (hl:us.length=5) (h:∀ a b c d e,P [a,b,c,d,e]):P us:=by obtain ⟨a,l,rfl,e⟩:=qj5 hl;exact qmd (P:=λl=>P (a::l)) e (h a)
variable {K:Frag} {h:Heap} {mg:Str->Option iB}
theorem qh1 (X:K.In h) (G:h.Ns mainGlobals mg) {x:Str} {st:Stmt} {ps:List Str} {f:Addr} {oc:iB} {od an:Option Addr} {osl:Array (Option iB)} {kV doc pm cdv ct:iB}
  (a:nsIn K mainGlobals x=iu (iu (.ref f))) (l:K.lookup f=iu ⟨oc,od,.func (cK x x (uZ st) (wI st) (qm st) .none kV doc pm an cdv ct),osl⟩) (c:codeIn K cdv x=iC) (k:keepIn K (.ref f)=iC)
  (d:∀ (kV doc pm:iB) (an:Option Addr) (cdv ct:iB) (us:List iB),us.length=ps.length->bindArgs (cK x x (uZ st) (wI st) (qm st) .none kV doc pm an cdv ct) ⟨us,[]⟩=pure (ps.zip us)):jZ K mg x st ps:=
 ⟨f,_,qaV l c k,lB X G a,(qaV l c k).binds d⟩
variable {x:Str}
theorem qdo {l:List Str} {f:Str->Addr} (nd:(l.map f).Nodup) {y:Str} (hx:x∈l) (D:y∈l) (e:f x=f y):x=y:=by obtain ⟨i,hi,rfl⟩:=fz.mp hx;obtain ⟨j,G,rfl⟩:=fz.mp D;have q:=(fQ (h₀:=by simpa using hi) (h₁:=by simpa using G) nd).mp (show (l.map f)[i]'(by simpa using hi)=(l.map f)[j]'(by simpa using G) by simpa using e);subst q;rfl
noncomputable def caT (T:List (Str×Addr)) (x:Str):Addr:=(T.lookup x).getD 0
noncomputable def qfc (K:Frag) (C:List Addr) (W:Addr):Bool:=decide C.Nodup&&C.all λc=>xcB K c&&decide (bT K (.ref c) (.ref W)=iu iC)&&decide (cy K (.ref c) (.type "ValueError")=iu iC)&&dX K c bmV "ValueError.__new__"&&C.all λd=>decide (cy K (.ref c) (.ref d)=iu (decide (c=d)))
theorem qfd {C:List Addr} {W:Addr} (h:qfc K C W=iC):C.Nodup/\∀ c∈C,xcB K c=iC/\bT K (.ref c) (.ref W)=iu iC/\cy K (.ref c) (.type "ValueError")=iu iC/\dX K c bmV "ValueError.__new__"=iC/\∀ d∈C,cy K (.ref c) (.ref d)=iu (decide (c=d)):=by unfold qfc at h;rw [aV,aR] at h;refine ⟨of_decide_eq_true h.1,λc a=>?_⟩;have q:=h.2 c a;simp only [aV,decide_eq_true_eq,aR] at q;exact ⟨q.1.1.1.1,q.1.1.1.2,q.1.1.2,q.1.2,q.2⟩
noncomputable def ZS:List Str:=["all", "bool", "dict", "enumerate", "int", "isinstance", "len", "list", "max", "min", "range", "reversed", "set", "sorted", "str", "tuple"]
noncomputable def zsB (K:Frag):Bool:=ZS.all λx=>decide (nsIn K mainGlobals x=iu iw)
theorem xB (h:zsB K=iC) (x:Str) (hx:x∈ZS:=by decide +kernel):nsIn K mainGlobals x=iu none:=of_decide_eq_true (aR.mp h x hx)
theorem qj6 {c:Str} (h:c∈CS):c = "NoWords"\/c = "NoLook"\/c = "NoNumbers"\/c = "NoRoom"\/c = "NoWorths"\/c = "Never"\/c = "NoPlace":=by simpa [CS] using h
theorem qlH (X:K.In h) (G:h.Ns mainGlobals mg) {CW l k j i C g f:Addr}  {E t a M S:Tok}
    (L:nsIn K mainGlobals "WordError"=iu (iu (.ref CW)))
    (J:nsIn K mainGlobals "NoWords"=iu (iu (.ref l)))
    (I:nsIn K mainGlobals "NoLook"=iu (iu (.ref k)))
    (H:nsIn K mainGlobals "NoNumbers"=iu (iu (.ref j)))
    (B:nsIn K mainGlobals "NoRoom"=iu (iu (.ref i)))
    (A:nsIn K mainGlobals "NoWorths"=iu (iu (.ref C)))
    (w:nsIn K mainGlobals "Never"=iu (iu (.ref g)))
    (v:nsIn K mainGlobals "NoPlace"=iu (iu (.ref f)))
    (z:zsB K=iC)
    (c_LEAST_PLACE:nsIn K mainGlobals "LEAST_PLACE"=iu (iu (.int (-3) E)))
    (c_MOST_LETTERS:nsIn K mainGlobals "MOST_LETTERS"=iu (iu (.int 6 t)))
    (c_MOST_PLACE:nsIn K mainGlobals "MOST_PLACE"=iu (iu (.int 2 a)))
    (c_MOST_ROOM:nsIn K mainGlobals "MOST_ROOM"=iu (iu (.int 99 M)))
    (c_MOST_WORDS:nsIn K mainGlobals "MOST_WORDS"=iu (iu (.int 6 S)))
    (ex:qfc K [l,k,j,i,C,g,f] CW=iC)
    (s:bT K (.ref C) (.ref C)=iu iC)
     :
    Zt K mg (λx=>.ref (caT [("WordError",CW),("NoWords",l),("NoLook",k),("NoNumbers",j),("NoRoom",i),("NoWorths",C),("Never",g),("NoPlace",f)] x)) (caT [("WordError",CW),("NoWords",l),("NoLook",k),("NoNumbers",j),("NoRoom",i),("NoWorths",C),("Never",g),("NoPlace",f)])/\qlG (caT [("WordError",CW),("NoWords",l),("NoLook",k),("NoNumbers",j),("NoRoom",i),("NoWorths",C),("Never",g),("NoPlace",f)]):=by
  obtain ⟨nd,m⟩:=qfd ex;generalize hT:([("WordError",CW),("NoWords",l),("NoLook",k),("NoNumbers",j),("NoRoom",i),("NoWorths",C),("Never",g),("NoPlace",f)]:List (Str×Addr))=T;have W:caT T "WordError"=CW:=by subst hT; kernel_rfl
  have e0:caT T "NoWords"=l:=by subst hT; kernel_rfl
  have e1:caT T "NoLook"=k:=by subst hT; kernel_rfl
  have u:caT T "NoNumbers"=j:=by subst hT; kernel_rfl
  have r:caT T "NoRoom"=i:=by subst hT; kernel_rfl
  have p:caT T "NoWorths"=C:=by subst hT; kernel_rfl
  have q:caT T "Never"=g:=by subst hT; kernel_rfl
  have R:caT T "NoPlace"=f:=by subst hT; kernel_rfl
  have o:CS.map (caT T)=[l,k,j,i,C,g,f]:=by unfold CS;simp only [aD,bU,e0,e1,u,r,p,q,R]
  have n:∀ c∈CS,caT T c∈[l,k,j,i,C,g,f]:=λc b=>o ▸ ah.mpr ⟨c,b,rfl⟩;refine ⟨⟨⟨λc b=>rfl,λc b=>?_,λc b=>(m _ (n c b)).1,λc b d hd=>(m _ (n c b)).2.2.2.2 _ (n d hd),λc b=>(m _ (n c b)).2.2.1⟩,λc b=>?_,λc b=>(m _ (n c b)).2.2.2.1,λx hx=>absurd hx (by simp [FS]),iS X G (xB z "all"),iS X G (xB z "bool"),iS X G (xB z "dict"),iS X G (xB z "enumerate"),iS X G (xB z "int"),iS X G (xB z "isinstance"),iS X G (xB z "len"),iS X G (xB z "list"),iS X G (xB z "max"),iS X G (xB z "min"),iS X G (xB z "range"),iS X G (xB z "reversed"),iS X G (xB z "set"),iS X G (xB z "sorted"),iS X G (xB z "str"),iS X G (xB z "tuple"),⟨_,lB X G c_LEAST_PLACE⟩,⟨_,lB X G c_MOST_LETTERS⟩,⟨_,lB X G c_MOST_PLACE⟩,⟨_,lB X G c_MOST_ROOM⟩,⟨_,lB X G c_MOST_WORDS⟩,?sX4⟩,λx hx y D e=>?_⟩
  case sX4=>rw [p]; exact s
  · show bT K (.ref (caT T c)) (.ref (caT T "WordError"))=iu iC;rw [W];exact (m _ (n c b)).2.1
  · rcases qj6 b with rfl | rfl | rfl | rfl | rfl | rfl | rfl;· rw [e0]; exact lB X G J
    · rw [e1]; exact lB X G I
    · rw [u]; exact lB X G H
    · rw [r]; exact lB X G B
    · rw [p]; exact lB X G A
    · rw [q]; exact lB X G w
    · rw [R]; exact lB X G v
  ·
    rw [<-o] at nd;exact qdo nd hx D e
structure Tx (K:Frag) (mg:Str->Option iB) (ca:Str->Addr):Prop where
 x_is_between:jZ K mg "is_between" wc we
 x_check_room:jZ K mg "check_room" wg ["thing"]
 x_is_numbers:jZ K mg "is_numbers" wk wl
 x_check_numbers:jZ K mg "check_numbers" kn ko
 x_is_letter:jZ K mg "is_letter" ue ["thing"]
 x_is_word:jZ K mg "is_word" zE ["thing"]
 x_is_words:jZ K mg "is_words" yM ["thing"]
 x_check_words:jZ K mg "check_words" vw ["thing"]
 x_is_look:jZ K mg "is_look" zH ["thing"]
 x_check_look:jZ K mg "check_look" wo ["thing"]
 x_letter_at:jZ K mg "letter_at" uh ui
 x_pairs:jZ K mg "pairs" VN VO
 x_told_pairs:jZ K mg "told_pairs" wp wq
 x_is_odd:jZ K mg "is_odd" Qw ["walk"]
 x_comes_to:jZ K mg "comes_to" yN yO
 x_bars:jZ K mg "bars" ZM ZN
 x_letters_of:jZ K mg "letters_of" wt ["seen"]
 x_other_letter:jZ K mg "other_letter" kQ kR
 x_spread:jZ K mg "spread" Qy Qz
 x_ways_of:jZ K mg "ways_of" zK ["seen"]
 x_circles_of:jZ K mg "circles_of" wu wv
 x_first_odd:jZ K mg "first_odd" ur ["circles"]
 x_bar_of:jZ K mg "bar_of" QB QC
 x_bar:jZ K mg "bar" qeA qeB
 x_half:jZ K mg "half" ZR ZT
 x_root_worths:jZ K mg "root_worths" vy vz
 x_roots_of:jZ K mg "roots_of" yR yS
 x_worths_from:jZ K mg "worths_from" vB vC
 x_worths:jZ K mg "worths" QD QE
 x_is_worth:jZ K mg "is_worth" yT yU
 x_is_worths:jZ K mg "is_worths" ux uy
 x_check_worths:jZ K mg "check_worths" kT kU
 x_within:jZ K mg "within" QG QH
 x_numbered:jZ K mg "numbered" yW yX
 x_is_telling:jZ K mg "is_telling" wx wy
 x_how_many:jZ K mg "how_many" yZ xa
 x_starts_at:jZ K mg "starts_at" uB uC
 x_worths_at:jZ K mg "worths_at" uD uE
 x_place_of:jZ K mg "place_of" xf xg
 x_can_be_left_out:jZ K mg "can_be_left_out" jL jM
 x_one_longer:jZ K mg "one_longer" wA wB
 x_fewest:jZ K mg "fewest" QJ QK
 x_left_out:jZ K mg "left_out" xi xj
 x_least_without:jZ K mg "least_without" kx ky
 x_mended:jZ K mg "mended" QM QN
 x_Lcell_at:jZ K mg "_law_cell_at" xm kX
 x_Lmixed:jZ K mg "_law_mixed" QP wE
 x_Ldraw:jZ K mg "_law_draw" Wg uF
 x_Lpick:jZ K mg "_law_pick" Wh uG
 x_Lword:jZ K mg "_law_word" Wj uH
 x_Lwords:jZ K mg "_law_words" QQ wF
 x_Llook:jZ K mg "_law_look" Wo uI
 x_Lat:jZ K mg "_law_at" qeK zQ
 x_Lseen:jZ K mg "_law_seen" Wp uJ
 x_Lletters:jZ K mg "_law_letters" xo kY
 x_Lby:jZ K mg "_law_by" qeN zR
 x_Ltold:jZ K mg "_law_told" Wr uK
variable {ca:Str->Addr}
theorem qj7 {e0:Ev} {f:Addr} {fd:j6} (Z:ZtE e0 ca) (T:Tx e0.K e0.mg ca) (F:Fun e0.K "law" "law" qco f fd):FnOk e0.P e0.w e0.K e0.mg e0.base (CXk e0.P e0.w) 10 f fd ["_law_script"] (spD e0.K e0.cv [.val] .sh (qeP ca)):=by have o:=VF Z T.x_is_between ;have i:=VH Z T.x_check_room o;have B:=VJ Z T.x_is_numbers o;have p:=Qj Z T.x_check_numbers B;have r:=UA Z T.x_is_letter ;have W:=qan Z T.x_is_word r;have Q:=YU Z T.x_is_words W;have z:=Kq Z T.x_check_words Q;have X:=qap Z T.x_is_look o;have C:=VM Z T.x_check_look X;have H:=UD Z T.x_letter_at ;have c:=qez Z T.x_pairs z C H;have s:=VP Z T.x_told_pairs i p c;have n:=qb5 Z T.x_is_odd ;have d:=YW Z T.x_comes_to ;have o_bars:=qhi Z T.x_bars d n;have b:=VR Z T.x_letters_of ;have u:=JD Z T.x_other_letter ;have o_spread:=qb7 Z T.x_spread u;have j:=qaq Z T.x_ways_of b o_spread;have h:=VU Z T.x_circles_of ;have k:=UF Z T.x_first_odd n;have q:=qb8 Z T.x_bar_of n o_bars j h k;have Y:=qjq Z T.x_bar s q;have o_half:=qhk Z T.x_half ;have x:=Kr Z T.x_root_worths d o_half;have a:=YX Z T.x_roots_of j h k x;have m:=Ks Z T.x_worths_from d j;have o_worths:=qcc Z T.x_worths c Y a m;have O:=YZ Z T.x_is_worth o r;have I:=UH Z T.x_is_worths O;have v:=JJ Z T.x_check_worths I;have o_within:=qce Z T.x_within ;have M:=Xa Z T.x_numbered i v c b o_within;have g:=VZ Z T.x_is_telling M s;have y:=Xb Z T.x_how_many c Y a;have G:=UJ Z T.x_starts_at ;have E:=UK Z T.x_worths_at o c a m y G;have J:=Xc Z T.x_place_of c b a g;have t:=zN Z T.x_can_be_left_out q;have A:=Wa Z T.x_one_longer ;have D:=qcf Z T.x_fewest t A;have N:=Xd Z T.x_left_out s D;have L:=xX Z T.x_can_be_left_out q;have l:=Qk Z T.x_least_without L;have o_mended:=qcg Z T.x_mended s D l;have V:=Xf Z T.x_Lcell_at ;have o_Lmixed:=qch Z T.x_Lmixed V;have e:=qeD Z T.x_Ldraw o_Lmixed;have S:=qeF Z T.x_Lpick e;have o_Lword:=qeH Z T.x_Lword e S;have o_Lwords:=qcl Z T.x_Lwords e S o_Lword;have o_Llook:=qeJ Z T.x_Llook e;have o_Lat:=qjt Z T.x_Lat ;have R:=qeM Z T.x_Lseen o_Lat;have U:=Xn Z T.x_Lletters R;have o_Lby:=qjv Z T.x_Lby R;have o_Ltold:=qeO Z T.x_Ltold e o_Lwords o_Llook U o_Lby;exact qjx Z F Y o_worths g y E J N o_mended o_Ltold
def qfe (K:Frag):Sp:=λvs H Q _=>∃ (a:Addr) (ns:List Int),vs=[.ref a]/\SqL K H a (ns.map V.int)/\∀ H',Q (.bl iC) H'
theorem GD {F:Hp}:∀ ns:List Int,IsL K F (ns.map V.int) (ns.map D.int)
 | []=>.nil
 | n::ns=>.cons (.int n) (GD ns)
theorem qlI {cv:Str->iB} (h:qlG ca) (vs:List V) (H:Hp) (Q:VK) (E:XK) (q:qfe K vs H Q E):spD K cv [.val] .sh (qeP ca) vs H Q E:=by obtain ⟨a,ns,rfl,c,hq⟩:=q;refine ⟨H,[scr ns],Same.refl _,⟨.lst c (GD ns),trivial⟩,cP,?_⟩;rw [qj4 h ns];intro v F' H' m k z y;have y:Is K F' v (.bl iC):=y;cases y;exact hq H'
abbrev NsX (K:Frag) (x:Str) (f:Addr):Prop:=nsIn K mainGlobals x=iu (iu (.ref f))
abbrev CdX (K:Frag) (v:iB) (x:Str):Prop:=codeIn K v x=iC
abbrev KpX (K:Frag) (f:Addr):Prop:=keepIn K (.ref f)=iC
abbrev LkX (K:Frag) (x:Str) (st:Stmt) (f:Addr) (oc:iB) (od an:Option Addr) (sl:Array (Option iB)) (kV d pm cd ct:iB):Prop:=K.lookup f=iu ⟨oc,od,.func (cK x x (uZ st) (wI st) (qm st) .none kV d pm an cd ct),sl⟩
def Dx (K:Frag) (x:Str) (st:Stmt):Prop:=∃ (f:Addr) (oc:iB) (od an:Option Addr) (sl:Array (Option iB)) (kV d pm cd ct:iB),NsX K x f/\LkX K x st f oc od an sl kV d pm cd ct/\CdX K cd x/\KpX K f
theorem qT (X:K.In h) (G:h.Ns mainGlobals mg) {st:Stmt} {ps:List Str} (q:Dx K x st) (d:∀ (kV doc pm:iB) (an:Option Addr) (cdv ct:iB) (us:List iB),us.length=ps.length->bindArgs (cK x x (uZ st) (wI st) (qm st) .none kV doc pm an cdv ct) ⟨us,[]⟩=pure (ps.zip us):=by
  intro _ _ _ _ _ _ us hl;first | refine ql9 (P:=λus=>bindArgs _ ⟨us,[]⟩=pure (g8 _ us)) hl ?_ | refine qma (P:=λus=>bindArgs _ ⟨us,[]⟩=pure (g8 _ us)) hl ?_ | refine qmb (P:=λus=>bindArgs _ ⟨us,[]⟩=pure (g8 _ us)) hl ?_ | refine qmc (P:=λus=>bindArgs _ ⟨us,[]⟩=pure (g8 _ us)) hl ?_ | refine qmd (P:=λus=>bindArgs _ ⟨us,[]⟩=pure (g8 _ us)) hl ?_ | refine qmF (P:=λus=>bindArgs _ ⟨us,[]⟩=pure (g8 _ us)) hl ?_
  all_goals intros; rfl):jZ K mg x st ps:=by
 obtain ⟨f,oc,od,an,sl,kV,b,pm,cd,ct,a,l,c,k⟩:=q;exact qh1 X G a l c k d
theorem qj8 {l:fX} {w:iI} {fa:Addr} (X:K.In h) (G:h.Ns mainGlobals mg) (hfa:mg "law"=iu (.ref fa)) {CW C0 C1 C2 C3 C C5 C6:Addr} {a t b M S:Tok}
  (aW:nsIn K mainGlobals "WordError"=iu (iu (.ref CW)))
  (a0:nsIn K mainGlobals "NoWords"=iu (iu (.ref C0)))
  (a1:nsIn K mainGlobals "NoLook"=iu (iu (.ref C1)))
  (a2:nsIn K mainGlobals "NoNumbers"=iu (iu (.ref C2)))
  (a3:nsIn K mainGlobals "NoRoom"=iu (iu (.ref C3)))
  (a4:nsIn K mainGlobals "NoWorths"=iu (iu (.ref C)))
  (a5:nsIn K mainGlobals "Never"=iu (iu (.ref C5)))
  (a6:nsIn K mainGlobals "NoPlace"=iu (iu (.ref C6)))
  (zz:zsB K=iC)
  (c_LEAST_PLACE:nsIn K mainGlobals "LEAST_PLACE"=iu (iu (.int (-3) a)))
  (c_MOST_LETTERS:nsIn K mainGlobals "MOST_LETTERS"=iu (iu (.int 6 t)))
  (c_MOST_PLACE:nsIn K mainGlobals "MOST_PLACE"=iu (iu (.int 2 b)))
  (c_MOST_ROOM:nsIn K mainGlobals "MOST_ROOM"=iu (iu (.int 99 M)))
  (c_MOST_WORDS:nsIn K mainGlobals "MOST_WORDS"=iu (iu (.int 6 S)))
  (ex:qfc K [C0,C1,C2,C3,C,C5,C6] CW=iC)
  (g:bT K (.ref C) (.ref C)=iu iC)
  (q0:Dx K "is_between" wc)
  (q1:Dx K "check_room" wg)
  (q2:Dx K "is_numbers" wk)
  (q3:Dx K "check_numbers" kn)
  (q4:Dx K "is_letter" ue)
  (q5:Dx K "is_word" zE)
  (q6:Dx K "is_words" yM)
  (q7:Dx K "check_words" vw)
  (q8:Dx K "is_look" zH)
  (q9:Dx K "check_look" wo)
  (q10:Dx K "letter_at" uh)
  (q11:Dx K "pairs" VN)
  (q12:Dx K "told_pairs" wp)
  (q13:Dx K "is_odd" Qw)
  (q14:Dx K "comes_to" yN)
  (q15:Dx K "bars" ZM)
  (q16:Dx K "letters_of" wt)
  (q17:Dx K "other_letter" kQ)
  (q18:Dx K "spread" Qy)
  (q19:Dx K "ways_of" zK)
  (q20:Dx K "circles_of" wu)
  (q21:Dx K "first_odd" ur)
  (q22:Dx K "bar_of" QB)
  (q23:Dx K "bar" qeA)
  (q24:Dx K "half" ZR)
  (q25:Dx K "root_worths" vy)
  (q26:Dx K "roots_of" yR)
  (q27:Dx K "worths_from" vB)
  (q28:Dx K "worths" QD)
  (q29:Dx K "is_worth" yT)
  (q30:Dx K "is_worths" ux)
  (q31:Dx K "check_worths" kT)
  (q32:Dx K "within" QG)
  (Y:Dx K "numbered" yW)
  (W:Dx K "is_telling" wx)
  (V:Dx K "how_many" yZ)
  (U:Dx K "starts_at" uB)
  (R:Dx K "worths_at" uD)
  (P:Dx K "place_of" xf)
  (O:Dx K "can_be_left_out" jL)
  (N:Dx K "one_longer" wA)
  (L:Dx K "fewest" QJ)
  (J:Dx K "left_out" xi)
  (I:Dx K "least_without" kx)
  (D:Dx K "mended" QM)
  (B:Dx K "_law_cell_at" xm)
  (A:Dx K "_law_mixed" QP)
  (z:Dx K "_law_draw" Wg)
  (y:Dx K "_law_pick" Wh)
  (x:Dx K "_law_word" Wj)
  (u:Dx K "_law_words" QQ)
  (r:Dx K "_law_look" Wo)
  (p:Dx K "_law_at" qeK)
  (o:Dx K "_law_seen" Wp)
  (n:Dx K "_law_letters" xo)
  (m:Dx K "_law_by" qeN)
  (j:Dx K "_law_told" Wr)
  (i:Dx K "law" qco) :
  ∃ fd:j6,(∀ (s:iF) (v:iB),lI s fd ⟨[v],[]⟩ [("_law_script",v)])/\∀ base:Heap,K.In base->base.Ns mainGlobals mg->FnOk l.prog w K mg base (CXk l.prog w) 10 fa fd ["_law_script"] (qfe K):=by
 obtain ⟨f57,_,_,_,_,_,_,_,_,_,f,c,d,k⟩:=i;have e:=hfa.symm.trans (lB X G f);cases e;obtain ⟨Z,cok⟩:=qlH X G aW a0 a1 a2 a3 a4 a5 a6 zz c_LEAST_PLACE c_MOST_LETTERS c_MOST_PLACE c_MOST_ROOM c_MOST_WORDS ex g;have T:Tx K mg (caT [("WordError",CW),("NoWords",C0),("NoLook",C1),("NoNumbers",C2),("NoRoom",C3),("NoWorths",C),("Never",C5),("NoPlace",C6)]):=⟨qT X G q0,qT X G q1,qT X G q2,qT X G q3,qT X G q4,qT X G q5,qT X G q6,qT X G q7,qT X G q8,qT X G q9,qT X G q10,qT X G q11,qT X G q12,qT X G q13,qT X G q14,qT X G q15,qT X G q16,qT X G q17,qT X G q18,qT X G q19,qT X G q20,qT X G q21,qT X G q22,qT X G q23,qT X G q24,qT X G q25,qT X G q26,qT X G q27,qT X G q28,qT X G q29,qT X G q30,qT X G q31,qT X G q32,qT X G Y,qT X G W,qT X G V,qT X G U,qT X G R,qT X G P,qT X G O,qT X G N,qT X G L,qT X G J,qT X G I,qT X G D,qT X G B,qT X G A,qT X G z,qT X G y,qT X G x,qT X G u,qT X G r,qT X G p,qT X G o,qT X G n,qT X G m,qT X G j⟩
 have F:=qaV (st:=qco) c d k;exact ⟨_,λs v=>.of_eq rfl,λbase _ _=>(qj7 (e0:=⟨l.prog,w,K,mg,base,_⟩) Z T F).imp λvs H Q E q=>qlI cok vs H Q E q⟩
theorem qmG {l:fX} {q:iH} {loose:List Str} {XP:(Str->Option iB)->Heap->Prop} {YP:iI->Heap->Prop} {d:DefRec} {K:lj->Frag} (b:l.most=iu 63) (hdf:d.params.defaults=[])
  (Y:∀ (w:iI) (h:Heap),YP w h->(K w.params).In h)
  (F:∀ (w:iI) (mg:Str->Option iB) (fa:Addr) (h:Heap),(K w.params).In h->h.Ns mainGlobals mg->mg d.name=iu (.ref fa) ->∃ fd:j6,(∀ (s:iF) (u:iB),lI s fd ⟨[u],[]⟩ [("_law_script",u)])/\∀ base:Heap,(K w.params).In base->base.Ns mainGlobals mg->FnOk l.prog w (K w.params) mg base (CXk l.prog w) 10 fa fd ["_law_script"] (qfe (K w.params))) :
  PySem.W.WalkO q loose XP YP l.row.toRowW d [] (λf vs=>iq f vs):=
 L2.qgt (n:=63) (k:=10) (x := "_law_script") (CX:=λw=>CXk l.prog w) (sp:=λw=>qfe (K w.params)) b (by decide) hdf ⟨rfl,by decide,by decide⟩ Y F (λ_ _ a ns hl _ S=>⟨a,ns,rfl,S,λ_=>rfl⟩) λw H s e s' z=>by obtain ⟨ex,T,C,H',_,_,_,_,_,_,_,_,_,_,q⟩:=z;exact q.elim
end Kx
open PySem PySem.W PyProof.Rows
set_option maxRecDepth 100000 in
set_option maxHeartbeats 0 in
theorem PySem.Challenge.cw_lookwords_k30_whole_bars_and_counts_holds : PySem.Challenge.rw_lookwords_k30_whole_bars_and_counts.Holds := by
  refine Kx.hd ?_;k_fill
  refine Kx.qmG (l := PySem.Challenge.rw_lookwords_k30_whole_bars_and_counts) rfl rfl (λw h Y => PySem.W.kIn_of Y) ?F
  case F =>
    intro w mg fa h X G g;refine' Kx.qj8 X G g ?_ ?_ ?_ ?_ ?_ ?_ ?_ ?_ ?_ ?_ ?_ ?_ ?_ ?_ ?_ ?_ ?_ ?_ ?_ ?_ ?_ ?_ ?_ ?_ ?_ ?_ ?_ ?_ ?_ ?_ ?_ ?_ ?_ ?_ ?_ ?_ ?_ ?_ ?_ ?_ ?_ ?_ ?_ ?_ ?_ ?_ ?_ ?_ ?_ ?_ ?_ ?_ ?_ ?_ ?_ ?_ ?_ ?_ ?_ ?_ ?_ ?_ ?_ ?_ ?_ ?_ ?_ ?_ ?_ ?_ ?_ ?_ ?_ ?_;all_goals try first | k_is | exact ⟨_, _, _, _, _, _, _, _, _, _, by unfold Kx.NsX; k_is, by unfold Kx.LkX; k_is, by unfold Kx.CdX; k_is, by unfold Kx.KpX; k_is⟩ | kernel_rfl
