import PyProof.Rows.All
import KE.KTryMore
import KE.KDictOf
import KE.KItem
import KE.KRevSl
import PySem.Challenge.RW_lookwords_k23_whole_asked_books
open Option renaming some→iD,none→iF
open PySem renaming wpAny_bind→iE,Value→iG,Shared→iJ,wpAny_pure→iK,Program→iL,World→iM,wpAny_newObj_type→iN,Around→iO,wpAny_callSpecial?_slot→iP,wpAny_call_entry→iQ,sizeLine_eq→iR,wpAny_field→iS,wpAny_seqItems→iT,SetTable→iV,wpAny_askSetting→iW,wpAny_holding→iX,wpAny_setState_of→iY,codeAny_builtin→iZ,Keyword→i5,FuncData→i6,wpAny_truthy_bool→i7,wpAny_mono→i8,NameKind→i9,wpAny_attempt→j3,wpAny_setField→j4,wpAny_setField_rec→j5,OsState→j6,wpAny_rule→j8,call_meets→j9,IsPair→lb,wpAny_setEntries_of→lc,wpAny_isInstance→lf,wpAny_Call_Name_kw→lh,builtinLookup_eq_fast→li,codeAny_mono→lj,wpAny_typeOf→ll,Scope→lm,plainId_quiet→lp,wpAny_passesOwn→lr,fits_of_scanBound→lu,isSubtype_type→lv,IsPart→lw,typeLookup_type→lx,Params→lz,wpAny_fieldsOf→lA,IsZip→lB,wpAny_standAt→lC,wpAny_onRaise→lD,concat_meets→lF,GenState→lG,wpAny_of_eq→lH,DictEntry→lI,BindsTo→lJ,Paired→lK,Result→lL,wpAny_call→lM
open Bool renaming false→iH,true→iI
open PySem.W renaming mg_none_of→iU,boot_heap→j7,mg_of→lq,boot_drawn→lE
open PyProof.Rows renaming AllBare→ly,tail_any→lN
open PySem.Heap renaming get?_push_of_some→aa,get?_push_size→aq,lt_size→aE,get?_update_self→bt,size_push→bH,SameBut→bM,get?_update_other→c9,ExtBut→g6
open List renaming length_cons→ac,getElem?_cons_zero→ae,getElem?_cons_succ→af,mem_cons→ah,mem_cons_of_mem→ai,getElem?_set_ne→aj,length_nil→am,replicate→ao,length_append→ap,size_toArray→aw,map_cons→ax,mem_cons_self→ay,getElem?_eq_some_iff→aA,getElem?_set_self→aC,mem_map→aF,length_map→aH,getElem?_map→aJ,mem_singleton→aK,getElem?_eq_getElem→aM,set_cons_zero→aN,set_cons_succ→aO,map_nil→aP,cons_append→aR,nil_append→aS,getElem?_replicate→aY,mem_append→ba,nodup_cons→bb,mem_append_right→bc,all_eq_true→bh,not_mem_nil→bi,append_nil→bj,getElem?_append_right→bn,Nodup→bq,filterMap_cons→bu,length_set→bx,range→bE,pairwise_cons→bG,nodup_nil→bI,findIdx?_eq_some_iff_getElem→bJ,replicate_succ→bL,getElem?_append_left→bS,foldl_cons→bY,mem_of_getElem?→cf,flatten_cons→ci,lookup→cm,getElem?_eq_none_iff→cq,length_replicate→cr,lookup_cons→cw,mem_append_left→cx,getElem?_eq_none→cJ,length_range→cQ,eq_of_mem_replicate→cT,replicate_zero→cX,mem_range→cY,of_mem_zip→df,find?_cons→dg,zip→dh,any_cons→di,append_assoc→dA,getElem?_of_mem→dG,getElem_mem→dI,filter_cons→dL,drop_eq_getElem_cons→dN,length_pos_iff→dQ,pairwise_singleton→ei,reverse_cons→eI,length_singleton→eY,getElem?_toArray→eZ,length_take→ff,mem_iff_getElem→fm,mem_filter→fq,map_append→fy,filter_eq_self→fA,mem_filterMap→fF,nodup_append→fJ,all_cons→fL,getElem_inj→fO,drop_length→fQ,map_map→fS,forIn_cons→fX,filter_map→fY,forIn_nil→f9,length→iA
open PySem.Str renaming ofString→au,length→h8
open Nat renaming le_refl→aG,ne_of_lt→aL,lt_of_lt_of_le→aQ,zero_le→bA,le_trans→bR,lt_irrefl→cD,le_of_lt→cN,ne_of_gt→dH,zero_add→dJ,lt_trans→eJ,lt_succ_of_lt→eU,le_add_right→fg,le_of_eq→fB,sub_self→fC,lt_succ_self→fP,lt_asymm→iq,le_succ→iu
open Or renaming inl→aI,inr→cF
open Option renaming some→aU,map_some→bf,map_eq_some_iff→bQ,bind_eq_some_iff→cy,getD_some→cE,bind_some→c8
open PySem.W renaming findIn→aV,hideAll→bp,exmOne→bP,emptyDict→bV,fnOf→bX,kitOne→cj,instObj→cz,kia_one→cK,hideAll_none→cM,isFn→cP,hideAll_get→cW,plainGet→cZ,hasDictIn→dt,excIn→dU,of_hideAll→dZ,callWith_K→d8,plainOver→et,cellsFrom_some→ez,plainGet_of→fz,lookIn→fG,methodObj→fI,takerIn→fU,makesIn→fV,OpenLaw→fW
open Bool renaming false_eq_true→aX,and_eq_true→aZ,false_ne_true→cu,not_false→fH,not_true→fM
open Ne renaming symm→be
open PySem.Value renaming bool→bg,ref→br,none→bT,isStrOf_shape→cV,builtin→dj,isInt→fj,int→fD,type→fE,isStrOf→fK,str→g8
open PySem.Builtin.SmallTypes renaming nextOf→bo,ownedTupleIsFree→bW
open PySem renaming mem_of_lookup→bv,Within→ic,call→iC
open PySem.Heap.SameBut renaming update→bw
open PySem.SetTable renaming below→bz,grown→c7,laid→hZ
open PySem.Builtin.Slice renaming sliceAdjust→bB,slicePlaces→dO
open Array renaming getElem?_eq_getElem→bD,length_toList→cC,getElem?_toList→cI,getElem?_eq_none→da,mk→fZ
open PySem.NameKind renaming free→bK,cell→dS
open PySem.F renaming plainAttrs_list→bO,called_set→bZ,slot_tuple_iterator_next→ck,slot_list_index→c6,slot_zip_next→dm,slot_tuple_getattribute→dP,args_tuple_add_2→dR,slot_list_getattribute→dW,entry_tuple_add→d9,slot_tuple_add→eG
open False renaming elim→bU
open PySem.Around renaming under_plainId→cg,under→im
open ForInStep renaming yield→cA
open PySem.Builtin.Frozenset renaming updateFrom→cB
open List.Perm renaming refl→cG
open PySem.Builtin.List renaming listTooLong→cR
open PySem.Builtin.Tuple renaming tupleExact→cS
open PyProof.Rows renaming slot_tuple_getitem→cU,callWith_type1→dq
open Int renaming emod_lt_of_pos→db,emod_nonneg→dY
open List.Pairwise renaming nil→dw
open PySem.Builtin.Str renaming strSliceIndices→dB
open PySem.PassesOwn renaming leaving→dD
open PySem.Obj renaming mapSeq→dF,putSet→ia
open Sum renaming inr→dX,inl→fh
open True renaming intro→d7
open PyProof.Rows.F renaming plain_set_update_loop→eh
open PySem.Calls renaming callWith_builtin→eH,evalArgs_plain→fk
open Function renaming comp_def→eX
open PySem.Shared renaming TypeIs→fN
open PySem.Txt renaming join→fR
open PySem.Paired renaming length→g9
open PySem.W.KF renaming type_class→hJ
open PySem.SeqAt renaming EqAt→h9
open PySem.Code renaming isFrame→ip
open PyProof.Rows.IsTup renaming new→ir
open Prod renaming ext→iB
noncomputable section
open PySem.W (Frag nsIn keepIn codeIn mg_of mg_none_of)
set_option Elab.async false
set_option linter.all false
set_option maxRecDepth 100000
namespace Kx
noncomputable section
open PySem PySem.W PySem.Calls PyProof.Rows
noncomputable def zP:Pos:=⟨0,0,0,0⟩
noncomputable def anV:Option iG:=iD (.ref 6)
noncomputable def hA (P:lz):List Obj:=(j7 P).objs.toList++[⟨.type "tuple",iF,.seq #[] 0,#[]⟩,⟨.none,iF,.fields #[],#[]⟩,
 ⟨.type "code",iF,.fields #[.str "<module>" 182,.str "<module>" 183,.str "/claim/cut.py" 184,.int 1 0,.int 0 0,.int 0 0,.int 0 0,.int 0 0,.ref 11,.bool iH,.int 181 0,.ref 12,.none,.none,.none,.none,.int 185 0,.int 1 0,.str "/claim/cut.py" 186],#[]⟩,
 ⟨.type "frame",iF,.plain,#[iD (.ref 13),iD (.ref 3),iD (.ref 3),iF,iD (.str "__main__" 164),iF,iD (.ref 0)]⟩]
noncomputable def enP (p:iL):Env:={ scope:=p.main.scope,locals:=mainNs,globals:=mainNs,cells:=[],code:=.ref 13,frame:=iD 14 }
noncomputable def cdP (p:iL):Code:=.body (behindTheImports p) (enP p)
noncomputable def trA:List Obj->Nat->BT->BT
 | [],_,t=>t
 | o::l,i,t=>trA l (i+1) (t.ins i o)
noncomputable def SA (w:iM) (os:j6):SharedT:=⟨trA (hA w.params) 0 .nil,15,(j7 w.params).life,fZ [],lE,187,os⟩
noncomputable def kH (P:lz) (s:Str) (t:Nat) (v:iG):lI:=⟨PyData.keyHash P s,.str s t,v⟩
noncomputable def eM:iG:=.str "lookwords.errors" 187
noncomputable def eT (a:List iG):Obj:=⟨.type "tuple",iF,.seq ⟨a⟩ 0,#[]⟩
noncomputable def eF (c:iG) (a:List iG):Obj:=⟨c,iF,.fields ⟨a⟩,#[]⟩
noncomputable def eB:iG:=.type "builtin_function_or_method"
noncomputable def eD (a:List lI) (n:Nat):Obj:=⟨.type "dict",iF,.dict ⟨a⟩ n,#[]⟩
noncomputable def eA (P:lz) (s:Str) (b:iG) (n t l:Nat):List Obj:=[eT [b],eF eB [.builtin "type.__prepare__",.type "type"],
 eD [kH P "__module__" (t+7) eM,kH P "__qualname__" (t+9) (.str s (t+8)),kH P "__firstlineno__" (t+11) (.int l (t+10)),kH P "__static_attributes__" (t+12) (.ref (n+7))] 4,
 eT [],eF .none [],eF (.type "code") [.str s (t+2),.str s (t+3),.str "/claim/cut.py" (t+4),.int l 0,.int 0 0,.int 0 0,.int 0 0,.int 0 0,.ref (n+3),.bool iH,.int 181 0,.ref (n+4),.none,.none,.none,.none,.int ((t+5:Nat):Int) 0,.int l 0,.str "/claim/cut.py" (t+6)],
 ⟨.type "frame",iF,.plain,#[iD (.ref (n+5)),iD (.ref 3),iD (.ref (n+2)),iF,iD eM,iF,iD (.ref 0)]⟩,eT []]
noncomputable def eC (s:Str) (b:iG) (n t:Nat) (m sub:List iG):Obj:=⟨.type "type",iF,.cls { name:=s,bases:=[b],mro:=.ref (n+9)::m,ns:=n+8,qualname:=s,subclasses:=sub },#[iD (.ref n),iF,iD (.str s t),iD (.str s (t+8)),iD (.builtin "ValueError.__new__"),iD (.bool iI)]⟩
noncomputable def eS (a:Nat):List Obj:=[eF (.type "super") [.ref a,.ref a,.ref a],eF eB [.builtin "object.__init_subclass__",.ref a]]
noncomputable def eK (P:lz) (t l:Nat) (n:Nat):List lI:=[kH P "__module__" (t+7) eM,kH P "__firstlineno__" (t+11) (.int l (t+10)),kH P "__static_attributes__" (t+12) (.ref (n+7))]
noncomputable def eV:List iG:=[.type "ValueError",.type "Exception",.type "BaseException",.type "object"]
noncomputable def eL (P:lz):List Str->Nat->Nat->Nat->List Obj
 | [],_,_,_=>[]
 | s::r,n,t,l=>eA P s (.ref 24) n t l++eD (eK P t l n++[kH P "__doc__" (t+13) .none]) 2::eC s (.ref 24) n t (.ref 24::eV) []::eS (n+9)++eL P r (n+12) (t+16) (l+2)
noncomputable def eE (P:lz):List Str->Nat->Nat->List lI
 | [],_,_=>[]
 | s::r,n,t=>kH P s (t+15) (.ref (n+9))::eE P r (n+12) (t+16)
noncomputable def eR:Nat->Nat->List iG
 | 0,_=>[]
 | k+1,n=>.ref n::eR k (n+12)
noncomputable def eQ:Nat->Nat->Nat->List iG
 | 0,_,_=>[]
 | k+1,n,l=>.int l 0::.int 0 0::.ref n::eQ k (n+12) (l+2)
noncomputable def eO (P:lz) (L:List Str):Obj:=match (boot_o_3 P).data with
 | .dict a _=>eD (kH P "__name__" 165 eM::a.toList.drop 1++kH P "WordError" 206 (.ref 24)::eE P L 28 207) (L.length+10)
 | _=>eT []
noncomputable def hC (P:lz) (L:List Str):List Obj:=(hA P).take 3++eO P L::((hA P).drop 4).take 8++eF .none (.int 2 0::.int 0 0::.ref 20::eQ L.length 33 4)::(hA P).drop 13 ++
 eA P "WordError" (.type "ValueError") 15 189 2++eD (eK P 189 2 15++[kH P "__weakref__" 203 (.ref 25),kH P "__doc__" 204 .none]) 3::eC "WordError" (.type "ValueError") 15 189 eV (eR L.length 37) ::
 eF (.type "getset_descriptor") [.str "__weakref__" 202,.ref 24,.builtin "ExceptionGroup.__weakref__",.none]::eS 24++eL P L 28 207 4
noncomputable def SC (L:List Str) (w:iM) (os:j6):SharedT:=⟨trA (hC w.params L) 0 .nil,12 * L.length+28,(j7 w.params).life,fZ [],lE,16 * L.length+207,os⟩
noncomputable def zC (L:List Str):Pos:=⟨2 * L.length+2,0,2 * L.length+3,8⟩
noncomputable def Xj (L:List Str) (p:iL) (w:iM) (M:Nat) (os:j6):Option (Flow×Code×iJ):=
 (segRunT treeTable p w 11 anV 1 M (SC L w os) (piecesOf ((behindTheImports p).drop (L.length+2)) (enP p) (cdP p) (zC L) [topFrame zP])).bind λr=>
  (topRun treeTable p w 11 anV 5 r.2.1.abs (restOf [] (enP p) (cdP p) r.2.2.2 [topFrame zP])).map λs=>(r.1,r.2.2.1,s)
abbrev qcI (p:iL) (w:iM) (x:Flow×Code×iJ):=
 (x.1,x.2.1,(staticsOk (importedModules p.main.body) (j7 w.params) x.2.2.heap&&namesBound p x.2.2.heap&&gensDone x.2.2&&laidKept (j7 w.params) x.2.2.heap))
abbrev JK (p q:iL) (loose:List Str) (Xt:iJ->Bool) (x:Flow×Code×iJ):=openSeen q loose (importedModules p.main.body) Xt iI x.2.2
theorem left_T {L:List Str} {p q:iL} {loose:List Str} {Xt:iJ->Bool} {α:Type} {Yf:iJ->α} {Ya:iM->α} {N M:Nat}
  (e:opening p=plainProg p.main.scope.names) (hN:Nat.ble 600 N=iI) (f:∀ s,fenceModules? p s=iD s)
  (size:∀ w:iM,((j7 w.params).isNs mainGlobals&&(fZ []:Array lG).size == 0,(j7 w.params).objs.size,(j7 w.params).nsMap mainGlobals "__annotations__")=(iI,11,anV))
  (pre:∀ (w:iM) (os:j6),topGo treeTable p w 11 anV 12 ⟨j7 w.params,fZ [],lE,boot_toks,os⟩ (topStub p)=iD ((SA w os).abs,⟨denote treeTable (cdP p),cdP p,zP,[topFrame zP]⟩))
  (blk:∀ (w:iM) (os:j6),segRun treeTable p w 11 anV 1 1 (SA w os).abs (blockOf (behindTheImports p) (enP p) (cdP p) zP [topFrame zP])=iD (.next,(SA w os).abs,cdP p,zP))
  (le:Nat.ble (12+(1+(3500+(M+5)))) N=iI)
  (m6:∀ (w:iM) (os:j6),segRunT treeTable p w 11 anV 1 3500 (SA w os) (piecesOf ((behindTheImports p).take (L.length+2)) (enP p) (cdP p) zP [topFrame zP])=iD (.next,SC L w os,cdP p,zC L))
  (m0:∀ (w:iM) (os:j6),(Xj L p w M os).map (qcI p w)=iD (.next,cdP p,iI))
  (m1:∀ (w:iM) (os:j6),(Xj L p w M os).map (λx=>(JK p q loose Xt x).1)=iD (openGood q loose).1)
  (m3:∀ (w:iM) (os:j6),(Xj L p w M os).map (λx=>(JK p q loose Xt x).2.1)=iD (openGood q loose).2.1)
  (m4:∀ (w:iM) (os:j6),(Xj L p w M os).map (λx=>(JK p q loose Xt x).2.2.1)=iD (openGood q loose).2.2.1)
  (m5:∀ (w:iM) (os:j6),(Xj L p w M os).map (λx=>(JK p q loose Xt x).2.2.2)=iD (openGood q loose).2.2.2)
  (m2:∀ (w:iM) (os:j6),(Xj L p w M os).map (λx=>Yf x.2.2)=iD (Ya w)):LeftO p q loose Xt Yf Ya N:=λw=>by
 obtain ⟨⟨h,gs,d,k,os⟩,a,a'⟩:=bQ.mp (boot_open e hN f w)
 obtain ⟨rfl,rfl,rfl,rfl⟩:h=j7 w.params/\gs=fZ []/\d=lE/\k=boot_toks:=by simpa using a'
 obtain ⟨x,hx,hl⟩:=bQ.mp (m0 w os)
 have l2:openSeen q loose (importedModules p.main.body) Xt iI x.2.2=openGood q loose:=by
  have a1:=m1 w os
  have a3:=m3 w os
  have a4:=m4 w os
  have a5:=m5 w os
  rw [hx] at a1 a3 a4 a5
  exact iB (aU.inj a1) (iB (aU.inj a3) (iB (aU.inj a4) (aU.inj a5)))
 obtain ⟨y,hy,hY⟩:=bQ.mp (m2 w os)
 obtain rfl:y=x:=aU.inj (hy.symm.trans hx)
 obtain ⟨r,hr,hz⟩:=cy.mp hx
 obtain ⟨s,hs,rfl⟩:=bQ.mp hz
 obtain ⟨fl,st,co,po⟩:=r
 unfold qcI at hl
 simp only [Prod.mk.injEq] at hl
 obtain ⟨rfl,rfl,l1⟩:=hl
 have t1:=piece_app (rest:=[]) (segRun_of hr) hs
 rw [bj] at t1
 have t1:=piece_app (segRun_of (m6 w os)) t1
 rw [List.take_append_drop] at t1
 have t2:=piece_block (blk w os) t1
 have t3:=topRun_mono (N - (12+(1+(3500+(M+5))))) _ _ _ _ (go_top (pre w os) t2)
 rw [show 12+(1+(3500+(M+5)))+(N - (12+(1+(3500+(M+5)))))=N by have:=Nat.le_of_ble_eq_true le; omega] at t3
 obtain ⟨z1,z2,z3⟩:_/\_/\_:=by simpa only [Prod.mk.injEq] using size w
 have t:topFrom treeTable p w N ⟨j7 w.params,fZ [],lE,boot_toks,os⟩=iD s:=by
  unfold topFrom
  dsimp only
  rw [z1,z2,z3,t3]
  show (match staticsOk (importedModules p.main.body) (j7 w.params) s.heap&&namesBound p s.heap&&gensDone s&&laidKept (j7 w.params) s.heap with | true=>_ | false=>_)=_
  rw [l1]
 unfold openEnds
 rw [a]
 show (topFrom treeTable p w N _).map _=_
 rw [t]
 exact congrArg iD (iB l2 hY)
end
end Kx
noncomputable section
open PySem PySem.W PyProof.Rows
noncomputable def Kx.vq:iL:=view PySem.Challenge.pw_lookwords_k23_whole_asked_books [1,2,3,4,5,6,7,8,9,10,11,12,13,14,16,17,18,19,20,21,22,23,24,25,26,27,28,29,30,31,32,34,35,36,37,38,40,42,43,44,45,46,47,48,49,50,51,52,53,54,55,56,57,58,59]
noncomputable def Kx.eN:List Str:=["NoWords", "NoLook", "NoNumbers", "NoRoom", "NoWord", "NoWorths", "Never", "Full", "Known", "NoPlace", "NoLetters", "NoText", "Nothing"]
noncomputable def Kx.xt (s:iJ):Bool:=xlAt Kx.vq [] s&&recOk (RowW.records (OpenRow.toRowW (OpenLaw.row PySem.Challenge.rw_lookwords_k23_whole_asked_books))) s
theorem Kx.m6:∀ (w:iM) (os:j6),segRunT treeTable PySem.Challenge.pw_lookwords_k23_whole_asked_books w 11 Kx.anV 1 3500 (Kx.SA w os) (piecesOf ((behindTheImports PySem.Challenge.pw_lookwords_k23_whole_asked_books).take (Kx.eN.length+2)) (Kx.enP PySem.Challenge.pw_lookwords_k23_whole_asked_books) (Kx.cdP PySem.Challenge.pw_lookwords_k23_whole_asked_books) Kx.zP [topFrame Kx.zP])=iD (.next,Kx.SC Kx.eN w os,Kx.cdP PySem.Challenge.pw_lookwords_k23_whole_asked_books,Kx.zC Kx.eN):=by intro w os; kernel_rfl
theorem Kx.m0:∀ (w:iM) (os:j6),(Kx.Xj Kx.eN PySem.Challenge.pw_lookwords_k23_whole_asked_books w 15000 os).map (Kx.qcI PySem.Challenge.pw_lookwords_k23_whole_asked_books w)=iD (.next,Kx.cdP PySem.Challenge.pw_lookwords_k23_whole_asked_books,iI):=by intro w os; kernel_rfl
theorem Kx.m1:∀ (w:iM) (os:j6),(Kx.Xj Kx.eN PySem.Challenge.pw_lookwords_k23_whole_asked_books w 15000 os).map (λx=>(Kx.JK PySem.Challenge.pw_lookwords_k23_whole_asked_books Kx.vq [] Kx.xt x).1)=iD (openGood Kx.vq []).1:=by intro w os; kernel_rfl
theorem Kx.m3:∀ (w:iM) (os:j6),(Kx.Xj Kx.eN PySem.Challenge.pw_lookwords_k23_whole_asked_books w 15000 os).map (λx=>(Kx.JK PySem.Challenge.pw_lookwords_k23_whole_asked_books Kx.vq [] Kx.xt x).2.1)=iD (openGood Kx.vq []).2.1:=by intro w os; kernel_rfl
theorem Kx.m4:∀ (w:iM) (os:j6),(Kx.Xj Kx.eN PySem.Challenge.pw_lookwords_k23_whole_asked_books w 15000 os).map (λx=>(Kx.JK PySem.Challenge.pw_lookwords_k23_whole_asked_books Kx.vq [] Kx.xt x).2.2.1)=iD (openGood Kx.vq []).2.2.1:=by intro w os; kernel_rfl
theorem Kx.m5:∀ (w:iM) (os:j6),(Kx.Xj Kx.eN PySem.Challenge.pw_lookwords_k23_whole_asked_books w 15000 os).map (λx=>(Kx.JK PySem.Challenge.pw_lookwords_k23_whole_asked_books Kx.vq [] Kx.xt x).2.2.2)=iD (openGood Kx.vq []).2.2.2:=by intro w os; kernel_rfl
local macro_rules | `(tactic| o_head $H) => `(tactic| (refine holds_open (q := Kx.vq) (loose := []) (Xt := Kx.xt) (XP := XL Kx.vq []) (Yf := Hook.obs $H) (Ya := Hook.val $H) (YP := Hook.says $H) (N := 20000) ?hl (Hook.of $H) (Hook.keeps $H) (fun s e => xl_of s (Bool.and_eq_true_iff.mp e).1) XL.keeps (by rfl) (by rfl) (by rfl) (fun s e => recFacts_of (Bool.and_eq_true_iff.mp e).2) (by rfl) (by first | assumption | decide +kernel) (by decide +kernel) ⟨rfl, rfl, rfl, rfl, rfl, by decide +kernel⟩ ?hw ?hc; (case hl => refine Kx.left_T (p := PySem.Challenge.pw_lookwords_k23_whole_asked_books) (M := 15000) ?e rfl ?f ?s ?p ?b rfl Kx.m6 Kx.m0 Kx.m1 Kx.m3 Kx.m4 Kx.m5 ?m; (case e => kernel_rfl); (case f => intro s; kernel_rfl); (case s => intro w; kernel_rfl); (case p => intro w os; kernel_rfl); (case b => intro w os; kernel_rfl); (case m => intro w os; kernel_rfl))))
set_option maxHeartbeats 0 in
open_top Kx.hd for PySem.Challenge.rw_lookwords_k23_whole_asked_books
end
namespace L2
open PySem PySem.Spec PyProof.Rows
abbrev Key:=Sum Int Str
noncomputable def gG:Key->iG->Bool
 | .inl k,v=>fj k v
 | .inr x,v=>fK x v
noncomputable def qh5 (w:iM):Key->Int
 | .inl k=>hashInt k
 | .inr x=>hashStr w x
theorem jt:∀ {k:Key} {v:iG},gG k v=iI->(∃ i t,k=fh i/\v=fD i t)\/(∃ x t,k=dX x/\v=g8 x t)
 | .inl i,v,h=>by obtain ⟨t,e⟩:=Value.isInt_shape (k:=i) (v:=v) h;exact .inl ⟨i,t,rfl,e⟩
 | .inr x,v,h=>by obtain ⟨t,e⟩:=cV (x:=x) (v:=v) h;exact .inr ⟨x,t,rfl,e⟩
theorem JL (i:Int) (t:Tok):gG (.inl i) (.int i t)=true:=by simp [gG,fj]
theorem JM (x:Str) (t:Tok):gG (.inr x) (.str x t)=true:=by simp [gG,fK]
theorem qes (a b:Int):decide ((fh a:Key)=fh b)=(a == b):=by
 by_cases e:a=b;·subst e; simp
 ·have h:¬(fh a:Key)=fh b:=λq=>e (fh.inj q);rw [decide_eq_false h];exact (beq_eq_false_iff_ne.mpr e).symm
theorem qet (a b:Str):decide ((dX a:Key)=dX b)=decide (a=b):=by
 by_cases e:a=b;·subst e; simp
 ·have h:¬(dX a:Key)=dX b:=λq=>e (dX.inj q);rw [decide_eq_false h,decide_eq_false e]
theorem qeu (a:Int) (b:Str):decide ((fh a:Key)=dX b)=false:=decide_eq_false (λq=>nomatch q)
theorem qev (a:Str) (b:Int):decide ((dX a:Key)=fh b)=false:=decide_eq_false (λq=>nomatch q)
noncomputable def ju (prog:iL) (w:iM):PySem.KeyKind prog w Key where
 is:=gG
 hash:=qh5 w
 inj:=λv a b f hb=>by
  rcases jt f with ⟨i,t,rfl,rfl⟩ | ⟨x,t,rfl,rfl⟩
  ·rcases jt hb with ⟨j,u,rfl,e⟩ | ⟨y,u,rfl,e⟩
   ·injection e with e1 _; rw [e1]
   ·exact nomatch e
  ·rcases jt hb with ⟨j,u,rfl,e⟩ | ⟨y,u,rfl,e⟩
   ·exact nomatch e
   ·injection e with e1 _; rw [e1]
 byValue:=λk v h=>by rcases jt h with ⟨i,t,rfl,rfl⟩ | ⟨x,t,rfl,rfl⟩ <;> rfl
 pyHash:=λc h=>by
  rcases jt c with ⟨i,t,rfl,rfl⟩ | ⟨x,t,rfl,rfl⟩
  ·exact wpAny_pyHash_int h
  ·exact wpAny_pyHash_str h
 eqBool:=λd c h=>by
  rcases jt d with ⟨i,t,rfl,rfl⟩ | ⟨x,t,rfl,rfl⟩
  ·rcases jt c with ⟨j,u,rfl,rfl⟩ | ⟨y,u,rfl,rfl⟩
   ·rw [qes] at h; exact wpAny_eqBool_int h
   ·rw [qeu] at h; exact SeqAt.EqAt.int_str i t y u _ _ _ _ h
  ·rcases jt c with ⟨j,u,rfl,rfl⟩ | ⟨y,u,rfl,rfl⟩
   ·rw [qev] at h; exact SeqAt.EqAt.str_int x t j u _ _ _ _ h
   ·rw [qet] at h; exact wpAny_eqBool_str h
 «strs»:=λk x t v h=>by
  rcases jt h with ⟨i,u,rfl,e⟩ | ⟨y,u,rfl,e⟩
  ·exact nomatch e
  ·injection e with e1 _;subst e1;cases v <;> rfl
theorem Vw (prog:iL) (w:iM) (i:Int) (t:Tok):(ju prog w).is (.inl i) (.int i t)=true:=JL i t
theorem Vx (prog:iL) (w:iM) (x:Str) (t:Tok):(ju prog w).is (.inr x) (.str x t)=true:=JM x t
inductive V where
 | non | bl (b:Bool) | int (i:Int) | str (x:Str) | byt (b:Array UInt8) | flt (b:UInt64) | ref (a:Addr) | ty (n:String)
 deriving DecidableEq
def RelV:V->iG->Prop
 | .non,u=>u=bT
 | .bl b,u=>u=bg b
 | .int i,u=>∃ t,u=fD i t
 | .str x,u=>∃ t,u=g8 x t
 | .byt b,u=>∃ t,u=Value.bytes b t
 | .flt b,u=>∃ t,u=Value.float b t
 | .ref a,u=>u=br a
 | .ty n,u=>u=fE n
abbrev Vals:List V->List iG->Prop:=lK RelV
variable {xs:List V} {us:List iG}
theorem Vals.length (r:Vals xs us):xs.length=us.length:=g9 r
theorem Vals.get:∀ {xs:List V} {us:List iG} {i:Nat} {x:V},Vals xs us->xs[i]?=iD x->∃ u,us[i]?=iD u/\RelV x u
 | _,_,_,_,.nil,e=>by simp at e
 | _,_,0,_,.cons r _,e=>by simp at e; subst e; exact ⟨_,rfl,r⟩
 | _,_,i+1,x,.cons _ t,e=>by obtain ⟨u,h1,h2⟩:=Vals.get (i:=i) (x:=x) t (by simpa using e);exact ⟨u,by simpa using h1,h2⟩
variable {u:iG}
theorem Vals.set {x:V} (r:RelV x u):∀ {xs:List V} {us:List iG} (i:Nat),Vals xs us->Vals (xs.set i x) (us.set i u)
 | _,_,_,.nil=>.nil
 | _,_,0,.cons _ t=>.cons r t
 | _,_,i+1,.cons q t=>.cons q (Vals.set r i t)
theorem Vals.append:∀ {xs ys:List V} {us ws:List iG},Vals xs us->Vals ys ws->Vals (xs++ys) (us++ws)
 | _,_,_,_,.nil,s=>s
 | _,_,_,_,.cons r t,s=>.cons r (Vals.append t s)
theorem Vals.take:∀ {xs:List V} {us:List iG} (n:Nat),Vals xs us->Vals (xs.take n) (us.take n)
 | _,_,0,_=>.nil
 | _,_,_+1,.nil=>.nil
 | _,_,n+1,.cons r t=>.cons r (Vals.take n t)
theorem Vals.drop:∀ {xs:List V} {us:List iG} (n:Nat),Vals xs us->Vals (xs.drop n) (us.drop n)
 | _,_,0,r=>r
 | _,_,_+1,.nil=>.nil
 | _,_,n+1,.cons _ t=>Vals.drop n t
theorem Vals.none_of:∀ {xs:List V} {us:List iG} {i:Nat},Vals xs us->xs[i]?=iF->us[i]?=none:=λ{xs us i} r e=>by have h1:=r.length;have h2:xs.length<=i:=cq.mp e;exact cq.mpr (by omega)
def RelO:Option V->Option iG->Prop
 | some v,iD u=>RelV v u
 | none,iF=>True
 | _,_=>False
def KV {κ:Type}:List (κ×V)->List (κ×iG)->Prop:=lK λ(p:κ×V) (q:κ×iG)=>p.1=q.1/\RelV p.2 q.2
noncomputable def kV:Key->V
 | .inl i=>.int i
 | .inr x=>.str x
inductive HO where
 /-- a list -/
 | lst (xs:List V)
 /-- a tuple (never changes) -/
 | tup (xs:List V)
 /-- a dict whose keys are ints and texts; one whose keys are tuples of ints and texts (the empty one is both) -/
 | dK (kvs:List (Key×V)) | dT (kvs:List (List Key×V))
 /-- a set of ints: its members,its size -/
 | set (S:Int->Bool) (n:Nat)
 /-- an instance of the class at C,its dict at dx,its attributes -/
 | ins (C dx:Addr) (fs:List (Str×V))
 /-- the dict of the instance at x -/
 | own (x:Addr)
 /-- the dict of an exception -/
 | xd (fs:List (Str×V))
 /-- a bound method,f of x -/
 | met (f x:Addr)
 /-- a range object lo,lo+1,.. below hi -/
 | rng (lo hi:Int)
 /-- a thing that is known to the object (the script; a dict while a loop walks it): read,never written while it is so -/
 | frz (o:Obj) (u:HO)
 /-- a code object's table -/
 | tbl (ps:Array iG)
 /-- any other thing,by what is iI of its one object (a def of one's own: SetO a S n:=HO.ext λh=>..) -/
 | ext (φ:Heap->Prop)
abbrev Hp:=Addr->Option HO
noncomputable def upd (H:Hp) (a:Addr) (o:HO):Hp:=λb=>if b=a then iD o else H b
variable {H:Hp} {a:Addr} {o:HO}
theorem qm:upd H a o a=iD o:=by unfold upd; rw [if_pos rfl]
variable {b:Addr}
theorem qt (h:b≠a):upd H a o b=H b:=by unfold upd; rw [if_neg h]
theorem qD (h:H a=iD o) (h':H b=iF):a≠b:=by intro e; subst e; rw [h] at h'; cases h'
section
variable (P:iL) (w:iM)
def ObjOk (H:Hp) (h:Heap) (a:Addr):HO->Prop
 | .lst xs=>xs.length<=sizeLine/\∃ (its:List iG) (n:Nat),Vals xs its/\h.get? a=iD { cls:=.type "list",data:=.seq its.toArray n }
 | .tup xs=>(xs.length<=sizeLine/\∃ o,h.get? a=iD o/\o.dict=iF)/\∃ its:List iG,Vals xs its/\IsTup h a its.toArray
 | .dK kvs=>kvs.length<=sizeLine/\(a == sysModules)=iH/\∃ vs,KV kvs vs/\h.DictOf (ju P w) a vs
 | .dT kvs=>kvs.length<=sizeLine/\(a == sysModules)=iH/\∃ xs:List (List Key×Addr×iG),lK (λ(p:List Key×V) (q:List Key×Addr×iG)=>p.1=q.1/\H q.2.1=iD (.tup (p.1.map kV))/\RelV p.2 q.2.2) kvs xs /\
   ∃ o es ep,h.get? a=iD o/\o.ExactDict/\o.data=.dict es ep/\es.toList=xs.map (entryOfKey (tupleKind (ju P w)))/\(xs.map (·.1)).Nodup
 | .set S n=>h.SetOf (intKind P w) a S n
 | .ins C dx fs=>H dx=iD (.own a)/\fs.length<=1000/\dx≠a/\h.get? a=iD (cz C dx) /\
   ∃ mA,h.Ns1 dx mA/\(∀ f,RelO (fs.lookup f) (mA f))/\ic mA (fs.map (·.1))
 | .own _=>∃ o,h.get? a=iD o
 | .xd fs=>∃ mA,h.Ns1 a mA/\∀ f,RelO (fs.lookup f) (mA f)
 | .rng lo hi=>∃ t u v,h.get? a=iD { cls:=.type "range",data:=.fields #[.int lo t,.int hi u,.int 1 v] }
 | .frz o u=>h.get? a=iD o/\ObjOk H h a u
 | .tbl ps=>h.get? a=iD { cls:=.none,data:=.fields ps }
 | .met f x=>h.get? a=iD (fI (.ref f) (.ref x))
 | .ext φ=>φ h/\(∃ o,h.get? a=iD o)/\∀ h1 h2:Heap,φ h1->(∀ o,h1.get? a=iD o->h2.get? a=iD o)->φ h2
def HOk (H:Hp) (h:Heap):Prop:=∀ a o,H a=iD o->ObjOk P w H h a o
end
variable {P:iL} {w:iM} {H':Hp} {h h':Heap} {α:Type}
section
theorem ObjOk.lt (x:ObjOk P w H h a o):a < h.objs.size:=by
 cases o with
 | lst xs=>obtain ⟨_,_,_,_,e⟩:=x; exact aE e
 | tup xs=>obtain ⟨_,_,_,p⟩:=x; exact p.lt
 | dK kvs=>obtain ⟨_,_,_,_,o,_,_,e,_⟩:=x; exact aE e
 | dT kvs=>obtain ⟨_,_,_,_,o,_,_,e,_⟩:=x; exact aE e
 | set S n=>obtain ⟨o,_,_,_,e,_⟩:=x; exact aE e
 | ins C dx fs=>obtain ⟨_,_,_,e,_⟩:=x; exact aE e
 | own y=>obtain ⟨_,e⟩:=x; exact aE e
 | xd fs=>obtain ⟨_,⟨_,_,_,e,_⟩,_⟩:=x; exact aE e
 | rng lo hi=>obtain ⟨_,_,_,e⟩:=x; exact aE e
 | frz b u=>obtain ⟨e,_⟩:=x; exact aE e
 | tbl ps=>exact aE (show h.get? a=iD _ from x)
 | met f y=>exact aE (show h.get? a=iD _ from x)
 | ext φ=>obtain ⟨_,⟨_,e⟩,_⟩:=x; exact aE e
theorem Paired.mapP {β:Type} {F G:α->β->Prop}:∀ {c:List α} {l:List β},lK F c l->(∀ a b,F a b->G a b)->lK G c l
 | _,_,.nil,_=>.nil
 | _,_,.cons r t,f=>.cons (f _ _ r) (Paired.mapP t f)
theorem ObjOk.stay (x:ObjOk P w H h a o) (k:∀ b u,(b=a\/H b=iD (.own a))->h.get? b=iD u->h'.get? b=iD u)
  (m:∀ b,H b=iD (.own a)->H' b=iD (.own a)) (l:∀ b xs,H b=iD (.tup xs)->H' b=iD (.tup xs)):ObjOk P w H' h' a o:=by
 induction o with
 | lst xs=>obtain ⟨z,its,n,r,e⟩:=x; exact ⟨z,its,n,r,k _ _ (.inl rfl) e⟩
 | tup xs=>obtain ⟨⟨z,o2,i,d2⟩,its,r,g,e,c⟩:=x; exact ⟨⟨z,o2,k _ _ (.inl rfl) i,d2⟩,its,r,g,k _ _ (.inl rfl) e,c⟩
 | dK kvs=>obtain ⟨z,y,vs,r,g,es,ep,e,c⟩:=x; exact ⟨z,y,vs,r,g,es,ep,k _ _ (.inl rfl) e,c⟩
 | dT kvs=>obtain ⟨z,y,xs,r,g,es,ep,e,c⟩:=x;exact ⟨z,y,xs,Paired.mapP r λp q z=>⟨z.1,l _ _ z.2.1,z.2.2⟩,g,es,ep,k _ _ (.inl rfl) e,c⟩
 | set S n=>obtain ⟨g,es,ep,t,e,c⟩:=x; exact ⟨g,es,ep,t,k _ _ (.inl rfl) e,c⟩
 | ins C dx fs=>obtain ⟨d,z,ne,e,mA,⟨od,es,ep,i,c⟩,r⟩:=x;exact ⟨m _ d,z,ne,k _ _ (.inl rfl) e,mA,⟨od,es,ep,k _ _ (.inr d) i,c⟩,r⟩
 | own y=>obtain ⟨g,e⟩:=x; exact ⟨g,k _ _ (.inl rfl) e⟩
 | xd fs=>obtain ⟨mA,⟨od,es,ep,e,c⟩,r⟩:=x; exact ⟨mA,⟨od,es,ep,k _ _ (.inl rfl) e,c⟩,r⟩
 | rng lo hi=>obtain ⟨t,u,v,e⟩:=x; exact ⟨t,u,v,k _ _ (.inl rfl) e⟩
 | frz g u j=>obtain ⟨e,q⟩:=x; exact ⟨k _ _ (.inl rfl) e,j q⟩
 | tbl ps=>have e:h.get? a=iD { cls:=.none,data:=.fields ps }:=x;show h'.get? a=iD { cls:=.none,data:=.fields ps };exact k a _ (.inl rfl) e
 | met f y=>have e:h.get? a=iD (fI (.ref f) (.ref y)):=x;show h'.get? a=iD (fI (.ref f) (.ref y));exact k a _ (.inl rfl) e
 | ext φ=>obtain ⟨p,⟨o,e⟩,st⟩:=x; exact ⟨st _ _ p λo q=>k _ _ (.inl rfl) q,⟨o,k _ _ (.inl rfl) e⟩,st⟩
theorem HOk.lt (x:HOk P w H h) (e:H a=iD o):a < h.objs.size:=(x a o e).lt
theorem HOk.fresh (x:HOk P w H h) (e:h.objs.size<=a):H a=none:=by
 cases q:H a with
 | none=>rfl
 | some u=>exact absurd (aQ (x.lt q) e) (cD _)
theorem HOk.kept (x:HOk P w H h) (k:∀ b u,h.get? b=iD u->h'.get? b=iD u):HOk P w H h':=λa o e=>
 (x a o e).stay (λb u _ q=>k b u q) (λ_ q=>q) λ_ _ q=>q
theorem HOk.laid (x:HOk P w H h) (k:∀ b u,h.get? b=iD u->h'.get? b=iD u) (hp:h.objs.size<=a) (new:ObjOk P w (upd H a o) h' a o):HOk P w (upd H a o) h':=λb u e=>by
 have n:=x.fresh hp;by_cases hb:b=a;·subst hb; rw [qm] at e; cases e; exact new
 ·rw [qt hb] at e;exact (x b u e).stay (λc v _ q=>k c v q) (λc q=>by rw [qt (qD q n)]; exact q) λc xs q=>by rw [qt (qD q n)]; exact q
end
def Rd (H:Hp) (a:Addr) (u:HO):Prop:=H a=iD u\/∃ o,H a=iD (.frz o u)
theorem Rd.ok {u:HO} (r:Rd H a u) (x:HOk P w H h):ObjOk P w H h a u:=by
 rcases r with r | ⟨o,r⟩
 ·exact x a u r
 ·obtain ⟨_,q⟩:=x a _ r;exact q
def Mut:Option HO->Prop
 | some (.lst _)=>True
 | some (.dK _)=>True
 | some (.dT _)=>True
 | some (.set _ _)=>True
 | some (.ins _ _ _)=>True
 | some (.ext _)=>True
 | _=>False
section
variable {x e:Addr} {o':HO}
theorem HOk.write (ok:HOk P w H h) (m:Mut (H x)) (g:e=x\/H e=iD (.own x)) (k:∀ b u,b≠e->h.get? b=iD u->h'.get? b=iD u) (o:∃ u,h'.get? e=iD u)
  (new:ObjOk P w (upd H x o') h' x o'):HOk P w (upd H x o') h':=λb u q=>by
 have n:∀ c y,H c=iD (.own y)->c≠x:=λc y r z=>by subst z; rw [r] at m; exact m
 have p:∀ c xs,H c=iD (.tup xs)->c≠x:=λc xs r z=>by subst z; rw [r] at m; exact m
 by_cases hb:b=x;·subst hb; rw [qm] at q; cases q; exact new
 ·rw [qt hb] at q;by_cases a:b=e
  ·have f:H b=iD (.own x):=by
    rcases g with z | z;·exact absurd (a.trans z) hb
    ·rw [a]; exact z
   rw [q] at f; cases f;obtain ⟨v,i⟩:=o;exact ⟨v,by rw [a]; exact i⟩
  ·refine (ok b u q).stay (λc v d r=>k c v ?_ r) (λc r=>by rw [qt (n c b r)]; exact r) λc xs r=>by rw [qt (p c xs r)]; exact r
   rcases d with rfl | d;·exact a
   ·rintro rfl;rcases g with z | z;·exact n c b d z
    ·rw [d] at z; cases z; exact hb rfl
end
structure Un (fs ex:List Addr) (H H':Hp) (h h':Heap):Prop where
 keep:∀ b o,h.get? b=iD o->H b=iF->b∉fs->b∉ex->h'.get? b=iD o
 slot:∀ b o,h.get? b=iD o->H b=iF->b∈fs->b∉ex->∃ sl,h'.get? b=iD { o with slots:=sl }
 free:∀ b o,h.get? b=iD o->H b=iF->b∉ex->H' b=iF
 there:∀ b o,h.get? b=iD o->b∉ex->∃ o',h'.get? b=iD o'
 tups:∀ b xs,H b=iD (.tup xs)->H' b=iD (.tup xs)
 frzs:∀ b o u,H b=iD (.frz o u)->H' b=iD (.frz o u)
 tbls:∀ b ps,H b=iD (.tbl ps)->∃ more,H' b=iD (.tbl (ps++more))
section
variable {fs fs' ex ex':List Addr} {H1 H2:Hp} {h1 h2:Heap} {x e:Addr}
theorem Un.any (u:Un fs ex H H1 h h1) {o:Obj} (q:h.get? b=iD o) (n:H b=iF) (hx:b∉ex):∃ sl,h1.get? b=iD { o with slots:=sl }:=by
 by_cases hb:b∈fs;·exact u.slot b o q n hb hx
 ·exact ⟨o.slots,u.keep b o q n hb hx⟩
theorem Un.kept (k:∀ b u,h.get? b=iD u->h'.get? b=iD u):Un fs ex H H h h':=
 ⟨λb o q _ _ _=>k b o q,λb o q _ _ _=>⟨o.slots,k b o q⟩,λ_ _ _ n _=>n,λb o q _=>⟨o,k b o q⟩,λ_ _ q=>q,λ_ _ _ q=>q,λ_ ps q=>⟨#[],by rw [q]; simp⟩⟩
theorem Un.refl:Un fs ex H H h h:=Un.kept λ_ _ q=>q
theorem Un.laid (k:∀ b u,h.get? b=iD u->h'.get? b=iD u) (hp:h.objs.size<=a) (c:H a=iF):Un fs ex H (upd H a o) h h' where
 keep:=λb u q _ _ _=>k b u q
 slot:=λb u q _ _ _=>⟨u.slots,k b u q⟩
 free:=λb u q n _=>by rw [qt (aL (aQ (aE q) hp))]; exact n
 there:=λb u q _=>⟨u,k b u q⟩
 tups:=λb xs q=>by rw [qt (qD q c)]; exact q
 frzs:=λb u xs q=>by rw [qt (qD q c)]; exact q
 tbls:=λb ps q=>⟨#[],by rw [qt (qD q c),q]; simp⟩
theorem Un.write (m:Mut (H x)) (g:e=x\/H e=iD (.own x)) (k:∀ b u,b≠e->h.get? b=iD u->h'.get? b=iD u) (d:∃ u,h'.get? e=iD u):Un fs ex H (upd H x o) h h':=by
 have hx:∀ b,H b=iF->b≠x:=λb n z=>by subst z; rw [n] at m; exact m
 have hb:∀ b,H b=iF->b≠e:=λb n z=>by
  subst z;rcases g with r | r;·exact hx b n r
  ·rw [n] at r; cases r
 have c:∀ b u,H b=iD u->¬Mut (iD u)->b≠x:=λb u q nm z=>by subst z; rw [q] at m; exact nm m
 refine ⟨λb u q n _ _=>k b u (hb b n) q,λb u q n _ _=>⟨u.slots,k b u (hb b n) q⟩,λb u q n _=>by rw [qt (hx b n)]; exact n,λb u q _=>?_,λb xs q=>by rw [qt (c b _ q λz=>z)]; exact q,λb u xs q=>by rw [qt (c b _ q λz=>z)]; exact q,λb ps q=>⟨#[],by rw [qt (c b _ q λz=>z),q]; simp⟩⟩;by_cases a:b=e;·subst a; exact d
 ·exact ⟨u,k b u a q⟩
end
noncomputable def trk (h:Heap) (H:Hp):List Addr:=(bE h.objs.size).filter λa=>(H a).isSome
noncomputable def qam (h:Heap) (H:Hp):Heap:=bp h (trk h H)
theorem Xk (h:Heap) (H:Hp):(qam h H).objs.size=h.objs.size:=PySem.W.hideAll_size _ _
theorem qan {o:Obj} (e:h.get? b=iD o) (n:H b=iF):(qam h H).get? b=iD o:=
 cW _ e λc=>by have q:(H b).isSome=true:=(fq.mp c).2;rw [n] at q; simp at q
theorem qcJ {o:Obj} (e:(qam h H).get? b=iD o):h.get? b=iD o/\H b=none:=by
 have a:h.get? b=iD o:=dZ (trk h H) e;refine ⟨a,?_⟩;cases q:H b with
 | none=>rfl
 | some x=>have c:b∈trk h H:=fq.mpr ⟨cY.mpr (aE a),by simp [q]⟩;have z:(qam h H).get? b=none:=cM (trk h H) c;rw [z] at e; cases e
noncomputable def qcK (g h:Heap) (L:Addr):List (Addr×Obj):=(bE h.objs.size).filterMap λa=>if a=L\/(g.get? a).isSome=iI then iF else (h.get? a).map λo=>(a,o)
noncomputable def rest (g h:Heap) (L d:Addr):List (Addr×Obj):=(qcK g h L).filter λp=>decide (p.1≠d)
structure Mod (K:Frag) (mg:Str->Option iG) (base:Heap):Prop where
 kin:K.In base
 glob:base.Ns mainGlobals mg
 blt:∃ mb,base.Ns builtinsNs mb/\∀ x:Str,x ≠ "__name__"->mb x=bootBuiltins x
 nolimit:base.NoLimit
structure Cx where
 prog:iL
 w:iM
 K:Frag
 mg:Str->Option iG
 base:Heap
 A:iO
 N:List Str
 s₀:iJ
 H₀:Hp
 env:Env
 outer:List Env
 stack:List Env
 ex:List Addr
 fn:Str->Bool
 calm:Bool
 pn:List (Addr×Obj)
 xe:iG->iJ->Prop
noncomputable def frs (l:List Env):List Addr:=l.filterMap (·.frame)
abbrev Cx.fs (X:Cx):List Addr:=frs X.outer
def Vis (sc:lm) (x:Str):Prop:=sc.names.lookup x=iD .local\/sc.names.lookup x=iD .cell\/sc.names.lookup x=iD .free
def Loc (sc:lm) (x:Str):Prop:=sc.names.lookup x=iD .local\/sc.names.lookup x=iD .cell
def WW (env:Env) (h:Heap) (m:Str->Option iG) (x:Str) (u:iG):Prop:=
 (env.kindOf x=iD .local/\m x=iD u)\/((env.kindOf x=iD .cell\/env.kindOf x=iD .free)/\∃ c,env.cells.lookup x=iD c/\h.IsCell c (iD u))
structure Cx.Ok (X:Cx):Prop where
 mod:Mod X.K X.mg X.base
 kind:X.env.scope.kind=.function
 glob:X.env.globals=mainGlobals
 blt:X.env.builtins=builtinsNs
 above:X.s₀.heap.objs.size<=X.env.locals
 inj:∀ x y c,X.env.cells.lookup x=iD c->X.env.cells.lookup y=iD c->x=y
 has:∀ x,(X.env.kindOf x=iD .cell\/X.env.kindOf x=iD .free)->∃ c,X.env.cells.lookup x=iD c
 cab:∀ x c,X.fn x=iI->X.env.cells.lookup x=iD c->X.s₀.heap.objs.size<=c
 hd:X.calm=iI->X.A.handled=iF
 frames:X.A.frames=iD X.stack
 stk:X.stack=X.outer\/(X.stack=X.env::X.outer/\X.env.frame=iD X.env.locals)
 exf:∀ b∈X.ex,b≠X.env.locals/\∀ x c,X.env.cells.lookup x=iD c->c≠b
 bs:∀ b o,X.base.get? b=iD o->X.s₀.heap.get? b=iD o/\X.H₀ b=iF
 bsz:X.base.objs.size<=X.s₀.heap.objs.size
 noex:∀ b o,X.base.get? b=iD o->b∉X.ex
 exfs:∀ b∈X.ex,b∉X.fs
 funs:X.s₀.heap.FunFrames X.base X.outer
 frf:∀ b∈X.fs,X.H₀ b=iF
structure Inv (X:Cx) (pins:List (Addr×Obj)) (σ:List (Option V)) (H:Hp) (s:iJ):Prop where
 ok:X.Ok
 os:s.os=X.s₀.os
 bare:ly s.gens
 base:Un X.fs X.ex X.H₀ H X.s₀.heap s.heap
 loc:∃ m,s.heap.Ns X.env.locals m/\∀ (i:Nat) (x:Str) (v:V),X.N[i]?=iD x->σ[i]?=iD (iD v)->Vis X.env.scope x->∃ u,RelV v u/\WW X.env s.heap m x u
 cell:∀ x c,X.env.cells.lookup x=iD c->∃ v,s.heap.IsCell c v
 free:H X.env.locals=iF
 freeC:∀ x c,X.env.cells.lookup x=iD c->H c=iF
 pin:∀ p∈X.pn++pins,s.heap.get? p.1=iD p.2/\H p.1=iF/\p.1≠X.env.locals/\p.1∉X.fs/\∀ v,p.2.data≠.cell v
 hok:HOk X.prog X.w H s.heap
 len:σ.length=X.N.length
variable {x:Str} {X:Cx} {pins:List (Addr×Obj)} {s s':iJ} {t' i j:Nat} {ch:List Addr} {it:Addr} {v:V}
section
variable {σ:List (Option V)}
theorem Cx.Ok.nofr (ok:X.Ok) {o:Obj} (e:X.base.get? b=iD o):b∉X.fs:=λhb=>by have:=(ok.funs.mem hb).1;rw [e] at this; cases this
theorem Inv.bs (I:Inv X pins σ H s):∀ b o,X.base.get? b=iD o->s.heap.get? b=iD o/\H b=none:=λb o e=>
 ⟨I.base.keep b o (I.ok.bs b o e).1 (I.ok.bs b o e).2 (I.ok.nofr e) (I.ok.noex b o e),I.base.free b o (I.ok.bs b o e).1 (I.ok.bs b o e).2 (I.ok.noex b o e)⟩
theorem Inv.bk (I:Inv X pins σ H s):∀ b o,X.base.get? b=iD o->s.heap.get? b=iD o:=λb o e=>(I.bs b o e).1
theorem Inv.mod (I:Inv X pins σ H s):Mod X.K X.mg X.base:=I.ok.mod
theorem Inv.kIn (I:Inv X pins σ H s):X.K.In s.heap:=I.ok.mod.kin.keeps I.bk
theorem Inv.nolimit (I:Inv X pins σ H s):s.heap.NoLimit:=I.ok.mod.nolimit.keeps I.bk
theorem Inv.fr (I:Inv X pins σ H s):∃ m,Fr X.base X.env.locals s.heap m:=
 let ⟨m,n,_⟩:=I.loc
 ⟨m,n,I.bk,bR I.ok.bsz I.ok.above⟩
theorem Inv.lt (I:Inv X pins σ H s):X.env.locals < s.heap.objs.size:=let ⟨_,n,_⟩:=I.loc; n.lt
theorem Inv.sz (I:Inv X pins σ H s):X.s₀.heap.objs.size<=s.heap.objs.size:=bR I.ok.above (cN I.lt)
theorem Inv.nofs (I:Inv X pins σ H s) (h:s.heap.objs.size<=a):a∉X.fs:=λhb=>by obtain ⟨_,o,m,_⟩:=I.ok.funs.mem hb;exact absurd (aQ (aE m) (bR I.sz h)) (cD _)
theorem Inv.cne (I:Inv X pins σ H s):∀ x c,X.env.cells.lookup x=iD c->c≠X.env.locals:=λx c e z=>by obtain ⟨v,o,b,hd⟩:=I.cell x c e;obtain ⟨m,⟨o',es,ep,h,a,_⟩,_⟩:=I.loc;rw [z,h] at b; cases b; rw [a] at hd; cases hd
theorem Inv.funs (I:Inv X pins σ H s):s.heap.FunFrames X.base X.outer:=by
 have all:∀ (l:List Env),(∀ b∈frs l,b∈X.fs)->X.s₀.heap.FunFrames X.base l->s.heap.FunFrames X.base l:=by
  intro l
  induction l with
  | nil=>intro _ _; trivial
  | cons env r j=>intro c hl;obtain ⟨k,⟨L,o,h,n,m,hd⟩,hr⟩:=hl;have a:L∈X.fs:=c L (by unfold frs; rw [bu,h]; exact ay);obtain ⟨sl,e⟩:=I.base.slot L o m (I.ok.frf L a) a λz=>I.ok.exfs L z a;exact ⟨k,⟨L,_,h,n,e,hd⟩,j (λb hb=>c b (by unfold frs; rw [bu,h]; exact ai _ hb)) hr⟩
 exact all X.outer (λ_ hb=>hb) I.ok.funs
theorem Inv.stack (I:Inv X pins σ H s):s.heap.FunFrames X.base X.stack:=by
 rcases I.ok.stk with e | ⟨e,hf⟩
 ·rw [e]; exact I.funs
 ·rw [e];obtain ⟨m,n,_⟩:=I.loc;refine .cons (by rw [I.ok.kind]; decide) hf n ?_ I.funs;exact Heap.get?_none_of_le (bR I.ok.bsz I.ok.above)
theorem Inv.stkSub (I:Inv X pins σ H s):∀ b∈frs X.stack,b∈X.env.locals::X.fs:=λb hb=>by
 rcases I.ok.stk with e | ⟨e,hf⟩
 ·rw [e] at hb; exact ai _ hb
 ·rw [e] at hb;unfold frs at hb;rw [bu,hf] at hb;exact hb
theorem Inv.stkFree (I:Inv X pins σ H s):∀ b∈frs X.stack,H b=none:=λb hb=>by
 rcases ah.mp (I.stkSub b hb) with e | hb;·rw [e]; exact I.free
 ·obtain ⟨_,o,m,_⟩:=I.ok.funs.mem hb;exact I.base.free b o m (I.ok.frf b hb) λz=>I.ok.exfs b z hb
theorem Inv.step {g':Array lG} {t':Nat} {d':Drawn} {ch:List Addr} (I:Inv X pins σ H s)
  (a:∀ b∈ch,(b∈X.ex\/X.s₀.heap.objs.size<=b)/\b≠X.env.locals/\(∀ x c,X.env.cells.lookup x=iD c->c≠b)/\∀ p∈X.pn++pins,p.1≠b)
  (keep:∀ b o,b≠X.env.locals->b∉X.fs->b∉ch->s.heap.get? b=iD o->H b=iF->h'.get? b=iD o)
  (slot:∀ b o,b≠X.env.locals->b∈X.fs->b∉ch->s.heap.get? b=iD o->H b=iF->∃ sl,h'.get? b=iD { o with slots:=sl }) (free:∀ b o,b∉ch->s.heap.get? b=iD o->H b=iF->H' b=iF)
  (there:∀ b o,b∉ch->s.heap.get? b=iD o->∃ o',h'.get? b=iD o')
  (tups:∀ b xs,H b=iD (.tup xs)->H' b=iD (.tup xs)) (frzs:∀ b o u,H b=iD (.frz o u)->H' b=iD (.frz o u)) (tbls:∀ b ps,H b=iD (.tbl ps)->∃ more,H' b=iD (.tbl (ps++more)))
  (ns:∀ m,s.heap.Ns X.env.locals m->h'.Ns X.env.locals m) (hok:HOk X.prog X.w H' h') (hg:ly g') :
  Inv X pins σ H' { s with heap:=h',gens:=g',drawn:=d',toks:=t' }:=by
 have L:∀ b o,X.s₀.heap.get? b=iD o->b≠X.env.locals:=λb o e=>aL (aQ (aE e) I.ok.above);have C:∀ b o,X.s₀.heap.get? b=iD o->b∉X.ex->b∉ch:=λb o e hx hb=>by
  rcases (a b hb).1 with z | z;·exact hx z
  ·exact absurd (aQ (aE e) z) (cD _)
 have K:∀ x c,X.env.cells.lookup x=iD c->∀ v,s.heap.IsCell c v->h'.IsCell c v:=λx c e v ⟨o,f,hd⟩=>by
  have h:c∉ch:=λz=>(a c z).2.2.1 x c e rfl;by_cases y:c∈X.fs;·obtain ⟨sl,q⟩:=slot c o (I.cne x c e) y h f (I.freeC x c e);exact ⟨_,q,hd⟩
  ·exact ⟨o,keep c o (I.cne x c e) y h f (I.freeC x c e),hd⟩
 refine ⟨I.ok,I.os,hg,⟨λb o e n hb hx=>?_,λb o e n hb hx=>?_,λb o e n hx=>?_,λb o e hx=>?_,λb xs e=>tups b xs (I.base.tups b xs e),λb o xs e=>frzs b o xs (I.base.frzs b o xs e),λb ps e=>?_⟩,?_,λx c e=>?_,?_,λx c e=>?_,λp hp=>?_,hok,I.len⟩;·exact keep b o (L b o e) hb (C b o e hx) (I.base.keep b o e n hb hx) (I.base.free b o e n hx)
 ·obtain ⟨sl,e1⟩:=I.base.slot b o e n hb hx;obtain ⟨j,g⟩:=slot b _ (L b o e) hb (C b o e hx) e1 (I.base.free b o e n hx);exact ⟨j,g⟩
 ·obtain ⟨o',e1⟩:=I.base.there b o e hx;exact free b o' (C b o e hx) e1 (I.base.free b o e n hx)
 ·obtain ⟨o',e1⟩:=I.base.there b o e hx;exact there b o' (C b o e hx) e1
 ·obtain ⟨m1,e1⟩:=I.base.tbls b ps e;obtain ⟨A,g⟩:=tbls b _ e1;exact ⟨m1++A,by rw [g,Array.append_assoc]⟩
 ·obtain ⟨m,B,hl⟩:=I.loc;refine ⟨m,ns m B,λi x v e1 g D=>?_⟩;obtain ⟨u,r,l⟩:=hl i x v e1 g D;refine ⟨u,r,?_⟩;rcases l with l | ⟨k,c,e,z⟩
  ·exact .inl l
  ·exact .inr ⟨k,c,e,K x c e _ z⟩
 ·obtain ⟨v,z⟩:=I.cell x c e;exact ⟨v,K x c e v z⟩
 ·obtain ⟨m,⟨o,_,_,f,_⟩,_⟩:=I.loc;exact free _ o (λz=>(a _ z).2.1 rfl) f I.free
 ·obtain ⟨v,o,f,hd⟩:=I.cell x c e;exact free c o (λz=>(a c z).2.2.1 x c e rfl) f (I.freeC x c e)
 ·obtain ⟨e,n,ne,t,d⟩:=I.pin p hp;have h:p.1∉ch:=λz=>(a p.1 z).2.2.2 p hp rfl;exact ⟨keep p.1 p.2 ne t h e n,free p.1 p.2 h e n,ne,t,d⟩
theorem Inv.un (I:Inv X pins σ H s) (u:Un X.fs [] H H' s.heap h') (hok:HOk X.prog X.w H' h'):Inv X pins σ H' { s with heap:=h',toks:=t' }:=by obtain ⟨m,⟨o,es,ep,c,r⟩,_⟩:=id I.loc;obtain ⟨sl,L⟩:=u.any c I.free (by simp);exact I.step (g':=s.gens) (d':=s.drawn) (ch:=[]) (λ_ z=>nomatch z) (λb o _ hb _ e n=>u.keep b o e n hb (by simp)) (λb o _ hb _ e n=>u.slot b o e n hb (by simp)) (λb o _ e n=>u.free b o e n (by simp)) (λb o _ e=>u.there b o e (by simp)) u.tups u.frzs u.tbls (λf d=>by obtain ⟨o',es',a,h,r'⟩:=d;rw [c] at h; cases h;exact ⟨_,es',a,L,r'⟩) hok I.bare
theorem Inv.call {g':Array lG} {t':Nat} {d':Drawn} (I:Inv X pins σ H s) (u:Un (frs X.stack) ch H H' s.heap h') (hok:HOk X.prog X.w H' h') (hg:ly g')
  (a:∀ b∈ch,(b∈X.ex\/X.s₀.heap.objs.size<=b)/\b≠X.env.locals/\(∀ x c,X.env.cells.lookup x=iD c->c≠b)/\∀ p∈X.pn++pins,p.1≠b) :
  Inv X pins σ H' { s with heap:=h',gens:=g',drawn:=d',toks:=t' }:=by
 obtain ⟨m,⟨o,es,ep,g,r⟩,_⟩:=id I.loc;obtain ⟨sl,L⟩:=u.any g I.free λz=>(a _ z).2.1 rfl;exact I.step (ch:=ch) a (λb o L hb d e n=>u.keep b o e n (λz=>(ah.mp (I.stkSub b z)).elim L hb) d) (λb o _ _ d e n=>u.any e n d) (λb o d e n=>u.free b o e n d) (λb o d e=>u.there b o e d) u.tups u.frzs u.tbls (λj i=>by obtain ⟨o',es',f,h,r'⟩:=i;rw [g] at h; cases h;exact ⟨_,es',f,L,r'⟩) hok hg
theorem Inv.turned {t':Nat} (I:Inv X pins σ H s) (k:∀ b o,b≠it->s.heap.get? b=iD o->h'.get? b=iD o) (f:H it=iF) (a:it≠X.env.locals)
  (h1:it∈X.ex\/X.s₀.heap.objs.size<=it) (h2:∀ x c,X.env.cells.lookup x=iD c->c≠it) (i:∀ p∈X.pn++pins,p.1≠it):Inv X pins σ H { s with heap:=h',toks:=t' }:=by
 have t:∀ b u,H b=iD u->b≠it:=λb u e z=>by rw [z,f] at e; cases e
 refine I.step (g':=s.gens) (d':=s.drawn) (ch:=[it]) (λb hb=>?_) (λb o _ _ d e _=>k b o (λz=>d (by simp [z])) e) (λb o _ _ d e _=>⟨o.slots,k b o (λz=>d (by simp [z])) e⟩) (λ_ _ _ _ n=>n)
  (λb o d e=>⟨o,k b o (λz=>d (by simp [z])) e⟩) (λ_ _ e=>e) (λ_ _ _ e=>e) (λb ps e=>⟨#[],by rw [e]; simp⟩) (λm g=>?_) (λb u e=>?_) I.bare
 ·have e:b=it:=by simpa using hb
  subst e;exact ⟨h1,a,h2,i⟩
 ·obtain ⟨o,es,ep,h,r⟩:=g;exact ⟨o,es,ep,k _ o (be a) h,r⟩
 ·refine (I.hok b u e).stay (λc v d q=>k c v ?_ q) (λ_ q=>q) λ_ _ q=>q;rcases d with z | z;·rw [z]; exact t b u e
  ·exact t c _ z
theorem Inv.tok (I:Inv X pins σ H s) (t:Nat):Inv X pins σ H { s with toks:=t }:=I.un (h':=s.heap) (t':=t) Un.refl I.hok
theorem Inv.kept (I:Inv X pins σ H s) (k:∀ b u,s.heap.get? b=iD u->h'.get? b=iD u):Inv X pins σ H { s with heap:=h',toks:=t' }:=I.un (Un.kept k) (I.hok.kept k)
theorem Inv.laid {t':Nat} (I:Inv X pins σ H s) (k:∀ b u,s.heap.get? b=iD u->h'.get? b=iD u) (hp:s.heap.objs.size<=a) (new:ObjOk X.prog X.w (upd H a o) h' a o):Inv X pins σ (upd H a o) { s with heap:=h',toks:=t' }:=I.un (Un.laid k hp (I.hok.fresh hp)) (I.hok.laid k hp new)
theorem Inv.write {x e:Addr} {o:HO} {t':Nat} (I:Inv X pins σ H s) (m:Mut (H x)) (g:e=x\/H e=iD (.own x)) (k:∀ b u,b≠e->s.heap.get? b=iD u->h'.get? b=iD u) (h:∃ u,h'.get? e=iD u)
  (new:ObjOk X.prog X.w (upd H x o) h' x o):Inv X pins σ (upd H x o) { s with heap:=h',toks:=t' }:=I.un (Un.write m g k h) (I.hok.write m g k h new)
theorem Inv.weak {σ':List (Option V)} (I:Inv X pins σ H s) (hl:σ'.length=σ.length) (w:∀ (i:Nat) v,σ'[i]?=iD (iD v)->σ[i]?=iD (iD v)):Inv X pins σ' H s:=
 ⟨I.ok,I.os,I.bare,I.base,let ⟨m,n,h⟩:=I.loc; ⟨m,n,λi x v e1 e D=>h i x v e1 (w i v e) D⟩,I.cell,I.free,I.freeC,I.pin,I.hok,hl.trans I.len⟩
theorem Inv.pins_of {a:List (Addr×Obj)} (I:Inv X pins σ H s) (h:∀ p∈a,s.heap.get? p.1=iD p.2/\H p.1=iF/\p.1≠X.env.locals/\p.1∉X.fs/\∀ v,p.2.data≠.cell v):Inv X a σ H s:=
 ⟨I.ok,I.os,I.bare,I.base,I.loc,I.cell,I.free,I.freeC,λp hp=>(ba.mp hp).elim (λz=>I.pin p (cx _ z)) (h p),I.hok,I.len⟩
theorem WX {N:List Str} (h:N.Nodup) (a:N[i]?=iD x) (b:N[j]?=iD x):i=j:=by obtain ⟨h1,e1⟩:=aA.mp a;obtain ⟨h2,e⟩:=aA.mp b;exact (fO h).mp (e1.trans e.symm)
theorem JN {M:Model} {A:iO} {E:iG->iJ->Prop} {Q:Unit->iJ->Prop} (I:Inv X pins σ H s) (hN:X.N.Nodup) (hi:X.N[i]?=iD x) (hx:Loc X.env.scope x) (r:RelV v u)
  (h:∀ s',Inv X pins (σ.set i (iD v)) H s'->(∃ a,bM a s.heap s'.heap/\(a=X.env.locals\/X.env.cells.lookup x=iD a))->Q () s') (hf:X.fn x=iI\/X.env.scope.names.lookup x=iD .local:=by first | exact .inl rfl | exact .inr rfl | assumption):wpAny M A (storeName X.env x u) Q E s:=by
 obtain ⟨m,F,hl⟩:=id I.loc;have O:(X.env.scope.kind == .class||(X.env.scope.kind == .module&&X.env.locals != X.env.globals))=false:=by rw [I.ok.kind]; rfl
 have D:i < σ.length:=by rw [I.len]; exact (aA.mp hi).1
 have cne:=I.cne;have t:∀ {a:Addr} {h':Heap},(∃ o,s.heap.get? a=iD o/\H a=iF)->bM a s.heap h'->HOk X.prog X.w H h':=λ{a h'} ha f b ob e=>by
  obtain ⟨_,_,l⟩:=ha;refine (I.hok b ob e).stay (λc S g q=>(f.2 c ?_).trans q) (λ_ q=>q) λ_ _ q=>q;rintro rfl;rcases g with rfl | g;·rw [l] at e; cases e
  ·rw [l] at g; cases g
 rcases hx with C | C
 ·refine wpAny_storeName_local C F (λh' Z f=>?_) O;obtain ⟨oL,_,_,Y,_⟩:=id F;refine h _ ⟨I.ok,I.os,I.bare,⟨λb o e n hb hx=>?_,λb o e n hb hx=>?_,I.base.free,λb o e hx=>?_,I.base.tups,I.base.frzs,I.base.tbls⟩,⟨_,Z,λj y U e1 B e3=>?_⟩,λy c e=>?_,I.free,I.freeC,λp hp=>?_,t ⟨oL,Y,I.free⟩ f,by simpa using I.len⟩ ⟨_,f,.inl rfl⟩;·exact (f.2 b (aL (aQ (aE e) I.ok.above))).trans (I.base.keep b o e n hb hx)
  ·obtain ⟨sl,e1⟩:=I.base.slot b o e n hb hx;exact ⟨sl,(f.2 b (aL (aQ (aE e) I.ok.above))).trans e1⟩
  ·obtain ⟨o',e1⟩:=I.base.there b o e hx;exact ⟨o',(f.2 b (aL (aQ (aE e) I.ok.above))).trans e1⟩
  ·by_cases G:j=i;·subst G;rw [hi] at e1; cases e1;rw [aC D] at B;cases B;exact ⟨u,r,.inl ⟨C,by simp⟩⟩
   ·rw [aj (be G)] at B;obtain ⟨V,r',q⟩:=hl j y U e1 B e3;refine ⟨V,r',?_⟩;rcases q with ⟨k,e⟩ | ⟨k,c,e,z⟩
    ·refine .inl ⟨k,?_⟩;have:y≠x:=λe=>G (WX hN e1 (e ▸ hi));simp [this,e]
    ·exact .inr ⟨k,c,e,z.sameBut f (cne y c e)⟩
  ·obtain ⟨S,z⟩:=I.cell y c e;exact ⟨S,z.sameBut f (cne y c e)⟩
  ·obtain ⟨e,n,ne,W,d⟩:=I.pin p hp;exact ⟨(f.2 p.1 ne).trans e,n,ne,W,d⟩
 ·have J:X.fn x=true:=by
   rcases hf with z | z;·exact z
   ·rw [z] at C; cases C
  obtain ⟨c,g⟩:=I.ok.has x (.inl C);obtain ⟨S,z⟩:=I.cell x c g;refine wpAny_storeName_cell I.ok.kind C g z (λh' R f=>?_);obtain ⟨oc,L,K⟩:=id z;refine h { s with heap:=h' } ⟨I.ok,I.os,I.bare,⟨λb o e n hb hx=>?_,λb o e n hb hx=>?_,I.base.free,λb o e hx=>?_,I.base.tups,I.base.frzs,I.base.tbls⟩,⟨m,F.sameBut f (be (cne x c g)),λj y U e1 B e3=>?_⟩,λy T e=>?_,I.free,I.freeC,λp hp=>?_,t ⟨oc,L,I.freeC x c g⟩ f,by simpa using I.len⟩ ⟨c,f,.inr g⟩;·exact (f.2 b (aL (aQ (aE e) (I.ok.cab x c J g)))).trans (I.base.keep b o e n hb hx)
  ·obtain ⟨sl,e1⟩:=I.base.slot b o e n hb hx;exact ⟨sl,(f.2 b (aL (aQ (aE e) (I.ok.cab x c J g)))).trans e1⟩
  ·obtain ⟨o',e1⟩:=I.base.there b o e hx;exact ⟨o',(f.2 b (aL (aQ (aE e) (I.ok.cab x c J g)))).trans e1⟩
  ·by_cases G:j=i;·subst G;rw [hi] at e1; cases e1;rw [aC D] at B;cases B;exact ⟨u,r,.inr ⟨.inl C,c,g,R⟩⟩
   ·rw [aj (be G)] at B;obtain ⟨V,r',q⟩:=hl j y U e1 B e3;refine ⟨V,r',?_⟩;rcases q with q | ⟨k,T,e,z'⟩
    ·exact .inl q
    ·refine .inr ⟨k,T,e,z'.sameBut f ?_⟩;rintro rfl;exact G (WX hN e1 (I.ok.inj _ _ _ e g ▸ hi))
  ·by_cases P:T=c;·subst P; exact ⟨_,R⟩
   ·obtain ⟨w2,z2⟩:=I.cell y T e;exact ⟨w2,z2.sameBut f P⟩
  ·obtain ⟨e,n,ne,W,d⟩:=I.pin p hp;refine ⟨(f.2 p.1 ?_).trans e,n,ne,W,d⟩;intro q;rw [q,L] at e;have q':oc=p.2:=aU.inj e;exact d S (by rw [<-q']; exact K)
theorem ym {M:Model} {A:iO} {E:iG->iJ->Prop} {Q:Unit->iJ->Prop} (I:Inv X pins σ H s) (a:X.N.Nodup) (hi:X.N[i]?=iD x) (hx:Loc X.env.scope x) (r:RelV v u)
  (h:∀ s',Inv X pins (σ.set i (iD v)) H s'->Q () s') (f:X.fn x=iI\/X.env.scope.names.lookup x=iD .local:=by first | exact .inl rfl | exact .inr rfl | assumption):wpAny M A (storeName X.env x u) Q E s:=
 JN I a hi hx r (λs' b _=>h s' b) f
theorem Inv.call' (I:Inv X pins σ H s) (m:s'.os=s.os) (u:Un (frs X.stack) ch H H' s.heap s'.heap) (hok:HOk X.prog X.w H' s'.heap) (hg:ly s'.gens)
  (a:∀ b∈ch,(b∈X.ex\/X.s₀.heap.objs.size<=b)/\b≠X.env.locals/\(∀ x c,X.env.cells.lookup x=iD c->c≠b)/\∀ p∈X.pn++pins,p.1≠b):Inv X pins σ H' s':=by
 obtain ⟨h',g',d',t',o'⟩:=s';have e:o'=s.os:=m;subst e;exact I.call (g':=g') (t':=t') (d':=d') u hok hg a
end
abbrev XK:=iG->Option Addr->Hp->Prop
abbrev St:=List (Option V)
abbrev VK:=V->Hp->Prop
abbrev TE:=St->Hp->VK->Prop
abbrev TT:=St->Hp->(Bool->Hp->Prop)->Prop
abbrev TA:=St->Hp->(List V->Hp->Prop)->Prop
structure Ends where
 nx:St->Hp->Prop
 rt:VK
 bk:St->Hp->Prop:=λ_ _=>False
 ct:St->Hp->Prop:=λ_ _=>False
abbrev TS:=Ends->St->Hp->Prop
def EP (X:Cx) (pins:List (Addr×Obj)) (σ:St) (Q:VK) (u:iG) (s':iJ):Prop:=∃ v H',Inv X pins σ H' s'/\RelV v u/\Q v H'
def TP (X:Cx) (pins:List (Addr×Obj)) (σ:St) (Q:Bool->Hp->Prop) (b:Bool) (s':iJ):Prop:=∃ H',Inv X pins σ H' s'/\Q b H'
def AP (X:Cx) (pins:List (Addr×Obj)) (σ:St) (Q:List V->Hp->Prop) (us:List iG) (s':iJ):Prop:=∃ vs H',Inv X pins σ H' s'/\Vals vs us/\Q vs H'
def SP (X:Cx) (pins:List (Addr×Obj)) (D:Ends) (f:Flow) (s':iJ):Prop:=
 match f with
 | .next=>∃ σ' H',Inv X pins σ' H' s'/\D.nx σ' H'
 | .brk=>∃ σ' H',Inv X pins σ' H' s'/\D.bk σ' H'
 | .cont=>∃ σ' H',Inv X pins σ' H' s'/\D.ct σ' H'
 | .ret u=>∃ v σ' H',Inv X pins σ' H' s'/\RelV v u/\D.rt v H'
structure PE (X:Cx) (e:Expr) (t:TE):Prop where
 run:∀ (pins:List (Addr×Obj)) (s:iJ) (σ:St) (H:Hp) (Q:VK),Inv X pins σ H s->t σ H Q->wpAny (model X.prog X.w) X.A (eval e X.env) (EP X pins σ Q) X.xe s
instance {X:Cx} {e:Expr} {t:TE}:CoeFun (PE X e t) (λ_=>∀ (pins:List (Addr×Obj)) (s:iJ) (σ:St) (H:Hp) (Q:VK),Inv X pins σ H s->t σ H Q->wpAny (model X.prog X.w) X.A (eval e X.env) (EP X pins σ Q) X.xe s):=⟨λh=>h.run⟩
structure PT (X:Cx) (e:Expr) (t:TT):Prop where
 run:∀ (pins:List (Addr×Obj)) (s:iJ) (σ:St) (H:Hp) (Q:Bool->Hp->Prop),Inv X pins σ H s->t σ H Q->wpAny (model X.prog X.w) X.A (isTrue e X.env (eval e X.env)) (TP X pins σ Q) X.xe s
instance {X:Cx} {e:Expr} {t:TT}:CoeFun (PT X e t) (λ_=>∀ (pins:List (Addr×Obj)) (s:iJ) (σ:St) (H:Hp) (Q:Bool->Hp->Prop),Inv X pins σ H s->t σ H Q->wpAny (model X.prog X.w) X.A (isTrue e X.env (eval e X.env)) (TP X pins σ Q) X.xe s):=⟨λh=>h.run⟩
structure PW (X:Cx) (e:Expr) (t:TT):Prop where
 run:∀ (whole:Sem iG) (pins:List (Addr×Obj)) (s:iJ) (σ:St) (H:Hp) (Q:Bool->Hp->Prop),Inv X pins σ H s->t σ H Q->wpAny (model X.prog X.w) X.A (isTrue e X.env whole) (TP X pins σ Q) X.xe s
instance {X:Cx} {e:Expr} {t:TT}:CoeFun (PW X e t) (λ_=>∀ (whole:Sem iG) (pins:List (Addr×Obj)) (s:iJ) (σ:St) (H:Hp) (Q:Bool->Hp->Prop),Inv X pins σ H s->t σ H Q->wpAny (model X.prog X.w) X.A (isTrue e X.env whole) (TP X pins σ Q) X.xe s):=⟨λh=>h.run⟩
variable {e:Expr}
theorem PW.pt {t:TT} (h:PW X e t):PT X e t:=⟨h.run _⟩
structure PA (X:Cx) (es:List Expr) (t:TA):Prop where
 run:∀ (pos:Pos) (pins:List (Addr×Obj)) (s:iJ) (σ:St) (H:Hp) (Q:List V->Hp->Prop),Inv X pins σ H s->t σ H Q->wpAny (model X.prog X.w) X.A (spliced (backTo pos (starEach es X.env))) (AP X pins σ Q) X.xe s
instance {X:Cx} {es:List Expr} {t:TA}:CoeFun (PA X es t) (λ_=>∀ (pos:Pos) (pins:List (Addr×Obj)) (s:iJ) (σ:St) (H:Hp) (Q:List V->Hp->Prop),Inv X pins σ H s->t σ H Q->wpAny (model X.prog X.w) X.A (spliced (backTo pos (starEach es X.env))) (AP X pins σ Q) X.xe s):=⟨λh=>h.run⟩
structure PS (X:Cx) (st:Stmt) (t:TS):Prop where
 run:∀ (pins:List (Addr×Obj)) (s:iJ) (σ:St) (H:Hp) (D:Ends),Inv X pins σ H s->t D σ H->wpAny (model X.prog X.w) X.A (exec st X.env) (SP X pins D) X.xe s
instance {X:Cx} {st:Stmt} {t:TS}:CoeFun (PS X st t) (λ_=>∀ (pins:List (Addr×Obj)) (s:iJ) (σ:St) (H:Hp) (D:Ends),Inv X pins σ H s->t D σ H->wpAny (model X.prog X.w) X.A (exec st X.env) (SP X pins D) X.xe s):=⟨λh=>h.run⟩
structure PSs (X:Cx) (st:List Stmt) (t:TS):Prop where
 run:∀ (pins:List (Addr×Obj)) (s:iJ) (σ:St) (H:Hp) (D:Ends),Inv X pins σ H s->t D σ H->wpAny (model X.prog X.w) X.A (execs st X.env) (SP X pins D) X.xe s
instance {X:Cx} {st:List Stmt} {t:TS}:CoeFun (PSs X st t) (λ_=>∀ (pins:List (Addr×Obj)) (s:iJ) (σ:St) (H:Hp) (D:Ends),Inv X pins σ H s->t D σ H->wpAny (model X.prog X.w) X.A (execs st X.env) (SP X pins D) X.xe s):=⟨λh=>h.run⟩
variable {A:iO} {E:iG->iJ->Prop}
theorem thn {t:Sem α} {Q b:α->iJ->Prop} {M:Model} (h:wpAny M A t Q E s) (c:∀ a s,Q a s->b a s):wpAny M A t b E s:=i8 h c λ_ _ x=>x
variable {σ:St} {pos:Pos} {Q:iG->iJ->Prop} {ta tb:TE} {c:Expr}
section
def qgl (i:Nat):TE:=λσ H Q=>∃ v,σ[i]?=iD (iD v)/\Q v H
def tC (v:V):TE:=λ_ H Q=>Q v H
theorem uQ (j:X.N[i]?=iD x) (f:Vis X.env.scope x) (hd:(x == ("__debug__":Str))=false:=by decide) (d:(x == ("__classdict__":Str))=false:=by decide):PE X (.Name x pos) (qgl i):=by
 refine ⟨?_⟩;intro pins s σ H Q I h;obtain ⟨v,e,h⟩:=h;obtain ⟨m,n,hl⟩:=I.loc;obtain ⟨u,r,l⟩:=hl i x v j e f;have fin:EP X pins σ Q u s:=⟨v,H,I,r,h⟩
 rcases l with ⟨k,g⟩ | ⟨k,c,b,a⟩
 ·exact wpAny_Name (wpAny_loadName_local I.ok.kind k n g fin) hd
 ·rcases k with k | k;·exact wpAny_Name (wpAny_loadName_cell I.ok.kind k b a fin) hd
  ·exact wpAny_Name (wpAny_loadName_free I.ok.kind k b a fin d) hd
theorem qew {i j pos}:PE X (.Constant (.int i) j pos) (tC (.int i)):=⟨λ_ _ _ H _ I h=>wpAny_Constant_int ⟨.int i,H,I.tok _,⟨_,rfl⟩,h⟩⟩
theorem qcL {b j pos}:PE X (.Constant (.bool b) j pos) (tC (.bl b)):=⟨λ_ _ _ H _ I h=>Constant_bool ⟨.bl b,H,I,rfl,h⟩⟩
theorem qex {j pos}:PE X (.Constant .none j pos) (tC .non):=⟨λ_ _ _ H _ I h=>Constant_none ⟨.non,H,I,rfl,h⟩⟩
theorem qb2 {x j pos}:PE X (.Constant (.str x) j pos) (tC (.str x)):=⟨λ_ _ _ H _ I h=>Calls.Constant_str ⟨.str x,H,I.tok _,⟨_,rfl⟩,h⟩⟩
def Gl (X:Cx) (x:Str):Prop:=X.env.kindOf x=iD .globalImplicit
theorem uZ {E:iG->iJ->Prop} {pos:Pos} (I:Inv X pins σ H s) (hg:Gl X x) (c:X.mg x=iD u) (h:Q u s)
  (hd:(x == ("__debug__":Str))=false:=by decide):wpAny (model X.prog X.w) X.A (eval (.Name x pos) X.env) Q E s:=
 Calls.Name_function_global I.ok.kind hg (Calls.loadGlobal_global (by rw [I.ok.glob]; exact I.mod.glob.keeps I.bk) c h) hd
theorem JO {E:iG->iJ->Prop} {pos:Pos} (I:Inv X pins σ H s) (hg:Gl X x) (m:X.mg x=iF) (c:bootBuiltins x=iD u) (h:Q u s)
  (n:x ≠ "__name__":=by decide) (hd:(x == ("__debug__":Str))=false:=by decide):wpAny (model X.prog X.w) X.A (eval (.Name x pos) X.env) Q E s:=by
 obtain ⟨mb,h1,h2⟩:=I.mod.blt;exact Calls.Name_function_global I.ok.kind hg (Calls.loadGlobal_builtin (by rw [I.ok.glob]; exact I.mod.glob.keeps I.bk) m (by rw [I.ok.blt]; exact h1.keeps I.bk) ((h2 x n).trans c) h) hd
theorem Xl (hg:Gl X x) (c:X.mg x=iD u) (r:RelV v u) (hd:(x == ("__debug__":Str))=false:=by decide):PE X (.Name x pos) (tC v):=⟨λ_ _ _ H _ I h=>uZ I hg c ⟨v,H,I,r,h⟩ hd⟩
theorem Xm (hg:Gl X x) (m:X.mg x=iF) (c:bootBuiltins x=iD u) (r:RelV v u) (n:x ≠ "__name__":=by decide) (hd:(x == ("__debug__":Str))=false:=by decide):PE X (.Name x pos) (tC v):=⟨λ_ _ _ H _ I h=>JO I hg m c ⟨v,H,I,r,h⟩ n hd⟩
variable {a b:Expr}
variable {tA tB':TT} {rest:List Expr}
def qh6 (t u:TT):TT:=λσ H Q=>t σ H λc H1=>if c=iI then u σ H1 Q else Q iH H1
def tOr (t u:TT):TT:=λσ H Q=>t σ H λc H1=>if c=iI then Q iI H1 else u σ H1 Q
def qh7 (t:TT):TT:=λσ H Q=>t σ H λc H1=>Q (!c) H1
theorem qcM (f:PT X a tA):PW X (.BoolOp .And [a] pos) tA:=by
 refine ⟨?_⟩;intro w pins s σ H Q I h;refine isTrue_and (thn (f pins s σ H Q I h) λc s1 e=>?_);cases c with
 | true=>exact isTrue_and_nil e
 | false=>exact e
theorem qey (f:PT X a tA):PW X (.BoolOp .Or [a] pos) tA:=by
 refine ⟨?_⟩;intro w pins s σ H Q I h;refine isTrue_or (thn (f pins s σ H Q I h) λc s1 e=>?_);cases c with
 | false=>exact isTrue_or_nil e
 | true=>exact e
theorem qez (f:PT X a tA) (hb:PW X (.BoolOp .And (b::rest) pos) tB'):PW X (.BoolOp .And (a::b::rest) pos) (qh6 tA tB'):=by
 refine ⟨?_⟩;intro w pins s σ H Q I h;refine isTrue_and (thn (f pins s σ H _ I h) λc s1 ⟨H1,d,q⟩=>?_);cases c with
 | true=>exact hb w pins s1 σ H1 Q d q
 | false=>exact ⟨H1,d,q⟩
theorem qgC (f:PT X a tA) (hb:PW X (.BoolOp .Or (b::rest) pos) tB'):PW X (.BoolOp .Or (a::b::rest) pos) (tOr tA tB'):=by
 refine ⟨?_⟩;intro w pins s σ H Q I h;refine isTrue_or (thn (f pins s σ H _ I h) λc s1 ⟨H1,d,q⟩=>?_);cases c with
 | true=>exact ⟨H1,d,q⟩
 | false=>exact hb w pins s1 σ H1 Q d q
theorem qeA (f:PT X a tA):PT X (.UnaryOp .Not a pos) (qh7 tA):=by refine ⟨?_⟩;intro pins s σ H Q I h;exact isTrue_not (f pins s σ H (λc H1=>Q (!c) H1) I h)
def qgD (ta tb:TE):TE:=λσ H Q=>ta σ H λx H1=>∃ c,x=.bl c/\if c=iI then tb σ H1 Q else Q (.bl iH) H1
theorem qeB {op} {t:TE} (h:PE X a t):PE X (.BoolOp op [a] pos) t:=⟨λpins s σ H Q I hw=>BoolOp_one (h pins s σ H Q I hw)⟩
theorem qeC (f:PE X a ta) (hb:PE X (.BoolOp .And (b::rest) pos) tb):PE X (.BoolOp .And (a::b::rest) pos) (qgD ta tb):=by
 refine ⟨?_⟩;intro pins s σ H Q I h;refine BoolOp_and (thn (f pins s σ H _ I h) λv s1 ⟨x,H1,d,r1,q⟩=>?_);obtain ⟨c,rfl,q⟩:=q;cases r1;refine i7 ?_;cases c with
 | true=>exact hb pins s1 σ H1 Q d q
 | false=>exact ⟨.bl iH,H1,d,rfl,q⟩
def tIf (t:TT) (ta tb:TE):TE:=λσ H Q=>t σ H λc H1=>if c=iI then ta σ H1 Q else tb σ H1 Q
theorem qao (f:PT X c tA) (g:PE X a ta) (hb:PE X b tb):PE X (.IfExp c a b pos) (tIf tA ta tb):=by
 refine ⟨?_⟩;intro pins s σ H Q I h;refine wpAny_IfExp (thn (f pins s σ H _ I h) λd s1 ⟨H1,e,q⟩=>?_);cases d with
 | true=>exact g pins s1 σ H1 Q e q
 | false=>exact hb pins s1 σ H1 Q e q
end
def SqL (K:Frag) (H:Hp) (a:Addr) (xs:List V):Prop:=
 Rd H a (.lst xs) \/
  ∃ (o:Obj) (its:Array iG) (n:Nat),K.lookup a=iD o/\o.cls=.type "list"/\o.dict=iF/\o.data=.seq its n/\its.size<=sizeLine/\Vals xs its.toList
def SqT (K:Frag) (H:Hp) (a:Addr) (xs:List V):Prop:=
 Rd H a (.tup xs) \/
  ∃ (o:Obj) (its:Array iG) (n:Nat),K.lookup a=iD o/\(o.cls=.type "tuple"/\o.dict=iF)/\o.data=.seq its n/\its.size<=sizeLine/\Vals xs its.toList
noncomputable def qh8:iG->Option V
 | .none=>iD .non
 | .bool b=>iD (.bl b)
 | .int i _=>iD (.int i)
 | .str x _=>iD (.str x)
 | .bytes b _=>iD (.byt b)
 | .float b _=>iD (.flt b)
 | .ref a=>iD (.ref a)
 | .type n=>iD (.ty n)
 | _=>iF
theorem RelV.abs {x:V} (r:RelV x u):qh8 u=iD x:=by
 cases x with
 | non=>cases r; rfl
 | bl _=>cases r; rfl
 | int _=>obtain ⟨t,rfl⟩:=r; rfl
 | str _=>obtain ⟨t,rfl⟩:=r; rfl
 | byt _=>obtain ⟨t,rfl⟩:=r; rfl
 | flt _=>obtain ⟨t,rfl⟩:=r; rfl
 | ref _=>cases r; rfl
 | ty _=>cases r; rfl
variable {y:V}
theorem RelV.inj {x:V} (r:RelV x u) (q:RelV y u):x=y:=aU.inj (r.abs.symm.trans q.abs)
theorem Vals.inj:∀ {xs ys:List V} {us:List iG},Vals xs us->Vals ys us->xs=ys
 | _,_,_,.nil,.nil=>rfl
 | _,_,_,.cons r t,.cons r' t'=>by rw [r.inj r',Vals.inj t t']
variable {K:Frag}
section
variable {ys:List V}
theorem SqT.of (h:H a=iD (.tup xs)):SqT K H a xs:=.inl (.inl h)
theorem Inv.list (I:Inv X pins σ H s) (h:SqL X.K H a xs):∃ its:List iG,Vals xs its/\PlainL s.heap a its.toArray/\xs.length<=sizeLine:=by
 rcases h with h | ⟨o,its,n,hk,hc,hd,hs,hz,r⟩
 ·obtain ⟨z,its,n,r,e⟩:=h.ok I.hok;exact ⟨its,r,⟨_,n,e,rfl,rfl,rfl⟩,z⟩
 ·refine ⟨its.toList,r,⟨o,n,I.kIn a o hk,hc,hd,by simpa using hs⟩,?_⟩;have e:=r.length;simp only [cC] at e;omega
theorem Inv.tuple (I:Inv X pins σ H s) (h:SqT X.K H a xs):∃ its:List iG,Vals xs its/\IsTup s.heap a its.toArray/\xs.length<=sizeLine:=by
 rcases h with h | ⟨o,its,n,hk,hc,hs,hz,r⟩
 ·obtain ⟨⟨z,_⟩,its,r,p⟩:=h.ok I.hok;exact ⟨its,r,p,z⟩
 ·refine ⟨its.toList,r,⟨o,I.kIn a o hk,hc.1,n,by simpa using hs⟩,?_⟩;have e:=r.length;simp only [cC] at e;omega
theorem Inv.tupleN (I:Inv X pins σ H s) (h:SqT X.K H a xs):∃ o,s.heap.get? a=iD o/\o.dict=none:=by
 rcases h with h | ⟨o,its,n,hk,hc,hs,hz,r⟩
 ·obtain ⟨⟨z,w⟩,its,r,p⟩:=h.ok I.hok;exact w
 ·exact ⟨o,I.kIn a o hk,hc.2⟩
theorem Inv.list_inj (I:Inv X pins σ H s) (h:SqL X.K H a xs) (h':SqL X.K H a ys):xs=ys:=by
 obtain ⟨its,r,⟨o,n,e,_,_,d⟩,_⟩:=I.list h;obtain ⟨its',r',⟨o',c,b,_,_,d'⟩,_⟩:=I.list h';rw [e] at b; cases b;rw [d] at d';injection d' with d1 _;have:its=its':=by simpa using congrArg Array.toList d1
 subst this;exact r.inj r'
theorem Inv.tuple_inj (I:Inv X pins σ H s) (h:SqT X.K H a xs) (h':SqT X.K H a ys):xs=ys:=by
 obtain ⟨its,r,⟨o,e,_,n,d⟩,_⟩:=I.tuple h;obtain ⟨its',r',⟨o',b,_,c,d'⟩,_⟩:=I.tuple h';rw [e] at b; cases b;rw [d] at d';injection d' with d1 _;have:its=its':=by simpa using congrArg Array.toList d1
 subst this;exact r.inj r'
end
variable {te:TE}
section
variable {st:Stmt} {rest:List Stmt} {t u:TS}
def qgE:TS:=λD σ H=>D.nx σ H
def qap (t u:TS):TS:=λD σ H=>t { D with nx:=u D } σ H
theorem Vy:PSs X [] qgE:=⟨λ_ _ σ H _ I h=>wpAny_execs_nil ⟨σ,H,I,h⟩⟩
theorem uC (h1:PS X st t) (h2:PSs X rest u):PSs X (st::rest) (qap t u):=by
 refine ⟨?_⟩;intro pins s σ H D I h;refine wpAny_execs_cons (thn (h1 pins s σ H { D with nx:=u D } I h) λf s1 q=>?_);cases f with
 | next=>obtain ⟨σ',H',b,q⟩:=q;exact h2 pins s1 σ' H' D b q
 | ret v=>exact q
 | brk=>exact q
 | cont=>exact q
theorem Vz (h1:PS X st t):PSs X [st] t:=by
 refine ⟨?_⟩;intro pins s σ H D I h;refine wpAny_execs_cons (thn (h1 pins s σ H D I h) λf s1 q=>?_);cases f with
 | next=>exact wpAny_execs_nil q
 | ret v=>exact q
 | brk=>exact q
 | cont=>exact q
theorem Inv.quiet (I:Inv X pins σ H s):interactive X.env=false:=by simp [interactive,I.ok.kind]
def qgF (te:TE):TS:=λD σ H=>te σ H λ_ H1=>D.nx σ H1
theorem qcN (g:PE X e te) (c:swapsWith e iF pos.line X.env=pure false:=by rfl):PS X (.Expr e pos) (qgF te):=by refine ⟨?_⟩;intro pins s σ H D I h;exact wpAny_Expr_any (thn (g pins s σ H _ I h) λv s1 ⟨x,H1,d,r1,q⟩=>⟨σ,H1,d,q⟩) I.quiet c
def qh9 (te:TE):TS:=λD σ H=>te σ H D.rt
theorem qeD (g:PE X e te):PS X (.Return (iD e) pos) (qh9 te):=by refine ⟨?_⟩;intro pins s σ H D I h;exact wpAny_Return_some (thn (g pins s σ H _ I h) λv s1 ⟨x,H1,d,r1,q⟩=>⟨x,σ,H1,d,r1,q⟩)
def qia (c:TT) (t u:TS):TS:=λD σ H=>c σ H λb H1=>if b=iI then t D σ H1 else u D σ H1
theorem qgG {a b:List Stmt} {tc:TT} (f:PT X c tc) (g:PSs X a t) (hb:PSs X b u):PS X (.If c a b pos) (qia tc t u):=by
 refine ⟨?_⟩;intro pins s σ H D I h;refine wpAny_If (thn (f pins s σ H _ I h) λd s1 ⟨H1,e,q⟩=>?_);cases d with
 | true=>exact g pins s1 σ H1 D e q
 | false=>exact hb pins s1 σ H1 D e q
end
abbrev TG:=V->St->Hp->(St->Hp->Prop)->Prop
abbrev TGs:=List V->St->Hp->(St->Hp->Prop)->Prop
structure PG (X:Cx) (target:Expr) (t:TG):Prop where
 run:∀ (pins:List (Addr×Obj)) (s:iJ) (σ:St) (H:Hp) (v:V) (u:iG) (Q:St->Hp->Prop),Inv X pins σ H s->RelV v u->t v σ H Q ->wpAny (model X.prog X.w) X.A (assign target X.env u) (λ_ s'=>∃ σ' H',Inv X pins σ' H' s'/\Q σ' H') X.xe s
instance {X:Cx} {target:Expr} {t:TG}:CoeFun (PG X target t) (λ_=>∀ (pins:List (Addr×Obj)) (s:iJ) (σ:St) (H:Hp) (v:V) (u:iG) (Q:St->Hp->Prop),Inv X pins σ H s->RelV v u->t v σ H Q ->wpAny (model X.prog X.w) X.A (assign target X.env u) (λ_ s'=>∃ σ' H',Inv X pins σ' H' s'/\Q σ' H') X.xe s):=⟨λh=>h.run⟩
structure PGs (X:Cx) (ts:List Expr) (t:TGs):Prop where
 run:∀ (pins:List (Addr×Obj)) (s:iJ) (σ:St) (H:Hp) (vs:List V) (us:List iG) (Q:St->Hp->Prop),Inv X pins σ H s->Vals vs us->t vs σ H Q ->wpAny (model X.prog X.w) X.A (assignInOrder ((assignEach ts X.env).map (·.2)) us) (λ_ s'=>∃ σ' H',Inv X pins σ' H' s'/\Q σ' H') X.xe s
instance {X:Cx} {ts:List Expr} {t:TGs}:CoeFun (PGs X ts t) (λ_=>∀ (pins:List (Addr×Obj)) (s:iJ) (σ:St) (H:Hp) (vs:List V) (us:List iG) (Q:St->Hp->Prop),Inv X pins σ H s->Vals vs us->t vs σ H Q ->wpAny (model X.prog X.w) X.A (assignInOrder ((assignEach ts X.env).map (·.2)) us) (λ_ s'=>∃ σ' H',Inv X pins σ' H' s'/\Q σ' H') X.xe s):=⟨λh=>h.run⟩
abbrev qgH:=V->V->V->Hp->(Hp->Prop)->Prop
def qhy (X:Cx) (t:qgH):Prop:=
 ∀ (pins:List (Addr×Obj)) (s:iJ) (σ:St) (H:Hp) (o i v:V) (a b u:iG) (Q:Hp->Prop),Inv X pins σ H s->RelV o a->RelV i b->RelV v u->t o i v H Q ->wpAny (model X.prog X.w) X.A (setItem a b u) (λ_ s'=>∃ H',Inv X pins σ H' s'/\Q H') X.xe s
variable {es:List Expr} {tg:Expr} {pos':Pos}
section
def qeE (i:Nat):TG:=λv σ H Q=>Q (σ.set i (iD v)) H
theorem qcO (a:X.N.Nodup) (hi:X.N[i]?=iD x) (hx:Loc X.env.scope x) (f:X.fn x=iI\/X.env.scope.names.lookup x=iD .local:=by first | exact .inl rfl | exact .inr rfl | assumption):PG X (.Name x pos) (qeE i):=by refine ⟨?_⟩;intro pins s σ H v u Q I r h;exact wpAny_assign_Name (ym I a hi hx r (λs' b=>⟨_,H,b,h⟩) f)
def qib:TGs:=λvs σ H Q=>vs=[]/\Q σ H
def qgI (t:TG) (u:TGs):TGs:=λvs σ H Q=>∃ v r,vs=v::r/\t v σ H λσ' H'=>u r σ' H' Q
theorem qcP:PGs X [] qib:=by refine ⟨?_⟩;intro pins s σ H vs us Q I r h;obtain ⟨e,h⟩:=h;subst e;cases r;exact assignInOrder_nil ⟨σ,H,I,h⟩
theorem qaq {t:TG} {u:TGs} (h1:PG X e t) (h2:PGs X es u)
  (c:(assignEach (e::es) X.env).map (·.2)=assign e X.env::(assignEach es X.env).map (·.2):=by rfl):PGs X (e::es) (qgI t u):=by
 refine ⟨?_⟩;intro pins s σ H vs us Q I r h;obtain ⟨v,vr,e1,h⟩:=h;subst e1;cases r with
 | cons r a=>rw [c];refine assignInOrder_cons (thn (h1 pins s σ H _ _ _ I r h) λ_ s1 ⟨σ1,H1,d,q⟩=>?_);exact h2 pins s1 σ1 H1 _ _ Q d a q
def qic (K:Frag) (n:Nat) (t:TGs):TG:=λv σ H Q=>∃ a xs,v=.ref a/\SqT K H a xs/\xs.length=n/\t xs σ H Q
theorem qeF {k:Nat} {t:TGs} {n:Nat} (f:X.calm=iI) (h:PGs X es t)
  (d:(assignEach es X.env).length=n:=by rfl) (c:(assignEach es X.env).findIdx? (·.1)=none:=by rfl):PG X (.Tuple es k pos) (qic X.K n t):=by
 refine ⟨?_⟩;intro pins s σ H v u Q I r hw;obtain ⟨a,xs,e1,hq,hl,hw⟩:=hw;subst e1;cases r;obtain ⟨its,rv,l,z⟩:=I.tuple hq;refine assign_Tuple_tuple (I.ok.hd f) l (by simp [d,<-hl,rv.length]) c λh' hx=>?_;have g:Inv X pins σ H { s with heap:=h' }:=I.kept (t':=s.toks) λb o e=>hx b o (aL (aE e)) e;exact h pins _ σ H xs _ Q g (by simpa using rv) hw
def qid (to a:TE) (t:qgH):TG:=λv σ H Q=>to σ H λo H1=>a σ H1 λi H2=>t o i v H2 λb=>Q σ b
theorem qeG {o i:Expr} {to c:TE} {t:qgH} (m:PE X o to) (hi:PE X i c) (f:qhy X t)
  (g:∀ v,assign (.Subscript o i pos) X.env v=(do
   let a <-holding [v] (eval o X.env)
   let b <-holding [v,a] (eval i X.env)
   standAt pos
   holding [v,a,b] (setItem a b v)
   release [v,a,b] []):=by intro _; rfl):PG X (.Subscript o i pos) (qid to c t):=by
 refine ⟨?_⟩;intro pins s σ H v u Q I r h;rw [g];refine iE (iX (thn (m pins s σ H _ I h) λa s1 ⟨x,H1,l,r1,e⟩=>?_));refine iE (iX (thn (hi pins s1 σ H1 _ l e) λb s2 ⟨y,H2,k,r2,d⟩=>?_));refine iE (lC (iE (iX (thn (f pins s2 σ H2 x y v a b u _ k r1 r2 r d) λ_ s3 ⟨n,j,q⟩=>?_))));exact wpAny_release ⟨σ,n,j,q⟩
def qhz (te:TE) (g:TG):TS:=λD σ H=>te σ H λx H1=>g x σ H1 D.nx
theorem qb3 {g:TG} (b:PE X e te) (hg:PG X tg g) (c:swapsWithSole [tg] e pos.line X.env=pure false:=by rfl) (hw:swappedStores [tg] e X.env=pure none:=by rfl)
  (h1:(assignEach [tg] X.env).map (·.2)=[assign tg X.env]:=by rfl):PS X (.Assign [tg] e pos) (qhz te g):=by
 refine ⟨?_⟩;intro pins s σ H D I h;refine wpAny_Assign_stores (thn (b pins s σ H _ I h) λv s1 ⟨x,H1,d,r1,a⟩=>?_) c hw;rw [h1];exact thn (hg pins s1 σ H1 x v _ d r1 a) λ_ s2 q=>q
theorem qb4 (a:X.N.Nodup) (hi:X.N[i]?=iD x) (hx:Loc X.env.scope x) (g:PE X e te) (c:swapsWith e (iD (.Name x pos')) pos.line X.env=pure false:=by rfl) (f:X.fn x=iI\/X.env.scope.names.lookup x=iD .local:=by first | exact .inl rfl | exact .inr rfl | assumption):PS X (.Assign [.Name x pos'] e pos) (qhz te (qeE i)):=by refine ⟨?_⟩;intro pins s σ H D I h;refine wpAny_Assign_Name (thn (g pins s σ H _ I h) λv s1 ⟨y,H1,d,r1,q⟩=>?_) c;exact ym d a hi hx r1 (λs2 k=>⟨_,H1,k,q⟩) f
def qie (i j:Nat) (ta:TA):TS:=λD σ H=>ta σ H λvs H1=>∃ v w,vs=[v,w]/\D.nx ((σ.set i (iD v)).set j (iD w)) H1
theorem qeH {y:Str} {a b:Expr} {ta:TA} {px py pt:Pos} {kt k2 pt2} (z:X.calm=iI) (l:X.N.Nodup) (hi:X.N[i]?=iD x) (G:X.N[j]?=iD y) (g:i≠j)
  (hx:X.env.scope.names.lookup x=iD .local) (k:X.env.scope.names.lookup y=iD .local) (B:PA X [a,b] ta)
  (hw:swappedStores [.Tuple [.Name x px,.Name y py] kt pt] (.Tuple [a,b] k2 pt2) X.env=pure (iD [x,y]))
  (t:swapsWithSole [.Tuple [.Name x px,.Name y py] kt pt] (.Tuple [a,b] k2 pt2) pos.line X.env=pure false:=by rfl) :
  PS X (.Assign [.Tuple [.Name x px,.Name y py] kt pt] (.Tuple [a,b] k2 pt2) pos) (qie i j ta):=by
 refine ⟨?_⟩;intro pins s σ H D I h;rw [exec_Assign_arm];refine iE (lC ?_);rw [t];refine iE (iK ?_);rw [if_neg (by decide)];refine iE (Tuple_ (thn (B _ pins s σ H _ I h) λus s1 ⟨vs,H1,K,r1,d⟩=>?_));obtain ⟨v,w,e1,d⟩:=d;subst e1;obtain ⟨c,u,rfl,rv,rw'⟩:∃ c u,us=[c,u]/\RelV v c/\RelV w u:=by
  cases r1 with
  | cons p q=>
   cases q with
   | cons r n=>cases n;exact ⟨_,_,rfl,p,r⟩
 refine iN ?_ (by show 2<=sizeLine; decide);have J:Inv X pins σ H1 { s1 with heap:=s1.heap.push { cls:=.type "tuple",data:=.seq [c,u].toArray } }:=K.kept (t':=s1.toks) λb o e=>aa _ e;rw [hw];refine iE (iK ?_);show wpAny (model X.prog X.w) X.A (do rule "assign.swapped-stores"; let items <-unpackItems (.ref s1.heap.objs.size) 2 iF; assignInOrder [λv=>bindName X.env y v,λv=>bindName X.env x v] items.reverse; pure Flow.next) _ _ _;refine iE (j8 (iE (unpackItems_tuple (items:=#[c,u]) (I.ok.hd z) (ir s1.heap _) λh' f=>?_)));have E:=J.kept (h':=h') (t':=s1.toks) λb o e=>f b o (aL (aE e)) e;show wpAny _ _ (assignInOrder [λv=>bindName X.env y v,λv=>bindName X.env x v] [u,c] >>= λ_=>pure Flow.next) _ _ _;refine iE (assignInOrder_cons (wpAny_bindName (ym E l G (.inl k) rw' (λs2 C=>?_) (.inr k))));refine assignInOrder_cons (wpAny_bindName (ym C l hi (.inl hx) rv (λs3 m=>assignInOrder_nil (iK ?_)) (.inr hx)));rw [List.set_comm _ _ (be g)] at m;exact ⟨_,H1,m,d⟩
end
structure It where
 go:Nat->Hp->Prop
 yld:Nat->Hp->V->Hp->Prop
 stop:Nat->Hp->Prop
def Vt (X:Cx) (pins:List (Addr×Obj)) (H:Hp) (b:Addr):Prop:=
 H b=iF/\b≠X.env.locals/\b∉X.fs/\(b∈X.ex\/X.s₀.heap.objs.size<=b)/\(∀ x c,X.env.cells.lookup x=iD c->c≠b)/\∀ p∈X.pn++pins,p.1≠b
theorem Inv.fpOk (I:Inv X pins σ H s) (hb:s.heap.objs.size<=b) (n:H' b=iF):Vt X pins H' b:=by
 refine ⟨n,dH (aQ I.lt hb),I.nofs hb,.inr (bR I.sz hb),λx c e z=>?_,λp hp z=>?_⟩;·obtain ⟨v,q⟩:=I.cell x c e;exact absurd (aQ q.lt (by rw [z]; exact hb)) (cD _)
 ·exact absurd (aQ (aE (I.pin p hp).1) (by rw [z]; exact hb)) (cD _)
structure Turn (P:iL) (w:iM) (K:Frag) (tg:Expr) (J:It) (fp:List Addr) (it:Addr) (tn:Nat->Heap->Prop):Prop where
 mem:it∈fp
 obj:∀ i h,tn i h->∀ b∈fp,∃ o,h.get? b=iD o/\∀ v,o.data≠.cell v
 keep:∀ i h h',tn i h->(∀ b∈fp,∀ o,h.get? b=iD o->h'.get? b=iD o)->tn i h'
 item:∀ (X:Cx),X.prog=P->X.w=w->X.K=K->X.calm=iI->∀ (i:Nat) (pins:List (Addr×Obj)) (s:iJ) (σ:St) (H:Hp) (E:iG->iJ->Prop),Inv X pins σ H s->(∀ b∈fp,Vt X pins H b)->tn i s.heap->J.go i H ->wpAny (model P w) X.A (pyNext (.ref it)) (λr s1=>∃ u,r=iD u /\
   wpAny (model P w) X.A (letOwnedTupleGo tg (.ref it) u) (λ_ s2=>∃ x H',Inv X pins σ H' s2/\RelV x u/\J.yld i H x H'/\tn (i+1) s2.heap/\∀ b∈fp,H' b=iF) E s1) E s
 done:∀ (X:Cx),X.prog=P->X.w=w->X.K=K->X.calm=iI->∀ (i:Nat) (pins:List (Addr×Obj)) (s:iJ) (σ:St) (H:Hp) (E:iG->iJ->Prop),Inv X pins σ H s->(∀ b∈fp,Vt X pins H b)->tn i s.heap->J.stop i H ->wpAny (model P w) X.A (pyNext (.ref it)) (λr s1=>r=iF/\Inv X pins σ H s1) E s
 self:∀ (A:iO) (i:Nat) (s:iJ) (Q:iG->iJ->Prop) (E:iG->iJ->Prop),tn i s.heap->Q (.ref it) s->wpAny (model P w) A (pyIter (.ref it)) Q E s
abbrev TI:=St->Hp->(It->Hp->Prop)->Prop
def PIE (X:Cx) (pins:List (Addr×Obj)) (σ:St) (tg:Expr) (R:It->Hp->Prop) (i:iG) (s2:iJ):Prop:=
 ∃ (it:Addr) (fp:List Addr) (tn:Nat->Heap->Prop) (J:It) (H':Hp),i=.ref it/\Inv X pins σ H' s2/\Turn X.prog X.w X.K tg J fp it tn/\tn 0 s2.heap/\(∀ b∈fp,Vt X pins H' b)/\R J H'
structure PI (X:Cx) (tg iter:Expr) (wi:TI):Prop where
 run:∀ (pins:List (Addr×Obj)) (s:iJ) (σ:St) (H:Hp) (R:It->Hp->Prop),Inv X pins σ H s->wi σ H R ->wpAny (model X.prog X.w) X.A (eval iter X.env) (λv s1=>wpAny (model X.prog X.w) X.A (pyIter v) (PIE X pins σ tg R) X.xe s1) X.xe s
instance {X:Cx} {tg iter:Expr} {wi:TI}:CoeFun (PI X tg iter wi) (λ_=>∀ (pins:List (Addr×Obj)) (s:iJ) (σ:St) (H:Hp) (R:It->Hp->Prop),Inv X pins σ H s->wi σ H R ->wpAny (model X.prog X.w) X.A (eval iter X.env) (λv s1=>wpAny (model X.prog X.w) X.A (pyIter v) (PIE X pins σ tg R) X.xe s1) X.xe s):=⟨λh=>h.run⟩
theorem qar {M:Model} {A:iO} {E:iG->iJ->Prop} {tg:Expr} {u:iG} {o:Obj} {n:String} {vs:Array iG} {Q:Unit->iJ->Prop} (m:s.heap.get? it=iD o) (d:o.cls=.type n) (hd:o.data=.fields vs)
    (a:["enumerate", "zip", "dict_itemiterator", "dict_reverseitemiterator", "odict_iterator", "itertools.zip_longest", "itertools.pairwise"].contains n=iH) (c:Q () s):wpAny M A (letOwnedTupleGo tg (.ref it) u) Q E s:=by
  unfold letOwnedTupleGo;cases tg <;> first
    | exact iK c
    | (cases u <;> first
        | exact iK c
        | (refine iE (wpAny_load m ?_)
           rw [d,hd];show wpAny M A (if (["enumerate", "zip", "dict_itemiterator", "dict_reverseitemiterator", "odict_iterator", "itertools.zip_longest", "itertools.pairwise"].contains n&&vs[0]? == iD (rawInt _))=iI then _ else _) Q E s;rw [if_neg (by intro h; rw [a,Bool.false_and] at h; cases h)];exact iK c))
noncomputable def Itl (K:Frag) (a:Addr):It:=
 ⟨λi H=>∃ xs x,SqL K H a xs/\xs[i]?=iD x,λi H x H'=>H'=H/\∀ xs,SqL K H a xs->xs[i]?=iD x,λi H=>∃ xs,SqL K H a xs/\xs.length<=i⟩
noncomputable def Itt (K:Frag) (a:Addr):It:=
 ⟨λi H=>∃ xs x,SqT K H a xs/\xs[i]?=iD x,λi H x H'=>H'=H/\∀ xs,SqT K H a xs->xs[i]?=iD x,λi H=>∃ xs,SqT K H a xs/\xs.length<=i⟩
noncomputable def Itr (lo:Int) (n:Nat):It:=⟨λi _=>i < n,λi H x H'=>H'=H/\x=.int (lo+i),λi _=>n<=i⟩
theorem Xn (a it:Addr):Turn P w K tg (Itl K a) [it] it (λi h=>h.IsListIter it a i) where
 mem:=by simp
 obj:=λi h st b hb=>by
  have e:b=it:=by simpa using hb
  subst e;obtain ⟨o,e,c,d⟩:=st;exact ⟨o,e,λv z=>by rw [d] at z; cases z⟩
 keep:=λi h h' st k=>st.at λo e=>k it (by simp) o e
 item:=by intro X j hw l n i pins s σ H E I g st hg;subst j hw l;obtain ⟨xs,x,hq,hx⟩:=hg;obtain ⟨its,rv,p,t⟩:=I.list hq;obtain ⟨u,A,r⟩:=rv.get hx;obtain ⟨f0,f1,f2,m,f4,f5⟩:=g it (by simp);refine wpAny_pyNext_list_item st p.isList (x:=u) (by simpa using A) λh' f q=>?_;have C:Inv X pins σ H { s with heap:=h' }:=I.turned (t':=s.toks) (λb o hb e=>(q.2 b hb).trans e) f0 f1 m f4 f5;obtain ⟨o,e,c,d⟩:=id f;exact ⟨u,rfl,qar (s:={ s with heap:=h' }) e c d (by decide) ⟨x,H,C,r,⟨rfl,λys y=>by rw [I.list_inj y hq]; exact hx⟩,f,λb hb=>(g b hb).1⟩⟩
 done:=by intro X j hw l n i pins s σ H E I g st hg;subst j hw l;obtain ⟨xs,hq,hx⟩:=hg;obtain ⟨its,rv,p,t⟩:=I.list hq;obtain ⟨f0,f1,f2,m,f4,f5⟩:=g it (by simp);have hl:=rv.length;exact wpAny_pyNext_list_end (I.ok.hd n) st p.isList (by simp; omega) λh' B=>⟨rfl,I.turned (t':=s.toks) (λb o hb e=>B b o hb e) f0 f1 m f4 f5⟩
 self:=λ_ _ _ _ _ st h=>wpAny_pyIter_listiter st h
theorem Yn (a it:Addr):Turn P w K tg (Itt K a) [it] it (λi h=>h.IsTupleIter it a i) where
 mem:=by simp
 obj:=λi h st b hb=>by
  have e:b=it:=by simpa using hb
  subst e;obtain ⟨o,e,c,d⟩:=st;exact ⟨o,e,λv z=>by rw [d] at z; cases z⟩
 keep:=λi h h' st k=>st.at λo e=>k it (by simp) o e
 item:=by intro X j hw l n i pins s σ H E I g st hg;subst j hw l;obtain ⟨xs,x,hq,hx⟩:=hg;obtain ⟨its,rv,p,t⟩:=I.tuple hq;obtain ⟨u,A,r⟩:=rv.get hx;obtain ⟨f0,f1,f2,m,f4,f5⟩:=g it (by simp);refine wpAny_pyNext_tuple_item st (show s.heap.IsTuple a its.toArray from p) (x:=u) (by simpa using A) λh' f q=>?_;have C:Inv X pins σ H { s with heap:=h' }:=I.turned (t':=s.toks) (λb o hb e=>(q.2 b hb).trans e) f0 f1 m f4 f5;obtain ⟨o,e,c,d⟩:=id f;exact ⟨u,rfl,qar (s:={ s with heap:=h' }) e c d (by decide) ⟨x,H,C,r,⟨rfl,λys y=>by rw [I.tuple_inj y hq]; exact hx⟩,f,λb hb=>(g b hb).1⟩⟩
 done:=by intro X j hw l n i pins s σ H E I g st hg;subst j hw l;obtain ⟨xs,hq,hx⟩:=hg;obtain ⟨its,rv,p,t⟩:=I.tuple hq;obtain ⟨f0,f1,f2,m,f4,f5⟩:=g it (by simp);have hl:=rv.length;exact wpAny_pyNext_tuple_end (I.ok.hd n) st (show s.heap.IsTuple a its.toArray from p) (by simp; omega) λh' B=>⟨rfl,I.turned (t':=s.toks) (λb o hb e=>B b o hb e) f0 f1 m f4 f5⟩
 self:=λ_ _ _ _ _ st h=>wpAny_pyIter_tupleiter st h
theorem Yo (it:Addr) (lo:Int) (n:Nat):Turn P w K tg (Itr lo n) [it] it (λi h=>IsRangeIter h it (lo+(i:Nat) * 1) ((n:Int) - (i:Nat)) 1) where
 mem:=by simp
 obj:=λi h st b hb=>by
  have e:b=it:=by simpa using hb
  subst e;exact ⟨_,st,λv z=>by have c:Data.fields _=Data.cell v:=z;cases c⟩
 keep:=λi h h' st k=>k it (by simp) _ st
 item:=by intro X j hw l d i pins s σ H E I a st hg;subst j hw l;obtain ⟨f0,f1,f2,m,f4,f5⟩:=a it (by simp);have W:=Walks.range (prog:=X.prog) (w:=X.w) (I.ok.hd d) it lo 1 n;refine W.item i s _ _ hg st λv h' tk p f g=>?_;obtain ⟨t,rfl⟩:=p;have q:Inv X pins σ H { s with heap:=h',toks:=tk }:=I.turned (λb o hb e=>g b o (by simpa using hb) e) f0 f1 m f4 f5;refine ⟨_,rfl,qar (s:={ s with heap:=h',toks:=tk }) (n := "range_iterator") f rfl rfl (by decide) ⟨.int (lo+i),H,q,⟨t,?_⟩,⟨rfl,rfl⟩,f,λb hb=>(a b hb).1⟩⟩;rw [Int.mul_one]
 done:=by intro X j hw l d i pins s σ H E I a st hg;subst j hw l;obtain ⟨f0,f1,f2,m,f4,f5⟩:=a it (by simp);exact wpAny_pyNext_range_end (I.ok.hd d) st (by have:n<=i:=hg; omega) λh' B=>⟨rfl,I.turned (t':=s.toks) (λb o hb e=>B b o hb e) f0 f1 m f4 f5⟩
 self:=λ_ _ _ _ _ st h=>wpAny_pyIter_rangeiter st h
variable {p:Pos} {fp:List Addr}
section
theorem qas {R:It->Hp->Prop} {E:iG->iJ->Prop} {lo hi:Int} {t u v:Tok} {tk:Nat} (I:Inv X pins σ H s) (h1:-(2 ^ 62)<=lo) (h2:lo < 2 ^ 62) (i:-(2 ^ 62)<=hi) (h:hi < 2 ^ 62)
  (q:R (Itr lo (hi - lo).toNat) H):wpAny (model X.prog X.w) X.A (pyIter (.ref s.heap.objs.size)) (PIE X pins σ tg R) E { s with heap:=s.heap.push { cls:=.type "range",data:=.fields #[.int lo t,.int hi u,.int 1 v] },toks:=tk }:=by
 refine wpAny_pyIter_range (IsRange.new ..) (small_one h1 h2 i h) ?_;have d:Inv X pins σ H { s with heap:=s.heap.push { cls:=.type "range",data:=.fields #[.int lo t,.int hi u,.int 1 v] },toks:=tk }:=I.kept λb o e=>aa _ e;refine ⟨(s.heap.push { cls:=.type "range",data:=.fields #[.int lo t,.int hi u,.int 1 v] }).objs.size,[(s.heap.push { cls:=.type "range",data:=.fields #[.int lo t,.int hi u,.int 1 v] }).objs.size],_,_,H,rfl,d.kept (t':=tk) λb o e=>aa _ e,Yo _ lo (hi - lo).toNat,?_,λb hb=>?_,q⟩
 ·have e1:lo+((0:Nat):Int) * 1=lo:=by simp
  have a:(((hi - lo).toNat:Nat):Int) - ((0:Nat):Int)=Builtin.Range.rangeSize lo hi 1:=by rw [rangeSize_one]; split <;> omega
  show IsRangeIter _ _ (lo+((0:Nat):Int) * 1) ((((hi - lo).toNat:Nat):Int) - ((0:Nat):Int)) 1;rw [e1,a];exact aq _ rfl
 ·have e:b=(s.heap.push { cls:=.type "range",data:=.fields #[.int lo t,.int hi u,.int 1 v] }).objs.size:=by simpa using hb
  subst e;exact d.fpOk (aG _) (d.hok.fresh (aG _))
def qgJ (ta:TA):TI:=λσ H R=>ta σ H λvs H1=>∃ j:Int,vs=[.int j]/\-(2 ^ 62)<=j/\j < 2 ^ 62/\R (Itr 0 j.toNat) H1
theorem Xo {a:Expr} {ta:TA} (hg:Gl X "range") (m:X.mg "range"=iF) (g:PA X [a] ta) (f:starEach [a] X.env=[(iH,eval a X.env)]:=by rfl):PI X tg (.Call (.Name "range" p) [a] [] pos) (qgJ ta):=by
 refine ⟨?_⟩;intro pins s σ H R I h;refine Call_ (JO I hg m boot_range (dq (thn (g pos pins s σ H _ I h) λus s1 ⟨vs,H1,i,r1,b⟩=>?_) f rfl));obtain ⟨j,e,b,d,q⟩:=b;subst e;cases r1 with
 | cons r c=>cases c;obtain ⟨t,rfl⟩:=r;exact call_range_1 (qas i (by omega) (by omega) b d (by simpa using q))
def qif (wi:TI) (g:TG) (tb:TS):TS:=λD σ H=>wi σ H λJ H1=>∃ W:Nat->Nat->St->Hp->Prop,(∃ m,W 0 m σ H1)/\∀ i m σ H,W i m σ H ->(J.stop i H/\D.nx σ H)\/(J.go i H/\∃ N:St->Hp->Prop,(∀ σ' H',N σ' H'->∃ f,f < m/\W (i+1) f σ' H')/\∀ x H',J.yld i H x H'->g x σ H' λa H2=>tb { D with nx:=N,ct:=N,bk:=D.nx } a H2)
noncomputable def JP (fp:List Addr) (h:Heap):List (Addr×Obj):=fp.filterMap λb=>(h.get? b).map λo=>(b,o)
theorem uD {o:Obj} (hb:b∈fp) (e:h.get? b=iD o):(b,o)∈JP fp h:=fF.mpr ⟨b,hb,by rw [e]; rfl⟩
theorem Xp {p:Addr×Obj} (hp:p∈JP fp h):p.1∈fp/\h.get? p.1=iD p.2:=by
 obtain ⟨b,hb,e⟩:=fF.mp hp;cases q:h.get? b with
 | none=>rw [q] at e; cases e
 | some o=>rw [q] at e;have a:(b,o)=p:=aU.inj e;subst a;exact ⟨hb,q⟩
theorem Inv.pinned (I:Inv X pins σ H s) (h:∀ b∈fp,Vt X pins H b) (m:∀ b∈fp,∃ o,s.heap.get? b=iD o/\∀ v,o.data≠.cell v):Inv X (pins++JP fp s.heap) σ H s:=
 I.pins_of λp hp=>(ba.mp hp).elim (λz=>I.pin p (bc _ z)) λz=>by obtain ⟨hb,e⟩:=Xp z;obtain ⟨f0,f1,f2,_⟩:=h p.1 hb;obtain ⟨o,a,d⟩:=m p.1 hb;rw [e] at a; cases a;exact ⟨e,f0,f1,f2,d⟩
theorem Inv.unpinned {pl:List (Addr×Obj)} (I:Inv X (pins++pl) σ H s):Inv X pins σ H s:=I.pins_of λp hp=>I.pin p (bc _ (cx _ hp))
theorem qb5 {iter:Expr} {y:List Stmt} {wi:TI} {g:TG} {tb:TS} {pos:Pos} (hp:PassesOwn (model X.prog X.w) X.A X.env X.xe) (P:X.calm=iI) (hi:PI X tg iter wi) (hg:PG X tg g) (hb:PSs X y tb)
  (hs:∀ x,foldedSetIterable iter X.env x=pure x:=by intro _; rfl):PS X (.For tg iter y [] pos) (qif wi g tb):=by
 refine ⟨?_⟩;intro pins s σ H D I h;refine wpAny_For (thn (hi pins s σ H _ I h) λv s1 h1=>thn h1 λitv s2 h2=>?_) hs;obtain ⟨it,fp,tn,J,H2,e,I2,T,K,f2,W,⟨m0,Z⟩,turn⟩:=h2;subst e;have t:∀ {H':Hp},(∀ b∈fp,H' b=iF)->∀ b∈fp,Vt X pins H' b:=λhn b hb=>⟨hn b hb,(f2 b hb).2⟩
 refine codeAny_forLoop_any (λn s'=>∃ i σ' H',Inv X pins σ' H' s'/\tn i s'.heap/\(∀ b∈fp,H' b=iF)/\W i n σ' H') ?_ m0 ⟨0,σ,H2,I2,K,λb hb=>(f2 b hb).1,Z⟩;rintro n s3 ⟨i,c,E,Q,z,C,Y⟩;rcases turn i n c E Y with ⟨stop,qn⟩ | ⟨go,N,hN,step⟩
 ·refine lr hp (thn (T.done X rfl rfl rfl P i pins s3 c E X.xe Q (t C) z stop) λr s4 ⟨hr,I4⟩=>?_);subst hr;exact wpAny_execs_nil ⟨c,E,I4,qn⟩
 ·refine lr hp (thn (T.item X rfl rfl rfl P i pins s3 c E X.xe Q (t C) z go) λr s4 ⟨u,hr,h4⟩=>?_);subst hr;refine lr hp (thn h4 λ_ s5 ⟨x,R,I5,r5,S,p,M⟩=>?_);have O:=I5.pinned (t M) (T.obj _ _ p);refine lr hp (thn (hg _ s5 c R x u _ O r5 (step x R S)) λ_ F ⟨G,H6,I6,q6⟩=>?_);refine lr hp (thn (hb _ F G H6 _ I6 q6) λf L q=>?_);have j:∀ {a:St} {l:Hp},Inv X (pins++JP fp s5.heap) a l L->N a l->∃ m,m < n/\∃ i σ' H',Inv X pins σ' H' L/\tn i L.heap/\(∀ b∈fp,H' b=iF)/\W i m σ' H':=λ{a l} k B=>by obtain ⟨m',hm,V⟩:=hN a l B;refine ⟨m',hm,i+1,a,l,k.unpinned,T.keep _ _ _ p λb hb o e=>(k.pin (b,o) (bc _ (bc _ (uD hb e)))).1,λb hb=>?_,V⟩;obtain ⟨o,e,d⟩:=T.obj _ _ p b hb;exact (k.pin (b,o) (bc _ (bc _ (uD hb e)))).2.1
  cases f with
  | next=>obtain ⟨a,l,k,B⟩:=q; exact j k B
  | cont=>obtain ⟨a,l,k,B⟩:=q; exact j k B
  | brk=>obtain ⟨a,l,k,q⟩:=q; exact ⟨a,l,k.unpinned,q⟩
  | ret v=>obtain ⟨U,a,l,k,r7,q⟩:=q; exact ⟨U,a,l,k.unpinned,r7,q⟩
end
abbrev R2:=V->V->Hp->VK->Prop
def OpR (X:Cx) (f:iG->iG->Sem iG) (r:R2):Prop:=
 ∀ (pins:List (Addr×Obj)) (s:iJ) (σ:St) (H:Hp) (x y:V) (v u:iG) (Q:VK),Inv X pins σ H s->RelV x v->RelV y u->r x y H Q ->wpAny (model X.prog X.w) X.A (f v u) (EP X pins σ Q) X.xe s
def UnR (X:Cx) (f:iG->Sem iG) (r:V->Hp->VK->Prop):Prop:=
 ∀ (pins:List (Addr×Obj)) (s:iJ) (σ:St) (H:Hp) (x:V) (v:iG) (Q:VK),Inv X pins σ H s->RelV x v->r x H Q ->wpAny (model X.prog X.w) X.A (f v) (EP X pins σ Q) X.xe s
def ya (X:Cx) (f:iG) (r:List V->Hp->VK->Prop):Prop:=
 ∀ (pins:List (Addr×Obj)) (s:iJ) (σ:St) (H:Hp) (xs:List V) (us:List iG) (Q:VK),Inv X pins σ H s->Vals xs us->r xs H Q ->wpAny (model X.prog X.w) X.A (call f us) (EP X pins σ Q) X.xe s
def qig (X:Cx) (r:V->Hp->(Bool->Hp->Prop)->Prop):Prop:=
 ∀ (pins:List (Addr×Obj)) (s:iJ) (σ:St) (H:Hp) (x:V) (v:iG) (Q:Bool->Hp->Prop),Inv X pins σ H s->RelV x v->r x H Q ->wpAny (model X.prog X.w) X.A (truthy v) (TP X pins σ Q) X.xe s
def tOp (r:R2) (ta tb:TE):TE:=λσ H Q=>ta σ H λx H1=>tb σ H1 λy H2=>r x y H2 Q
def tUn (r:V->Hp->VK->Prop) (ta:TE):TE:=λσ H Q=>ta σ H λx H1=>r x H1 Q
def rI (C:Int->Int->Prop) (g:Int->Int->V):R2:=λx y H Q=>∃ i j,x=.int i/\y=.int j/\C i j/\Q (g i j) H
def rI0 (g:Int->Int->V):R2:=λx y H Q=>∃ i j,x=.int i/\y=.int j/\Q (g i j) H
def rU (g:Int->V):V->Hp->VK->Prop:=λx H Q=>∃ i,x=.int i/\Q (g i) H
variable {r:R2}
section
variable {a b:Expr} {tc:TE}
theorem qgK (i:PE X a ta) (hb:PE X b tb) {R:V->V->Hp->Prop} (I:Inv X pins σ H s)
  (h:ta σ H λx H1=>tb σ H1 λy H2=>R x y H2) {Q:iG->iJ->Prop} {f:iG->iG->Sem iG}
  (g:∀ v u s2 x y H2,Inv X pins σ H2 s2->RelV x v->RelV y u->R x y H2->wpAny (model X.prog X.w) X.A (f v u) Q X.xe s2) :
  wpAny (model X.prog X.w) X.A (eval a X.env) (λv d=>wpAny (model X.prog X.w) X.A (eval b X.env) (λu c=>wpAny (model X.prog X.w) X.A (f v u) Q X.xe c) X.xe d) X.xe s:=by
 refine thn (i pins s σ H _ I h) λv s1 ⟨x,H1,j,r1,e⟩=>?_;refine thn (hb pins s1 σ H1 _ j e) λu s2 ⟨y,H2,k,r2,q⟩=>?_;exact g v u s2 x y H2 k r1 r2 q
theorem qgL {op:Operator} (m:OpR X (binaryOp op) r) (f:PE X a ta) (hb:PE X b tb):PE X (.BinOp a op b pos) (tOp r ta tb):=by refine ⟨?_⟩;intro pins s σ H Q I h;exact wpAny_BinOp (qgK f hb I h λv u s2 x y H2 k d c q=>m pins s2 σ H2 x y v u Q k d c q)
theorem qgM {op:UnaryOp} {r:V->Hp->VK->Prop} (m:UnR X (unaryOp op) r) (f:PE X a ta):PE X (.UnaryOp op a pos) (tUn r ta):=by refine ⟨?_⟩;intro pins s σ H Q I h;exact UnaryOp_ (thn (f pins s σ H _ I h) λv s1 ⟨x,H1,d,r1,q⟩=>m pins s1 σ H1 x v Q d r1 q)
theorem opI {f:iG->iG->Sem iG} {C:Int->Int->Prop} {g:Int->Int->Int}
  (r:∀ (i j:Int) (t u:Tok) (s:iJ) (Q:iG->iJ->Prop) (E:iG->iJ->Prop),C i j->Q (.int (g i j) s.toks) { s with toks:=s.toks+1 }->wpAny (model X.prog X.w) X.A (f (.int i t) (.int j u)) Q E s) :
  OpR X f (rI C λi j=>.int (g i j)):=by
 intro pins s σ H x y v u Q I d c h;obtain ⟨i,j,rfl,rfl,a,q⟩:=h;obtain ⟨t,rfl⟩:=d;obtain ⟨t',rfl⟩:=c;exact r i j t t' s _ _ a ⟨.int (g i j),H,I.tok _,⟨_,rfl⟩,q⟩
theorem qhA {f:iG->iG->Sem iG} {g:Int->Int->Int}
  (r:∀ (i j:Int) (t u:Tok) (s:iJ) (Q:iG->iJ->Prop) (E:iG->iJ->Prop),Q (.int (g i j) s.toks) { s with toks:=s.toks+1 }->wpAny (model X.prog X.w) X.A (f (.int i t) (.int j u)) Q E s) :
  OpR X f (rI0 λi j=>.int (g i j)):=by
 intro pins s σ H x y v u Q I d c h;obtain ⟨i,j,rfl,rfl,q⟩:=h;obtain ⟨t,rfl⟩:=d;obtain ⟨t',rfl⟩:=c;exact r i j t t' s _ _ ⟨.int (g i j),H,I.tok _,⟨_,rfl⟩,q⟩
theorem qgN {f:iG->iG->Sem iG} {g:Int->Int->Bool}
  (r:∀ (i j:Int) (t u:Tok) (s:iJ) (Q:iG->iJ->Prop) (E:iG->iJ->Prop),Q (.bool (g i j)) s->wpAny (model X.prog X.w) X.A (f (.int i t) (.int j u)) Q E s) :
  OpR X f (rI0 λi j=>.bl (g i j)):=by
 intro pins s σ H x y v u Q I d c h;obtain ⟨i,j,rfl,rfl,q⟩:=h;obtain ⟨t,rfl⟩:=d;obtain ⟨t',rfl⟩:=c;exact r i j t t' s _ _ ⟨.bl (g i j),H,I,rfl,q⟩
def qih (i j:Int):Prop:=0 < j/\j < 1073741824
def qej (i j:Int):Prop:=0<=j/\j<=1000000/\i.natAbs < 2 ^ 64
def CMul (i j:Int):Prop:=(-(2 ^ 64) < i/\i < 2 ^ 64)\/(-(2 ^ 64) < j/\j < 2 ^ 64)
theorem CMul.ok {i j:Int} (h:CMul i j):IntMulOk i j:=by
 rcases h with ⟨h1,h2⟩ | ⟨h1,h2⟩
 ·exact .of_left (intBits_le_64 h1 h2)
 ·exact .of_right (intBits_le_64 h1 h2)
theorem qeI:OpR X (binaryOp .Add) (rI0 λi j=>.int (i+j)):=qhA λ_ _ _ _ _ _ _ q=>add_int q
theorem qeJ:OpR X (binaryOp .Sub) (rI0 λi j=>.int (i - j)):=qhA λ_ _ _ _ _ _ _ q=>sub_int q
theorem qeK:OpR X (binaryOp .Mult) (rI CMul λi j=>.int (i * j)):=opI λ_ _ _ _ _ _ _ d q=>mul_int q d.ok
theorem qeL:OpR X (binaryOp .Mod) (rI (λ_ j=>0 < j) λi j=>.int (i % j)):=opI λi j _ _ _ _ _ d q=>by have h1:(0:Int) < j:=d;exact mod_int' (by omega) (by rw [Int.fmod_eq_emod_of_nonneg i (by omega)]; exact q)
theorem qb6:OpR X (binaryOp .Pow) (rI qej λi j=>.int (i ^ j.toNat)):=opI λ_ _ _ _ _ _ _ d q=>pow_int_small d.1 d.2.1 d.2.2 q
theorem unI {f:iG->Sem iG} {g:Int->Int}
  (r:∀ (i:Int) (t:Tok) (s:iJ) (Q:iG->iJ->Prop) (E:iG->iJ->Prop),Q (.int (g i) s.toks) { s with toks:=s.toks+1 }->wpAny (model X.prog X.w) X.A (f (.int i t)) Q E s) :
  UnR X f (rU λi=>.int (g i)):=by
 intro pins s σ H x v Q I d h;obtain ⟨i,rfl,q⟩:=h;obtain ⟨t,rfl⟩:=d;exact r i t s _ _ ⟨.int (g i),H,I.tok _,⟨_,rfl⟩,q⟩
theorem qeM:UnR X (unaryOp .USub) (rU λi=>.int (-i)):=unI λ_ _ _ _ _ q=>neg_int q
end
variable {op op':CmpOp} {r':R2}
section
variable {a b:Expr} {tc:TE}
theorem Xq {Q:VK} {k k':Bool} (I:Inv X pins σ H s) (q:Q (.bl k) H) (e:k=k'):EP X pins σ Q (.bool k') s:=by subst e;exact ⟨.bl k,H,I,rfl,q⟩
theorem qgO:OpR X (compareOp .Lt) (rI0 λi j=>.bl (decide (i < j))):=qgN λ_ _ _ _ _ _ _ q=>lt_int q
theorem qgP:OpR X (compareOp .LtE) (rI0 λi j=>.bl (decide (i<=j))):=qgN λ_ _ _ _ _ _ _ q=>le_int q
theorem qgQ:OpR X (compareOp .GtE) (rI0 λi j=>.bl (decide (j<=i))):=qgN λ_ _ _ _ _ _ _ q=>ge_int q
theorem Xr:OpR X (compareOp .Lt) (λx y H Q=>∃ i j,x=.str i/\y=.str j/\Q (.bl (decide (i.cps.toList < j.cps.toList))) H):=by intro pins s σ H x y v u Q I d c h;obtain ⟨i,j,rfl,rfl,q⟩:=h;obtain ⟨t,rfl⟩:=d;obtain ⟨t',rfl⟩:=c;exact lt_str (Xq I q rfl)
theorem qeN:OpR X (compareOp .Is) (λx y H Q=>y=.non/\Q (.bl (decide (x=.non))) H):=by
 intro pins s σ H x y v u Q I d c h;obtain ⟨rfl,q⟩:=h;cases c;refine is_none_gen (Xq I q ?_);cases x <;> first
  | (cases d; rfl)
  | (obtain ⟨t,rfl⟩:=d; rfl)
theorem qb7 (b:Expr) (h:op≠.In:=by decide) (h2:op≠.NotIn:=by decide):behindInMarks op b=false:=by
 have e1:(op == CmpOp.In)=false:=by cases op <;> first | rfl | exact absurd rfl h
 have i:(op == CmpOp.NotIn)=false:=by cases op <;> first | rfl | exact absurd rfl h2
 cases b <;> simp [behindInMarks,e1,i]
theorem qcQ (m:OpR X (compareOp op) r) (f:PE X a ta) (hb:PE X b tb) (e:behindInMarks op b=iH):PE X (.Compare a [op] [b] pos) (tOp r ta tb):=by refine ⟨?_⟩;intro pins s σ H Q I h;exact wpAny_Compare1 (qgK f hb I h λv u s2 x y H2 k d c q=>m pins s2 σ H2 x y v u Q k d c q) e
def qeO (t:TE):TT:=λσ H Q=>t σ H λx H'=>∃ k,x=.bl k/\Q k H'
theorem qcR (m:OpR X (compareOp op) r) (i:PE X a ta) (hb:PE X b tb) (g:behindInMarks op b=iH):PT X (.Compare a [op] [b] pos) (qeO (tOp r ta tb)):=by
 refine ⟨?_⟩;intro pins s σ H Q I h;refine wpAny_isTrue_Compare1 (thn (i pins s σ H _ I h) λv s1 ⟨x,H1,n,r1,f⟩=>thn (hb pins s1 σ H1 _ n f) λu s2 ⟨y,H2,l,r2,d⟩=>
  thn (m pins s2 σ H2 x y v u _ l r1 r2 d) λc s3 ⟨z,o,j,r3,k,e,q⟩=>?_) g
 subst e;cases r3;exact i7 ⟨o,j,q⟩
def Xu (r r':R2) (ta tb tc:TE):TE:=λσ H Q=>ta σ H λx H1=>tb σ H1 λy H2=>r x y H2 λz b=>∃ k,z=.bl k /\
 (if k=iI then tc σ b λS a=>r' y S a Q else Q (.bl iH) b)
theorem qat (o:OpR X (compareOp op) r) (f:OpR X (compareOp op') r') (w:PE X a ta) (hb:PE X b tb) (t:PE X c tc)
  (p:lastMarks [op,op'] [b,c]=false:=by with_unfolding_all rfl):PE X (.Compare a [op,op'] [b,c] pos) (Xu r r' ta tb tc):=by
 refine ⟨?_⟩;intro pins s σ H Q I h;refine Compare_chain (thn (w pins s σ H _ I h) λv s1 ⟨x,H1,B,r1,n⟩=>chain_link (thn (hb pins s1 σ H1 _ B n) λu s2 ⟨y,H2,A,r2,m⟩=>
  thn (o pins s2 σ H2 x y v u _ A r1 r2 m) λd s3 ⟨z,g,j,r3,k,e,q⟩=>?_)) p
 subst e;cases r3;refine i7 ?_;cases k with
 | false=>exact ite_ff ⟨.bl iH,g,j,rfl,q⟩
 | true=>exact ite_tt (chain_last (thn (t pins s3 σ g _ j q) λS s4 ⟨i,D,C,r4,l⟩=>f pins s4 σ D y i u S Q C r2 r4 l))
theorem qau (t:OpR X (compareOp op) r) (f:OpR X (compareOp op') r') (B:PE X a ta) (hb:PE X b tb) (A:PE X c tc)
  (w:lastMarks [op,op'] [b,c]=false:=by with_unfolding_all rfl):PT X (.Compare a [op,op'] [b,c] pos) (qeO (Xu r r' ta tb tc)):=by
 refine ⟨?_⟩;intro pins s σ H Q I h;refine isTrue_chain (thn (B pins s σ H _ I h) λv s1 ⟨x,H1,K,r1,o⟩=>test_link (thn (hb pins s1 σ H1 _ K o) λu s2 ⟨y,H2,J,r2,n⟩=>
  thn (t pins s2 σ H2 x y v u _ J r1 r2 n) λd s3 ⟨z,g,j,r3,k,e,q⟩=>?_)) w
 subst e;cases r3;refine i7 ?_;cases k with
 | false=>obtain ⟨k',D,p⟩:=q;cases D;exact ite_ff ⟨g,j,p⟩
 | true=>refine ite_tt (test_last (thn (A pins s3 σ g _ j q) λS s4 ⟨i,L,G,r4,m⟩=>thn (f pins s4 σ L y i u S _ G r2 r4 m) λd' s5 ⟨z2,R,E,r5,k2,C,l⟩=>?_));subst C;cases r5;exact i7 ⟨R,E,l⟩
def qgR (K:Frag) (x:V) (H:Hp) (k:Bool):Prop:=
 match x with
 | .non=>k=iH
 | .bl b=>k=b
 | .int i=>k=(i != 0)
 | .str y=>y.length<=sizeLine/\k=((y.length:Int) != 0)
 | .byt y=>y.size<=sizeLine/\k=((y.size:Int) != 0)
 | .ref p=>(∃ xs,SqL K H p xs/\k=!xs.isEmpty)\/(∃ xs,SqT K H p xs/\k=!xs.isEmpty)\/∃ kvs,H p=iD (.dK kvs)/\k=!kvs.isEmpty
 | _=>False
theorem Yp {κ:Type} {kvs:List (κ×V)} {vs:List (κ×iG)} (r:KV kvs vs):(!vs.isEmpty)=!kvs.isEmpty:=by cases r <;> rfl
theorem gT {its:List iG} (r:Vals xs its):(!its.toArray.isEmpty)=!xs.isEmpty:=by cases r <;> simp
theorem gU:(sizeLine:Nat) < 2 ^ 63:=by rw [iR]; decide
theorem qeP:qig X (λx H Q=>∃ k,qgR X.K x H k/\Q k H):=by
 intro pins s σ H x v Q I d h;obtain ⟨k,e,q⟩:=h;have hl:=gU;have c:sizeLine=16777216:=iR;cases x with
 | non=>cases d;have a:k=false:=e;subst a;exact truthy_none ⟨H,I,q⟩
 | bl b=>cases d;have a:k=b:=e;subst a;exact i7 ⟨H,I,q⟩
 | int i=>obtain ⟨t,rfl⟩:=d;have a:k=(i != 0):=e;subst a;exact PySem.P.truthy_int ⟨H,I,q⟩
 | str y=>obtain ⟨t,rfl⟩:=d;obtain ⟨hy,a⟩:y.length<=sizeLine/\k=((y.length:Int) != 0):=e;subst a;exact PySem.P.truthy_str (by omega) ⟨H,I.tok _,q⟩
 | byt y=>obtain ⟨t,rfl⟩:=d;obtain ⟨hy,a⟩:y.size<=sizeLine/\k=((y.size:Int) != 0):=e;subst a;exact PySem.W.truthy_bytes (by omega) ⟨H,I.tok _,q⟩
 | ref p=>
  cases d;have a:(∃ xs,SqL X.K H p xs/\k=!xs.isEmpty)\/(∃ xs,SqT X.K H p xs/\k=!xs.isEmpty)\/∃ kvs,H p=iD (.dK kvs)/\k=!kvs.isEmpty:=e;rcases a with ⟨xs,hx,a⟩ | ⟨xs,hx,a⟩ | ⟨kvs,hx,a⟩
  ·subst a;obtain ⟨its,r,pl,z⟩:=I.list hx;have n:=r.length;exact wpAny_truthy_list pl.isList (by simp only [aw]; omega) ⟨H,I.tok _,by rw [gT r]; exact q⟩
  ·subst a;obtain ⟨its,r,pl,z⟩:=I.tuple hx;have n:=r.length;exact truthy_tuple pl (by simp only [aw]; omega) ⟨H,I.tok _,by rw [gT r]; exact q⟩
  ·subst a;obtain ⟨z,hS,vs,r,m⟩:kvs.length<=sizeLine/\(p == sysModules)=iH/\∃ vs,KV kvs vs/\s.heap.DictOf (ju X.prog X.w) p vs:=I.hok p _ hx;have n:kvs.length=vs.length:=g9 r;exact wpAny_truthy_dict hS m (by omega) ⟨H,I.tok _,by rw [Yp r]; exact q⟩
 | _=>exact (show False from e).elim
theorem qav (f:PE X a ta) (g:∀ whole,isTrue a X.env whole=(do let v <-whole; standAt a.pos; holding [v] (truthy v))):PT X a (λσ H Q=>ta σ H λx H'=>∃ k,qgR X.K x H' k/\Q k H'):=by refine ⟨?_⟩;intro pins s σ H Q I h;exact isTrue_plain (thn (f pins s σ H _ I h) λv s1 ⟨x,H1,d,r1,q⟩=>qeP pins s1 σ H1 x v Q d r1 q) (g _)
theorem Yq:OpR X (binaryOp .Add) (λx y H Q=>∃ i j,x=.str i/\y=.str j/\i.length+j.length<=sizeLine/\Q (.str (i++j)) H):=by intro pins s σ H x y v u Q I d c h;obtain ⟨i,j,rfl,rfl,z,q⟩:=h;obtain ⟨t,rfl⟩:=d;obtain ⟨t',rfl⟩:=c;exact add_str (λt' tk=>⟨.str (i++j),H,I.tok _,⟨_,rfl⟩,q⟩) z
theorem QD {x:V} (r:Vals [x] us):∃ u,us=[u]/\RelV x u:=by
 cases r with
 | cons r1 r2=>cases r2; exact ⟨_,rfl,r1⟩
theorem Xv {x:V} (r:Vals [x,y] us):∃ u S,us=[u,S]/\RelV x u/\RelV y S:=by
 cases r with
 | cons r1 r2=>
  cases r2 with
  | cons r3 r4=>cases r4; exact ⟨_,_,rfl,r1,r3⟩
theorem Xw (d:X.calm=iI):ya X (.builtin "max") (λxs H Q=>∃ i j,xs=[.int i,.int j]/\Q (.int (if j > i then j else i)) H):=by
 intro pins s σ H xs us Q I r h;obtain ⟨i,j,rfl,q⟩:=h;obtain ⟨u,S,rfl,⟨t,rfl⟩,⟨t',rfl⟩⟩:=Xv r;refine max_two_ints (I.ok.hd d) λh' tk k=>⟨_,H,I.kept k,?_,q⟩
 by_cases G:j > i;·rw [if_pos G,if_pos G]; exact ⟨_,rfl⟩
 ·rw [if_neg G,if_neg G]; exact ⟨_,rfl⟩
theorem Xx (d:X.calm=iI):ya X (.builtin "min") (λxs H Q=>∃ i j,xs=[.int i,.int j]/\Q (.int (if j < i then j else i)) H):=by
 intro pins s σ H xs us Q I r h;obtain ⟨i,j,rfl,q⟩:=h;obtain ⟨u,S,rfl,⟨t,rfl⟩,⟨t',rfl⟩⟩:=Xv r;refine min_two_ints (I.ok.hd d) λh' tk k=>⟨_,H,I.kept k,?_,q⟩
 by_cases G:j < i;·rw [if_pos G,if_pos G]; exact ⟨_,rfl⟩
 ·rw [if_neg G,if_neg G]; exact ⟨_,rfl⟩
def qii (K:Frag) (x:V) (H:Hp) (n:Nat):Prop:=
 match x with
 | .str y=>y.length<=sizeLine/\n=y.length
 | .byt y=>y.size<=sizeLine/\n=y.size
 | .ref p=>(∃ xs,SqL K H p xs/\n=xs.length)\/∃ xs,SqT K H p xs/\n=xs.length
 | _=>False
theorem QE:ya X (.builtin "len") (λxs H Q=>∃ x n,xs=[x]/\qii X.K x H n/\Q (.int n) H):=by
 intro pins s σ H xs us Q I r h;obtain ⟨x,n,rfl,e,q⟩:=h;obtain ⟨u,rfl,d⟩:=QD r;have hl:=gU;have c:sizeLine=16777216:=iR;cases x with
 | str y=>obtain ⟨t,rfl⟩:=d;obtain ⟨hy,b⟩:y.length<=sizeLine/\n=y.length:=e;subst b;exact len_str (by omega) ⟨.int _,H,I.tok _,⟨_,rfl⟩,q⟩
 | byt y=>obtain ⟨t,rfl⟩:=d;obtain ⟨hy,b⟩:y.size<=sizeLine/\n=y.size:=e;subst b;exact PySem.W.len_bytes (by omega) ⟨.int _,H,I.tok _,⟨_,rfl⟩,q⟩
 | ref p=>
  cases d;have b:(∃ xs,SqL X.K H p xs/\n=xs.length)\/∃ xs,SqT X.K H p xs/\n=xs.length:=e;rcases b with ⟨xs,hx,b⟩ | ⟨xs,hx,b⟩
  ·subst b;obtain ⟨its,r',pl,z⟩:=I.list hx;have a:=r'.length;exact Calls.call_len_list pl.isList (by simp only [aw]; omega) ⟨.int xs.length,H,I.tok _,⟨_,by simp only [aw]; rw [a]⟩,q⟩
  ·subst b;obtain ⟨its,r',pl,z⟩:=I.tuple hx;have a:=r'.length;exact len_tuple pl (by simp only [aw]; omega) ⟨.int xs.length,H,I.tok _,⟨_,by simp only [aw]; rw [a]⟩,q⟩
 | _=>exact (show False from e).elim
end
structure ObjM (h:Heap) (x dx C:Addr) (mA:Str->Option iG):Prop where
 obj:h.get? x=iD (cz C dx)
 ns:h.Ns1 dx mA
 ne:dx≠x
variable {dx:Addr} {mA:Str->Option iG}
theorem Xy (n:h.Ns1 dx mA):∃ od,h.get? dx=iD od/\∀ name,fG name od=iD (mA name):=by
 obtain ⟨o,es,ep,m,hd,d,_,c⟩:=n;refine ⟨o,m,λname=>?_⟩;have e:=c name;unfold nsFind findBy at e;rw [<-Array.find?_toList] at e;unfold fG;rw [hd];dsimp only;split;·rename_i y q;rw [q] at e;exact congrArg iD e
 ·rename_i q;rw [q] at e;have a:es.toList.any (·.refKey)=false:=by rw [List.any_eq_false];intro y k;obtain ⟨z,t,b⟩:=d y (Array.mem_toList_iff.mp k);simp [DictEntry.refKey,b]
  have f:¬es.toList.any (·.refKey)=true:=by rw [a]; exact cu
  rw [if_neg f];exact congrArg iD e
variable {C:Addr}
theorem ObjM.look {x:Addr} (I:ObjM h x dx C mA):∃ od,PySem.W.InstAt h x (cz C dx) C (iD od)/\∀ name,fG name od=iD (mA name):=
 let ⟨od,m,hl⟩:=Xy I.ns
 ⟨od,⟨I.obj,rfl,rfl,m⟩,hl⟩
section
variable {prog:iL} {x f:Addr} {name:Str} {v:iG}
theorem qcS {e:Bool} {Q:iG->iJ->Prop} (X:K.In s.heap) (I:ObjM s.heap x dx C mA) (hg:cZ K C name=iI) (b:dt K C=iI)
  (f:aV K (.ref C) name=iD iF) (c:mA name=iD v) (a:PySem.W.handedIn v=iI) (h:Q v { s with toks:=s.toks+1 }) :
  wpAny (model prog w) A (getAttr (.ref x) name e) Q E s:=by
 obtain ⟨od,J,hl⟩:=I.look;exact PySem.W.get_value X J (fz hg).1 (PySem.W.findObj_own b f rfl (by rw [hl,c])) a h
theorem qaw {pl:Sem Bool} {Q:iG×List iG->iJ->Prop} (X:K.In s.heap) (I:ObjM s.heap x dx C mA) (hg:cZ K C name=iI)
  (a:aV K (.ref C) name=iD (iD (.ref f))) (l:cP K (.ref f)=iI) (c:mA name=iF) (h:Q (.ref f,[.ref x]) s) :
  wpAny (model prog w) A (getMethod (.ref x) name pl) Q E s:=by
 obtain ⟨od,J,hl⟩:=I.look;exact PySem.W.method_fn X J (fz hg).1 (fz hg).2 a (beq_iff_eq.mp l) (by show (fG name od).map (·.isSome)=iD iH; rw [hl,c]; rfl) h
theorem qcT {ns:List Str} {Q:Unit->iJ->Prop} (X:K.In s.heap) (I:ObjM s.heap x dx C mA)
  (i:aV K (.ref C) "__setattr__"=iD (iD (.builtin "object.__setattr__"))) (hp:et K C=iI) (l:fU K C name=iD iF) (j:dt K C=iI)
  (hw:ic mA ns) (z:ns.length<=sizeLine)
  (h:∀ h',ObjM h' x dx C (λy=>if y=name then iD v else mA y)->bM dx s.heap h'->Q () { s with heap:=h',toks:=s.toks+2 }) :
  wpAny (model prog w) A (setAttr (.ref x) name v) Q E s:=by
 obtain ⟨od,J,hl⟩:=I.look;refine PySem.W.set_plain X J i (PySem.W.osa_open (s:={ s with toks:=s.toks+1 }) (r:=iF) X J hp l λb=>?_);obtain ⟨cd,k,f⟩:=PySem.W.any_some j;have hx:s.heap.get? x=iD ⟨.ref C,iD dx,.plain,#[]⟩:=I.obj;refine iE (iK (iE (iE (wpAny_loadPart hx (iE (PySem.W.Looks.here (s:={ s with toks:=s.toks+1 }) (PySem.W.looks_clsIn X k) ?_))))));rw [f];refine iK (a:=iD dx) (iE (iK (iE ?_)));refine wpAny_nsSet1 (s:={ s with toks:=s.toks+1 }) I.ns λh' d c=>?_;obtain ⟨o,m,n,D,e,g⟩:=d.count (PySem.Within.cons name v hw);refine iE (wpAny_lookBehind D (by rw [e]; exact pastItsLine_dict (bR g (by rw [ac]; omega))) ?_);exact iK (h _ ⟨(c.2 _ (be I.ne)).trans I.obj,d,I.ne⟩ c)
theorem qax {R:lL->iJ->Prop} {vs:List iG} {kw:List (Str×iG)} (X:K.In s.heap) (c:fV K C=iI)
  (hi:aV K (.ref C) "__init__"=iD (iD (.ref f))) (a:PySem.W.typeIn K (.ref f)=iD (.type "function"))
  (h:codeAny (model prog w) (A.under (.builtin "type.__call__" ⟨.ref C::vs,kw⟩)) (.call (.ref f) ⟨.ref (s.heap.objs.size+1)::vs,kw⟩) (PySem.W.InitBack (s.heap.objs.size+1) R)
   { s with heap:=(s.heap.push bV).push (cz C s.heap.objs.size) }) :
  codeAny (model prog w) A (.call (.ref C) ⟨vs,kw⟩) R s:=by
 obtain ⟨b,g,d,t,os⟩:=s;exact PySem.W.make_core (PySem.W.makes_of X c) (PySem.W.looks_findIn X hi) (λself=>PySem.W.bind_fn X self a) (.inl rfl) h
end
noncomputable def zo (f:Str) (v:V):List (Str×V)->List (Str×V)
 | []=>[(f,v)]
 | (g,x)::r=>if g=f then (g,v)::r else (g,x)::zo f v r
theorem yb (f g:Str) (v:V):∀ fs:List (Str×V),(zo f v fs).lookup g=if g=f then iD v else fs.lookup g
 | []=>by
  show cm g [(f,v)]=_;by_cases h:g=f;·have hb:(g == f)=true:=beq_iff_eq.mpr h;simp only [cm,hb,if_pos h]
  ·have hb:(g == f)=false:=beq_eq_false_iff_ne.mpr h;simp only [cm,hb,if_neg h]
 | (k,x)::r=>by
  have j:=yb f g v r;rw [show zo f v ((k,x)::r)=(if k=f then (k,v)::r else (k,x)::zo f v r) from rfl];by_cases a:k=f
  ·rw [if_pos a];by_cases h:g=k;·have hb:(g == k)=true:=beq_iff_eq.mpr h;simp only [cm,hb,if_pos (h.trans a)]
   ·have hb:(g == k)=false:=beq_eq_false_iff_ne.mpr h;simp only [cm,hb,if_neg (λe:g=f=>h (e.trans a.symm))]
  ·rw [if_neg a];by_cases h:g=k;·have hb:(g == k)=true:=beq_iff_eq.mpr h;simp only [cm,hb,if_neg (λe:g=f=>a (h.symm.trans e))]
   ·have hb:(g == k)=false:=beq_eq_false_iff_ne.mpr h;simp only [cm,hb];exact j
theorem zp (f:Str) (v:V):∀ fs:List (Str×V),f∈(zo f v fs).map (·.1)/\∀ g,g∈fs.map (·.1)->g∈(zo f v fs).map (·.1)
 | []=>⟨by simp [zo],λg h=>by simp at h⟩
 | (k,x)::r=>by
  obtain ⟨i1,i2⟩:=zp f v r;rw [show zo f v ((k,x)::r)=(if k=f then (k,v)::r else (k,x)::zo f v r) from rfl];by_cases a:k=f;·rw [if_pos a];subst a;exact ⟨by simp,λg h=>by simpa using h⟩
  ·rw [if_neg a];refine ⟨?_,λg h=>?_⟩;·rw [ax];exact ai _ i1
   ·rw [ax] at h ⊢;rcases ah.mp h with e | e;·exact ah.mpr (.inl e)
    ·exact ai _ (i2 g e)
theorem zq (f:Str) (v:V):∀ fs:List (Str×V),(zo f v fs).length<=fs.length+1
 | []=>by simp [zo]
 | (k,x)::r=>by
  have j:=zq f v r;rw [show zo f v ((k,x)::r)=(if k=f then (k,v)::r else (k,x)::zo f v r) from rfl];by_cases h:k=f;·rw [if_pos h,ac,ac]; omega
  ·rw [if_neg h,ac,ac]; omega
theorem RelO.some_of {o:Option iG} (r:RelO (iD v) o):∃ u,o=iD u/\RelV v u:=by
 cases o with
 | none=>exact (show False from r).elim
 | some u=>exact ⟨u,rfl,r⟩
theorem RelO.none_of {o:Option iG} (r:RelO iF o):o=none:=by
 cases o with
 | none=>rfl
 | some u=>exact (show False from r).elim
theorem Xz (r:RelV v u):PySem.W.handedIn u=true:=by
 cases v with
 | non=>cases (show u=bT from r); rfl
 | bl b=>cases (show u=bg b from r); rfl
 | int i=>obtain ⟨t,e⟩:=(show ∃ t,u=fD i t from r); cases e; rfl
 | str x=>obtain ⟨t,e⟩:=(show ∃ t,u=g8 x t from r); cases e; rfl
 | byt b=>obtain ⟨t,e⟩:=(show ∃ t,u=Value.bytes b t from r); cases e; rfl
 | flt b=>obtain ⟨t,e⟩:=(show ∃ t,u=Value.float b t from r); cases e; rfl
 | ref a=>cases (show u=br a from r); rfl
 | ty n=>cases (show u=fE n from r); rfl
section
variable {fs fs':List (Str×V)}
theorem VA (hok:HOk P w H h) (e:H a=iD (.ins C dx fs)):∃ mA,ObjM h a dx C mA/\(∀ f,RelO (fs.lookup f) (mA f))/\ic mA (fs.map (·.1))/\fs.length<=1000/\H dx=iD (.own a):=by
 obtain ⟨d,z,ne,b,mA,n,r,q⟩:=(show ObjOk P w H h a (.ins C dx fs) from hok a _ e)
 exact ⟨mA,⟨b,n,ne⟩,r,q,z,d⟩
end
structure Cls (K:Frag) (C:Addr):Prop where
 pg:cZ K C Str.empty=iI
 hd:dt K C=iI
 po:et K C=iI
 sa:aV K (.ref C) "__setattr__"=iD (iD (.builtin "object.__setattr__"))
theorem Cls.get (c:Cls K C) (f:Str):cZ K C f=true:=c.pg
def NoAttr (K:Frag) (C:Addr) (f:Str):Prop:=aV K (.ref C) f=iD iF
variable {f:Str}
theorem NoAttr.taker (n:NoAttr K C f):fU K C f=iD none:=by unfold fU;rw [show aV K (.ref C) f=iD iF from n];rfl
structure Meth (K:Frag) (C:Addr) (m:Str) (f:Addr):Prop where
 at_:aV K (.ref C) m=iD (iD (.ref f))
 fn:cP K (.ref f)=iI
 kp:keepIn K (.ref f)=iI
variable {m:Str}
section
variable {fs:List (Str×V)}
theorem Yr {b:Bool} {Q:iG->iJ->Prop} (I:Inv X pins σ H s) (e:H a=iD (.ins C dx fs)) (c:Cls X.K C) (n:NoAttr X.K C f) (l:fs.lookup f=iD v)
  (h:∀ u s',Inv X pins σ H s'->RelV v u->Q u s'):wpAny (model X.prog X.w) A (getAttr (.ref a) f b) Q E s:=by
 obtain ⟨mA,O,r,_,_,_⟩:=VA I.hok e;obtain ⟨u,g,d⟩:=RelO.some_of (v:=v) (o:=mA f) (by rw [<-l]; exact r f);exact qcS I.kIn O (c.get f) c.hd n g (Xz d) (h u _ (I.tok _) d)
theorem gW {g:Addr} {pl:Sem Bool} {Q:iG×List iG->iJ->Prop} (I:Inv X pins σ H s) (e:H a=iD (.ins C dx fs)) (c:Cls X.K C) (k:Meth X.K C m g) (l:fs.lookup m=iF)
  (h:Q (.ref g,[.ref a]) s):wpAny (model X.prog X.w) A (getMethod (.ref a) m pl) Q E s:=by
 obtain ⟨mA,O,r,_,_,_⟩:=VA I.hok e;have n:mA m=none:=RelO.none_of (by rw [<-l]; exact r m);exact qaw I.kIn O (c.get m) k.at_ k.fn n h
theorem Ys {Q:Unit->iJ->Prop} (I:Inv X pins σ H s) (e:H a=iD (.ins C dx fs)) (c:Cls X.K C) (n:NoAttr X.K C f) (hl:fs.length < 1000) (j:RelV y u)
  (h:∀ s',Inv X pins σ (upd H a (.ins C dx (zo f y fs))) s'->Q () s'):wpAny (model X.prog X.w) A (setAttr (.ref a) f u) Q E s:=by
 obtain ⟨mA,O,r,wi,_,m⟩:=VA I.hok e;have k:(fs.map (·.1)).length<=sizeLine:=by rw [aH,iR]; omega
 refine qcT I.kIn O c.sa c.po n.taker c.hd wi k λh' d i=>h _ ?_;have hd:∃ o,h'.get? dx=iD o:=let ⟨o,_,_,l,_⟩:=d.ns; ⟨o,l⟩
 refine I.write (x:=a) (e:=dx) (by rw [e]; exact d7) (.inr m) (λb q hb z=>(i.2 b hb).trans z) hd ?_;refine ⟨by rw [qt O.ne]; exact m,?_,O.ne,d.obj,_,d.ns,λg=>?_,λg hg=>?_⟩;·have:=zq f y fs; omega
 ·show RelO ((zo f y fs).lookup g) (if g=f then iD u else mA g);rw [yb];by_cases q:g=f;·rw [if_pos q,if_pos q]; exact j
  ·rw [if_neg q,if_neg q]; exact r g
 ·by_cases q:g=f;·rw [q]; exact (zp f y fs).1
  ·refine (zp f y fs).2 g (wi g λz=>hg ?_);show (if g=f then iD u else mA g)=iF;rw [if_neg q]; exact z
theorem Inv.made (I:Inv X pins σ H s):Inv X pins σ (upd (upd H s.heap.objs.size (.own (s.heap.objs.size+1))) (s.heap.objs.size+1) (.ins C s.heap.objs.size []))
  { s with heap:=(s.heap.push bV).push (cz C s.heap.objs.size) }:=by
 have e1:(s.heap.push bV).get? s.heap.objs.size=iD bV:=aq s.heap rfl;have i:((s.heap.push bV).push (cz C s.heap.objs.size)).get? (s.heap.objs.size+1)=iD (cz C s.heap.objs.size):=by have:=aq (s.heap.push bV) (o:=cz C s.heap.objs.size) rfl;rwa [bH] at this
 have D:(s.heap.push bV).Ns s.heap.objs.size (λ_=>iF):=⟨bV,#[],_,e1,rfl,(λe g=>absurd g (by simp)),λ_=>rfl⟩
 have d:=I.laid (a:=s.heap.objs.size) (o:=.own (s.heap.objs.size+1)) (h':=s.heap.push bV) (t':=s.toks) (λb u q=>aa _ q) (aG _) ⟨_,e1⟩;refine d.laid (a:=s.heap.objs.size+1) (o:=.ins C s.heap.objs.size []) (t':=s.toks) (λb u q=>aa _ q) (fB (bH _ _)) ?_;have ne:s.heap.objs.size≠s.heap.objs.size+1:=aL (fP _);refine ⟨by rw [qt ne,qm],bA _,ne,i,λ_=>iF,(Heap.Ns1.of_empty D).at λo q=>aa _ q,λ_=>d7,λy k=>absurd rfl k⟩
theorem qcU {prog:iL} {w:iM} {env:Env} {f:Str} {pos:Pos} {s:iJ} {Q:iG->iJ->Prop} (hb:attributeBase e f env (eval e env)=eval e env)
  (h:wpAny (model prog w) A (eval e env) (λo d=>wpAny (model prog w) A (getAttr o f iI) Q E d) E s):wpAny (model prog w) A (eval (.Attribute e f pos) env) Q E s:=
 Attribute_any_ h (by rw [arm_eval_Attribute,hb])
end
def qij (K:Frag) (ta:TE) (f:Str):TE:=λσ H Q=>ta σ H λx H1=>∃ a C dx fs v,x=.ref a/\H1 a=iD (.ins C dx fs)/\Cls K C/\NoAttr K C f/\fs.lookup f=iD v/\Q v H1
def qgS (K:Frag) (ta tv:TE) (f:Str):TS:=λD σ H=>tv σ H λy H1=>ta σ H1 λx H2=>∃ a C dx fs,x=.ref a/\H2 a=iD (.ins C dx fs)/\Cls K C/\NoAttr K C f/\fs.length < 1000 /\
 D.nx σ (upd H2 a (.ins C dx (zo f y fs)))
section
variable {o value:Expr} {tpos:Pos} {tv:TE}
theorem qb8 (g:PE X e ta) (hb:attributeBase e f X.env (eval e X.env)=eval e X.env):PE X (.Attribute e f pos) (qij X.K ta f):=by refine ⟨?_⟩;intro pins s σ H Q I h;refine qcU hb (thn (g pins s σ H _ I h) λu s1 ⟨x,H1,i,d,a,C,dx,fs,v,ex,b,c,n,l,q⟩=>?_);subst ex;obtain rfl:u=br a:=d;exact Yr i b c n l λV s2 k r=>⟨v,H1,k,r,q⟩
theorem XA (i:PE X o ta) (e:PE X value tv) (g:swapsWith value (iD (.Attribute o f pos')) pos.line X.env=pure iH):PS X (.Assign [.Attribute o f pos'] value pos) (qgS X.K ta tv f):=by refine ⟨?_⟩;intro pins s σ H D I h;refine plainObj_wpAny_Assign_Attribute (thn (e pins s σ H _ I h) λu s1 ⟨y,H1,p,r,q⟩=>thn (i pins s1 σ H1 _ p q) λv s2 ⟨x,H2,m,d,a,C,dx,fs,ex,j,c,n,l,b⟩=>?_) g;subst ex;obtain rfl:v=br a:=d;exact Ys m j c n l r λs3 k=>⟨σ,_,k,b⟩
end
structure Room (k:Nat) (A:iO):Prop where
 hd:A.handled=iF
 dp:A.depth+3 * k+5 < recursionLimit
 un:A.units+16 * k+200 < cLine
theorem Room.mono {k:Nat} (r:Room k A) (h:j<=k):Room j A:=⟨r.hd,by have:=r.dp; omega,by have:=r.un; omega⟩
theorem Room.deeper {k:Nat} (r:Room (k+1) A) (env:Env):Room k (A.deeper env):=
 ⟨r.hd,by have:=r.dp; show A.depth+1+3 * k+5 < _; omega,by have:=r.un; show A.units+3+16 * k+200 < _; omega⟩
theorem Room.in1 {k:Nat} (r:Room (k+1) A):Room k A.in1:=
 ⟨r.hd,by have:=r.dp; show A.depth+3 * k+5 < _; omega,by have:=r.un; show A.units+1+16 * k+200 < _; omega⟩
variable {kw:List (Str×iG)}
theorem Yt:(A.under (.builtin "type.__call__" ⟨.ref C::us,kw⟩)).depth=A.depth+1:=by first | rfl | simp [im,Code.weight,Code.isCreation,Code.isGuard,Code.isCaller,Code.frames,ip,guardIds]
theorem Yu:(A.under (.builtin "type.__call__" ⟨.ref C::us,kw⟩)).units=A.units+1:=by first | rfl | simp [im,Code.cUnits,Code.frames,ip]
theorem Room.make {k:Nat} (r:Room (k+1) A) (C:Addr) (us:List iG) (kw:List (Str×iG)):Room k (A.under (.builtin "type.__call__" ⟨.ref C::us,kw⟩)):=
 ⟨r.hd,by have:=r.dp; rw [Yt]; omega,by have:=r.un; rw [Yu]; omega⟩
theorem Room.depth {k:Nat} (r:Room k A):A.depth < recursionLimit:=by have:=r.dp; omega
theorem Room.units {k:Nat} (r:Room k A):A.units+64 < cLine:=by have:=r.un; omega
def qeQ:TA:=λ_ H Q=>Q [] H
def Yv (ta:TE) (tr:TA):TA:=λσ H Q=>ta σ H λx H1=>tr σ H1 λxs H2=>Q (x::xs) H2
section
variable {t:TA}
theorem jU:PA X [] qeQ:=⟨λ_ _ _ _ H Q I h=>Calls.spliced_nil ⟨[],H,I,.nil,h⟩⟩
theorem qT (f:PE X e te) (hr:PA X es t) (c:starEach (e::es) X.env=(iH,eval e X.env)::starEach es X.env:=by rfl):PA X (e::es) (Yv te t):=by refine ⟨?_⟩;intro pos pins s σ H Q I h;rw [c];show wpAny _ _ (spliced ((iH,eval e X.env)::backTo pos (starEach es X.env))) _ _ s;refine Calls.spliced_cons (thn (f pins s σ H _ I h) λu s1 ⟨x,H1,a,r1,q⟩=>?_);exact thn (hr pos pins s1 σ H1 _ a q) λus s2 ⟨xs,H2,k,r2,d⟩=>⟨x::xs,H2,k,.cons r1 r2,d⟩
def qik (t:TA):TE:=λσ H Q=>t σ H λxs H1=>xs.length<=sizeLine/\∀ p,H1 p=iF->Q (.ref p) (upd H1 p (.tup xs))
def qil (t:TA):TE:=λσ H Q=>t σ H λxs H1=>xs.length<=sizeLine/\∀ p,H1 p=iF->Q (.ref p) (upd H1 p (.lst xs))
theorem qeR {x1} (h:PA X es t):PE X (.Tuple es x1 pos) (qik t):=by refine ⟨?_⟩;intro pins s σ H Q I hq;refine wpAny_Tuple_spliced (thn (h pos pins s σ H _ I hq) λus s1 ⟨xs,H1,d,r,z,q⟩=>⟨by rw [<-r.length]; exact z,?_⟩);have f:H1 s1.heap.objs.size=none:=d.hok.fresh (aG _);refine ⟨.ref s1.heap.objs.size,upd H1 s1.heap.objs.size (.tup xs),d.laid (t':=s1.toks) (λb u e=>aa _ e) (aG _) ?_,rfl,q _ f⟩;exact ⟨⟨z,_,aq _ rfl,rfl⟩,us,r,⟨_,aq _ rfl,rfl,_,rfl⟩⟩
theorem qeS (h:PA X es t):PE X (.List es pos) (qil t):=by refine ⟨?_⟩;intro pins s σ H Q I hq;refine wpAny_List_spliced (thn (h pos pins s σ H _ I hq) λus s1 ⟨xs,H1,d,r,z,q⟩=>⟨by rw [<-r.length]; exact z,?_⟩);have f:H1 s1.heap.objs.size=none:=d.hok.fresh (aG _);refine ⟨.ref s1.heap.objs.size,upd H1 s1.heap.objs.size (.lst xs),d.laid (t':=s1.toks) (λb u e=>aa _ e) (aG _) ?_,rfl,q _ f⟩;exact ⟨z,us,0,r,aq _ rfl⟩
end
abbrev Sp:=List V->Hp->VK->XK->Prop
abbrev CXT:=List Env->Hp->iJ->XK->iG->iJ->Prop
structure Env0 (P:iL) (w:iM) (K:Frag) (mg:Str->Option iG) (base:Heap) (A:iO) (outer:List Env) (s:iJ) (H:Hp):Prop where
 frames:A.frames=iD outer
 mod:Mod K mg base
 bs:∀ b o,base.get? b=iD o->s.heap.get? b=iD o/\H b=iF
 bsz:base.objs.size<=s.heap.objs.size
 funs:s.heap.FunFrames base outer
 frf:∀ b∈frs outer,H b=iF
 hok:HOk P w H s.heap
 bare:ly s.gens
def CE (outer:List Env) (P:iL) (w:iM) (H:Hp) (s:iJ) (Q:VK) (u:iG) (s':iJ):Prop:=
 ∃ v H',s'.os=s.os/\ly s'.gens/\Un (frs outer) [] H H' s.heap s'.heap/\HOk P w H' s'.heap/\RelV v u/\Q v H'
def CR (CX:CXT) (outer:List Env) (P:iL) (w:iM) (H:Hp) (s:iJ) (Q:VK) (E:XK) (r:lL) (s':iJ):Prop:=
 match r with
 | .ok (.ret u)=>CE outer P w H s Q u s'
 | .ok _=>False
 | .error e=>CX outer H s E e s'
structure FnOk (P:iL) (w:iM) (K:Frag) (mg:Str->Option iG) (base:Heap) (CX:CXT) (k:Nat) (f:Addr) (fd:i6) (ps:List Str) (sp:Sp):Prop where
 len:∀ vs H Q E,sp vs H Q E->vs.length=ps.length
 run:∀ (A:iO) (outer:List Env) (s:iJ) (H:Hp) (args:Args) (us:List iG) (vs:List V) (Q:VK) (E:XK),Room k A->Env0 P w K mg base A outer s H->lJ s fd args (ps.zip us)->Vals vs us->sp vs H Q E ->codeAny (model P w) A (.call (.ref f) args) (CR CX outer P w H s Q E) s
variable {mg:Str->Option iG} {base:Heap} {CX:CXT} {fd:i6} {ps:List Str} {sp:Sp}
theorem FnOk.imp {k:Nat} {f:Addr} {a:Sp} (F:FnOk P w K mg base CX k f fd ps sp)
  (h:∀ vs H Q E,a vs H Q E->sp vs H Q E):FnOk P w K mg base CX k f fd ps a:=
 ⟨λvs H Q E q=>F.len vs H Q E (h _ _ _ _ q),λA outer s H args us vs Q E hr g hb c b=>F.run A outer s H args us vs Q E hr g hb c (h _ _ _ _ b)⟩
variable {outer:List Env}
theorem Env0.make (e:Env0 P w K mg base A outer s H) (C:Addr) (us:List iG) (kw:List (Str×iG)):Env0 P w K mg base (A.under (.builtin "type.__call__" ⟨.ref C::us,kw⟩)) outer s H:=⟨by first | exact e.frames | (simpa [im,Code.envs,ip,pushEnvs] using e.frames),e.mod,e.bs,e.bsz,e.funs,e.frf,e.hok,e.bare⟩
theorem Env0.in1 (e:Env0 P w K mg base A outer s H):Env0 P w K mg base A.in1 outer s H:=⟨e.frames,e.mod,e.bs,e.bsz,e.funs,e.frf,e.hok,e.bare⟩
section
theorem Inv.env0 (I:Inv X pins σ H s):Env0 X.prog X.w X.K X.mg X.base X.A X.stack s H:=
 ⟨I.ok.frames,I.ok.mod,I.bs,bR I.ok.bsz I.sz,I.stack,I.stkFree,I.hok,I.bare⟩
theorem Inv.after {Q:VK} (I:Inv X pins σ H s) (h:CE X.stack X.prog X.w H s Q u s'):EP X pins σ Q u s':=by obtain ⟨v,H',os,bare,un,hok,r,q⟩:=h;obtain ⟨a,g,d,t,o⟩:=s';obtain rfl:o=s.os:=os;exact ⟨v,H',I.call (h':=a) (g':=g) (d':=d) (t':=t) (ch:=[]) un hok bare (λb z=>absurd z (by simp)),r,q⟩
end
def qgT (sp:Sp) (dvs:List V) (E:XK) (t:TA):TE:=λσ H Q=>t σ H λvs H1=>sp (vs++dvs) H1 Q E
def qeT (C:Addr) (m:Str) (sp:Sp) (dvs:List V) (E:XK) (ta:TE) (t:TA):TE:=λσ H Q=>ta σ H λx H1=>∃ a dx fs,x=.ref a/\H1 a=iD (.ins C dx fs)/\fs.lookup m=iF /\
 t σ H1 λvs H2=>sp (x::(vs++dvs)) H2 Q E
def qgU (C:Addr) (sp:Sp) (dvs:List V) (E:XK) (t:TA):TE:=λσ H Q=>t σ H λvs H1=>∀ x dx,H1 x=iF->H1 dx=iF->dx≠x ->sp (.ref x::(vs++dvs)) (upd (upd H1 dx (.own x)) x (.ins C dx [])) (λv H2=>v=.non/\Q (.ref x) H2) E
def Binds (K:Frag) (fd:i6) (ps:List Str) (ds:List iG):Prop:=
 ∀ (s:iJ) (us:List iG),K.In s.heap->(us++ds).length=ps.length->lJ s fd ⟨us,[]⟩ (ps.zip (us++ds))
theorem Binds.all (h:∀ us:List iG,us.length=ps.length->bindArgs fd ⟨us,[]⟩=pure (ps.zip us)):Binds K fd ps []:=λs us _ hl=>by rw [bj] at hl ⊢;exact .of_eq (h us hl)
def jO (CX:CXT) (X:Cx) (E:XK):Prop:=∀ (pins:List (Addr×Obj)) (σ:St) (H:Hp) (s:iJ) (e:iG) (s':iJ),Inv X pins σ H s->CX X.stack H s E e s'->X.xe e s'
variable {apos:Pos}
section
variable {k:Nat} {f:Addr} {dvs:List V} {ds:List iG} {E:XK} {o:Expr} {t:TA}
theorem XB {pins:List (Addr×Obj)} {σ:St} {H:Hp} {s:iJ} {Q:VK} {us:List iG} {vs:List V} (F:FnOk X.prog X.w X.K X.mg X.base CX k f fd ps sp) (hr:Room k X.A) (hb:Binds X.K fd ps ds) (hd:Vals dvs ds) (hx:jO CX X E)
  (I:Inv X pins σ H s) (r:Vals vs us) (h:sp (vs++dvs) H Q E):wpAny (model X.prog X.w) X.A (call (.ref f) us) (EP X pins σ Q) X.xe s:=by
 have r2:Vals (vs++dvs) (us++ds):=r.append hd;have hl:(us++ds).length=ps.length:=by rw [<-r2.length]; exact F.len _ _ _ _ h
 refine lM (lj (F.run X.A X.stack s H ⟨us,[]⟩ (us++ds) (vs++dvs) Q E hr I.env0 (hb s us I.kIn hl) r2 h) λr s' hq=>?_);cases r with
 | error e=>exact hx pins σ H s e s' I hq
 | ok fl=>
  cases fl with
  | ret u=>exact I.after hq
  | next=>exact bU hq
  | brk=>exact bU hq
  | cont=>exact bU hq
theorem XC (F:FnOk X.prog X.w X.K X.mg X.base CX k f fd ps sp) (hr:Room k X.A) (hg:Gl X x) (c:X.mg x=iD (.ref f)) (a:keepIn X.K (.ref f)=iI) (hb:Binds X.K fd ps ds) (hd:Vals dvs ds) (hx:jO CX X E)
  (i:PA X (e::es) t) (b:(x == ("__debug__":Str))=false:=by decide) (g:starEach (e::es) X.env=(iH,eval e X.env)::starEach es X.env:=by rfl) (l:(backTo pos (starEach es X.env)).any (·.1)=false:=by rfl) :
  PE X (.Call (.Name x p) (e::es) [] pos) (qgT sp dvs E t):=by
 refine ⟨?_⟩;intro pins s σ H Q I h;refine lh (uZ I hg c ?_ b);refine d8 (h₀:=X.base) I.ok.mod.kin a (thn (i pos pins s σ H _ I h) λus s1 ⟨vs,H1,d,r,q⟩=>⟨d.kIn,?_⟩) g l;exact XB F hr hb hd hx d r q
theorem XD {pl:Sem Bool} (y:PE X o ta) (c:Cls X.K C) (g:Meth X.K C m f) (F:FnOk X.prog X.w X.K X.mg X.base CX k f fd ps sp) (hr:Room k X.A) (hb:Binds X.K fd ps ds) (hd:Vals dvs ds) (hx:jO CX X E) (z:PA X (e::es) t)
  (b:starEach (e::es) X.env=(iH,eval e X.env)::starEach es X.env:=by rfl) (d:(backTo pos (starEach es X.env)).any (·.1)=false:=by rfl)
  (v:eval (.Call (.Attribute o m apos) (e::es) [] pos) X.env=(do
   let ov <-eval o X.env
   standAt apos.atName
   let (f,first) <-holding [ov] (getMethod ov m pl)
   callWith pos f first (backTo pos (starEach (e::es) X.env)) (backToKw pos (keywordEach [] X.env))):=by rfl) :
  PE X (.Call (.Attribute o m apos) (e::es) [] pos) (qeT C m sp dvs E ta t):=by
 refine ⟨?_⟩;intro pins s σ H Q I h;refine PySem.W.methodCall_KW (pl:=pl) (thn (y pins s σ H _ I h) λu s1 ⟨x,H1,j,n,a,dx,fs,ex,B,l,q⟩=>?_) v;subst ex;obtain rfl:u=br a:=n;refine gW j B c g l ?_;refine d8 (first:=[.ref a]) (h₀:=X.base) I.ok.mod.kin g.kp (thn (z pos pins s1 σ H1 _ j q) λus s2 ⟨vs,H2,i,r,p⟩=>⟨i.kIn,?_⟩) b d;exact XB (us:=.ref a::us) (vs:=.ref a::vs) F hr hb hd hx i (.cons rfl r) p
theorem QF {pl:Sem Bool} (g:PE X o ta) (c:Cls X.K C) (b:Meth X.K C m f) (F:FnOk X.prog X.w X.K X.mg X.base CX k f fd ps sp) (hr:Room k X.A) (hb:Binds X.K fd ps ds) (hd:Vals dvs ds) (hx:jO CX X E)
  (t:eval (.Call (.Attribute o m apos) [] [] pos) X.env=(do
   let ov <-eval o X.env
   standAt apos.atName
   let (f,first) <-holding [ov] (getMethod ov m pl)
   callWith pos f first (backTo pos (starEach [] X.env)) (backToKw pos (keywordEach [] X.env))):=by rfl) :
  PE X (.Call (.Attribute o m apos) [] [] pos) (qeT C m sp dvs E ta qeQ):=by
 refine ⟨?_⟩;intro pins s σ H Q I h;refine PySem.W.methodCall_KW (pl:=pl) (thn (g pins s σ H _ I h) λu s1 ⟨x,H1,d,r,a,dx,fs,ex,e,l,q⟩=>?_) t;subst ex;obtain rfl:u=br a:=r;refine gW d e c b l ?_;exact PySem.W.callWith_K0 (first:=[.ref a]) d.kIn b.kp (XB (us:=[.ref a]) (vs:=[.ref a]) F hr hb hd hx d (.cons rfl .nil) q)
structure Mk (K:Frag) (C f:Addr):Prop where
 makes:fV K C=iI
 init:aV K (.ref C) "__init__"=iD (iD (.ref f))
 fn:cP K (.ref f)=iI
 kp:keepIn K (.ref C)=iI
theorem qay {pins:List (Addr×Obj)} {σ:St} {H:Hp} {s:iJ} {Q:VK} {us:List iG} {vs:List V} (M:Mk X.K C f) (F:FnOk X.prog X.w X.K X.mg X.base CX k f fd ps sp) (hr:Room (k+1) X.A) (hb:Binds X.K fd ps ds) (hd:Vals dvs ds)
  (hx:jO CX X E) (I:Inv X pins σ H s) (r:Vals vs us)
  (h:∀ x dx,H x=iF->H dx=iF->dx≠x->sp (.ref x::(vs++dvs)) (upd (upd H dx (.own x)) x (.ins C dx [])) (λv H2=>v=.non/\Q (.ref x) H2) E) :
  wpAny (model X.prog X.w) X.A (call (.ref C) us) (EP X pins σ Q) X.xe s:=by
 have hq:=h (s.heap.objs.size+1) s.heap.objs.size (I.hok.fresh (iu _)) (I.hok.fresh (aG _)) (aL (fP _));have b:=Inv.made (C:=C) I;have r2:Vals (V.ref (s.heap.objs.size+1)::(vs++dvs)) (br (s.heap.objs.size+1)::(us++ds)):=.cons rfl (r.append hd);have hl:(br (s.heap.objs.size+1)::us++ds).length=ps.length:=by have e:=r2.length;rw [F.len _ _ _ _ hq] at e;exact e.symm
 refine lM (qax (f:=f) I.kIn M.makes M.init (beq_iff_eq.mp M.fn) (lj (F.run _ X.stack _ _ ⟨br (s.heap.objs.size+1)::us,[]⟩ (br (s.heap.objs.size+1)::(us++ds)) _ _ E (hr.make C us [])
  (b.env0.make C us []) (hb _ (br (s.heap.objs.size+1)::us) b.kIn hl) r2 hq) λr s' a=>?_))
 cases r with
 | error e=>exact hx pins σ _ _ e s' b a
 | ok fl=>
  cases fl with
  | ret u=>obtain ⟨v,H',j,rv,ev,q⟩:=b.after a;subst ev;exact ⟨rv,⟨V.ref (s.heap.objs.size+1),H',j,rfl,q⟩⟩
  | next=>exact bU a
  | brk=>exact bU a
  | cont=>exact bU a
theorem qcV (M:Mk X.K C f) (F:FnOk X.prog X.w X.K X.mg X.base CX k f fd ps sp) (hr:Room (k+1) X.A) (hg:Gl X x) (c:X.mg x=iD (.ref C)) (hb:Binds X.K fd ps ds) (hd:Vals dvs ds) (hx:jO CX X E)
  (a:PA X (e::es) t) (b:(x == ("__debug__":Str))=false:=by decide) (g:starEach (e::es) X.env=(iH,eval e X.env)::starEach es X.env:=by rfl) (l:(backTo pos (starEach es X.env)).any (·.1)=false:=by rfl) :
  PE X (.Call (.Name x p) (e::es) [] pos) (qgU C sp dvs E t):=by
 refine ⟨?_⟩;intro pins s σ H Q I h;refine lh (uZ I hg c ?_ b);refine d8 (h₀:=X.base) I.ok.mod.kin M.kp (thn (a pos pins s σ H _ I h) λus s1 ⟨vs,H1,d,r,q⟩=>⟨d.kIn,?_⟩) g l;exact qay M F hr hb hd hx d r q
end
section
variable {k:Nat} {f:Addr} {ks:List Str} {E:XK} {kpos:Pos} {o:Expr} {kws:List i5} {t tk:TA} {nm:Option Str}
variable {g:List iG->List iG->List iG} {gV:List V->List V->List V}
end
structure FnScope (N P:List Str) (sc:lm):Prop where
 kind:sc.kind=.function
 co:sc.isCoroutine=iH
 gen:sc.isGenerator=iH
 nd:N.Nodup
 pre:N.take P.length=P
 par:∀ x∈P,sc.names.lookup x=iD .local\/sc.names.lookup x=iD .cell
 nofree:∀ y∈sc.names,y.2≠.free
variable {kindOf:Str->Option i9}
theorem JQ:∀ {binds:List (Str×iG)} {m:Str->Option iG},(∀ v,(x,v)∉binds)->bindL kindOf binds m x=m x
 | [],_,_=>rfl
 | (n,v)::r,m,h=>by
  unfold bindL;rw [JQ λw hw=>h w (ai _ hw)];split
  ·have:x≠n:=by rintro rfl; exact h v ay
   simp [this]
  ·rfl
theorem JR:∀ {binds:List (Str×iG)} {m:Str->Option iG},(∀ v,(x,v)∉binds)->bindC kindOf binds m x=m x
 | [],_,_=>rfl
 | (n,v)::r,m,h=>by
  unfold bindC;rw [JR λw hw=>h w (ai _ hw)];split;·rfl
  ·have:x≠n:=by rintro rfl; exact h v ay
   simp [this]
theorem zr {kindOf:Str->Option i9} {x:Str} {v:iG}:∀ {P:List Str} {vs:List iG} {i:Nat} {m:Str->Option iG},P.Nodup->P[i]?=iD x->vs[i]?=iD v->kindOf x=iD .local ->bindL kindOf (P.zip vs) m x=iD v
 | [],_,_,_,_,h,_,_=>by simp at h
 | _::_,[],_,_,_,_,h,_=>by simp at h
 | p::P,w::vs,0,m,nd,h1,h2,hk=>by simp at h1 h2; subst h1; subst h2;show bindL kindOf ((p,w)::P.zip vs) m p=_;unfold bindL;rw [JQ λv c=>(bb.mp nd).1 (df c).1,if_pos hk];simp
 | p::P,w::vs,i+1,m,nd,h1,h2,hk=>by show bindL kindOf ((p,w)::P.zip vs) m x=_;unfold bindL;exact zr (i:=i) (bb.mp nd).2 (by simpa using h1) (by simpa using h2) hk
theorem zt {kindOf:Str->Option i9} {x:Str} {v:iG}:∀ {P:List Str} {vs:List iG} {i:Nat} {m:Str->Option iG},P.Nodup->P[i]?=iD x->vs[i]?=iD v->kindOf x≠iD .local ->bindC kindOf (P.zip vs) m x=iD v
 | [],_,_,_,_,h,_,_=>by simp at h
 | _::_,[],_,_,_,_,h,_=>by simp at h
 | p::P,w::vs,0,m,nd,h1,h2,hk=>by simp at h1 h2; subst h1; subst h2;show bindC kindOf ((p,w)::P.zip vs) m p=_;unfold bindC;rw [JR λv c=>(bb.mp nd).1 (df c).1,if_neg hk];simp
 | p::P,w::vs,i+1,m,nd,h1,h2,hk=>by show bindC kindOf ((p,w)::P.zip vs) m x=_;unfold bindC;exact zt (i:=i) (bb.mp nd).2 (by simpa using h1) (by simpa using h2) hk
noncomputable def ko (N:List Str) (vs:List V):St:=vs.map iD++ao (N.length - vs.length) iF
def qah (CX:CXT) (P:iL) (w:iM) (K:Frag) (mg:Str->Option iG) (base:Heap) (N:List Str) (qual:Str) (scope:lm) (f:Addr) (cd:iG) (A:iO) (outer:List Env) (s:iJ) (H:Hp) (E:XK):Cx where
 prog:=P
 w:=w
 K:=K
 mg:=mg
 base:=base
 A:=A.deeper (envOfC qual scope s.heap.objs.size f cd)
 N:=N
 s₀:=s
 H₀:=H
 env:=envOfC qual scope s.heap.objs.size f cd
 outer:=outer
 stack:=envOfC qual scope s.heap.objs.size f cd::outer
 ex:=[]
 calm:=iI
 fn:=λ_=>iI
 pn:=[]
 xe:=λe s'=>wpAny (model P w) (A.deeper (envOfC qual scope s.heap.objs.size f cd)) (leaving (envOfC qual scope s.heap.objs.size f cd) e) (λ_ a=>CX outer H s E e a) (λb a=>CX outer H s E b a) s'
theorem xW {sc:lm} {n:Nat} (h:sc.names.lookup x=iD .cell):∃ c,(cellsFrom n sc.names []).lookup x=iD c:=by have q:=ez sc.names n [] (.inl h);exact Option.isSome_iff_exists.mp q
theorem XE {CX:CXT} {P:iL} {w:iM} {K:Frag} {mg:Str->Option iG} {base:Heap} {N ps:List Str} {qual:Str} {scope:lm} {f:Addr} {cd:iG} {A:iO} {outer:List Env} {s s1:iJ} {H:Hp} {E:XK} {us:List iG} {vs:List V}
  (S:FnScope N ps scope) (hd:A.handled=iF) (d:Env0 P w K mg base A outer s H) (hl:vs.length=ps.length) (r:Vals vs us)
  (x:InCallC s s.heap.objs.size (bindL (envOfC qual scope s.heap.objs.size f cd).kindOf (ps.zip us) λ_=>iF) (cellsFrom (s.heap.objs.size+1) scope.names []) (bindC (envOfC qual scope s.heap.objs.size f cd).kindOf (ps.zip us) λ_=>iF) s1) :
  Inv (qah CX P w K mg base N qual scope f cd A outer s H E) [] (ko N vs) H s1:=by
 have t:ps.length<=N.length:=by have:=congrArg iA S.pre; rw [ff] at this; omega
 obtain ⟨h1,tk,rfl,o⟩:=x.done;have g:∀ b:Addr,b∉(qah CX P w K mg base N qual scope f cd A outer s H E).ex:=λb z=>absurd (show b∈([]:List Addr) from z) (by simp);refine ⟨⟨d.mod,S.kind,rfl,rfl,aG _,λy z c h1 h2=>?_,λy j=>?_,λy c _ h=>?_,λ_=>hd,Around.frames_deeper d.frames,.inr ⟨rfl,rfl⟩,λb z=>absurd z (g b),d.bs,d.bsz,λb _ _=>g b,λb z=>absurd z (g b),d.funs,d.frf⟩,rfl,d.bare,Un.kept o,⟨_,x.toInCall.ns,λi y v h1 h2 C=>?_⟩,λy c h=>⟨_,x.cell y c h⟩,d.hok.fresh (aG _),λy c h=>?_,λp hp=>absurd (show p∈([]:List (Addr×Obj)) from hp) (by simp),d.hok.kept o,?_⟩;·exact name_of_addr x.apart (bv h1) (bv h2)
 ·have j:scope.names.lookup y=iD .cell\/scope.names.lookup y=iD .free:=j;rcases j with j | j;·exact xW j
  ·exact absurd rfl (S.nofree _ (bv j))
 ·exact cN (x.above y c (bv h))
 ·have hi:i < vs.length:=by
   unfold ko at h2;by_cases hi:i < vs.length;·exact hi
   ·rw [bn (by simpa using hi)] at h2;rw [aY] at h2;split at h2 <;> cases h2
  have B:vs[i]?=iD v:=by
   unfold ko at h2;rw [bS (by simpa using hi),aJ] at h2;cases e:vs[i]? with
   | none=>rw [e] at h2; cases h2
   | some a=>rw [e] at h2; cases h2; rfl
  obtain ⟨u,m,rv⟩:=r.get B;have hp:ps[i]?=iD y:=by rw [<-S.pre,List.getElem?_take_of_lt (by omega)]; exact h1
  have l:ps.Nodup:=by rw [<-S.pre]; exact S.nd.sublist (List.take_sublist _ _)
  refine ⟨u,rv,?_⟩;rcases S.par y (cf hp) with k | k;·exact .inl ⟨k,zr l hp m k⟩
  ·obtain ⟨c,e⟩:=xW (n:=s.heap.objs.size+1) k;refine .inr ⟨.inl k,c,e,?_⟩;have q:=x.cell y c e;rw [zt l hp m (by show scope.names.lookup y≠_; rw [k]; decide)] at q;exact q
 ·exact d.hok.fresh (cN (x.above y c (bv h)))
 ·unfold ko;show _=N.length;rw [ap,aH,cr];omega
theorem qaz {CX:CXT} {P:iL} {w:iM} {K:Frag} {mg:Str->Option iG} {base:Heap} {k:Nat} {f:Addr} {name qual:Str} {params:Arguments} {a:List Stmt} {scope:lm} {j kV doc pm cdv ct oc:iG} {an od:Option Addr}
  {osl:Array (Option iG)} {N ps:List Str} {sp:Sp} (lk:K.lookup f=iD ⟨oc,od,.func (bX name qual params a scope j kV doc pm an cdv ct),osl⟩) (i:codeIn K cdv qual=iI) (S:FnScope N ps scope)
  (len:∀ vs H Q E,sp vs H Q E->vs.length=ps.length)
  (c:∀ (A:iO) (outer:List Env) (s:iJ) (H:Hp) (vs:List V) (Q:VK) (E:XK),Room k (A.deeper (envOfC qual scope s.heap.objs.size f cdv))->sp vs H Q E ->∃ t,PSs (qah CX P w K mg base N qual scope f cdv A outer s H E) a t/\t { nx:=λ_ H'=>Q .non H',rt:=Q } (ko N vs) H) :
  FnOk P w K mg base CX (k+1) f (bX name qual params a scope j kV doc pm an cdv ct) ps sp:=by
 refine ⟨len,λA outer s H args us vs Q E hr g hb r p=>?_⟩;have hl:=len _ _ _ _ p;have X:K.In s.heap:=g.mod.kin.keeps λb o e=>(g.bs b o e).1;have l:s.heap.NoLimit:=g.mod.nolimit.keeps λb o e=>(g.bs b o e).1;have h:∀ y∈ps.zip us,scope.names.lookup y.1=iD .local\/(scope.names.lookup y.1=iD .cell/\((cellsFrom (s.heap.objs.size+1) scope.names []).lookup y.1).isSome=iI):=λ⟨n,v⟩ m=>by
  rcases S.par n (df m).1 with q | q;·exact .inl q
  ·exact .inr ⟨q,ez _ _ _ (.inl q)⟩
 refine codeAny_call_function hr.depth (X _ _ lk) rfl S.co S.gen rfl (PySem.W.codeRec_of X i) (hb _ _ _ _ ?_);refine wpAny_newFunctionEnv_cells S.kind h λenv B s1 x=>?_;subst B;refine ⟨l.keeps x.toInCall.keep,codeAny_func ?_⟩;obtain ⟨t,z,hq⟩:=c A outer s H vs Q E (hr.deeper _) p;have I:Inv (qah CX P w K mg base N qual scope f cdv A outer s H E) [] (ko N vs) H s1:=XE S hr.hd g hl r x;refine i8 (z [] s1 (ko N vs) H _ I hq) (λfl s' d=>?_) λe s' d=>d;have fin:∀ {σ':St} {H':Hp} {v:V} {u:iG},Inv (qah CX P w K mg base N qual scope f cdv A outer s H E) [] σ' H' s'->RelV v u->Q v H'->CE outer P w H s Q u s':=
  λ{σ' H' v u} J rv q=>⟨v,H',J.os,J.bare,J.base,J.hok,rv,q⟩
 cases fl with
 | ret u=>obtain ⟨v,σ',H',J,rv,q⟩:=d;exact fin J rv q
 | next=>obtain ⟨σ',H',J,q⟩:=d;exact fin (v:=V.non) (u:=bT) J rfl q
 | brk=>obtain ⟨_,_,_,q⟩:=d;exact bU q
 | cont=>obtain ⟨_,_,_,q⟩:=d;exact bU q
section
variable {t:TA} {id T:String} {r:List V->Hp->VK->Prop}
def tCB (r:List V->Hp->VK->Prop) (t:TA):TE:=λσ H Q=>t σ H λvs H1=>r vs H1 Q
theorem wE (d:ya X (.builtin id) r) (hg:Gl X x) (m:X.mg x=iF) (c:bootBuiltins x=iD (.builtin id)) (f:PA X (e::es) t) (n:x ≠ "__name__":=by decide) (b:(x == ("__debug__":Str))=false:=by decide)
  (g:starEach (e::es) X.env=(iH,eval e X.env)::starEach es X.env:=by rfl) (l:(backTo pos (starEach es X.env)).any (·.1)=false:=by rfl):PE X (.Call (.Name x p) (e::es) [] pos) (tCB r t):=by
 refine ⟨?_⟩;intro pins s σ H Q I h;refine lh (JO I hg m c ?_ n b);exact PyProof.Rows.callWith_builtin1 (thn (f pos pins s σ H _ I h) λus s1 ⟨vs,H1,a,r1,q⟩=>d pins s1 σ H1 vs us Q a r1 q) g l
theorem zu (d:ya X (.type T) r) (hg:Gl X x) (m:X.mg x=iF) (c:bootBuiltins x=iD (.type T)) (f:PA X (e::es) t) (n:x ≠ "__name__":=by decide) (b:(x == ("__debug__":Str))=false:=by decide)
  (g:starEach (e::es) X.env=(iH,eval e X.env)::starEach es X.env:=by rfl) (l:(backTo pos (starEach es X.env)).any (·.1)=false:=by rfl):PE X (.Call (.Name x p) (e::es) [] pos) (tCB r t):=by
 refine ⟨?_⟩;intro pins s σ H Q I h;refine lh (JO I hg m c ?_ n b);exact dq (thn (f pos pins s σ H _ I h) λus s1 ⟨vs,H1,a,r1,q⟩=>d pins s1 σ H1 vs us Q a r1 q) g l
end
end L2
namespace HT
open PySem PyProof.Rows
section
open PySem.SeqAt
open PySem.AutoSeq1 (wpAny_loadPart')
open PySem.MeetsSeq PySem.MeetsSeq2 PySem.MeetsSeq3
end
section
variable {prog:iL} {w:iM} {A:iO} {E:iG->iJ->Prop} {s:iJ}
theorem cat_tup {t b:Addr} {vs ws:List iG} {Q:iG->iJ->Prop} (l:IsTup s.heap t vs.toArray) (hb:IsTup s.heap b ws.toArray) (v:vs≠[])
  (h1:ws=[]->Q (.ref t) s) (h2:ws≠[]->Q (.ref s.heap.objs.size) { s with heap:=s.heap.push { cls:=.type "tuple",data:=.seq (vs++ws).toArray } })
  (z:vs.length+ws.length<=sizeLine):wpAny (model prog w) A (binaryOp .Add (.ref t) (.ref b)) Q E s:=by
 obtain ⟨⟨cls,dd,data,sl⟩,m,g,n,hd⟩:=id l;obtain ⟨⟨i,d,f,a⟩,h,c,n2,hd2⟩:=id hb;simp only at g hd c hd2;subst g hd c hd2;have e:vs.toArray++ws.toArray=(vs++ws).toArray:=by simp
 by_cases hw:ws=[]
 ·exact lF ⟨_,m,rfl⟩ ⟨_,h,rfl⟩ noFill_tuple_add seq_tuple_add eG d9 (dR _ _)
   (tuple_addW1 t b vs.toArray ws.toArray n n2 dd d sl a (by simpa using v) (by simp [hw])) ⟨m,h,h1 hw⟩
 ·refine lF ⟨_,m,rfl⟩ ⟨_,h,rfl⟩ noFill_tuple_add seq_tuple_add eG d9 (dR _ _)
   (tuple_addW2 t b vs.toArray ws.toArray n n2 dd d sl a (by simpa using v) (by simpa using hw) (by rw [aw,aw]; exact z)) ⟨m,h,?_⟩
  rw [e];exact h2 hw
noncomputable def sIx (n d:Nat):Option Int->Nat
 | none=>d
 | some v=>if v < 0 then (v+(n:Int)).toNat else min v.toNat n
theorem sIx_none (n d:Nat):sIx n d iF=d:=rfl
theorem slicePart_ {v:iG} {o:Option Int} {Q:Option Int->iJ->Prop} (p:lw v o) (h:Q o s):wpAny (model prog w) A (Builtin.Slice.slicePartIndex v) Q E s:=by
 cases p with
 | none=>exact slicePart_none h
 | int i t=>exact slicePart_int h
end
end HT
namespace L2
open PySem PySem.Spec PyProof.Rows
abbrev TO:=St->Hp->(Option Int->Hp->Prop)->Prop
def PO (X:Cx) (e:Option Expr) (t:TO):Prop:=
 ∀ (pins:List (Addr×Obj)) (s:iJ) (σ:St) (H:Hp) (Q:Option Int->Hp->Prop),Inv X pins σ H s->t σ H Q ->wpAny (model X.prog X.w) X.A (evalPart e X.env) (λu s'=>∃ o H',Inv X pins σ H' s'/\lw u o/\Q o H') X.xe s
def qcW:TO:=λ_ H Q=>Q iF H
def qgV (t:TE):TO:=λσ H Q=>t σ H λx H1=>∃ i,x=.int i/\Q (iD i) H1
variable {X:Cx} {e:Expr} {pos:Pos} {xs:List V} {us:List iG}
section
variable {te:TE} {lo hi:Option Expr} {tl th:TO} {p2:Pos}
theorem qcX:PO X iF qcW:=by intro pins s σ H Q I h;rw [evalPart_none];exact iK ⟨iF,H,I,.none,h⟩
theorem qcY (h:PE X e te):PO X (iD e) (qgV te):=by intro pins s σ H Q I hw;rw [evalPart_some];refine thn (h pins s σ H _ I hw) λu s1 ⟨x,H1,d,r1,a⟩=>?_;obtain ⟨i,rfl,q⟩:=a;obtain ⟨t,rfl⟩:=r1;exact ⟨iD i,H1,d,.int i t,q⟩
def SlR (X:Cx) (r:V->Option Int->Option Int->Hp->VK->Prop):Prop:=
 ∀ (pins:List (Addr×Obj)) (s:iJ) (σ:St) (H:Hp) (x:V) (v vl u:iG) (lo hi:Option Int) (sl:Addr) (Q:VK),Inv X pins σ H s->RelV x v->s.heap.IsSliceOf sl vl u .none->lw vl lo->lw u hi->r x lo hi H Q ->∃ T id,typeLookup (.type T) "__getitem__"=pure (iD (.builtin id))/\s.TypeIs v T/\wpAny (model X.prog X.w) X.A (getItem v (.ref sl)) (EP X pins σ Q) X.xe s
def tSl (r:V->Option Int->Option Int->Hp->VK->Prop) (te:TE) (tl th:TO):TE:=λσ H Q=>te σ H λx H1=>tl σ H1 λl H2=>th σ H2 λu b=>r x l u b Q
theorem qaA {r:V->Option Int->Option Int->Hp->VK->Prop} (hr:SlR X r) (j:PE X e te) (hl:PO X lo tl) (i:PO X hi th):PE X (.Subscript e (.Slice lo hi iF p2) pos) (tSl r te tl th):=by refine ⟨?_⟩;intro pins s σ H Q I h;refine Subscript_ (thn (j pins s σ H _ I h) λv s1 ⟨x,H1,n,r1,g⟩=>?_);refine wpAny_Slice (thn (hl pins s1 σ H1 _ n g) λvl s2 ⟨l,H2,m,pl,f⟩=>thn (i pins s2 σ H2 _ m f) λa s3 ⟨u,c,k,p,d⟩=>?_);rw [evalPart_none];refine iK ?_;have C:Inv X pins σ c { s3 with heap:=s3.heap.push { cls:=.type "slice",data:=.fields #[vl,a,.none] } }:=k.kept (t':=s3.toks) λb o q=>aa _ q;obtain ⟨T,id,hT,t,hg⟩:=hr pins { s3 with heap:=s3.heap.push { cls:=.type "slice",data:=.fields #[vl,a,.none] } } σ c x v vl a l u s3.heap.objs.size Q C r1 (Heap.IsSliceOf.new ..) pl p d;show wpAny (model X.prog X.w) X.A (subscriptTail e (.Slice lo hi iF p2) v (.ref s3.heap.objs.size)) (EP X pins σ Q) X.xe { s3 with heap:=s3.heap.push { cls:=.type "slice",data:=.fields #[vl,a,.none] } };exact lN (ops:=[.ref s3.heap.objs.size,v]) t hT hg (by with_unfolding_all rfl)
noncomputable def qcZ (xs:List V) (lo hi:Option Int):List V:=(xs.drop (HT.sIx xs.length 0 lo)).take (HT.sIx xs.length xs.length hi - HT.sIx xs.length 0 lo)
theorem VB (xs:List V) (lo hi:Option Int):(qcZ xs lo hi).length<=xs.length:=by unfold qcZ;rw [ff,List.length_drop];omega
def qgW (K:Frag):R2:=λx y H Q=>∃ a b xs ys,x=.ref a/\y=.ref b/\SqT K H a xs/\SqT K H b ys/\xs≠[]/\xs.length+ys.length<=sizeLine /\
 (ys=[]->Q (.ref a) H)/\(ys≠[]->∀ p,H p=iF->Q (.ref p) (upd H p (.tup (xs++ys))))
theorem Vals.nil_iff (r:Vals xs us):us=[]↔xs=[]:=by
 cases r with
 | nil=>simp
 | cons _ _=>simp
theorem qc0:OpR X (binaryOp .Add) (qgW X.K):=by intro pins s σ H x y v u Q I d r h;obtain ⟨a,b,xs,ys,rfl,rfl,g,hb,hx,c,f,e⟩:=h;cases d;cases r;obtain ⟨its,r1,p1,_⟩:=I.tuple g;obtain ⟨i,r2,p2,_⟩:=I.tuple hb;refine HT.cat_tup p1 p2 (λz=>hx (r1.nil_iff.mp z)) (λz=>⟨.ref a,H,I,rfl,f (r2.nil_iff.mp z)⟩) (λz=>?_) (by rw [<-r1.length,<-r2.length]; exact c);refine ⟨.ref s.heap.objs.size,_,I.laid (t':=s.toks) (o:=.tup (xs++ys)) (λb j q=>aa _ q) (aG _) ?_,rfl,e (λw=>z (r2.nil_iff.mpr w)) _ (I.hok.fresh (aG _))⟩;exact ⟨⟨by rw [ap]; exact c,_,aq _ rfl,rfl⟩,_,r1.append r2,ir _ _⟩
end
noncomputable def ixN (n:Nat) (i:Int):Option Nat:=if 0<=i then (if i < n then iD i.toNat else iF) else if -(n:Int)<=i then iD (i+n).toNat else iF
variable {α:Type}
noncomputable def atI (xs:List α) (i:Int):Option α:=(ixN xs.length i).bind λj=>xs[j]?
variable {n j:Nat} {i:Int}
theorem XF (h:ixN n i=iD j):seqIndex? i n=iD j/\j < n/\-(n:Int)<=i/\i < n:=by
 unfold ixN at h;by_cases a:0<=i
 ·rw [if_pos a] at h;by_cases h1:i < n;·rw [if_pos h1] at h;have e:i.toNat=j:=aU.inj h;exact ⟨by rw [seqIndex_of a h1,e],by omega,by omega,h1⟩
  ·rw [if_neg h1] at h; cases h
 ·rw [if_neg a] at h;by_cases h1:-(n:Int)<=i;·rw [if_pos h1] at h;have e:(i+n).toNat=j:=aU.inj h;exact ⟨by rw [seqIndex_neg (by omega) h1,e],by omega,h1,by omega⟩
  ·rw [if_neg h1] at h; cases h
theorem VC {xs:List α} {v:α} (h:atI xs i=iD v):∃ j,seqIndex? i xs.length=iD j/\xs[j]?=iD v/\j < xs.length/\-(xs.length:Int)<=i/\i < xs.length:=by
 unfold atI at h;cases e:ixN xs.length i with
 | none=>rw [e] at h; cases h
 | some j=>rw [e] at h;obtain ⟨h1,h2,b,a⟩:=XF e;exact ⟨j,h1,h,h2,b,a⟩
theorem ug {xs:List α} {v:α} (h:xs[j]?=iD v):atI xs (j:Int)=iD v:=by
 have G:j < xs.length:=(aA.mp h).1;have e:ixN xs.length (j:Int)=iD j:=by unfold ixN;rw [if_pos (by omega),if_pos (by omega)]; simp
 unfold atI; rw [e]; exact h
def VD (b:Expr):Prop:=∀ o i,subscripted b iH o i=operate [o,i] (getItem o i)
def IxR (X:Cx) (r:R2):Prop:=
 ∀ (value e:Expr) (pins:List (Addr×Obj)) (s:iJ) (σ:St) (H:Hp) (x y:V) (v u:iG) (Q:VK),Inv X pins σ H s->RelV x v->RelV y u->r x y H Q ->subscripted e iH v u=operate [v,u] (getItem v u)->wpAny (model X.prog X.w) X.A (subscriptTail value e v u) (EP X pins σ Q) X.xe s
def MtR (X:Cx) (id:String) (r:V->List V->Hp->VK->Prop):Prop:=
 ∀ (pins:List (Addr×Obj)) (s:iJ) (σ:St) (H:Hp) (x:V) (xs:List V) (v:iG) (us:List iG) (Q:VK),Inv X pins σ H s->RelV x v->Vals xs us->r x xs H Q ->wpAny (model X.prog X.w) X.A (call (.builtin id) (v::us)) (EP X pins σ Q) X.xe s
variable {pins:List (Addr×Obj)} {σ:St} {H:Hp} {s:iJ} {p:Addr} {T:String}
section
variable {a b:Expr} {ta tb:TE}
theorem IxR.or {r r':R2} (h:IxR X r) (h':IxR X r'):IxR X (λx y H Q=>r x y H Q\/r' x y H Q):=by
 intro value e pins s σ H x y v u Q I d c q a;rcases q with q | q;·exact h value e pins s σ H x y v u Q I d c q a
 ·exact h' value e pins s σ H x y v u Q I d c q a
theorem qgX {r:R2} (hr:IxR X r) (f:PE X a ta) (hb:PE X b tb) (e:VD b):PE X (.Subscript a b pos) (tOp r ta tb):=by refine ⟨?_⟩;intro pins s σ H Q I h;exact Subscript_ (qgK f hb I h λv u s2 x y H2 k d c q=>hr a b pins s2 σ H2 x y v u Q k d c q (e _ _))
def qhB (K:Frag):R2:=λx y H Q=>∃ p xs i v,x=.ref p/\y=.int i/\SqL K H p xs/\atI xs i=iD v/\Q v H
def qhC (K:Frag):R2:=λx y H Q=>∃ p xs i v,x=.ref p/\y=.int i/\SqT K H p xs/\atI xs i=iD v/\Q v H
def qhD:R2:=λx y H Q=>∃ z i c,x=.str z/\y=.int i/\z.length<=sizeLine/\atI z.cps.toList i=iD c/\Q (.str ⟨#[c]⟩) H
theorem ix_list:IxR X (qhB X.K):=by
 intro value e pins s σ H x y v u Q I g f h c;obtain ⟨p,xs,i,z,rfl,rfl,hq,k,q⟩:=h;cases g;obtain ⟨t,rfl⟩:=f;obtain ⟨its,r,pl,n⟩:=I.list hq;obtain ⟨j,h1,h2,A,m,l⟩:=VC k;obtain ⟨w,d,a⟩:=r.get h2;have hl:=r.length;have o:=gU;have fin:EP X pins σ Q w s:=⟨z,H,I,a,q⟩
 by_cases b:0<=i
 ·have G:i.toNat=j:=by rw [seqIndex_of b l] at h1;exact aU.inj h1
  exact item_listR pl.isList b (by omega) (by rw [G]; simpa using d) fin c
 ·have G:(i+(its.toArray.size:Int)).toNat=j:=by rw [seqIndex_neg (by omega) m] at h1;rw [aw,<-hl];exact aU.inj h1
  exact subscriptTail_builtinR (x:=w) pl.isList.typeIs slot_list_getitem.lookup
   (wpAny_getItem_list_neg (Q:=λr s'=>r=w/\EP X pins σ Q r s') pl.isList (by omega) (by rw [aw] <;> omega) (by omega) (by rw [G]; simpa using d) ⟨rfl,fin⟩) c
theorem ix_tup:IxR X (qhC X.K):=by
 intro value e pins s σ H x y v u Q I d c h b;obtain ⟨p,xs,i,z,rfl,rfl,hq,g,q⟩:=h;cases d;obtain ⟨t,rfl⟩:=c;obtain ⟨its,r,pl,k⟩:=I.tuple hq;obtain ⟨j,h1,h2,o,m,l⟩:=VC g;obtain ⟨w,f,a⟩:=r.get h2;have hl:=r.length;have n:=gU;have fin:EP X pins σ Q w s:=⟨z,H,I,a,q⟩
 exact subscriptTail_builtinR (x:=w) pl.typeIs slot_tuple_getitem.lookup
  (getItem_tuple (j:=j) (Q:=λr s'=>r=w/\EP X pins σ Q r s') pl (by omega) (by omega) (by rw [aw,<-hl]; exact h1) (by simpa using f) ⟨rfl,fin⟩) b
theorem qeU:IxR X qhD:=by
 intro value e pins s σ H x y v u Q I d r h a;obtain ⟨z,i,c,rfl,rfl,k,g,q⟩:=h;obtain ⟨t,rfl⟩:=d;obtain ⟨t',rfl⟩:=r;obtain ⟨j,h1,h2,m,b,l⟩:=VC g;have hl:z.cps.toList.length=z.length:=by simp [h8]
 rw [hl] at h1 b l;have n:=gU;exact lN (typeIs_str s z t) slot_str_getitem.lookup (getItem_str (c:=c) (by have e1:decide (i < -(2 ^ 63:Int))=false:=decide_eq_false (by omega);have f:decide (i ≥ 2 ^ 63)=false:=decide_eq_false (by omega);rw [e1,f,Bool.or_false]) (by rw [h1]; simpa using h2) ⟨.str ⟨#[c]⟩,H,I.tok _,⟨_,rfl⟩,q⟩) a
def rIx (K:Frag):R2:=λx y H Q=>qhB K x y H Q\/qhC K x y H Q\/qhD x y H Q
theorem qeV:IxR X (rIx X.K):=ix_list.or (ix_tup.or qeU)
theorem Yw (its:List iG) (n j:Nat) (u:iG):dF (·.setIfInBounds j u) { cls:=.type "list",data:=.seq its.toArray n }={ cls:=.type "list",data:=.seq (its.set j u).toArray n }:=by simp [dF]
theorem Inv.lst (I:Inv X pins σ H s) (h:H p=iD (.lst xs)):∃ (its:List iG) (n:Nat),Vals xs its/\s.heap.get? p=iD { cls:=.type "list",data:=.seq its.toArray n }/\xs.length<=sizeLine:=by obtain ⟨z,its,n,r,e⟩:=I.hok p _ h;exact ⟨its,n,r,e,z⟩
theorem Inv.lstUpd {ys:List V} {its its':List iG} {n c:Nat} {f:Obj->Obj} (I:Inv X pins σ H s) (h:H p=iD (.lst xs))
  (m:s.heap.get? p=iD { cls:=.type "list",data:=.seq its.toArray n }) (a:f { cls:=.type "list",data:=.seq its.toArray n }={ cls:=.type "list",data:=.seq its'.toArray c }) (r:Vals ys its') (z:ys.length<=sizeLine) (t:Nat) :
  Inv X pins σ (upd H p (.lst ys)) { s with heap:=s.heap.update p f,toks:=t }:=by
 have e:(s.heap.update p f).get? p=iD { cls:=.type "list",data:=.seq its'.toArray c }:=by rw [bt f m (by rw [a] <;> rfl),a]
 refine I.write (x:=p) (e:=p) (by rw [h]; trivial) (.inl rfl) (λb u hb q=>(c9 _ _ (be hb)).trans q) ⟨_,e⟩ ?_;exact ⟨z,its',c,r,e⟩
def qgY:V->V->V->Hp->(Hp->Prop)->Prop:=λo i v H Q=>∃ p xs k j,o=.ref p/\i=.int k/\H p=iD (.lst xs)/\ixN xs.length k=iD j/\Q (upd H p (.lst (xs.set j v)))
theorem qaB:qhy X qgY:=by
 intro pins s σ H o i v l w u Q I f g rv h;obtain ⟨p,xs,k,j,rfl,rfl,hp,G,q⟩:=h;cases f;obtain ⟨t,rfl⟩:=g;obtain ⟨its,n,r,m,z⟩:=I.lst hp;obtain ⟨h1,h2,c,b⟩:=XF G;have hl:=r.length;have x:=gU;have e:Inv X pins σ (upd H p (.lst (xs.set j v))) { s with heap:=s.heap.update p (dF (·.setIfInBounds j u)) }:=
  I.lstUpd hp m (Yw its n j u) (r.set rv j) (by rw [bx]; exact z) s.toks
 by_cases d:0<=k
 ·have a:k.toNat=j:=by rw [seqIndex_of d b] at h1;exact aU.inj h1
  exact PySem.W.ki_setAt m d (by omega) (by rw [aw,<-hl]; exact b) (by rw [a]; exact ⟨_,e,q⟩)
 ·have a:(k+(its.toArray.size:Int)).toNat=j:=by rw [seqIndex_neg (by omega) c] at h1;rw [aw,<-hl];exact aU.inj h1
  exact PySem.W.ki_setBack m (by omega) (by rw [aw,<-hl]; exact c) (by omega) (by rw [a]; exact ⟨_,e,q⟩)
theorem JS (lo hi:Option Int) (n:Nat):(sliceBounds lo hi iF n).1=((HT.sIx n 0 lo:Nat):Int)/\(sliceBounds lo hi iF n).2.1=((HT.sIx n n hi:Nat):Int)/\(sliceBounds lo hi iF n).2.2=1:=by
 refine ⟨?_,?_,rfl⟩
 ·cases lo with
  | none=>simp [sliceBounds,HT.sIx]
  | some i=>
   simp only [sliceBounds,HT.sIx,Option.getD_none,show (1:Int) > 0 by decide,if_true];by_cases h:i < 0;·simp only [h,if_true] <;> omega
   ·simp only [h,if_false] <;> omega
 ·cases hi with
  | none=>simp [sliceBounds,HT.sIx]
  | some i=>
   simp only [sliceBounds,HT.sIx,Option.getD_none,show (1:Int) > 0 by decide,if_true];by_cases h:i < 0;·simp only [h,if_true] <;> omega
   ·simp only [h,if_false] <;> omega
theorem QG (its:List iG) (lo hi:Option Int):slicePick its.toArray lo hi iF=((its.drop (HT.sIx its.length 0 lo)).take (HT.sIx its.length its.length hi - HT.sIx its.length 0 lo)).toArray:=by obtain ⟨h1,h2,i⟩:=JS lo hi its.toArray.size;unfold slicePick;rw [h1,h2,i];simp only [sliceRange_one,pick_run,aw] <;> rfl
def qim (K:Frag):V->Option Int->Option Int->Hp->VK->Prop:=λx lo hi H Q=>∃ a xs,x=.ref a/\SqL K H a xs/\∀ p,H p=iF->Q (.ref p) (upd H p (.lst (qcZ xs lo hi)))
theorem qc1:SlR X (qim X.K):=by intro pins s σ H x v vl u lo hi sl Q I d c pl p h;obtain ⟨a,xs,rfl,hx,q⟩:=h;cases d;obtain ⟨its,r,l,z⟩:=I.list hx;have n:=r.length;refine ⟨"list",_,slot_list_getitem.lookup,l.isList.typeIs,?_⟩;refine wpAny_getItem_list_slice l.isList c pl p .none (by simp) ?_ (by rw [aw] <;> omega);rw [QG,<-n];refine ⟨.ref s.heap.objs.size,_,I.laid (t':=s.toks) (o:=.lst (qcZ xs lo hi)) (λb e q=>aa _ q) (aG _) ?_,rfl,q _ (I.hok.fresh (aG _))⟩;exact ⟨bR (VB xs lo hi) z,_,0,(r.drop (HT.sIx xs.length 0 lo)).take (HT.sIx xs.length xs.length hi - HT.sIx xs.length 0 lo),aq _ rfl⟩
theorem xx:ya X (.type "list") (λxs H Q=>∃ p ys,xs=[.ref p]/\(SqL X.K H p ys\/SqT X.K H p ys)/\∀ l,H l=iF->Q (.ref l) (upd H l (.lst ys))):=by
 intro pins s σ H xs us Q I r h;obtain ⟨p,ys,rfl,hq,q⟩:=h;obtain ⟨u,rfl,x⟩:=QD r;cases x;have fin:∀ (its:List iG),Vals ys its->ys.length<=sizeLine->∀ (h':Heap) (T:Nat),(∀ b o',s.heap.get? b=iD o'->h'.get? b=iD o') ->h'.get? s.heap.objs.size=iD { cls:=.type "list",dict:=iF,data:=.seq its.toArray T,slots:=#[] }->EP X pins σ Q (.ref s.heap.objs.size) { s with heap:=h' }:=λits r' z h' T kp e=>
  ⟨.ref s.heap.objs.size,_,I.laid (t':=s.toks) kp (aG _) (show ObjOk X.prog X.w _ h' _ (.lst ys) from ⟨z,its,T,r',e⟩),rfl,q _ (I.hok.fresh (aG _))⟩
 rcases hq with hq | hq;·obtain ⟨its,r',pl,z⟩:=I.list hq;have a:=r'.length;obtain ⟨o,m,d,n,hd⟩:=pl.isList;exact call_list_seq p (.inl rfl) m d hd (λh' T kp e=>fin its r' z h' T kp e) (by simp only [aw] <;> omega)
 ·obtain ⟨its,r',pl,z⟩:=I.tuple hq;have a:=r'.length;obtain ⟨o,m,d,n,hd⟩:=pl;exact call_list_seq p (.inr rfl) m d hd (λh' T kp e=>fin its r' z h' T kp e) (by simp only [aw] <;> omega)
theorem yn:ya X (.type "tuple") (λxs H Q=>∃ p ys,xs=[.ref p]/\((SqL X.K H p ys/\∀ l,H l=iF->Q (.ref l) (upd H l (.tup ys)))\/(SqT X.K H p ys/\Q (.ref p) H))):=by
 intro pins s σ H xs us Q I r h;obtain ⟨p,ys,rfl,h⟩:=h;obtain ⟨u,rfl,x⟩:=QD r;cases x;rcases h with ⟨hq,q⟩ | ⟨hq,q⟩
 ·obtain ⟨its,r',pl,z⟩:=I.list hq;have n:=r'.length;refine call_tuple_list pl.isList (λh' kp=>?_) (by simp only [aw] <;> omega);have d:Inv X pins σ H { s with heap:=h' }:=I.kept (t':=s.toks) kp;have k:Inv X pins σ (upd H h'.objs.size (.tup ys)) { s with heap:=h'.push { cls:=.type "tuple",data:=.seq its.toArray } }:=
   d.laid (t':=s.toks) (λb o e=>aa _ e) (aG _) (show ObjOk X.prog X.w _ _ _ (.tup ys) from ⟨⟨z,_,aq _ rfl,rfl⟩,its,r',ir _ _⟩)
  exact ⟨.ref h'.objs.size,_,k,rfl,q _ (d.hok.fresh (aG _))⟩
 ·obtain ⟨its,r',pl,z⟩:=I.tuple hq;exact call_tuple_same pl ⟨.ref p,H,I,rfl,q⟩
def tyV (K:Frag) (T:String) (x:V) (H:Hp):Prop:=match x with
 | .str _=>T = "str"
 | .int _=>T = "int"
 | .ref p=>(T = "list"/\∃ xs,SqL K H p xs)\/(T = "tuple"/\∃ o,K.lookup p=iD o/\o.cls=.type "tuple"/\o.dict=iF) \/
   (T = "dict"/\((∃ kvs,H p=iD (.dK kvs))\/∃ kvs,H p=iD (.dT kvs)))\/(T = "set"/\∃ S n,H p=iD (.set S n))
 | _=>False
theorem qb9 {x:V} {v:iG} (I:Inv X pins σ H s) (r:RelV x v) (ty:tyV X.K T x H):s.TypeIs v T/\∀ a,v=.ref a->∃ d,s.heap.get? a=iD d/\d.dict=none:=by
 cases x with
 | str z=>obtain ⟨t,rfl⟩:=r;cases (show T = "str" from ty);exact ⟨typeIs_str s z t,λ_ e=>nomatch e⟩
 | int i=>obtain ⟨t,rfl⟩:=r;cases (show T = "int" from ty);exact ⟨typeIs_int s i t,λ_ e=>nomatch e⟩
 | ref p=>
  cases r;rcases ty with ⟨rfl,xs,hq⟩ | ⟨rfl,o,k,h,hd⟩ | ⟨rfl,k⟩ | ⟨rfl,S,n,k⟩
  ·obtain ⟨its,_,pl,_⟩:=I.list hq;refine ⟨pl.isList.typeIs,λa e=>?_⟩;cases e;obtain ⟨o,n,e,c,hd,_⟩:=pl;exact ⟨o,e,hd⟩
  ·refine ⟨⟨o,I.kIn p o k,h⟩,λa e=>?_⟩;cases e;exact ⟨o,I.kIn _ o k,hd⟩
  ·have z:∃ o,s.heap.get? p=iD o/\o.ExactDict:=by
    rcases k with ⟨kvs,k⟩ | ⟨kvs,k⟩
    ·obtain ⟨_,_,_,_,o,_,_,e,ex,_⟩:=I.hok p _ k;exact ⟨o,e,ex⟩
    ·obtain ⟨_,_,_,_,o,_,_,e,ex,_⟩:=I.hok p _ k;exact ⟨o,e,ex⟩
   obtain ⟨o,e,ex⟩:=z;refine ⟨⟨o,e,ex.1⟩,λa b=>?_⟩;cases b;exact ⟨o,e,ex.2.1⟩
  ·obtain ⟨o,_,_,_,e,ex,_⟩:=I.hok p _ k;refine ⟨⟨o,e,ex.1⟩,λa b=>?_⟩;cases b;exact ⟨o,e,ex.2.1⟩
 | _=>exact bU ty
def qin (K:Frag) (T:String) (r:V->List V->Hp->VK->Prop) (to:TE):TE:=λσ H Q=>to σ H λx H1=>tyV K T x H1/\r x [] H1 Q
def tBM (K:Frag) (T:String) (r:V->List V->Hp->VK->Prop) (to:TE) (t:TA):TE:=λσ H Q=>to σ H λx H1=>tyV K T x H1/\t σ H1 λxs H2=>r x xs H2 Q
variable {o:Expr} {es:List Expr} {to:TE} {t:TA} {name:Str} {apos cpos:Pos} {id:String} {r:V->List V->Hp->VK->Prop}
theorem qeW (p:PlainAttrs T) (slot:Slot T name id) (y:typeOf (.builtin id)=pure (.type "method_descriptor")) (c:MtR X id r) (m:PE X o to)
  (a:attributeBase o name X.env (eval o X.env)=eval o X.env:=by rfl) (e:(apos.endLine == cpos.line)=true:=by rfl):PE X (.Call (.Attribute o name apos) [] [] cpos) (qin X.K T r to):=by
 refine ⟨?_⟩;intro pins s σ H Q I h;refine wpAny_Call_method0_late a e (thn (m pins s σ H _ I h) λv s1 ⟨x,H1,d,r1,ty,q⟩=>?_);obtain ⟨h1,h2⟩:=qb9 d r1 ty;exact ⟨T,id,p,slot,y,h1,h2,eH rfl (PySem.evalArgs_none (c pins s1 σ H1 x [] v [] Q d r1 .nil q))⟩
theorem VE (p:PlainAttrs T) (slot:Slot T name id) (y:typeOf (.builtin id)=pure (.type "method_descriptor")) (g:MtR X id r) (m:PE X o to) (i:PA X (e::es) t)
  (b:attributeBase o name X.env (eval o X.env)=eval o X.env:=by rfl)
  (w:((backTo cpos (starEach (e::es) X.env)).all (λx=>!x.1)&&(backToKw cpos (keywordEach [] X.env)).all (λx=>x.1.isSome)
   && decide ((e::es).length+([]:List i5).length+(if ([]:List i5).isEmpty then 0 else 1) < 30))=true:=by rfl)
  (a:(apos.endLine == cpos.line)=true:=by rfl) (f:starEach (e::es) X.env=(iH,eval e X.env)::starEach es X.env:=by rfl) (n:(backTo cpos (starEach es X.env)).any (·.1)=false:=by rfl) :
  PE X (.Call (.Attribute o name apos) (e::es) [] cpos) (tBM X.K T r to t):=by
 refine ⟨?_⟩;intro pins s σ H Q I h;refine wpAny_Call_method_late b w a rfl (thn (m pins s σ H _ I h) λv s1 ⟨x,H1,d,r1,ty,c⟩=>?_);obtain ⟨h1,h2⟩:=qb9 d r1 ty;refine ⟨T,id,p,slot,y,h1,h2,?_⟩;have hA:=i cpos pins s1 σ H1 _ d c;rw [f] at hA ⊢;refine eH (by show (iH||(backTo cpos (starEach es X.env)).any (·.1))=iH; rw [n] <;> rfl) (fk ?_);exact thn hA λus s2 ⟨vs,H2,k,r2,q⟩=>g pins s2 σ H2 x vs v us Q k r1 r2 q
end
def MtM (X:Cx) (id:String) (r:V->List V->Hp->VK->Prop):Prop:=
 ∀ (pins:List (Addr×Obj)) (s:iJ) (σ:St) (H:Hp) (x:V) (xs:List V) (v:iG) (us:List iG) (Q:VK),Inv X pins σ H s->RelV x v->Vals xs us->r x xs H Q ->wpAny (model X.prog X.w) X.A (call (.builtin id) (v::us)) (EP X pins σ Q) X.xe s
theorem Vals.one:∀ {x:V} {us:List iG},Vals [x] us->∃ u,us=[u]/\RelV x u
 | _,_,.cons r .nil=>⟨_,rfl,r⟩
theorem Vals.two:∀ {x y:V} {us:List iG},Vals [x,y] us->∃ u v,us=[u,v]/\RelV x u/\RelV y v
 | _,_,_,.cons r (.cons q .nil)=>⟨_,_,rfl,r,q⟩
theorem Vals.zero:∀ {us:List iG},Vals [] us->us=[]
 | _,.nil=>rfl
theorem Vals.dropLast (h:Vals xs us):Vals xs.dropLast us.dropLast:=by
 induction h with
 | nil=>exact .nil
 | cons r t j=>
  cases t with
  | nil=>exact .nil
  | cons q t'=>exact .cons r j
theorem Vals.eraseIdx:∀ {xs:List V} {us:List iG} (i:Nat),Vals xs us->Vals (xs.eraseIdx i) (us.eraseIdx i)
 | _,_,_,.nil=>.nil
 | _,_,0,.cons _ t=>t
 | _,_,i+1,.cons r t=>.cons r (Vals.eraseIdx i t)
theorem Vals.reverse (h:Vals xs us):Vals xs.reverse us.reverse:=by
 induction h with
 | nil=>exact .nil
 | cons r t j=>rw [eI,eI]; exact Vals.append j (.cons r .nil)
theorem Vals.rep (h:Vals xs us):∀ k:Nat,Vals (ao k xs).flatten (ao k us).flatten
 | 0=>.nil
 | k+1=>by rw [bL,bL,ci,ci];exact Vals.append h (Vals.rep h k)
theorem Yx (l:List α):l.eraseIdx (l.length - 1)=l.dropLast:=by
 induction l with
 | nil=>rfl
 | cons a r j=>
  cases r with
  | nil=>rfl
  | cons b r=>
   have e:(a::b::r).length - 1=((b::r).length - 1)+1:=by have h1:(a::b::r).length=r.length+2:=rfl;have h2:(b::r).length=r.length+1:=rfl;omega
   rw [e,List.eraseIdx_cons_succ,j];all_goals rfl
section
variable {l b:Addr} {ys zs:List V}
theorem Inv.lset {its its':List iG} {n:Nat} {f:Array iG->Array iG} {t':Nat} (I:Inv X pins σ H s) (a:H l=iD (.lst xs))
  (e:s.heap.get? l=iD { cls:=.type "list",data:=.seq its.toArray n }) (h:f its.toArray=its'.toArray) (c:Vals ys its') (z:ys.length<=sizeLine) :
  Inv X pins σ (upd H l (.lst ys)) { s with heap:=s.heap.update l (dF f),toks:=t' }:=by
 have q:=PySem.IsL.update e f;rw [h] at q;refine I.write (x:=l) (e:=l) (by rw [a]; exact trivial) (.inl rfl) (λb u hb d=>(c9 s.heap (dF f) (be hb)).trans d) ⟨_,q⟩ ?_;exact ⟨z,its',_,c,q⟩
theorem Inv.lnew {its:List iG} {t':Nat} (I:Inv X pins σ H s) (c:Vals ys its) (z:ys.length<=sizeLine):Inv X pins σ (upd H s.heap.objs.size (.lst ys)) { s with heap:=s.heap.push { cls:=.type "list",data:=.seq its.toArray },toks:=t' }:=
 I.laid (λ_ _ q=>aa _ q) (aG _) ⟨z,its,0,c,aq _ rfl⟩
theorem Inv.fresh (I:Inv X pins σ H s):H s.heap.objs.size=none:=I.hok.fresh (aG _)
theorem Inv.lstM (I:Inv X pins σ H s) (a:H l=iD (.lst xs)):xs.length<=sizeLine/\∃ (its:List iG) (n:Nat),Vals xs its/\xs.length=its.length/\s.heap.get? l=iD { cls:=.type "list",data:=.seq its.toArray n }:=by obtain ⟨z,its,n,r,e⟩:=I.hok l _ a;exact ⟨z,its,n,r,r.length,e⟩
theorem qaC (h:n<=sizeLine):cR n=false:=by unfold cR;exact decide_eq_false (by omega)
end
section
def VF:V->List V->Hp->VK->Prop:=λx vs H Q=>∃ l xs y,x=.ref l/\vs=[y]/\H l=iD (.lst xs)/\xs.length < sizeLine/\Q .non (upd H l (.lst (xs++[y])))
theorem zv:MtM X "list.append" VF:=by intro pins s σ H x vs v us Q I d rv h;obtain ⟨l,xs,y,rfl,rfl,a,c,q⟩:=h;cases d;obtain ⟨u,rfl,b⟩:=rv.one;obtain ⟨z,its,n,r,hl,e⟩:=I.lstM a;refine j9 F.slot_list_append ⟨_,e,rfl⟩ F.entry_list_append (F.args_list_append_2 _ _) (PySem.list_append l its.toArray n u (by rw [aw]; omega)) ⟨e,?_⟩;refine ⟨.non,_,I.lset (its':=its++[u]) a e (by simp) (r.append (.cons b .nil)) ?_,rfl,q⟩;rw [ap,eY];omega
def qc2:V->List V->Hp->VK->Prop:=λx vs H Q=>∃ l b xs zs,x=.ref l/\vs=[.ref b]/\H l=iD (.lst xs)/\H b=iD (.lst zs)/\xs.length+zs.length<=sizeLine/\Q .non (upd H l (.lst (xs++zs)))
theorem XG:MtM X "list.extend" qc2:=by
 intro pins s σ H x vs v us Q I d rv h;obtain ⟨l,b,xs,zs,rfl,rfl,c,B,m,q⟩:=h;cases d;obtain ⟨u,rfl,f⟩:=rv.one;cases f;obtain ⟨z,its,n,r,hl,e⟩:=I.lstM c;obtain ⟨z2,i,n2,r2,j,k⟩:=I.lstM B;have a:its.toArray.size+i.toArray.size<=sizeLine:=by rw [aw,aw]; omega
 have g:¬(!its.toArray.isEmpty&&cR (its.toArray.size+i.toArray.size))=true:=by rw [qaC a,Bool.and_false];exact cu
 refine j9 F.slot_list_extend ⟨_,e,rfl⟩ F.entry_list_extend (F.args_list_extend_2 _ _)
  (AutoSeq1.list_extend_list_list_0 l its.toArray n b i.toArray n2 g (by rw [aw]; omega) (by omega)) ⟨e,k,?_⟩
 refine ⟨.non,_,I.lset (its':=its++i) c e (by simp) (r.append r2) ?_,rfl,q⟩;rw [ap];omega
def qio:V->List V->Hp->VK->Prop:=λx vs H Q=>∃ l xs y,x=.ref l/\vs=[]/\H l=iD (.lst xs)/\xs[xs.length - 1]?=iD y/\Q y (upd H l (.lst xs.dropLast))
theorem qeX:MtM X "list.pop" qio:=by
 intro pins s σ H x vs v us Q I d rv h;obtain ⟨l,xs,y,rfl,rfl,c,k,q⟩:=h;cases d;have b:=rv.zero;subst b;obtain ⟨z,its,n,r,hl,e⟩:=I.lstM c;obtain ⟨u,g,f⟩:=r.get k;have a:its.toArray[its.toArray.size - 1]?=iD u:=by show its.toArray[its.length - 1]?=iD u;rw [<-cI,<-hl];exact g
 refine j9 F.slot_list_pop ⟨_,e,rfl⟩ F.entry_list_pop (F.args_list_pop_1 _) (MeetsSeq.list_pop_last l its.toArray n u a (by rw [aw]; omega)) ⟨e,?_⟩;refine ⟨y,_,I.lset (its':=its.dropLast) c e ?_ r.dropLast ?_,f,q⟩;·show its.toArray.eraseIdxIfInBounds (its.toArray.size - 1)=its.dropLast.toArray;rw [aw,List.eraseIdxIfInBounds_toArray,Yx]
 ·rw [List.length_dropLast];omega
end
end L2
namespace Att
open PySem PySem.W PySem.Calls PyProof.Rows
theorem zw {P:lz} {h:Heap}:∀ (ns:List Int) (vs:List iG),WellAll P h vs (ns.map WData.int)->IntsAre vs ns:=by
 intro ns
 induction ns with
 | nil=>intro vs w;rw [aP] at w;cases w;exact .nil
 | cons n ns j=>
  intro vs w;rw [ax] at w;cases w with
  | cons a b=>cases a;exact .cons _ _ (j _ b)
theorem XH {l:OpenLaw} {n:Nat} (s:l.most=iD n) {P:lz} {h:Heap} {args:List WData} {v:List iG}
  (e:l.row.toRowW.claim.pre args=iI) (i:WellAll P h v args) :
  ∃ a vs ns,v=[br a]/\args=[WData.list (ns.map WData.int)]/\h.get? a=iD { cls:=.type "list",data:=.seq vs.toArray }/\IntsAre vs ns/\ns.length<=n:=by
 have j:WShape.hasAll [] args [.list .int]=true:=(pre_splitW e).1;have k:l.pre.holds [] { args:=args }=true:=(pre_splitW e).2;obtain ⟨d,r,rfl,h1,h2⟩:=hasAllW_cons j;obtain rfl:=hasAllW_nil h2;obtain ⟨xs,rfl,t⟩:=hasW_list h1;obtain ⟨ns,rfl⟩:=items_int t;have b:ns.length<=n:=by
  unfold OpenLaw.pre at k;have g:(WTm.not (.lt (.lit (.int (n:Int))) (.len (.arg 0)))).holds [] { args:=[.list (ns.map .int)] }=true:=by have g:=(holds_andW k).1;rw [s] at g;exact g
  have f:=condW_of g (w_not (w_lt w_lit (w_len_list (w_arg rfl))));rw [aH] at f;refine Nat.le_of_not_lt λq=>?_;have o:(n:Int) < ((ns.length:Nat):Int):=by omega
  first
   | (rw [decide_eq_true o] at f; exact absurd f (by decide))
   | (simp at f; omega)
 cases i with
 | cons m w=>
  cases w;cases m with
  | list p c=>exact ⟨_,_,ns,rfl,rfl,p,zw ns _ c,b⟩
theorem XI (l:OpenLaw) (args:List WData):l.row.toRowW.claim.post args (.bool iI) args=true:=
 postW_of (r:=l.row.toRowW) (X:=(iI == iI))
  (show WShape.has [] (.bool iI) .bool=iI by first | rfl | decide | simp [WShape.has,WShape.arms,WShape.armsAll])
  (show (WTm.eq .res (.lit (.bool iI))).value [] { args:=args,res:=iD (.bool iI),after:=args }=iD (.bool (iI == iI)) from w_eq_bool (w_res rfl) w_lit) rfl
theorem attach_call {l:OpenLaw} {n:Nat} {q:iL} {loose:List Str} {XP:(Str->Option iG)->Heap->Prop} {YP:iM->Heap->Prop} {d:DefRec}
  (p:l.most=iD n) (hdf:d.params.defaults=[])
  (call:∀ (w:iM) (s₀ s:iJ) (mg mb:Str->Option iG) (fa:Addr) (o:Obj) (pm cd doc:iG) (a:Addr) (vs:List iG) (ns:List Int),Ground q loose [] XP w s₀ mg mb s.heap->YP w s.heap ->s.heap.get? fa=iD o->o.data=.func (docDef d.name d.params d.body d.scope pm cd doc)->s.heap.CodeRec cd d.name->mg d.name=iD (.ref fa) ->s.heap.get? a=iD { cls:=.type "list",data:=.seq vs.toArray }->IntsAre vs ns->ns.length<=n->s.gens=#[] ->codeAny (model l.prog w) callerA (.call (.ref fa) ⟨[.ref a],[]⟩) (λr s'=>r=.ok (.ret (.bool iI))/\OldK s.heap s'.heap/\s'.os=s.os/\ly s'.gens) s) :
  WalkO q loose XP YP l.row.toRowW d [] (λf vs=>iC f vs):=by
 intro w s₀ s mg mb G Y fa o pm cd doc V kV m hd c D g hg args v as e y k i u;obtain rfl:V=.none:=Dflts.none D hdf;obtain rfl:kV=.none:=Dflts.noKw D;obtain ⟨a,vs,ns,rfl,rfl,j,h,b⟩:=XH p e i;refine enter_call (lj (call w s₀ s mg mb fa o pm cd doc a vs ns G Y m (fd_plain hd) c g j h b hg) λr s' hq=>?_);obtain ⟨rfl,h2,z,x⟩:=hq;exact ⟨.inl ⟨.bool iI,.bool iI,[],rfl,λ_=>rfl,.bool iI,XI l _,λ_=>⟨dw,λ_ t=>(nomatch t)⟩⟩,h2,z,x⟩
end Att
namespace L2
open PySem PySem.Spec PyProof.Rows
theorem JT:∀ {vs:List iG} {ns:List Int},IntsAre vs ns->Vals (ns.map V.int) vs
 | _,_,.nil=>.nil
 | _,_,.cons n t h=>.cons ⟨t,rfl⟩ (JT h)
def qgZ (H:Hp):Prop:=∀ b,H b=iF\/∃ o xs,H b=iD (.frz o (.lst xs))
theorem qaD {P:iL} {w:iM} {K:Frag} {mg mb:Str->Option iG} {CX:CXT} {k:Nat} {fa a:Addr} {fd:i6} {x:Str} {sp:Sp} {c:iJ} {vs:List iG} {ns:List Int}
  (L:K.In c.heap) (y:c.heap.Ns mainGlobals mg) (hb:c.heap.Ns builtinsNs mb) (I:∀ x:Str,x ≠ "__name__"->mb x=bootBuiltins x) (A:c.heap.NoLimit) (hg:c.gens=#[])
  (C:c.heap.get? a=iD { cls:=.type "list",data:=.seq vs.toArray }) (hi:IntsAre vs ns) (hl:ns.length<=sizeLine) (hr:Room k callerA)
  (F:∀ base:Heap,K.In base->base.Ns mainGlobals mg->FnOk P w K mg base CX k fa fd [x] sp) (j:∀ (s:iJ) (u:iG),lJ s fd ⟨[u],[]⟩ [(x,u)])
  (E:∀ H:Hp,qgZ H->SqL K H a (ns.map V.int)->sp [.ref a] H (λv _=>v=.bl iI) λ_ _ _=>False)
  (X:∀ H e s',CX [] H c (λ_ _ _=>False) e s'->False) :
  codeAny (model P w) callerA (.call (.ref fa) ⟨[.ref a],[]⟩) (λr s'=>r=.ok (.ret (.bool iI))/\OldK c.heap s'.heap/\s'.os=c.os/\ly s'.gens) c:=by
 have rv:=JT hi;have p:=hi.length;have i:∀ H:Hp,qgZ H->SqL K H a (ns.map V.int)->HOk P w H c.heap->(∀ b,H b≠iF->b=a)->(H a≠iF->K.lookup a=iF) ->codeAny (model P w) callerA (.call (.ref fa) ⟨[.ref a],[]⟩) (λr s'=>r=.ok (.ret (.bool iI))/\OldK c.heap s'.heap/\s'.os=c.os/\ly s'.gens) c:=by
  intro H O S hok hA Q;have f:∀ {b:Addr} {o:Obj},c.heap.get? b=iD o->H b=iF->(qam c.heap H).get? b=iD o:=λe n=>qan e n;have D:∀ {b:Addr} {o:Obj} {es:Array lI} {ep:Nat},c.heap.get? b=iD o->o.data=.dict es ep->H b=none:=λ{b o es ep} e d=>by
   cases q:H b with
   | none=>rfl
   | some u=>have J:b=a:=hA b (by rw [q]; simp);subst J;rw [C] at e; cases e;have d':Data.seq vs.toArray _=Data.dict es ep:=d;cases d'
  have g:∀ {b:Addr} {m:Str->Option iG},c.heap.Ns b m->(qam c.heap H).Ns b m:=λ{b m} ⟨o,es,ep,e,d,r⟩=>⟨o,es,ep,f e (D e d),d,r⟩
  have B:K.In (qam c.heap H):=λb o e=>f (L b o e) (by
   cases q:H b with
   | none=>rfl
   | some u=>have J:b=a:=hA b (by rw [q]; simp);subst J;rw [Q (by rw [q]; simp)] at e; cases e)
  have N:Mod K mg (qam c.heap H):=⟨B,g y,⟨mb,g hb,I⟩,let ⟨mc,h1,h2⟩:=A; ⟨mc,g h1,h2⟩⟩
  have T:Env0 P w K mg (qam c.heap H) callerA [] c H:=⟨rfl,N,λb o e=>qcJ e,fB (Xk _ _),trivial,λb hb=>absurd (show b∈([]:List Addr) from hb) (by simp),hok,.of_eq hg⟩
  refine lj ((F _ B (g y)).run callerA [] c H ⟨[.ref a],[]⟩ [.ref a] [.ref a] _ _ hr T (j c (.ref a)) (.cons rfl .nil) (E H O S)) λr s' h=>?_;cases r with
  | error e=>exact (X H e s' h).elim
  | ok fl=>
   cases fl with
   | next=>exact bU h
   | brk=>exact bU h
   | cont=>exact bU h
   | ret u=>
    obtain ⟨v,H',os,bare,un,t,r',q⟩:=h;have M:v=.bl true:=q;subst M;obtain rfl:u=bg true:=r';refine ⟨rfl,OldK.of_keep λb o e=>?_,os,bare⟩;cases q:H b with
    | none=>exact un.keep b o e q (by intro z; exact absurd (show b∈([]:List Addr) from z) (by simp)) (by simp)
    | some u=>
     rcases O b with z | ⟨ob,xs,z⟩
     ·rw [q] at z; cases z
     ·have z2:=un.frzs b ob _ z;obtain ⟨e1,_⟩:=hok b _ z;obtain ⟨R,_⟩:=t b _ z2;rw [e] at e1; cases e1;exact R
 cases G:K.lookup a with
 | some o=>have e:=L a o G;rw [C] at e;cases e;refine i (λ_=>iF) (λ_=>.inl rfl) (.inr ⟨_,vs.toArray,_,G,rfl,rfl,rfl,by rw [aw,p]; exact hl,by simpa using rv⟩) (λb u z=>by have l:(iF:Option HO)=iD u:=z; cases l) (λb z=>absurd rfl z) λz=>absurd rfl z
 | none=>
  refine i (λb=>if b=a then iD (.frz { cls:=.type "list",data:=.seq vs.toArray } (.lst (ns.map V.int))) else iF) (λb=>?_) (.inl (.inr ⟨{ cls:=.type "list",data:=.seq vs.toArray },if_pos rfl⟩)) (λb u z=>?_) (λb z=>?_) λ_=>G
  ·by_cases hb:b=a;·exact .inr ⟨_,_,if_pos hb⟩
   ·exact .inl (if_neg hb)
  ·by_cases hb:b=a;·have l:=(if_pos hb).symm.trans z;cases l;subst hb;exact ⟨C,by rw [aH]; exact hl,vs,_,rv,C⟩
   ·have l:=(if_neg hb).symm.trans z;cases l
  ·by_cases hb:b=a;·exact hb
   ·exact absurd (if_neg hb) z
theorem qc3 {l:fW} {n k:Nat} {q:iL} {loose:List Str} {XP:(Str->Option iG)->Heap->Prop} {YP:iM->Heap->Prop} {d:DefRec} {K:lz->Frag} {CX:iM->CXT} {sp:iM->Sp} {x:Str}
  (z:l.most=iD n) (r:n<=sizeLine) (hdf:d.params.defaults=[]) (hr:Room k callerA)
  (B:∀ (w:iM) (h:Heap),YP w h->(K w.params).In h)
  (F:∀ (w:iM) (mg:Str->Option iG) (fa:Addr) (h:Heap),(K w.params).In h->h.Ns mainGlobals mg->mg d.name=iD (.ref fa) ->∃ fd:i6,(∀ (s:iJ) (u:iG),lJ s fd ⟨[u],[]⟩ [(x,u)]) /\
    ∀ base:Heap,(K w.params).In base->base.Ns mainGlobals mg->FnOk l.prog w (K w.params) mg base (CX w) k fa fd [x] (sp w))
  (p:∀ (w:iM) (H:Hp) (a:Addr) (ns:List Int),ns.length<=n->qgZ H->SqL (K w.params) H a (ns.map V.int)->sp w [.ref a] H (λv _=>v=.bl iI) λ_ _ _=>False)
  (X:∀ (w:iM) (H:Hp) (s:iJ) (e:iG) (s':iJ),CX w [] H s (λ_ _ _=>False) e s'->False) :
  PySem.W.WalkO q loose XP YP l.row.toRowW d [] (λf vs=>iC f vs):=by
 refine Att.attach_call z hdf λw s₀ j mg mb fa o pm cd doc a vs ns G Y D hd A t m i c hg=>?_;have y:=B w _ Y;obtain ⟨fd,hb,C⟩:=F w mg fa _ y G.T.g t;exact qaD y G.T.g G.T.b G.T.builtins G.T.nolimit hg m i (bR c r) hr C hb (λH O S=>p w H a ns c O S) λH e s'=>X w H j e s'
noncomputable def yT (s:Stmt) (j:Nat):Stmt:=match s with
 | .ClassDef _ _ _ body _ _ _ _ _ _ _=>body.getD j (.Pass ⟨0,0,0,0⟩)
 | _=>.Pass ⟨0,0,0,0⟩
noncomputable def wF (s:Stmt):Arguments:=match s with
 | .FunctionDef _ a _ _ _ _ _ _ _ _=>a
 | _=>{ posonlyargs:=[],args:=[],vararg:=iF,kwonlyargs:=[],kw_defaults:=[],kwarg:=iF,defaults:=[] }
noncomputable def jm (s:Stmt):List Stmt:=match s with
 | .FunctionDef _ _ b _ _ _ _ _ _ _=>b
 | _=>[]
noncomputable def qd (s:Stmt):lm:=match s with
 | .FunctionDef _ _ _ _ _ _ sc _ _ _=>sc
 | _=>{ kind:=.function,names:=[],isGenerator:=iH,isCoroutine:=iH }
structure Fun (K:Frag) (x qual:Str) (st:Stmt) (f:Addr) (fd:i6):Prop where
 ex:∃ (oc:iG) (od:Option Addr) (kV doc pm:iG) (an:Option Addr) (cdv ct:iG) (osl:Array (Option iG)),fd=bX x qual (wF st) (jm st) (qd st) .none kV doc pm an cdv ct/\K.lookup f=iD ⟨oc,od,.func fd,osl⟩/\codeIn K cdv qual=iI
 kp:keepIn K (.ref f)=iI
variable {P:iL} {w:iM} {K:Frag} {x qual:Str} {st:Stmt} {f:Addr}
section
variable {mg:Str->Option iG} {base:Heap}
theorem Fun.binds {fd:i6} {ps:List Str} (F:Fun K x qual st f fd)
  (h:∀ (kV doc pm:iG) (an:Option Addr) (cdv ct:iG) (us:List iG),us.length=ps.length->bindArgs (bX x qual (wF st) (jm st) (qd st) .none kV doc pm an cdv ct) ⟨us,[]⟩=pure (ps.zip us)):Binds K fd ps []:=by
 obtain ⟨oc,od,kV,doc,pm,an,cdv,ct,osl,rfl,lk,d⟩:=F.ex;exact .all (h kV doc pm an cdv ct)
theorem vE {oc:iG} {od an:Option Addr} {osl:Array (Option iG)} {kV doc pm cdv ct:iG} (l:K.lookup f=iD ⟨oc,od,.func (bX x qual (wF st) (jm st) (qd st) .none kV doc pm an cdv ct),osl⟩)
  (c:codeIn K cdv qual=iI) (k:keepIn K (.ref f)=iI):Fun K x qual st f (bX x qual (wF st) (jm st) (qd st) .none kV doc pm an cdv ct):=⟨⟨oc,od,kV,doc,pm,an,cdv,ct,osl,rfl,l,c⟩,k⟩
end
variable {X:Cx}
section
theorem pv (i:Nat) {pos:Pos} (h:X.N[i]?=iD x:=by rfl) (c:Vis X.env.scope x:=by first | exact aI rfl | exact cF (aI rfl) | exact cF (cF rfl)) (hd:(x == ("__debug__":Str))=false:=by decide)
  (d:(x == ("__classdict__":Str))=false:=by decide):PE X (.Name x pos) (qgl i):=uQ h c hd d
end
def Same (H H':Hp):Prop:=∀ b o,H b=iD o->H' b=iD o
theorem Same.refl (H:Hp):Same H H:=λ_ _ h=>h
variable {H:Hp}
theorem Same.trans {H1 H2:Hp} (a:Same H H1) (b:Same H1 H2):Same H H2:=λc o h=>b c o (a c o h)
variable {H':Hp}
theorem Same.free (e:Same H H') {l:Addr} (h:H' l=Option.none):H l=Option.none:=by
 cases q:H l with
 | none=>rfl
 | some o=>rw [e l o q] at h;cases h
variable {a:Addr}
theorem Same.seq {xs:List V} (e:Same H H') (h:SqL K H a xs):SqL K H' a xs:=by
 rcases h with (h | ⟨o,h⟩) | h;·exact .inl (.inl (e _ _ h))
 ·exact .inl (.inr ⟨o,e _ _ h⟩)
 ·exact .inr h
variable {o:Option V} {u:iG} {y:V}
section
variable {κ:Type} [DecidableEq κ]
noncomputable def WY (kvs:List (κ×V)) (k:κ):Option V:=(kvs.find? λkv=>decide (kv.1=k)).map (·.2)
noncomputable def Vu (kvs:List (κ×V)) (k:κ) (v:V):List (κ×V):=
 if (kvs.any λkv=>decide (kv.1=k))=iI then kvs.map (λkv=>if kv.1=k then (kv.1,v) else kv) else kvs++[(k,v)]
theorem xX {p:κ×V} {r:List (κ×V)} {k:κ} (e:p.1=k):WY (p::r) k=iD p.2:=by simp [WY,dg,e]
theorem xY {p:κ×V} {r:List (κ×V)} {k:κ} (e:¬p.1=k):WY (p::r) k=WY r k:=by simp [WY,dg,e]
theorem WZ (k:κ):∀ kvs:List (κ×V),(kvs.any λkv=>decide (kv.1=k))=(WY kvs k).isSome
 | []=>rfl
 | p::r=>by
  rw [di];by_cases e:p.1=k;·simp only [xX e,decide_eq_true e,Bool.true_or,Option.isSome_some]
  ·rw [xY e,decide_eq_false e,Bool.false_or]; exact WZ k r
theorem VG (kvs:List (κ×V)) (k:κ) (v:V):(Vu kvs k v).length<=kvs.length+1:=by
 unfold Vu;split;·rw [aH]; omega
 ·rw [ap,ac,am]; omega
theorem RelO.isSome_eq {u:Option iG} (r:RelO o u):o.isSome=u.isSome:=by
 cases o with
 | none=>cases u with
  | none=>rfl
  | some _=>exact (show False from r).elim
 | some _=>cases u with
  | none=>exact (show False from r).elim
  | some _=>rfl
theorem KV.val {kvs:List (κ×V)} {vs:List (κ×iG)} (r:KV kvs vs) (k:κ):RelO (WY kvs k) (valueAt vs k):=by
 unfold KV at r
 induction r with
 | nil=>exact d7
 | @cons p q ps qs h t ih=>
  obtain ⟨h1,h2⟩:=h;by_cases e:p.1=k
  ·have a:q.1=k:=h1.symm.trans e;have b:valueAt (q::qs) k=iD q.2:=by simp [valueAt,dg,a]
   rw [xX e,b]; exact h2
  ·have a:¬q.1=k:=λz=>e (h1.trans z);have b:valueAt (q::qs) k=valueAt qs k:=by simp [valueAt,dg,a]
   rw [xY e,b]; exact ih
theorem KV.any {kvs:List (κ×V)} {vs:List (κ×iG)} (r:KV kvs vs) (k:κ):(kvs.any λkv=>decide (kv.1=k))=vs.any λkv=>decide (kv.1=k):=by
 unfold KV at r
 induction r with
 | nil=>rfl
 | cons h t j=>rw [di,di,j,h.1]
theorem KV.repl {kvs:List (κ×V)} {vs:List (κ×iG)} (r:KV kvs vs) (k:κ) (c:RelV y u):KV (kvs.map λkv=>if kv.1=k then (kv.1,y) else kv) (vs.map λkv=>if kv.1=k then (kv.1,u) else kv):=by
 unfold KV at r ⊢
 induction r with
 | nil=>exact .nil
 | @cons p q ps qs h t ih=>
  rw [ax,ax];refine .cons ?_ ih;obtain ⟨h1,h2⟩:=h;by_cases e:p.1=k;·rw [if_pos e,if_pos (h1.symm.trans e)]; exact ⟨h1,c⟩
  ·rw [if_neg e,if_neg (λz=>e (h1.trans z))]; exact ⟨h1,h2⟩
theorem KV.put {kvs:List (κ×V)} {vs:List (κ×iG)} (r:KV kvs vs) (k:κ) (c:RelV y u):KV (Vu kvs k y) (stored vs k u):=by
 unfold Vu stored;rw [r.any k];by_cases e:(vs.any λkv=>decide (kv.1=k))=iI;·rw [if_pos e,if_pos e]; exact r.repl k c
 ·rw [if_neg e,if_neg e]; exact Paired.snoc r ⟨rfl,c⟩
theorem KV.keys {kvs:List (κ×V)} {vs:List (κ×iG)} (r:KV kvs vs):kvs.map (·.1)=vs.map (·.1):=by
 unfold KV at r
 induction r with
 | nil=>rfl
 | cons h t j=>rw [ax,ax,j,h.1]
theorem KV.length {kvs:List (κ×V)} {vs:List (κ×iG)} (r:KV kvs vs):kvs.length=vs.length:=g9 r
end
theorem qaE {k:Key} (r:RelV (kV k) u):(ju P w).is k u=true:=by
 cases k with
 | inl i=>obtain ⟨t,e⟩:=(show ∃ t,u=fD i t from r); subst e; exact Vw P w i t
 | inr x=>obtain ⟨t,e⟩:=(show ∃ t,u=g8 x t from r); subst e; exact Vx P w x t
theorem JU:∀ {ks:List Key} {us:List iG},Vals (ks.map kV) us->ItemsAre (ju P w) ks us
 | [],_,r=>by rw [aP] at r; cases r; exact .nil
 | k::ks,_,r=>by
  rw [ax] at r;cases r with
  | cons h t=>exact .cons (qaE h) (JU t)
abbrev KT (H:Hp):List (List Key×V)->List (List Key×Addr×iG)->Prop:=lK λp q=>p.1=q.1/\H q.2.1=iD (.tup (p.1.map kV))/\RelV p.2 q.2.2
variable {xs:List (List Key×Addr×iG)} {kvs:List (List Key×V)}
theorem KT.val (r:KT H kvs xs) (k:List Key):RelO (WY kvs k) ((atKey xs k).map (·.2)):=by
 induction r with
 | nil=>exact d7
 | @cons p q ps qs h t ih=>
  obtain ⟨h1,_,h2⟩:=h;by_cases e:p.1=k
  ·have a:q.1=k:=h1.symm.trans e;have b:atKey (q::qs) k=iD q.2:=by simp [atKey,dg,a]
   rw [xX e,b]; exact h2
  ·have a:¬q.1=k:=λz=>e (h1.trans z);have b:atKey (q::qs) k=atKey qs k:=by simp [atKey,dg,a]
   rw [xY e,b]; exact ih
theorem KT.keeps (r:KT H kvs xs) (l:∀ b ys,H b=iD (.tup ys)->H' b=iD (.tup ys)):KT H' kvs xs:=
 Paired.mapP r λ_ _ z=>⟨z.1,l _ _ z.2.1,z.2.2⟩
section
variable {h:Heap}
theorem qeY {u:HO} (ok:HOk P w H h) (e:Rd H a u):ObjOk P w H h a u:=e.ok ok
theorem XJ {kvs:List (Key×V)} (ok:HOk P w H h) (e:Rd H a (.dK kvs)):kvs.length<=sizeLine/\(a == sysModules)=iH/\∃ vs,KV kvs vs/\h.DictOf (ju P w) a vs:=
 show ObjOk P w H h a (.dK kvs) from qeY ok e
theorem gX {ks:List Key} (ok:HOk P w H h) (e:H a=iD (.tup (ks.map kV))):(tupleKind (ju P w)).is h ks a:=by
 obtain ⟨_,its,r,o,h1,h2,n,i⟩:=(show ObjOk P w H h a (.tup (ks.map kV)) from ok a _ e)
 exact ⟨o,its.toArray,n,h1,h2,i,by simpa using JU r⟩
theorem qaF (ok:HOk P w H h) (e:Rd H a (.dT kvs)):kvs.length<=sizeLine/\(a == sysModules)=iH /\
  ∃ xs,KT H kvs xs/\h.DictOfH (tupleKind (ju P w)) a xs:=by
 obtain ⟨z,y,xs,r,o,es,ep,h1,h2,i,c,b⟩:=(show ObjOk P w H h a (.dT kvs) from qeY ok e)
 refine ⟨z,y,xs,r,o,es,ep,h1,h2,i,c,λx hx=>?_,b⟩;have all:∀ {l:List (List Key×V)} {m:List (List Key×Addr×iG)},KT H l m->∀ x∈m,(tupleKind (ju P w)).is h x.1 x.2.1:=by
  intro l m q
  induction q with
  | nil=>intro x hx; exact nomatch hx
  | @cons p q ps qs hq t ih=>
   intro x hx;rcases ah.mp hx with e | hx
   ·subst e;exact gX ok (by rw [<-hq.1]; exact hq.2.1)
   ·exact ih x hx
 exact all r x hx
end
def DGet (H:Hp) (a:Addr) (y:V) (r:Option V):Prop:=
 (∃ kvs k,Rd H a (.dK kvs)/\y=kV k/\r=WY kvs k)\/∃ kvs k b,Rd H a (.dT kvs)/\y=.ref b/\H b=iD (.tup (k.map kV))/\r=WY kvs k
def DPut (H:Hp) (a:Addr) (y v:V) (H':Hp):Prop:=
 (∃ kvs k,H a=iD (.dK kvs)/\y=kV k/\kvs.length < sizeLine/\H'=upd H a (.dK (Vu kvs k v))) \/
 ∃ kvs k b,H a=iD (.dT kvs)/\y=.ref b/\H b=iD (.tup (k.map kV))/\kvs.length < sizeLine/\H'=upd H a (.dT (Vu kvs k v))
theorem DGet.k {kvs:List (Key×V)} {k:Key} (e:H a=iD (.dK kvs)):DGet H a (kV k) (WY kvs k):=.inl ⟨kvs,k,.inl e,rfl,rfl⟩
theorem DGet.t {b:Addr} {k:List Key} (e:H a=iD (.dT kvs)) (B:H b=iD (.tup (k.map kV))):DGet H a (.ref b) (WY kvs k):=.inr ⟨kvs,k,b,.inl e,rfl,B,rfl⟩
theorem DPut.t {b:Addr} {k:List Key} {v:V} (e:H a=iD (.dT kvs)) (B:H b=iD (.tup (k.map kV))) (hl:kvs.length < sizeLine):DPut H a (.ref b) v (upd H a (.dT (Vu kvs k v))):=.inr ⟨kvs,k,b,e,rfl,B,hl,rfl⟩
variable {pins:List (Addr×Obj)} {σ:St} {s:iJ} {A:iO} {E Q:iG->iJ->Prop}
section
variable {v:V} {r:iG}
theorem Inv.big (I:Inv X pins σ H s):sysModules < s.heap.objs.size:=by have h:mainGlobals < s.heap.objs.size:=(I.mod.glob.keeps I.bk).lt;exact eJ (by decide) h
theorem XM (i:A.units+1 < cLine) (I:Inv X pins σ H s) (g:DGet H a y (iD v)) (f:RelV y u) (h:∀ S s',Inv X pins σ H s'->RelV v S->Q S s'):wpAny (model X.prog X.w) A (getItem (.ref a) u) Q E s:=by
 rcases g with ⟨kvs,k,e,d,l⟩ | ⟨kvs,k,b,e,d,B,l⟩
 ·subst d;obtain ⟨z,hd,vs,rel,dd⟩:=XJ I.hok e;obtain ⟨S,hw,r⟩:=RelO.some_of (v:=v) (o:=valueAt vs k) (by rw [l]; exact rel.val k);exact wpAny_getItem_of (qaE f) dd.mapOf hw (h S _ (I.tok _) r)
 ·subst d;cases (show u=br b from f);obtain ⟨z,hd,xs,rel,dd⟩:=qaF I.hok e;obtain ⟨S,hw,r⟩:=RelO.some_of (v:=v) (o:=(atKey xs k).map (·.2)) (by rw [l]; exact rel.val k);obtain ⟨p,hp,c⟩:=bQ.mp hw;refine wpAny_getItem_heap (tupleKind_room_in1 i) (gX I.hok B) dd hp ?_;rw [c];exact h S _ (I.tok _) r
theorem qip (f:A.units+1 < cLine) (I:Inv X pins σ H s) (g:DGet H a y o) (c:RelV y u) (h:∀ s',Inv X pins σ H s'->Q (.bool o.isSome) s'):wpAny (model X.prog X.w) A (compareOp .In u (.ref a)) Q E s:=by
 rcases g with ⟨kvs,k,e,d,l⟩ | ⟨kvs,k,b,e,d,B,l⟩
 ·subst d;obtain ⟨z,hd,vs,rel,dd⟩:=XJ I.hok e;refine wpAny_in_of (qaE c) hd dd.mapOf ?_;rw [<-(rel.val k).isSome_eq,<-l];exact h _ (I.tok _)
 ·subst d;cases (show u=br b from c);obtain ⟨z,hd,xs,rel,dd⟩:=qaF I.hok e;refine wpAny_in_heap (tupleKind_room_in1 f) (gX I.hok B) hd dd ?_;have q:=(rel.val k).isSome_eq;rw [Option.isSome_map] at q;rw [<-q,<-l];exact h _ (I.tok _)
theorem qc4 (f:A.units+1 < cLine) (I:Inv X pins σ H s) (g:DGet H a y o) (c:RelV y u) (h:∀ s',Inv X pins σ H s'->Q (.bool (!o.isSome)) s'):wpAny (model X.prog X.w) A (compareOp .NotIn u (.ref a)) Q E s:=by
 rcases g with ⟨kvs,k,e,d,l⟩ | ⟨kvs,k,b,e,d,B,l⟩
 ·subst d;obtain ⟨z,hd,vs,rel,dd⟩:=XJ I.hok e;refine wpAny_notIn_of (qaE c) hd dd.mapOf ?_;rw [<-(rel.val k).isSome_eq,<-l];exact h _ (I.tok _)
 ·subst d;cases (show u=br b from c);obtain ⟨z,hd,xs,rel,dd⟩:=qaF I.hok e;refine wpAny_notIn_heap (tupleKind_room_in1 f) (gX I.hok B) hd dd ?_;have q:=(rel.val k).isSome_eq;rw [Option.isSome_map] at q;rw [<-q,<-l];exact h _ (I.tok _)
theorem qeZ {H':Hp} {h':Heap} {kvs:List (Key×V)} {vs:List (Key×iG)} (z:kvs.length<=sizeLine) (hd:(a == sysModules)=iH) (rel:KV kvs vs) (dd:h'.DictOf (ju P w) a vs):ObjOk P w H' h' a (.dK kvs):=⟨z,hd,vs,rel,dd⟩
end
section
variable {kvs:List (Key×V)} {k:Key}
theorem qg0 (I:Inv X pins σ H s) (e:Rd H a (.dK kvs)) (h:∀ t s',Inv X pins σ H s'->Q (.int kvs.length t) s'):wpAny (model X.prog X.w) A (call (.builtin "len") [.ref a]) Q E s:=by obtain ⟨z,hd,vs,rel,dd⟩:=XJ I.hok e;refine call_len_dict hd dd (by rw [<-rel.length]; rw [iR] at z; omega) ?_;rw [<-rel.length];exact h _ _ (I.tok _)
end
theorem VH (I:Inv X pins σ H s) (g:DGet H a y o):s.TypeIs (.ref a) "dict":=by
 rcases g with ⟨kvs,k,e,_,_⟩ | ⟨kvs,k,b,e,_,_,_⟩
 ·obtain ⟨_,_,vs,_,dd⟩:=XJ I.hok e;exact dd.typeIs
 ·obtain ⟨_,_,xs,_,dd⟩:=qaF I.hok e;exact dd.typeIs
section
theorem XN:ya X (.builtin "len") (λxs H Q=>∃ a kvs,xs=[V.ref a]/\H a=iD (.dK kvs)/\Q (.int kvs.length) H):=by intro pins s σ H xs us Q I r h;obtain ⟨a,kvs,rfl,f,q⟩:=h;obtain ⟨u,rfl,b⟩:=QD r;cases b;exact qg0 I (.inl f) λt s' c=>⟨.int kvs.length,H,c,⟨t,rfl⟩,q⟩
end
end L2
namespace L2.D2
open PySem PySem.Spec PyProof.Rows
variable {b:List Nat}
theorem kq {a:List Nat} (h:(a.all λi=>decide (i∈b))=iI):∀ i∈a,i∈b:=λi hi=>of_decide_eq_true (bh.mp h i hi)
theorem yo {i:Nat} (h:decide (i∈b)=iH):i∉b:=of_decide_eq_false h
noncomputable def VI:Expr->Bool
 | .Starred ..=>iH
 | _=>iI
variable {e:Expr} {env:Env}
theorem ja {es:List Expr} (h:VI e=iI):starEach (e::es) env=(iH,eval e env)::starEach es env:=by cases e <;> first | rfl | cases h
theorem qO (h:VI e=iI):starEach [e] env=[(iH,eval e env)]:=ja h
theorem qaG {a b:Expr} (h:VI a=iI) (k:VI b=iI):starEach [a,b] env=[(iH,eval a env),(iH,eval b env)]:=by rw [ja h,qO k]
variable {pos:Pos}
theorem vh:∀ {es:List Expr},es.all VI=iI->(backTo pos (starEach es env)).any (·.1)=iH
 | [],_=>rfl
 | e::es,h=>by rw [fL,aZ] at h;rw [ja h.1];exact vh h.2
theorem vP (h:VI e=iI):((backTo pos (starEach [e] env)).all (λx=>!x.1)&&(backToKw pos (keywordEach [] env)).all (λx=>x.1.isSome)
   && decide ([e].length+([]:List i5).length+(if ([]:List i5).isEmpty then 0 else 1) < 30))=true:=by rw [qO h]; rfl
inductive D where
 | non | bl (b:Bool) | int (i:Int) | str (x:Str)
 | tup (xs:List D) | lst (xs:List D) | dct (kvs:List (Key×D)) | raw (v:V)
 | xcp (C:Addr) | ins (C:Addr) (fs:List (Str×D)) | at_ (a:Addr) (xs:List D)
 deriving Inhabited
abbrev Sl:=List (Option D)
inductive Out (α:Type) where
 | ok (a:α) | exc (c:Str) (o:Sl) | bad
variable {α β:Type}
noncomputable def Out.bind (o:Out α) (k:α->Out β):Out β:=match o with
 | .ok a=>k a
 | .exc c o=>.exc c o
 | .bad=>.bad
@[simp] theorem Out.oo (a:α) (k:α->Out β):(Out.ok a).bind k=k a:=rfl
@[simp] theorem Out.exc_bind (c:Str) (o:Sl) (k:α->Out β):(Out.exc c o:Out α).bind k=.exc c o:=rfl
@[simp] theorem Out.bad_bind (k:α->Out β):(Out.bad:Out α).bind k=.bad:=rfl
noncomputable def gY (a C:Addr):HO:=.ext λh=>∃ o vs,h.get? a=iD o/\o.cls=.ref C/\o.data=.fields vs
mutual
/-- the value v is the data d,all its objects in F -/
inductive Is (K:Frag) (F:Hp):V->D->Prop
 | non:Is K F .non .non
 | bl (b:Bool):Is K F (.bl b) (.bl b)
 | int (i:Int):Is K F (.int i) (.int i)
 | str {x:Str} (h:x.length<=sizeLine):Is K F (.str x) (.str x)
 | tup {a:Addr} {xs:List V} {ds:List D} (h:SqT K F a xs) (t:IsL K F xs ds):Is K F (.ref a) (.tup ds)
 | lst {a:Addr} {xs:List V} {ds:List D} (h:SqL K F a xs) (t:IsL K F xs ds):Is K F (.ref a) (.lst ds)
 | dct {a:Addr} {kv:List (Key×V)} {kvs:List (Key×D)} (h:F a=iD (.dK kv)) (t:IsK K F kv kvs):Is K F (.ref a) (.dct kvs)
 | raw (v:V):Is K F v (.raw v)
 | xcp {a C:Addr} (h:F a=iD (gY a C)):Is K F (.ref a) (.xcp C)
 | ins {a C dx:Addr} {fv:List (Str×V)} {fs:List (Str×D)} (h:F a=iD (.ins C dx fv)) (t:IsF K F fv fs):Is K F (.ref a) (.ins C fs)
 | at_ {a:Addr} {xs:List V} {ds:List D} (h:SqL K F a xs) (t:IsL K F xs ds):Is K F (.ref a) (.at_ a ds)
inductive IsL (K:Frag) (F:Hp):List V->List D->Prop
 | nil:IsL K F [] []
 | cons {v:V} {d:D} {vs:List V} {ds:List D} (h:Is K F v d) (t:IsL K F vs ds):IsL K F (v::vs) (d::ds)
inductive IsK (K:Frag) (F:Hp):List (Key×V)->List (Key×D)->Prop
 | nil:IsK K F [] []
 | cons {k:Key} {v:V} {d:D} {vs:List (Key×V)} {ds:List (Key×D)} (h:Is K F v d) (t:IsK K F vs ds):IsK K F ((k,v)::vs) ((k,d)::ds)
inductive IsF (K:Frag) (F:Hp):List (Str×V)->List (Str×D)->Prop
 | nil:IsF K F [] []
 | cons {k:Str} {v:V} {d:D} {vs:List (Str×V)} {ds:List (Str×D)} (h:Is K F v d) (t:IsF K F vs ds):IsF K F ((k,v)::vs) ((k,d)::ds)
end
theorem je {K:Frag} {H H':Hp} {a:Addr} {xs:List V} (e:Same H H') (h:SqT K H a xs):SqT K H' a xs:=by
 rcases h with (h | ⟨o,h⟩) | h;·exact .inl (.inl (e _ _ h))
 ·exact .inl (.inr ⟨o,e _ _ h⟩)
 ·exact .inr h
mutual
theorem Is.mono {K:Frag} {F F':Hp} (e:Same F F'):∀ {v:V} {d:D},Is K F v d->Is K F' v d
 | _,_,.non=>.non
 | _,_,.bl b=>.bl b
 | _,_,.int i=>.int i
 | _,_,.str h=>.str h
 | _,_,.tup h t=>.tup (je e h) (IsL.mono e t)
 | _,_,.lst h t=>.lst (e.seq h) (IsL.mono e t)
 | _,_,.dct h t=>.dct (e _ _ h) (IsK.mono e t)
 | _,_,.raw v=>.raw v
 | _,_,.xcp h=>.xcp (e _ _ h)
 | _,_,.ins h t=>.ins (e _ _ h) (IsF.mono e t)
 | _,_,.at_ h t=>.at_ (e.seq h) (IsL.mono e t)
theorem IsL.mono {K:Frag} {F F':Hp} (e:Same F F'):∀ {vs:List V} {ds:List D},IsL K F vs ds->IsL K F' vs ds
 | _,_,.nil=>.nil
 | _,_,.cons h t=>.cons (Is.mono e h) (IsL.mono e t)
theorem IsK.mono {K:Frag} {F F':Hp} (e:Same F F'):∀ {vs:List (Key×V)} {ds:List (Key×D)},IsK K F vs ds->IsK K F' vs ds
 | _,_,.nil=>.nil
 | _,_,.cons h t=>.cons (Is.mono e h) (IsK.mono e t)
theorem IsF.mono {K:Frag} {F F':Hp} (e:Same F F'):∀ {vs:List (Str×V)} {ds:List (Str×D)},IsF K F vs ds->IsF K F' vs ds
 | _,_,.nil=>.nil
 | _,_,.cons h t=>.cons (Is.mono e h) (IsF.mono e t)
end
theorem IsL.length {K:Frag} {F:Hp}:∀ {vs:List V} {ds:List D},IsL K F vs ds->vs.length=ds.length
 | _,_,.nil=>rfl
 | _,_,.cons _ t=>congrArg (·+1) (IsL.length t)
theorem IsL.get {K:Frag} {F:Hp}:∀ {vs:List V} {ds:List D} {i:Nat} {v:V},IsL K F vs ds->vs[i]?=iD v->∃ d,ds[i]?=iD d/\Is K F v d
 | _,_,_,_,.nil,e=>by simp at e
 | _,_,0,_,.cons h _,e=>by simp at e; subst e; exact ⟨_,rfl,h⟩
 | _,_,i+1,v,.cons _ t,e=>by obtain ⟨d,h1,h2⟩:=IsL.get (i:=i) (v:=v) t (by simpa using e);exact ⟨d,by simpa using h1,h2⟩
theorem IsL.getD {K:Frag} {F:Hp}:∀ {vs:List V} {ds:List D} {i:Nat} {d:D},IsL K F vs ds->ds[i]?=iD d->∃ v,vs[i]?=iD v/\Is K F v d
 | _,_,_,_,.nil,e=>by simp at e
 | _,_,0,_,.cons h _,e=>by simp at e; subst e; exact ⟨_,rfl,h⟩
 | _,_,i+1,v,.cons _ t,e=>by obtain ⟨d,h1,h2⟩:=IsL.getD (i:=i) (d:=v) t (by simpa using e);exact ⟨d,by simpa using h1,h2⟩
theorem IsL.append {K:Frag} {F:Hp}:∀ {vs ws:List V} {ds es:List D},IsL K F vs ds->IsL K F ws es->IsL K F (vs++ws) (ds++es)
 | _,_,_,_,.nil,s=>s
 | _,_,_,_,.cons h t,s=>.cons h (IsL.append t s)
theorem IsL.drop {K:Frag} {F:Hp}:∀ {vs:List V} {ds:List D} (n:Nat),IsL K F vs ds->IsL K F (vs.drop n) (ds.drop n)
 | _,_,0,r=>r
 | _,_,_+1,.nil=>.nil
 | _,_,n+1,.cons _ t=>IsL.drop n t
theorem IsL.take {K:Frag} {F:Hp}:∀ {vs:List V} {ds:List D} (n:Nat),IsL K F vs ds->IsL K F (vs.take n) (ds.take n)
 | _,_,0,_=>.nil
 | _,_,_+1,.nil=>.nil
 | _,_,n+1,.cons h t=>.cons h (IsL.take n t)
theorem IsL.set {K:Frag} {F:Hp} {v:V} {d:D} (h:Is K F v d):∀ {vs:List V} {ds:List D} (i:Nat),IsL K F vs ds->IsL K F (vs.set i v) (ds.set i d)
 | _,_,_,.nil=>.nil
 | _,_,0,.cons _ t=>.cons h t
 | _,_,i+1,.cons q t=>.cons q (IsL.set h i t)
theorem IsL.reverse {K:Frag} {F:Hp}:∀ {vs:List V} {ds:List D},IsL K F vs ds->IsL K F vs.reverse ds.reverse
 | _,_,.nil=>.nil
 | _,_,.cons h t=>by rw [eI,eI];exact (IsL.reverse t).append (.cons h .nil)
def OwnIs (K:Frag) (F H:Hp) (a:Addr):D->Prop
 | .lst ds=>∃ xs,H a=iD (.lst xs)/\IsL K F xs ds
 | .dct kvs=>∃ kv,H a=iD (.dK kv)/\IsK K F kv kvs
 | .ins C fs=>∃ dx fv,H a=iD (.ins C dx fv)/\IsF K F fv fs
 | .at_ b ds=>b=a/\∃ xs,H a=iD (.lst xs)/\IsL K F xs ds
 | _=>False
def TopIs (K:Frag) (F H:Hp) (v:V) (d:D):Prop:=Is K F v d\/∃ a,v=.ref a/\OwnIs K F H a d
inductive Mo where
 | sh | fr | any
def MoIs (K:Frag) (m:Mo) (H0 F H:Hp) (v:V) (d:D):Prop:=match m with
 | .sh=>Is K F v d
 | .fr=>∃ a,v=.ref a/\H0 a=iF/\F a=iF/\OwnIs K F H a d
 | .any=>TopIs K F H v d
theorem MoIs.top {K:Frag} {m:Mo} {H0 F H:Hp} {v:V} {d:D} (h:MoIs K m H0 F H v d):TopIs K F H v d:=by
 cases m with
 | sh=>exact .inl h
 | fr=>obtain ⟨a,e,_,_,o⟩:=h; exact .inr ⟨a,e,o⟩
 | any=>exact h
structure Chg (A:Addr->Prop) (F H F' H':Hp):Prop where
 keep:∀ b o,H b=iD o->¬A b->H' b=iD o
 stay:∀ b,H b≠iF->H' b≠iF
 grow:Same F F'
 new:∀ b,F' b≠iF->F b≠iF\/H b=iF\/A b
theorem Chg.refl {A:Addr->Prop} {F H:Hp}:Chg A F H F H:=⟨λ_ _ e _=>e,λ_ h=>h,Same.refl _,λ_ h=>.inl h⟩
theorem Chg.trans {A A1:Addr->Prop} {F H F1 H1 c H2:Hp} (a:Chg A F H F1 H1) (b:Chg A1 F1 H1 c H2) (hA:∀ x,A1 x->A x\/H x=iF):Chg A F H c H2 where
 keep:=λx o e n=>b.keep x o (a.keep x o e n) λz=>(hA x z).elim n λq=>by rw [e] at q; cases q
 stay:=λx h=>b.stay x (a.stay x h)
 grow:=a.grow.trans b.grow
 new:=λx h=>by
  rcases b.new x h with q | q | q;·exact a.new x q
  ·refine .inr (.inl ?_);cases e:H x with
   | none=>rfl
   | some o=>exact absurd q (a.stay x (by rw [e]; simp))
  ·rcases hA x q with z | z;·exact .inr (.inr z)
   ·exact .inr (.inl z)
theorem Chg.trans' {A:Addr->Prop} {F H F1 H1 c H2:Hp} (a:Chg A F H F1 H1) (b:Chg A F1 H1 c H2):Chg A F H c H2:=a.trans b λ_ z=>.inl z
theorem Chg.mono {A c:Addr->Prop} {F H F1 H1:Hp} (a:Chg A F H F1 H1) (h:∀ x,A x->c x):Chg c F H F1 H1:=
 ⟨λb o e n=>a.keep b o e λz=>n (h b z),a.stay,a.grow,λb z=>(a.new b z).imp id (Or.imp id (h b))⟩
abbrev No:Addr->Prop:=λ_=>False
theorem Chg.ofNo {A:Addr->Prop} {F H F1 H1:Hp} (a:Chg No F H F1 H1):Chg A F H F1 H1:=a.mono λ_ z=>z.elim
structure Rep (K:Frag) (own:List Nat) (F H:Hp) (σ:St) (ρ:Sl):Prop where
 sub:Same F H
 len:σ.length=ρ.length
 val:∀ i d,i∉own->ρ[i]?=iD (iD d)->∃ v,σ[i]?=iD (iD v)/\Is K F v d
 ow:∀ i d,i∈own->ρ[i]?=iD (iD d)->∃ a,σ[i]?=iD (iD (.ref a))/\F a=iF/\OwnIs K F H a d
 opn:∀ i,i∈own->∃ d,ρ[i]?=iD (iD d)
 dis:∀ i j a,i∈own->j∈own->σ[i]?=iD (iD (V.ref a))->σ[j]?=iD (iD (V.ref a))->i=j
def OA (own:List Nat) (σ:St):Addr->Prop:=λb=>∃ i∈own,σ[i]?=iD (iD (V.ref b))
theorem OwnIs.there {K:Frag} {F H:Hp} {a:Addr} {d:D} (h:OwnIs K F H a d):H a≠none:=by
 cases d with
 | lst ds=>obtain ⟨xs,e,_⟩:=h; rw [e]; simp
 | dct ds=>obtain ⟨xs,e,_⟩:=h; rw [e]; simp
 | ins C fs=>obtain ⟨dx,xs,e,_⟩:=h; rw [e]; simp
 | at_ b ds=>obtain ⟨_,xs,e,_⟩:=h; rw [e]; simp
 | _=>exact h.elim
theorem OwnIs.grow {K:Frag} {F H F' H':Hp} {a:Addr} {d:D} (h:OwnIs K F H a d) (g:Same F F') (k:∀ o,H a=iD o->H' a=iD o):OwnIs K F' H' a d:=by
 cases d with
 | lst ds=>obtain ⟨xs,e,t⟩:=h; exact ⟨xs,k _ e,t.mono g⟩
 | dct ds=>obtain ⟨xs,e,t⟩:=h; exact ⟨xs,k _ e,t.mono g⟩
 | ins C fs=>obtain ⟨dx,xs,e,t⟩:=h; exact ⟨dx,xs,k _ e,t.mono g⟩
 | at_ b ds=>obtain ⟨B,xs,e,t⟩:=h; exact ⟨B,xs,k _ e,t.mono g⟩
 | _=>exact h.elim
theorem Rep.OA_there {K:Frag} {own:List Nat} {F H:Hp} {σ:St} {ρ:Sl} (r:Rep K own F H σ ρ) {b:Addr} (h:OA own σ b):H b≠iF/\F b=none:=by obtain ⟨i,hi,e⟩:=h;obtain ⟨d,hd⟩:=r.opn i hi;obtain ⟨a,e1,c,o⟩:=r.ow i d hi hd;rw [e] at e1;cases e1;exact ⟨o.there,c⟩
theorem Rep.grow {K:Frag} {own:List Nat} {F H F' H':Hp} {σ:St} {ρ:Sl} (r:Rep K own F H σ ρ) (c:Chg No F H F' H') (s:Same F' H'):Rep K own F' H' σ ρ where
 sub:=s
 len:=r.len
 val:=λi d hi e=>let ⟨v,h1,h2⟩:=r.val i d hi e; ⟨v,h1,h2.mono c.grow⟩
 ow:=λi d hi e=>by
  obtain ⟨a,h1,h2,h⟩:=r.ow i d hi e;refine ⟨a,h1,?_,h.grow c.grow λo q=>c.keep a o q λz=>z⟩;cases q:F' a with
  | none=>rfl
  | some o=>
   rcases c.new a (by rw [q]; simp) with z | z | z;·exact absurd h2 z
   ·exact absurd z h.there
   ·exact z.elim
 opn:=r.opn
 dis:=r.dis
theorem MoIs.grow {K:Frag} {A:Addr->Prop} {m:Mo} {H0 F H F' H':Hp} {v:V} {d:D} (h:MoIs K m H0 F H v d) (f:m≠.any) (c:Chg A F H F' H') (hA:∀ x,A x->H0 x≠iF):MoIs K m H0 F' H' v d:=by
 cases m with
 | sh=>exact Is.mono c.grow h
 | fr=>
  obtain ⟨a,e,b,C,o⟩:=h;have n:¬A a:=λz=>hA a z b;refine ⟨a,e,b,?_,o.grow c.grow λo q=>c.keep a o q n⟩;cases q:F' a with
  | none=>rfl
  | some u=>
   rcases c.new a (by rw [q]; simp) with z | z | z;·exact absurd C z
   ·exact absurd z o.there
   ·exact absurd z n
 | any=>exact absurd rfl f
def Xg (K:Frag) (io:List Nat) (F H:Hp) (σ:St) (ρ:Sl):Prop:=∀ i∈io,∃ d a,ρ[i]?=iD (iD d)/\σ[i]?=iD (iD (V.ref a))/\F a=iF/\OwnIs K F H a d
theorem Rep.ioIs {K:Frag} {own io:List Nat} {F H:Hp} {σ:St} {ρ:Sl} (r:Rep K own F H σ ρ) (h:∀ i∈io,i∈own):Xg K io F H σ ρ:=λi hi=>by obtain ⟨d,hd⟩:=r.opn i (h i hi);obtain ⟨a,h1,h2,b⟩:=r.ow i d (h i hi) hd;exact ⟨d,a,hd,h1,h2,b⟩
structure Ct where
 K:Frag
 cv:Str->iG
 E:XK
 io:List Nat
 mr:Mo
 ol:List Nat
 ox:List Nat
 oxs:∀ i∈ox,i∈io
def Po (C:Ct) (own:List Nat) (m:Mo) (σ:St) (F H:Hp) (r:Out (D×Sl)) (Q:VK):Prop:=match r with
 | .ok (d,ρ')=>∀ v F' H',Rep C.K own F' H' σ ρ'->Chg (OA own σ) F H F' H'->MoIs C.K m H F' H' v d->Q v H'
 | .exc c ρ'=>∀ F' H',Same F' H'->Xg C.K C.ox F' H' σ ρ'->Chg (OA own σ) F H F' H'->C.E (C.cv c) iF H'
 | .bad=>False
def tE (C:Ct) (own:List Nat) (m:Mo) (f:Sl->Out (D×Sl)):TE:=λσ H Q=>∃ F ρ,Rep C.K own F H σ ρ/\Po C own m σ F H (f ρ) Q
theorem MoIs.back {K:Frag} {m:Mo} {A:Addr->Prop} {H0 F H F1 H1:Hp} {f Ha:Hp} {v:V} {d:D} (c:Chg A f H0 F1 H1) (h:MoIs K m H1 F H v d):MoIs K m H0 F H v d:=by
 cases m with
 | sh=>exact h
 | fr=>
  obtain ⟨a,e,b,r⟩:=h;refine ⟨a,e,?_,r⟩;cases q:H0 a with
  | none=>rfl
  | some o=>exact absurd b (c.stay a (by rw [q]; simp))
 | any=>exact h
theorem Po.shift {C:Ct} {own:List Nat} {m:Mo} {σ:St} {F H F1 H1:Hp} {r:Out (D×Sl)} {Q:VK} (h:Po C own m σ F H r Q) (c:Chg (OA own σ) F H F1 H1):Po C own m σ F1 H1 r Q:=by
 cases r with
 | ok p=>exact λv F' H' a T mo=>h v F' H' a (c.trans' T) (MoIs.back (Ha:=H1) c mo)
 | exc x=>exact λF' H' s io T=>h F' H' s io (c.trans' T)
 | bad=>exact h.elim
theorem Po.bind {C:Ct} {own:List Nat} {m ma:Mo} {σ:St} {F H:Hp} {o:Out (D×Sl)} {k:D×Sl->Out (D×Sl)} {Q R:VK} (hp:Po C own m σ F H (o.bind k) Q)
  (h:∀ v F1 H1 d ρ1,Rep C.K own F1 H1 σ ρ1->Chg (OA own σ) F H F1 H1->MoIs C.K ma H F1 H1 v d->Po C own m σ F1 H1 (k (d,ρ1)) Q->R v H1):Po C own ma σ F H o R:=by
 cases o with
 | ok p=>obtain ⟨d,ρ1⟩:=p;exact λv F1 H1 a c mo=>h v F1 H1 d ρ1 a c mo (Po.shift (show Po C own m σ F H (k (d,ρ1)) Q from hp) c)
 | exc x=>exact hp
 | bad=>exact hp.elim
def PoV (C:Ct) (m:Mo) (F H:Hp) (r:Out D) (Q:VK):Prop:=match r with
 | .ok d=>∀ v F' H',Same F' H'->Chg No F H F' H'->MoIs C.K m H F' H' v d->Q v H'
 | _=>False
def OpD (X:Cx) (C:Ct) (m:Mo) (f:iG->iG->Sem iG) (g:D->D->Out D):Prop:=
 OpR X f (λx y H Q=>∃ F dx d,Same F H/\TopIs C.K F H x dx/\TopIs C.K F H y d/\PoV C m F H (g dx d) Q)
def UnD (X:Cx) (C:Ct) (m:Mo) (f:iG->Sem iG) (g:D->Out D):Prop:=
 UnR X f (λx H Q=>∃ F dx,Same F H/\TopIs C.K F H x dx/\PoV C m F H (g dx) Q)
noncomputable def Out.plain {α:Type}:Out α->Out α
 | .ok a=>.ok a
 | _=>.bad
theorem PoV.of {C:Ct} {own:List Nat} {m:Mo} {σ:St} {F H:Hp} {o:Out D} {ρ:Sl} {Q:VK} (a:Rep C.K own F H σ ρ) (h:Po C own m σ F H (o.plain.bind λd=>.ok (d,ρ)) Q):PoV C m F H o Q:=by
 cases o with
 | ok d=>exact λv F' H' s c mo=>h v F' H' (a.grow c s) c.ofNo mo
 | exc c=>exact h.elim
 | bad=>exact h.elim
noncomputable def d2 (g:D->D->Out D) (fa fb:Sl->Out (D×Sl)):Sl->Out (D×Sl):=λρ=>(fa ρ).bind λp=>(fb p.2).bind λq=>(g p.1 q.1).plain.bind λd=>.ok (d,q.2)
noncomputable def d1 (g:D->Out D) (fa:Sl->Out (D×Sl)):Sl->Out (D×Sl):=λρ=>(fa ρ).bind λp=>(g p.1).plain.bind λd=>.ok (d,p.2)
section
variable {X:Cx} {C:Ct} {own:List Nat} {a b:Expr} {fa fb:Sl->Out (D×Sl)} {m ma mb:Mo} {pos:Pos}
theorem JV {g:D->D->Out D} {σ:St} {H:Hp} {Q:VK} (f:ma≠.any) (h:tE C own m (d2 g fa fb) σ H Q):tE C own ma fa σ H λx H1=>tE C own mb fb σ H1 λy H2=>∃ F dx i,Same F H2/\TopIs C.K F H2 x dx/\TopIs C.K F H2 y i/\PoV C m F H2 (g dx i) Q:=by obtain ⟨F,ρ,p,h⟩:=h;refine ⟨F,ρ,p,Po.bind h λv F1 H1 d ρ1 a l c h1=>⟨F1,ρ1,a,Po.bind h1 λw k H2 e j r c2 b h2=>?_⟩⟩;exact ⟨k,d,e,r.sub,(c.grow f c2 λx z=>(p.OA_there z).1).top,b.top,PoV.of r h2⟩
theorem JW {g:D->Out D} {σ:St} {H:Hp} {Q:VK} (h:tE C own m (d1 g fa) σ H Q):tE C own ma fa σ H λx H1=>∃ F dx,Same F H1/\TopIs C.K F H1 x dx/\PoV C m F H1 (g dx) Q:=by obtain ⟨F,ρ,r,h⟩:=h;refine ⟨F,ρ,r,Po.bind h λv F1 H1 d ρ1 a l c h1=>?_⟩;exact ⟨F1,d,a.sub,c.top,PoV.of a h1⟩
theorem jh {e:Expr} {t t':TE} (h:PE X e t) (i:∀ σ H Q,t' σ H Q->t σ H Q):PE X e t':=⟨λpins s σ H Q I hw=>h pins s σ H Q I (i σ H Q hw)⟩
theorem qaH {e:Expr} {t t':TT} (h:PT X e t) (i:∀ σ H Q,t' σ H Q->t σ H Q):PT X e t':=⟨λpins s σ H Q I hw=>h pins s σ H Q I (i σ H Q hw)⟩
theorem jC {op:Operator} {g:D->D->Out D} (o:OpD X C m (binaryOp op) g) (c:PE X a (tE C own ma fa)) (hb:PE X b (tE C own mb fb)) (f:ma≠.any:=by decide):PE X (.BinOp a op b pos) (tE C own m (d2 g fa fb)):=
 jh (qgL o c hb) λ_ _ _ h=>JV f h
theorem gZ {op:CmpOp} {g:D->D->Out D} (o:OpD X C m (compareOp op) g) (c:PE X a (tE C own ma fa)) (hb:PE X b (tE C own mb fb)) (f:ma≠.any:=by decide)
  (k:behindInMarks op b=false:=by first | exact qb7 _ | with_unfolding_all rfl):PE X (.Compare a [op] [b] pos) (tE C own m (d2 g fa fb)):=
 jh (qcQ o c hb k) λ_ _ _ h=>JV f h
theorem Yy {op:UnaryOp} {g:D->Out D} (o:UnD X C m (unaryOp op) g) (f:PE X a (tE C own ma fa)):PE X (.UnaryOp op a pos) (tE C own m (d1 g fa)):=
 jh (qgM o f) λ_ _ _ h=>JW h
end
instance:DecidableEq Mo:=λa b=>by cases a <;> cases b <;> first | exact isTrue rfl | exact isFalse (by intro h; cases h)
theorem qaI {K:Frag} {own:List Nat} {H0 F H:Hp} {σ:St} {ρ:Sl} {v:V} {d:D} (r:Rep K own F H σ ρ) (hA:∀ b,OA own σ b->H0 b≠iF) (h:MoIs K .fr H0 F H v d):∃ F',Rep K own F' H σ ρ/\Same F F'/\Is K F' v d/\∀ b,F' b≠iF->F b≠iF\/H0 b=none:=by
 obtain ⟨a,rfl,f,g,o⟩:=h;obtain ⟨u,hu⟩:∃ u,H a=iD u:=by
  cases q:H a with
  | none=>exact absurd q o.there
  | some u=>exact ⟨u,rfl⟩
 have gr:Same F (upd F a u):=λb w e=>by rw [qt (qD e g)]; exact e
 have s:Same (upd F a u) H:=λb w e=>by
  by_cases q:b=a;·subst q; rw [qm] at e; cases e; exact hu
  ·rw [qt q] at e; exact r.sub b w e
 refine ⟨upd F a u,⟨s,r.len,λi d hi e=>?_,λi d hi e=>?_,r.opn,r.dis⟩,gr,?_,λb hb=>?_⟩;·obtain ⟨v,h1,h2⟩:=r.val i d hi e;exact ⟨v,h1,h2.mono gr⟩
 ·obtain ⟨c,h1,h2,j⟩:=r.ow i d hi e;refine ⟨c,h1,?_,j.grow gr λ_ q=>q⟩;have n:c≠a:=λq=>by subst q; exact hA c ⟨i,hi,h1⟩ f
  rw [qt n]; exact h2
 ·cases d with
  | lst ds=>obtain ⟨xs,e,t⟩:=o; rw [hu] at e; cases e; exact .lst (.inl (.inl qm)) (t.mono gr)
  | dct ds=>obtain ⟨xs,e,t⟩:=o; rw [hu] at e; cases e; exact .dct qm (t.mono gr)
  | ins C fs=>obtain ⟨dx,xs,e,t⟩:=o; rw [hu] at e; cases e; exact .ins qm (t.mono gr)
  | at_ b ds=>obtain ⟨B,xs,e,t⟩:=o; rw [hu] at e; cases e; subst B; exact .at_ (.inl (.inl qm)) (t.mono gr)
  | _=>exact o.elim
 ·by_cases q:b=a;·exact .inr (by rw [q]; exact f)
  ·rw [qt q] at hb; exact .inl hb
theorem Po.toSh {C:Ct} {own:List Nat} {m:Mo} {σ:St} {F H:Hp} {d:Sl} {r:Out (D×Sl)} {Q:VK} (f:Rep C.K own F H σ d) (g:m≠.any) (h:Po C own .sh σ F H r Q):Po C own m σ F H r Q:=by
 cases r with
 | ok p=>
  intro v F' H' a c mo;cases m with
  | sh=>exact h v F' H' a c mo
  | fr=>
   obtain ⟨i,e,gr,is,n⟩:=qaI a (λb z=>(f.OA_there z).1) mo;refine h v i H' e ⟨c.keep,c.stay,c.grow.trans gr,λb hb=>?_⟩ is;rcases n b hb with z | z;·exact c.new b z
   ·exact .inr (.inl z)
  | any=>exact absurd rfl g
 | exc x=>exact h
 | bad=>exact h.elim
section
variable {X:Cx} {C:Ct} {own:List Nat} {a b e:Expr} {f fa fb:Sl->Out (D×Sl)} {m ma mb:Mo} {pos:Pos}
theorem vi (h:PE X e (tE C own m f)) (c:m≠.any):PE X e (tE C own .sh f):=jh h λ_ _ _ ⟨F,ρ,a,p⟩=>⟨F,ρ,a,p.toSh a c⟩
noncomputable def qg (i:Nat):Sl->Out (D×Sl):=λρ=>match ρ[i]? with
 | some (iD d)=>.ok (d,ρ)
 | _=>.bad
noncomputable def dC (d:D):Sl->Out (D×Sl):=λρ=>.ok (d,ρ)
theorem qe0 {i:Nat} {x:Str} (b:X.N[i]?=iD x) (c:Vis X.env.scope x) (m:i∉own) (hd:(x == ("__debug__":Str))=false:=by decide) (a:(x == ("__classdict__":Str))=false:=by decide):PE X (.Name x pos) (tE C own .sh (qg i)):=by
 refine jh (uQ b c hd a) λσ H Q ⟨F,ρ,r,h⟩=>?_;unfold qg at h;cases e:ρ[i]? with
 | none=>rw [e] at h; exact h.elim
 | some o=>
  cases o with
  | none=>rw [e] at h; exact h.elim
  | some d=>rw [e] at h;obtain ⟨v,h1,h2⟩:=r.val i d m e;exact ⟨v,h1,h v F H r .refl h2⟩
theorem QH {i:Nat} {x:Str} (f:X.N[i]?=iD x) (c:Vis X.env.scope x) (m:i∈own) (hd:(x == ("__debug__":Str))=false:=by decide) (b:(x == ("__classdict__":Str))=false:=by decide):PE X (.Name x pos) (tE C own .any (qg i)):=by
 refine jh (uQ f c hd b) λσ H Q ⟨F,ρ,r,h⟩=>?_;unfold qg at h;cases e:ρ[i]? with
 | none=>rw [e] at h; exact h.elim
 | some o=>
  cases o with
  | none=>rw [e] at h; exact h.elim
  | some d=>rw [e] at h;obtain ⟨a,h1,h2,g⟩:=r.ow i d m e;exact ⟨_,h1,h _ F H r .refl (.inr ⟨a,rfl,g⟩)⟩
theorem qe1 {v:V} {d:D} (h:PE X e (tC v)) (i:∀ F,Is C.K F v d):PE X e (tE C own .sh (dC d)):=jh h λσ H Q ⟨F,ρ,a,h⟩=>h v F H a .refl (i F)
theorem qx {i j pos}:PE X (.Constant (.int i) j pos) (tE C own .sh (dC (.int i))):=qe1 qew λ_=>.int i
theorem QI {i j pos}:PE X (.Constant (.bool i) j pos) (tE C own .sh (dC (.bl i))):=qe1 qcL λ_=>.bl i
theorem xy {j pos}:PE X (.Constant .none j pos) (tE C own .sh (dC .non)):=qe1 qex λ_=>.non
theorem jV {x j pos} (h:h8 x<=sizeLine:=by decide):PE X (.Constant (.str x) j pos) (tE C own .sh (dC (.str x))):=qe1 qb2 λ_=>.str h
theorem qc5 {x:Str} {v:V} {d:D} {u:iG} (hg:Gl X x) (c:X.mg x=iD u) (r:RelV v u) (i:∀ F,Is C.K F v d) (hd:(x == ("__debug__":Str))=false:=by decide):PE X (.Name x pos) (tE C own .sh (dC d)):=qe1 (Xl hg c r hd) i
noncomputable def Qa (g:Int->Int->Out D):D->D->Out D
 | .int i,.int j=>g i j
 | _,_=>.bad
theorem TopIs.int {K:Frag} {F H:Hp} {v:V} {i:Int} (h:TopIs K F H v (.int i)):v=.int i:=by
 rcases h with h | ⟨a,_,h⟩
 ·cases h; rfl
 ·exact h.elim
theorem TopIs.str {K:Frag} {F H:Hp} {v:V} {x:Str} (h:TopIs K F H v (.str x)):v=.str x/\x.length<=sizeLine:=by
 rcases h with h | ⟨a,_,h⟩
 ·cases h; exact ⟨rfl,by assumption⟩
 ·exact h.elim
theorem TopIs.bl {K:Frag} {F H:Hp} {v:V} {x:Bool} (h:TopIs K F H v (.bl x)):v=.bl x:=by
 rcases h with h | ⟨a,_,h⟩
 ·cases h; rfl
 ·exact h.elim
theorem TopIs.non {K:Frag} {F H:Hp} {v:V} (h:TopIs K F H v .non):v=.non:=by
 rcases h with h | ⟨a,_,h⟩
 ·cases h; rfl
 ·exact h.elim
theorem TopIs.raw {K:Frag} {F H:Hp} {v u:V} (h:TopIs K F H v (.raw u)):v=u:=by
 rcases h with h | ⟨a,_,h⟩
 ·cases h; rfl
 ·exact h.elim
theorem TopIs.lst {K:Frag} {F H:Hp} {v:V} {ds:List D} (s:Same F H) (h:TopIs K F H v (.lst ds)):∃ a xs,v=.ref a/\SqL K H a xs/\IsL K F xs ds:=by
 rcases h with h | ⟨a,e,h⟩
 ·cases h with
  | lst h t=>exact ⟨_,_,rfl,s.seq h,t⟩
 ·obtain ⟨xs,i,t⟩:=h;exact ⟨a,xs,e,.inl (.inl i),t⟩
theorem TopIs.tup {K:Frag} {F H:Hp} {v:V} {ds:List D} (s:Same F H) (h:TopIs K F H v (.tup ds)):∃ a xs,v=.ref a/\SqT K H a xs/\IsL K F xs ds:=by
 rcases h with h | ⟨a,e,h⟩
 ·cases h with
  | tup h t=>exact ⟨_,_,rfl,je s h,t⟩
 ·exact h.elim
theorem TopIs.dct {K:Frag} {F H:Hp} {v:V} {ds:List (Key×D)} (s:Same F H) (h:TopIs K F H v (.dct ds)):∃ a kv,v=.ref a/\H a=iD (.dK kv)/\IsK K F kv ds:=by
 rcases h with h | ⟨a,e,h⟩
 ·cases h with
  | dct h t=>exact ⟨_,_,rfl,s _ _ h,t⟩
 ·obtain ⟨xs,i,t⟩:=h;exact ⟨a,xs,e,i,t⟩
theorem XO {fn:iG->iG->Sem iG} {P:Int->Int->Prop} [∀ i j,Decidable (P i j)] {g:Int->Int->V} {d:Int->Int->D} (m:OpR X fn (rI P g)) (hg:∀ F i j,Is C.K F (g i j) (d i j)):OpD X C .sh fn (Qa λi j=>if P i j then .ok (d i j) else .bad):=by
 intro pins s σ H x y v u Q I r c h;obtain ⟨F,dx,a,b,t,ty,po⟩:=h;cases dx <;> try exact po.elim
 cases a <;> try exact po.elim
 rename_i i j;have po:PoV C .sh F H (if P i j then .ok (d i j) else .bad) Q:=po;obtain rfl:=t.int;obtain rfl:=ty.int;by_cases q:P i j;·rw [if_pos q] at po;exact m pins s σ H _ _ v u Q I r c ⟨i,j,rfl,rfl,q,po (g i j) F H b .refl (hg F i j)⟩
 ·rw [if_neg q] at po; exact po.elim
theorem XQ {fn:iG->iG->Sem iG} {g:Int->Int->V} {d:Int->Int->D} (m:OpR X fn (rI0 g)) (hg:∀ F i j,Is C.K F (g i j) (d i j)):OpD X C .sh fn (Qa λi j=>.ok (d i j)):=by
 intro pins s σ H x y v u Q I r c h;obtain ⟨F,dx,a,q,t,ty,po⟩:=h;cases dx <;> try exact po.elim
 cases a <;> try exact po.elim
 rename_i i j;obtain rfl:=t.int;obtain rfl:=ty.int;exact m pins s σ H _ _ v u Q I r c ⟨i,j,rfl,rfl,po (g i j) F H q .refl (hg F i j)⟩
noncomputable def Ua:D->D->Out D:=Qa λi j=>.ok (.int (i - j))
theorem zx:OpD X C .sh (binaryOp .Sub) Ua:=XQ qeJ λ_ _ _=>.int _
instance:∀ i j,Decidable (CMul i j):=λi j=>inferInstanceAs (Decidable (_\/_))
instance:∀ i j,Decidable (qih i j):=λi j=>inferInstanceAs (Decidable (_/\_))
noncomputable def qek:D->D->Out D:=Qa λi j=>if CMul i j then .ok (.int (i * j)) else .bad
theorem XR:OpD X C .sh (binaryOp .Mult) qek:=XO qeK λ_ _ _=>.int _
noncomputable def Ub:D->D->Out D:=Qa λi j=>if 0 < j then .ok (.int (i % j)) else .bad
theorem zy:OpD X C .sh (binaryOp .Mod) Ub:=XO qeL λ_ _ _=>.int _
noncomputable def vN (x y:Str):Bool:=decide (x.cps.toList < y.cps.toList)
noncomputable def ltD:D->D->Out D
 | .int i,.int j=>.ok (.bl (decide (i < j)))
 | .str x,.str y=>.ok (.bl (vN x y))
 | _,_=>.bad
theorem qc6:OpD X C .sh (compareOp .Lt) ltD:=by
 intro pins s σ H x y v u Q I d c h;obtain ⟨F,dx,a,q,t,ty,po⟩:=h;cases dx <;> try exact po.elim
 ·cases a <;> try exact po.elim
  obtain rfl:=t.int;obtain rfl:=ty.int;exact qgO pins s σ H _ _ v u Q I d c ⟨_,_,rfl,rfl,po _ F H q .refl (.bl _)⟩
 ·cases a <;> try exact po.elim
  obtain ⟨rfl,_⟩:=t.str;obtain ⟨rfl,_⟩:=ty.str;exact Xr pins s σ H _ _ v u Q I d c ⟨_,_,rfl,rfl,po _ F H q .refl (.bl _)⟩
end
noncomputable def eqS (a b:D):Option Bool:=match a with
 | .non=>match b with
  | .non=>iD iI
  | .bl _=>iD iH
  | .int _=>iD iH
  | .str _=>iD iH
  | .tup _=>iD iH
  | .lst _=>iD iH
  | .dct _ | .raw _ | .xcp _ | .ins _ _ | .at_ _ _=>iF
 | .bl x=>match b with
  | .non=>iD iH
  | .bl y=>iD (x == y)
  | .int y=>iD ((if x then 1 else 0) == y)
  | .str _=>iD iH
  | .tup _=>iD iH
  | .lst _=>iD iH
  | .dct _ | .raw _ | .xcp _ | .ins _ _ | .at_ _ _=>iF
 | .int x=>match b with
  | .non=>iD iH
  | .bl y=>iD (x == (if y then 1 else 0))
  | .int y=>iD (x == y)
  | .str _=>iD iH
  | .tup _=>iD iH
  | .lst _=>iD iH
  | .dct _ | .raw _ | .xcp _ | .ins _ _ | .at_ _ _=>iF
 | .str x=>match b with
  | .non=>iD iH
  | .bl _=>iD iH
  | .int _=>iD iH
  | .str y=>iD (x == y)
  | .tup _=>iD iH
  | .lst _=>iD iH
  | .dct _ | .raw _ | .xcp _ | .ins _ _ | .at_ _ _=>iF
 | .tup x=>match b with
  | .non=>iD iH
  | .bl _=>iD iH
  | .int _=>iD iH
  | .str _=>iD iH
  | .tup _=>iF
  | .lst _=>iD iH
  | .dct _ | .raw _ | .xcp _ | .ins _ _ | .at_ _ _=>iF
 | .lst x=>match b with
  | .non=>iD iH
  | .bl _=>iD iH
  | .int _=>iD iH
  | .str _=>iD iH
  | .tup _=>iD iH
  | .lst _=>iF
  | .dct _ | .raw _ | .xcp _ | .ins _ _ | .at_ _ _=>iF
 | .dct _ | .raw _ | .xcp _ | .ins _ _ | .at_ _ _=>iF
noncomputable def wX (f:D->D->Option Bool):List D->List D->Option Bool
 | x::xs,y::ys=>(f x y).bind λa=>(wX f xs ys).bind λb=>iD (a&&b)
 | _,_=>iD iI
noncomputable def eqN:Nat->D->D->Option Bool
 | n+1,.tup xs,.tup ys=>(wX (eqN n) xs ys).map λb=>b&&xs.length == ys.length
 | n+1,.lst xs,.lst ys=>if xs.length=ys.length then wX (eqN n) xs ys else iD iH
 | _,a,b=>eqS a b
theorem Uc {n:Nat} {a b:D} (h1:∀ xs ys,a=.tup xs->b≠.tup ys) (h2:∀ xs ys,a=.lst xs->b≠.lst ys):eqN n a b=eqS a b:=by
 cases n with
 | zero=>rfl
 | succ n=>
  cases a with
  | tup xs=>cases b with
   | tup ys=>exact absurd rfl (h1 xs ys rfl)
   | _=>rfl
  | lst xs=>cases b with
   | lst ys=>exact absurd rfl (h2 xs ys rfl)
   | _=>rfl
  | _=>rfl
noncomputable def itE (f:D->D->Option Bool) (xs ys:List D) (j:Nat):Bool:=((xs[j]?).bind λx=>(ys[j]?).bind λy=>f x y).getD iH
theorem wp {f:D->D->Option Bool}:∀ {xs ys:List D} {b:Bool},wX f xs ys=iD b->b=(bE (min xs.length ys.length)).all (itE f xs ys)
 | [],ys,b,h=>by simp [wX] at h ⊢; exact h
 | x::xs,[],b,h=>by simp [wX] at h ⊢; exact h
 | x::xs,y::ys,b,h=>by
  unfold wX at h;cases e:f x y with
  | none=>rw [e] at h; simp at h
  | some a=>
   cases i:wX f xs ys with
   | none=>rw [e,i] at h; simp at h
   | some c=>
    rw [e,i] at h;have h:(a&&c)=b:=by simpa using h
    have d:=wp i;have m:min (x::xs).length (y::ys).length=min xs.length ys.length+1:=by simp only [ac]; omega
    rw [m,List.range_succ_eq_map,fL,List.all_map];have g:itE f (x::xs) (y::ys) 0=a:=by simp [itE,e]
    have e1:(itE f (x::xs) (y::ys)) ∘ Nat.succ=itE f xs ys:=by funext j;simp [itE]
    rw [g,e1,<-d];exact h.symm
theorem XS {f:D->D->Option Bool}:∀ {xs ys:List D} {b:Bool},wX f xs ys=iD b->∀ (j:Nat) (x y:D),xs[j]?=iD x->ys[j]?=iD y->f x y=iD (itE f xs ys j)
 | [],ys,b,_,j,x,y,hx,_=>by simp at hx
 | x::xs,[],b,_,j,_,y,_,hy=>by simp at hy
 | x::xs,y::ys,b,h,0,x',y',hx,hy=>by
  simp at hx hy;subst hx hy;unfold wX at h;cases e:f x y with
  | none=>rw [e] at h; simp at h
  | some a=>simp [itE,e]
 | x::xs,y::ys,b,h,j+1,x',y',hx,hy=>by
  unfold wX at h;cases e:f x y with
  | none=>rw [e] at h; simp at h
  | some a=>
   cases i:wX f xs ys with
   | none=>rw [e,i] at h; simp at h
   | some c=>have q:=XS i j x' y' (by simpa using hx) (by simpa using hy);rw [q];simp [itE]
section
variable {X:Cx} {pins:List (Addr×Obj)} {σ:St} {F H:Hp} {s:iJ}
noncomputable def smp:D->Bool
 | .non | .bl _ | .int _ | .str _ | .tup _ | .lst _=>iI
 | .dct _ | .raw _ | .xcp _ | .ins _ _ | .at_ _ _=>iH
theorem XT {n:Nat} {d e:D} {b:Bool} (h:eqN n d e=iD b):smp d=true:=by cases d <;> first | rfl | (cases n <;> exact nomatch (show iF=iD b from h))
theorem qg1 {n:Nat} {d e:D} {b:Bool} (h:eqN n d e=iD b):smp e=true:=by cases e <;> first | rfl | (cases n <;> cases d <;> exact nomatch (show iF=iD b from h))
theorem XU (I:Inv X pins σ H s) (b:Same F H) {a:Addr} {xs ys:List V} (p:SqT X.K F a xs) (q:SqL X.K F a ys):False:=by obtain ⟨_,_,c,_⟩:=I.list (b.seq q);obtain ⟨_,_,d,_⟩:=I.tuple (je b p);exact absurd rfl (PySem.SeqAt.ne_of_list_tuple c.isList d)
theorem zA {f:D->D->Option Bool} {x y:D} {xs ys:List D} {b:Bool} (h:wX f (x::xs) (y::ys)=iD b):∃ a c,f x y=iD a/\wX f xs ys=iD c/\b=(a&&c):=by
 unfold wX at h;cases e:f x y with
 | none=>rw [e] at h; cases h
 | some a=>
  cases i:wX f xs ys with
  | none=>rw [e,i] at h; cases h
  | some c=>rw [e,i] at h; exact ⟨a,c,rfl,rfl,(aU.inj h).symm⟩
theorem VJ {n:Nat} {xs ys:List D} {b:Bool} (h:eqN (n+1) (.tup xs) (.tup ys)=iD b):∃ c,wX (eqN n) xs ys=iD c/\b=(c&&xs.length == ys.length):=by
 have h:((wX (eqN n) xs ys).map λb=>b&&xs.length == ys.length)=iD b:=h;cases e:wX (eqN n) xs ys with
 | none=>rw [e] at h; cases h
 | some c=>rw [e] at h; exact ⟨c,rfl,(aU.inj h).symm⟩
theorem XV (I:Inv X pins σ H s) (g:Same F H):∀ (n:Nat) {v:V} {d e:D} {b:Bool},Is X.K F v d->Is X.K F v e->eqN n d e=iD b->b=true:=by
 have base:∀ {n:Nat} {v:V} {d e:D} {b:Bool},Is X.K F v d->Is X.K F v e->eqN n d e=iD b->(∀ a xs ds es,Is X.K F (.ref a) (.tup ds)->SqT X.K F a xs->IsL X.K F xs ds->IsL X.K F xs es->eqN n (.tup ds) (.tup es)=iD b->b=iI)->(∀ a xs ds es,SqL X.K F a xs->IsL X.K F xs ds->IsL X.K F xs es->eqN n (.lst ds) (.lst es)=iD b->b=iI)->b=true:=by
  intro n v d e b h1 h2 h m hl;have s1:=XT h;have s2:=qg1 h;cases h1 with
  | non=>cases h2 with
   | non=>cases n <;> exact (aU.inj h).symm
   | raw=>cases s2
  | bl x=>cases h2 with
   | bl=>cases n <;> exact (aU.inj h).symm.trans (beq_self_eq_true x)
   | raw=>cases s2
  | int x=>cases h2 with
   | int=>cases n <;> exact (aU.inj h).symm.trans (beq_self_eq_true x)
   | raw=>cases s2
  | str _=>cases h2 with
   | str _=>cases n <;> exact (aU.inj h).symm.trans (beq_self_eq_true _)
   | raw=>cases s2
  | tup p1 f=>cases h2 with
   | tup p2 t=>have q:=I.tuple_inj (je g p1) (je g p2);subst q;exact m _ _ _ _ (.tup p1 f) p1 f t h
   | lst p2 t=>exact (XU I g p1 p2).elim
   | _=>cases s2
  | lst p1 f=>cases h2 with
   | lst p2 t=>have q:=I.list_inj (g.seq p1) (g.seq p2);subst q;exact hl _ _ _ _ p1 f t h
   | tup p2 t=>exact (XU I g p2 p1).elim
   | _=>cases s2
  | _=>cases s1
 intro n
 induction n with
 | zero=>exact λ{_ _ _ _} h1 h2 h=>base h1 h2 h (λ_ _ _ _ _ _ _ _ h=>nomatch (show iF=iD _ from h)) λ_ _ _ _ _ _ _ h=>nomatch (show iF=iD _ from h)
 | succ n k=>
  have l:∀ {xs:List V} {ds es:List D} {b:Bool},IsL X.K F xs ds->IsL X.K F xs es->wX (eqN n) ds es=iD b->b=true:=by
   intro xs
   induction xs with
   | nil=>intro ds es b h1 h2 h; cases h1; cases h2; exact (aU.inj h).symm
   | cons x xs i=>
    intro ds es b h1 h2 h;cases h1 with
    | cons p f=>
     cases h2 with
     | cons o t=>obtain ⟨a,c,q,j,rfl⟩:=zA h;rw [k p o q,i f t j];rfl
  intro v d e b h1 h2 h;refine base h1 h2 h (λa xs ds es _ _ f t h=>?_) λa xs ds es _ f t h=>?_;·obtain ⟨c,q,rfl⟩:=VJ h;rw [l f t q,f.length.symm.trans t.length,beq_self_eq_true];rfl
  ·have h:(if ds.length=es.length then wX (eqN n) ds es else iD iH)=iD _:=h;rw [if_pos (f.length.symm.trans t.length)] at h;exact l f t h
end
open PySem.SeqAt
section
variable {X:Cx} {pins:List (Addr×Obj)} {σ:St} {F H:Hp} {s:iJ}
theorem Vals.getE {xs:List V} {us:List iG} (r:Vals xs us) {j:Nat} (h:j < us.length):∃ x,xs[j]?=iD x/\RelV x us[j]:=by
 have hl:=r.length;have G:j < xs.length:=by omega
 obtain ⟨u,e1,e⟩:=Vals.get (i:=j) (x:=xs[j]) r (by simp [G]);refine ⟨xs[j],by simp [G],?_⟩;rw [aM h] at e1;cases e1;exact e
theorem uE {A:iO} {n:Nat} {xs ys:List V} {ds es:List D} {us ws:List iG} {b:Bool} (g:∀ {v w:V} {d e:D} {u t:iG} {b:Bool},Is X.K F v d->Is X.K F w e->RelV v u->RelV w t->eqN n d e=iD b->EqAt A s u t b)
  (r1:Vals xs us) (r2:Vals ys ws) (i1:IsL X.K F xs ds) (i2:IsL X.K F ys es) (h:wX (eqN n) ds es=iD b) :
  ∀ j (h1:j < us.toArray.size) (h2:j < ws.toArray.size),EqAt A s us.toArray[j] ws.toArray[j] (itE (eqN n) ds es j):=by
 intro j h1 h2;have c:j < us.length:=by simpa using h1
 have a:j < ws.length:=by simpa using h2
 obtain ⟨x,ex,f⟩:=Vals.getE r1 c;obtain ⟨y,l,r⟩:=Vals.getE r2 a;obtain ⟨d,o,i⟩:=i1.get ex;obtain ⟨e,m,k⟩:=i2.get l;have q:=XS h j d e o m;simpa using g i k f r q
theorem Ud {A:iO} {n:Nat} {a c:Addr} {xs ys:List V} {ds es:List D} {b:Bool} (I:Inv X pins σ H s) (j:∀ {v w:V} {d e:D} {u t:iG} {b:Bool},Is X.K F v d->Is X.K F w e->RelV v u->RelV w t->eqN n d e=iD b->EqAt A.in1 s u t b)
  (p1:SqT X.K H a xs) (p2:SqT X.K H c ys) (i1:IsL X.K F xs ds) (i2:IsL X.K F ys es) (h:eqN (n+1) (.tup ds) (.tup es)=iD b) (m:A.units < cLine):RcAt A s (.ref a) (.ref c) b:=by
 obtain ⟨us,r1,g,_⟩:=I.tuple p1;obtain ⟨ws,r2,f,_⟩:=I.tuple p2;simp only [eqN] at h;cases q:wX (eqN n) ds es with
 | none=>rw [q] at h; simp at h
 | some k=>
  rw [q] at h;have i:us.toArray.size=ds.length:=by rw [aw,<-r1.length,i1.length]
  have l:ws.toArray.size=es.length:=by rw [aw,<-r2.length,i2.length]
  have z:=RcAt.tuples (A:=A) g f m (uE (A:=A.in1) j r1 r2 i1 i2 q);rw [i,l,<-wp q] at z;have e:b=(k&&ds.length == es.length):=by simpa using h.symm
  rw [e]; exact z
theorem Ue {A:iO} {n:Nat} {a c:Addr} {xs ys:List V} {ds es:List D} {b:Bool} (I:Inv X pins σ H s) (k:∀ {v w:V} {d e:D} {u t:iG} {b:Bool},Is X.K F v d->Is X.K F w e->RelV v u->RelV w t->eqN n d e=iD b->EqAt A.in1 s u t b)
  (p1:SqL X.K H a xs) (p2:SqL X.K H c ys) (i1:IsL X.K F xs ds) (i2:IsL X.K F ys es) (h:eqN (n+1) (.lst ds) (.lst es)=iD b) (j:A.units < cLine):RcAt A s (.ref a) (.ref c) b:=by
 obtain ⟨us,r1,g,_⟩:=I.list p1;obtain ⟨ws,r2,f,_⟩:=I.list p2;have i:us.toArray.size=ds.length:=by rw [aw,<-r1.length,i1.length]
 have l:ws.toArray.size=es.length:=by rw [aw,<-r2.length,i2.length]
 simp only [eqN] at h;by_cases hl:ds.length=es.length;·rw [if_pos hl] at h;have z:=RcAt.lists (A:=A) g.isList f.isList (by omega) j (uE (A:=A.in1) k r1 r2 i1 i2 h);have e:=wp h;rw [i] at z;rw [e,show min ds.length es.length=ds.length by omega];exact z
 ·rw [if_neg hl] at h;cases h;exact RcAt.lists_lengths g.isList f.isList (bne_iff_ne.mpr (by rw [i,l]; exact hl)) j
def Kd (s:iJ):D->iG->Prop
 | .non,u=>u=.none
 | .bl b,u=>u=.bool b
 | .int i,u=>∃ t,u=.int i t
 | .str x,u=>∃ t,u=.str x t
 | .tup _,u=>∃ a its,u=.ref a/\s.heap.IsTuple a its
 | .lst _,u=>∃ a its,u=.ref a/\s.heap.IsList a its
 | _,_=>True
theorem Yz (I:Inv X pins σ H s) (b:Same F H) {v:V} {d:D} {u:iG} (t:TopIs X.K F H v d) (r:RelV v u):Kd s d u:=by
 cases d with
 | non=>obtain rfl:=t.non; exact r
 | bl=>obtain rfl:=t.bl; exact r
 | int=>obtain rfl:=t.int; exact r
 | str=>obtain ⟨rfl,_⟩:=t.str; exact r
 | tup=>obtain ⟨a,_,rfl,p,_⟩:=t.tup b; obtain ⟨_,_,q,_⟩:=I.tuple p; exact ⟨a,_,r,q⟩
 | lst=>obtain ⟨a,_,rfl,p,_⟩:=t.lst b; obtain ⟨_,_,q,_⟩:=I.list p; exact ⟨a,_,r,q.isList⟩
 | _=>trivial
theorem qe2 {A:iO} {d e:D} {u t:iG} {b:Bool} (a:A.units < cLine) (k1:Kd s d u) (k2:Kd s e t) (h:eqS d e=iD b):EqAt A s u t b:=by
 cases d <;> cases e <;> try (cases h; done)
 all_goals
  cases h;first | obtain ⟨_,_,rfl,c⟩:=k1 | obtain ⟨_,rfl⟩:=k1 | cases k1
  first | obtain ⟨_,_,rfl,q⟩:=k2 | obtain ⟨_,rfl⟩:=k2 | cases k2
  with_reducible first | exact EqAt.same _ | exact EqAt.none_bool _ | exact EqAt.none_int _ _ | exact EqAt.none_str _ _ | exact EqAt.bool_none _ | exact EqAt.bool_bool _ _ | exact EqAt.bool_int _ _ _ | exact EqAt.bool_str _ _ _ | exact EqAt.int_none _ _ | exact EqAt.int_bool _ _ _ | exact EqAt.int_int _ _ _ _ | exact EqAt.int_str _ _ _ _ | exact EqAt.str_none _ _ | exact EqAt.str_bool _ _ _ | exact EqAt.str_int _ _ _ _ | exact EqAt.str_str _ _ _ _ | exact EqAt.none_tuple q a | exact EqAt.tuple_none c a | exact EqAt.none_list q a | exact EqAt.list_none c a | exact EqAt.bool_tuple _ q a | exact EqAt.tuple_bool _ c a | exact EqAt.bool_list _ q a | exact EqAt.list_bool _ c a | exact EqAt.int_tuple _ _ q a | exact EqAt.tuple_int _ _ c a | exact EqAt.int_list _ _ q a | exact EqAt.list_int _ _ c a | exact EqAt.str_tuple _ _ q a | exact EqAt.tuple_str _ _ c a | exact EqAt.str_list _ _ q a | exact EqAt.list_str _ _ c a | exact EqAt.tuple_list c q a | exact EqAt.list_tuple c q a
theorem XW (I:Inv X pins σ H s) (q:Same F H):∀ (n:Nat) {A:iO} {v w:V} {d e:D} {u t:iG} {b:Bool},A.units+n < cLine->Is X.K F v d->Is X.K F w e->RelV v u->RelV w t->eqN n d e=iD b->EqAt A s u t b:=by
 intro n
 induction n with
 | zero=>exact λB h1 h2 x r h=>qe2 (by omega) (Yz I q (.inl h1) x) (Yz I q (.inl h2) r) h
 | succ n l=>
  intro A v w d e u t b B h1 h2 x r h;have i:A.in1.units+n < cLine:=by show A.units+1+n < cLine; omega
  by_cases both:(∃ xs ys,d=.tup xs/\e=.tup ys)\/(∃ xs ys,d=.lst xs/\e=.lst ys)
  ·rcases both with ⟨ds,es,rfl,rfl⟩ | ⟨ds,es,rfl,rfl⟩
   ·have g:=h1;have f:=h2;cases h1 with
    | tup p1 k=>
     cases h2 with
     | tup p2 j=>
      rename_i a xs c ys;cases x;cases r;by_cases ne:a=c;·subst ne;rw [XV I q (n+1) g f h];exact EqAt.same _
      ·exact EqAt.of_refs ne (Ud I (λp o z y m=>l i p o z y m) (je q p1) (je q p2) k j h (by omega))
   ·have g:=h1;have f:=h2;cases h1 with
    | lst p1 k=>
     cases h2 with
     | lst p2 j=>
      rename_i a xs c ys;cases x;cases r;by_cases ne:a=c;·subst ne;rw [XV I q (n+1) g f h];exact EqAt.same _
      ·exact EqAt.of_refs ne (Ue I (λp o z y m=>l i p o z y m) (q.seq p1) (q.seq p2) k j h (by omega))
  ·have e1:eqN (n+1) d e=eqS d e:=Uc (λxs ys p o=>both (.inl ⟨xs,ys,p,o⟩)) (λxs ys p o=>both (.inr ⟨xs,ys,p,o⟩));have C:eqN n d e=eqS d e:=Uc (λxs ys p o=>both (.inl ⟨xs,ys,p,o⟩)) (λxs ys p o=>both (.inr ⟨xs,ys,p,o⟩));exact l (by omega) h1 h2 x r (by rw [C,<-e1]; exact h)
end
end L2.D2
namespace L2.D2
open PySem PySem.Spec PyProof.Rows
open PySem.SeqAt
variable {X:Cx} {A:iO} {n:Nat} {b:Bool}
section
variable {pins:List (Addr×Obj)} {σ:St} {F H:Hp} {s:iJ}
theorem qaJ {a c:Addr} {xs ys:List V} {ds es:List D} (I:Inv X pins σ H s) (j:∀ {v w:V} {d e:D} {u t:iG} {b:Bool},Is X.K F v d->Is X.K F w e->RelV v u->RelV w t->eqN n d e=iD b->EqAt A.in1 s u t b)
  (p1:SqT X.K H a xs) (p2:SqT X.K H c ys) (i1:IsL X.K F xs ds) (i2:IsL X.K F ys es) (h:eqN (n+1) (.tup ds) (.tup es)=iD b) (m:A.units < cLine):RcNeAt A s (.ref a) (.ref c) (!b):=by
 obtain ⟨us,r1,g,_⟩:=I.tuple p1;obtain ⟨ws,r2,f,_⟩:=I.tuple p2;simp only [eqN] at h;cases q:wX (eqN n) ds es with
 | none=>rw [q] at h; simp at h
 | some k=>
  rw [q] at h;have i:us.toArray.size=ds.length:=by rw [aw,<-r1.length,i1.length]
  have l:ws.toArray.size=es.length:=by rw [aw,<-r2.length,i2.length]
  have z:=RcNeAt.tuples (A:=A) g f m (uE (A:=A.in1) j r1 r2 i1 i2 q);rw [i,l,<-wp q] at z;have e:b=(k&&ds.length == es.length):=by simpa using h.symm
  rw [e]; exact z
theorem qaK {a c:Addr} {xs ys:List V} {ds es:List D} (I:Inv X pins σ H s) (k:∀ {v w:V} {d e:D} {u t:iG} {b:Bool},Is X.K F v d->Is X.K F w e->RelV v u->RelV w t->eqN n d e=iD b->EqAt A.in1 s u t b)
  (p1:SqL X.K H a xs) (p2:SqL X.K H c ys) (i1:IsL X.K F xs ds) (i2:IsL X.K F ys es) (h:eqN (n+1) (.lst ds) (.lst es)=iD b) (j:A.units < cLine):RcNeAt A s (.ref a) (.ref c) (!b):=by
 obtain ⟨us,r1,g,_⟩:=I.list p1;obtain ⟨ws,r2,f,_⟩:=I.list p2;have i:us.toArray.size=ds.length:=by rw [aw,<-r1.length,i1.length]
 have l:ws.toArray.size=es.length:=by rw [aw,<-r2.length,i2.length]
 simp only [eqN] at h;by_cases hl:ds.length=es.length;·rw [if_pos hl] at h;have z:=RcNeAt.lists (A:=A) g.isList f.isList (by omega) j (uE (A:=A.in1) k r1 r2 i1 i2 h);have e:=wp h;rw [i] at z;rw [e,show min ds.length es.length=ds.length by omega];exact z
 ·rw [if_neg hl] at h;cases h;exact RcNeAt.lists_lengths g.isList f.isList (bne_iff_ne.mpr (by rw [i,l]; exact hl)) j
theorem qe3 (I:Inv X pins σ H s) (i:Same F H) {v w:V} {d e:D} {u t:iG} (m:A.units+n+1 < cLine) (k:TopIs X.K F H v d) (j:TopIs X.K F H w e) (x:RelV v u) (r:RelV w t) (h:eqN (n+1) d e=iD b):RcAt A s u t b:=by
 have f:A.units < cLine:=by omega
 have l:∀ {v w:V} {d e:D} {u t:iG} {b:Bool},Is X.K F v d->Is X.K F w e->RelV v u->RelV w t->eqN n d e=iD b->EqAt A.in1 s u t b:=λB p z y o=>XW I i n (by show A.units+1+n < cLine; omega) B p z y o;have k1:=Yz I i k x;have k2:=Yz I i j r;cases d <;> cases e <;> try (cases h; done)
 case tup.tup=>
  obtain ⟨a,xs,rfl,p1,i1⟩:=k.tup i; obtain ⟨c,ys,rfl,p2,i2⟩:=j.tup i; cases x; cases r;exact Ud I l p1 p2 i1 i2 h f
 case lst.lst=>
  obtain ⟨a,xs,rfl,p1,i1⟩:=k.lst i; obtain ⟨c,ys,rfl,p2,i2⟩:=j.lst i; cases x; cases r;exact Ue I l p1 p2 i1 i2 h f
 all_goals
  cases h;clear x r k j;first | obtain ⟨_,_,rfl,g⟩:=k1 | obtain ⟨_,rfl⟩:=k1 | cases k1
  first | obtain ⟨_,_,rfl,q⟩:=k2 | obtain ⟨_,rfl⟩:=k2 | cases k2
  with_reducible first | exact RcAt.none_none | exact RcAt.none_bool _ | exact RcAt.none_int _ _ | exact RcAt.none_str _ _ | exact RcAt.bool_none _ | exact RcAt.bool_bool _ _ | exact RcAt.bool_int _ _ _ | exact RcAt.bool_str _ _ _ | exact RcAt.int_none _ _ | exact RcAt.int_bool _ _ _ | exact RcAt.int_int _ _ _ _ | exact RcAt.int_str _ _ _ _ | exact RcAt.str_none _ _ | exact RcAt.str_bool _ _ _ | exact RcAt.str_int _ _ _ _ | exact RcAt.str_str _ _ _ _ | exact RcAt.none_tuple q f | exact RcAt.tuple_none g f | exact RcAt.none_list q f | exact RcAt.list_none g f | exact RcAt.bool_tuple _ q f | exact RcAt.tuple_bool _ g f | exact RcAt.bool_list _ q f | exact RcAt.list_bool _ g f | exact RcAt.int_tuple _ _ q f | exact RcAt.tuple_int _ _ g f | exact RcAt.int_list _ _ q f | exact RcAt.list_int _ _ g f | exact RcAt.str_tuple _ _ q f | exact RcAt.tuple_str _ _ g f | exact RcAt.str_list _ _ q f | exact RcAt.list_str _ _ g f | exact RcAt.tuple_list g q f | exact RcAt.list_tuple g q f
theorem qe4 (I:Inv X pins σ H s) (i:Same F H) {v w:V} {d e:D} {u t:iG} (m:A.units+n+1 < cLine) (k:TopIs X.K F H v d) (j:TopIs X.K F H w e) (x:RelV v u) (r:RelV w t) (h:eqN (n+1) d e=iD b):RcNeAt A s u t (!b):=by
 have f:A.units < cLine:=by omega
 have l:∀ {v w:V} {d e:D} {u t:iG} {b:Bool},Is X.K F v d->Is X.K F w e->RelV v u->RelV w t->eqN n d e=iD b->EqAt A.in1 s u t b:=λB p z y o=>XW I i n (by show A.units+1+n < cLine; omega) B p z y o;have k1:=Yz I i k x;have k2:=Yz I i j r;cases d <;> cases e <;> try (cases h; done)
 case tup.tup=>
  obtain ⟨a,xs,rfl,p1,i1⟩:=k.tup i; obtain ⟨c,ys,rfl,p2,i2⟩:=j.tup i; cases x; cases r;exact qaJ I l p1 p2 i1 i2 h f
 case lst.lst=>
  obtain ⟨a,xs,rfl,p1,i1⟩:=k.lst i; obtain ⟨c,ys,rfl,p2,i2⟩:=j.lst i; cases x; cases r;exact qaK I l p1 p2 i1 i2 h f
 all_goals
  cases h;clear x r k j;first | obtain ⟨_,_,rfl,g⟩:=k1 | obtain ⟨_,rfl⟩:=k1 | cases k1
  first | obtain ⟨_,_,rfl,q⟩:=k2 | obtain ⟨_,rfl⟩:=k2 | cases k2
  try simp only [fM,fH]
  with_reducible first | exact RcNeAt.none_none | exact RcNeAt.none_bool _ | exact RcNeAt.none_int _ _ | exact RcNeAt.none_str _ _ | exact RcNeAt.bool_none _ | exact RcNeAt.bool_bool _ _ | exact RcNeAt.bool_int _ _ _ | exact RcNeAt.bool_str _ _ _ | exact RcNeAt.int_none _ _ | exact RcNeAt.int_bool _ _ _ | exact RcNeAt.int_int _ _ _ _ | exact RcNeAt.int_str _ _ _ _ | exact RcNeAt.str_none _ _ | exact RcNeAt.str_bool _ _ _ | exact RcNeAt.str_int _ _ _ _ | exact RcNeAt.str_str _ _ _ _ | exact RcNeAt.none_tuple q f | exact RcNeAt.tuple_none g f | exact RcNeAt.none_list q f | exact RcNeAt.list_none g f | exact RcNeAt.bool_tuple _ q f | exact RcNeAt.tuple_bool _ g f | exact RcNeAt.bool_list _ q f | exact RcNeAt.list_bool _ g f | exact RcNeAt.int_tuple _ _ q f | exact RcNeAt.tuple_int _ _ g f | exact RcNeAt.int_list _ _ q f | exact RcNeAt.list_int _ _ g f | exact RcNeAt.str_tuple _ _ q f | exact RcNeAt.tuple_str _ _ g f | exact RcNeAt.str_list _ _ q f | exact RcNeAt.list_str _ _ g f | exact RcNeAt.tuple_list g q f | exact RcNeAt.list_tuple g q f | with_unfolding_all first | exact RcNeAt.bool_bool _ _ | exact RcNeAt.bool_int _ _ _ | exact RcNeAt.int_bool _ _ _ | exact RcNeAt.int_int _ _ _ _ | exact RcNeAt.str_str _ _ _ _
end
noncomputable def eqD (a b:D):Out D:=match eqN 8 a b with
 | some c=>.ok (.bl c)
 | none=>.bad
noncomputable def neD (a b:D):Out D:=match eqN 8 a b with
 | some c=>.ok (.bl (!c))
 | none=>.bad
section
variable {C:Ct}
theorem wa (l:C.K=X.K) (b:X.A.units+64 < cLine):OpD X C .sh (compareOp .Eq) eqD:=by
 intro pins s σ H x y v u Q I d r h;obtain ⟨F,dx,a,q,t,ty,po⟩:=h;rw [l] at t ty;unfold eqD at po;cases e:eqN 8 dx a with
 | none=>rw [e] at po; exact po.elim
 | some c=>rw [e] at po;exact qe3 I q (n:=7) (by omega) t ty d r e _ _ _ _ ⟨.bl c,H,I,rfl,po _ F H q .refl (.bl _)⟩
theorem VL (l:C.K=X.K) (b:X.A.units+64 < cLine):OpD X C .sh (compareOp .NotEq) neD:=by
 intro pins s σ H x y v u Q I d r h;obtain ⟨F,dx,a,q,t,ty,po⟩:=h;rw [l] at t ty;unfold neD at po;cases e:eqN 8 dx a with
 | none=>rw [e] at po; exact po.elim
 | some c=>rw [e] at po;exact qe4 I q (n:=7) (by omega) t ty d r e _ _ _ _ ⟨.bl _,H,I,rfl,po _ F H q .refl (.bl _)⟩
end
end L2.D2
namespace L2.D2
open PySem PySem.Spec PyProof.Rows
open PySem.SeqAt
variable {X:Cx} {pins:List (Addr×Obj)} {σ:St} {F H:Hp} {s:iJ} {n:Nat} {v:V} {d e:D} {b:Bool}
section
theorem qc7 (I:Inv X pins σ H s) (j:Same F H):∀ (n:Nat) {v:V} {d d' e:D} {b f:Bool},Is X.K F v d->Is X.K F v d'->eqN n d e=iD b->eqN n d' e=iD f->b=f:=by
 intro n
 induction n with
 | zero=>
  intro v d d' e b f h1 h2 e1 i;have s1:=XT e1;have s2:=XT i;cases h1 <;> cases h2 <;> first
   | exact aU.inj (e1.symm.trans i)
   | (cases s1; done)
   | (cases s2; done)
   | exact (XU I j (by assumption) (by assumption)).elim
   | exact aU.inj (e1.symm.trans (Eq.trans (by cases e <;> rfl) i))
 | succ n r=>
  have l:∀ {xs:List V} {ds g es:List D} {b f:Bool},IsL X.K F xs ds->IsL X.K F xs g->wX (eqN n) ds es=iD b->wX (eqN n) g es=iD f->b=f:=by
   intro xs
   induction xs with
   | nil=>intro ds g es b f h1 h2 e1 i; cases h1; cases h2; exact aU.inj (e1.symm.trans i)
   | cons x xs o=>
    intro ds g es b f h1 h2 e1 i;cases h1 with
    | cons w h=>
     cases h2 with
     | cons u t=>
      cases es with
      | nil=>exact aU.inj (e1.symm.trans i)
      | cons e es=>obtain ⟨a,c,q,p,rfl⟩:=zA e1;obtain ⟨y,T,m,k,rfl⟩:=zA i;rw [r w u q m,o h t p k]
  intro v d d' e b f h1 h2 e1 i;have s1:=XT e1;have s2:=XT i;cases h1 with
  | tup p1 h=>
   cases h2 with
   | tup p2 t=>
    have q:=I.tuple_inj (je j p1) (je j p2);subst q;have hl:=h.length.symm.trans t.length;cases e with
    | tup es=>obtain ⟨c,q,rfl⟩:=VJ e1;obtain ⟨T,m,rfl⟩:=VJ i;rw [l h t q m,hl]
    | _=>exact aU.inj (e1.symm.trans i)
   | lst p2 t=>exact (XU I j p1 p2).elim
   | _=>cases s2
  | lst p1 h=>
   cases h2 with
   | lst p2 t=>
    have q:=I.list_inj (j.seq p1) (j.seq p2);subst q;have hl:=h.length.symm.trans t.length;cases e with
    | lst es=>
     have e1:(if _=es.length then wX (eqN n) _ es else iD iH)=iD b:=e1;have i:(if _=es.length then wX (eqN n) _ es else iD iH)=iD f:=i;rw [hl] at e1;split at i;·rw [if_pos (by assumption)] at e1; exact l h t e1 i
     ·rw [if_neg (by assumption)] at e1; exact aU.inj (e1.symm.trans i)
    | _=>exact aU.inj (e1.symm.trans i)
   | tup p2 t=>exact (XU I j p2 p1).elim
   | _=>cases s2
  | _=>cases h2 <;> first
   | exact aU.inj (e1.symm.trans i)
   | (cases s1; done)
   | (cases s2; done)
open Classical in
noncomputable def YA (X:Cx) (F:Hp) (n:Nat) (e:D) (u:iG):Bool:=decide (∃ v d,Is X.K F v d/\RelV v u/\eqN n d e=iD iI)
open Classical in
theorem XX (I:Inv X pins σ H s) (a:Same F H) {u:iG} (h:Is X.K F v d) (r:RelV v u) (q:eqN n d e=iD b):YA X F n e u=b:=by
 unfold YA;cases b with
 | true=>exact decide_eq_true ⟨v,d,h,r,q⟩
 | false=>refine decide_eq_false ?_;rintro ⟨w,d',h',r',f⟩;have e:=r.inj r';subst e;exact absurd (qc7 I a n h h' q f) (by decide)
noncomputable def xO (n:Nat) (e:D):List D->Option Bool
 | []=>iD iH
 | d::ds=>(eqN n d e).bind λa=>(xO n e ds).bind λb=>iD (a||b)
theorem JX {ds:List D} (h:xO n e (d::ds)=iD b):∃ a c,eqN n d e=iD a/\xO n e ds=iD c/\b=(a||c):=by
 unfold xO at h;cases q:eqN n d e with
 | none=>rw [q] at h; simp at h
 | some a=>
  cases f:xO n e ds with
  | none=>rw [q,f] at h; simp at h
  | some c=>rw [q,f] at h; exact ⟨a,c,rfl,rfl,(aU.inj h).symm⟩
theorem XY (I:Inv X pins σ H s) (q:Same F H):∀ {vs:List V} {ds:List D} {us:List iG} {b:Bool},IsL X.K F vs ds->Vals vs us->xO n e ds=iD b->us.any (YA X F n e)=b/\∀ u∈us,∃ v d a,Is X.K F v d/\RelV v u/\eqN n d e=iD a/\YA X F n e u=a
 | _,_,_,b,.nil,.nil,h=>⟨by simpa using (aU.inj h),λu f=>nomatch f⟩
 | _,_,_,b,.cons i t,.cons r rs,h=>by
  obtain ⟨a,c,k,l,rfl⟩:=JX h;obtain ⟨j,g⟩:=XY I q t rs l;have e1:=XX I q i r k;refine ⟨by rw [di,e1,j],λu f=>?_⟩;rcases ah.mp f with rfl | f;·exact ⟨_,_,a,i,r,k,e1⟩
  ·exact g u f
end
noncomputable def inD (x y:D):Out Bool:=match y with
 | .lst ds=>match xO 7 x ds with
  | some b=>.ok b
  | none=>.bad
 | .tup ds=>match xO 7 x ds with
  | some b=>.ok b
  | none=>.bad
 | _=>.bad
noncomputable def qgm (x y:D):Out D:=(inD x y).bind λb=>.ok (.bl b)
noncomputable def JY (x y:D):Out D:=(inD x y).bind λb=>.ok (.bl (!b))
theorem TopIs.is {K:Frag} (s:Same F H) (h:TopIs K F H v d):∃ F',Same F F'/\Same F' H/\Is K F' v d:=by
 rcases h with h | ⟨a,rfl,o⟩
 ·exact ⟨F,Same.refl _,s,h⟩
 ·obtain ⟨u,hu⟩:∃ u,H a=iD u:=by
   cases q:H a with
   | none=>exact absurd q o.there
   | some u=>exact ⟨u,rfl⟩
  by_cases f:F a=iF
  ·have gr:Same F (upd F a u):=λb w e=>by rw [qt (qD e f)]; exact e
   refine ⟨upd F a u,gr,λb w e=>?_,?_⟩
   ·by_cases q:b=a;·subst q; rw [qm] at e; cases e; exact hu
    ·rw [qt q] at e; exact s b w e
   ·cases d with
    | lst ds=>obtain ⟨xs,e,t⟩:=o; rw [hu] at e; cases e; exact .lst (.inl (.inl qm)) (t.mono gr)
    | dct ds=>obtain ⟨xs,e,t⟩:=o; rw [hu] at e; cases e; exact .dct qm (t.mono gr)
    | ins C fs=>obtain ⟨dx,xs,e,t⟩:=o; rw [hu] at e; cases e; exact .ins qm (t.mono gr)
    | at_ b ds=>obtain ⟨B,xs,e,t⟩:=o; rw [hu] at e; cases e; subst B; exact .at_ (.inl (.inl qm)) (t.mono gr)
    | _=>exact o.elim
  ·obtain ⟨w,hw⟩:∃ w,F a=iD w:=by
    cases q:F a with
    | none=>exact absurd q f
    | some w=>exact ⟨w,rfl⟩
   have e:=s a w hw;cases d with
   | lst ds=>obtain ⟨xs,c,t⟩:=o; rw [c] at e; cases e; exact ⟨F,Same.refl _,s,.lst (.inl (.inl hw)) t⟩
   | dct ds=>obtain ⟨xs,c,t⟩:=o; rw [c] at e; cases e; exact ⟨F,Same.refl _,s,.dct hw t⟩
   | ins C fs=>obtain ⟨dx,xs,c,t⟩:=o; rw [c] at e; cases e; exact ⟨F,Same.refl _,s,.ins hw t⟩
   | at_ b ds=>obtain ⟨B,xs,c,t⟩:=o; rw [c] at e; cases e; subst B; exact ⟨F,Same.refl _,s,.at_ (.inl (.inl hw)) t⟩
   | _=>exact o.elim
section
variable {C:Ct}
theorem Qb {A:iO} {y x:V} {dx:D} {ds:List D} {b:Bool} {u v:iG} {a:Addr} {us:List iG} {xs:List V} (I:Inv X pins σ H s) (j:A.units+64 < cLine) (c:Same F H) (ix:Is X.K F x dx) (f:RelV x v)
  (i:IsL X.K F xs ds) (r:Vals xs us) (h:xO 7 dx ds=iD b):us.any (YA X F 7 dx)=b/\∀ w,w∈us.toArray->EqAt A.in1 s w v (YA X F 7 dx w):=by
 obtain ⟨h1,h2⟩:=XY I c i r h;refine ⟨h1,λw hw=>?_⟩;obtain ⟨g,d,k,i1,r1,q,e⟩:=h2 w (by simpa using hw);rw [e];exact XW I c 7 (by show A.units+1+7 < cLine; omega) i1 ix r1 f q
theorem qg2 (l:C.K=X.K) (g:X.A.units+64 < cLine):OpD X C .sh (compareOp .In) qgm:=by
 intro pins s σ H x y v u Q I f d h;obtain ⟨F,dx,j,q,t,ty,po⟩:=h;rw [l] at t ty;unfold qgm inD at po;obtain ⟨F',g',c,ix⟩:=t.is q;cases j with
 | lst ds=>
  cases e:xO 7 dx ds with
  | none=>simp only [e] at po; exact po.elim
  | some b=>simp only [e] at po;obtain ⟨a,xs,rfl,p,i⟩:=ty.lst q;cases d;obtain ⟨us,r,pl,_⟩:=I.list p;obtain ⟨h1,h2⟩:=Qb (A:=X.A) (y:=.non) (a:=a) (u:=.none) I g c ix f (i.mono g') r e;refine in_listAt (YA X F' 7 dx) pl.isList h2 ⟨.bl b,H,I,by show _=_; rw [<-h1]; simp,po _ F H q .refl (.bl _)⟩
 | tup ds=>
  cases e:xO 7 dx ds with
  | none=>simp only [e] at po; exact po.elim
  | some b=>simp only [e] at po;obtain ⟨a,xs,rfl,p,i⟩:=ty.tup q;cases d;obtain ⟨us,r,pl,_⟩:=I.tuple p;obtain ⟨h1,h2⟩:=Qb (A:=X.A) (y:=.non) (a:=a) (u:=.none) I g c ix f (i.mono g') r e;refine in_tupleAt (YA X F' 7 dx) pl h2 ⟨.bl b,H,I,by show _=_; rw [<-h1]; simp,po _ F H q .refl (.bl _)⟩
 | _=>exact po.elim
theorem qaL (l:C.K=X.K) (g:X.A.units+64 < cLine):OpD X C .sh (compareOp .NotIn) JY:=by
 intro pins s σ H x y v u Q I f d h;obtain ⟨F,dx,j,q,t,ty,po⟩:=h;rw [l] at t ty;unfold JY inD at po;obtain ⟨F',g',c,ix⟩:=t.is q;cases j with
 | lst ds=>
  cases e:xO 7 dx ds with
  | none=>simp only [e] at po; exact po.elim
  | some b=>simp only [e] at po;obtain ⟨a,xs,rfl,p,i⟩:=ty.lst q;cases d;obtain ⟨us,r,pl,_⟩:=I.list p;obtain ⟨h1,h2⟩:=Qb (A:=X.A) (y:=.non) (a:=a) (u:=.none) I g c ix f (i.mono g') r e;refine notIn_listAt (YA X F' 7 dx) pl.isList h2 ⟨.bl (!b),H,I,by show _=_; rw [<-h1]; simp,po _ F H q .refl (.bl _)⟩
 | tup ds=>
  cases e:xO 7 dx ds with
  | none=>simp only [e] at po; exact po.elim
  | some b=>simp only [e] at po;obtain ⟨a,xs,rfl,p,i⟩:=ty.tup q;cases d;obtain ⟨us,r,pl,_⟩:=I.tuple p;obtain ⟨h1,h2⟩:=Qb (A:=X.A) (y:=.non) (a:=a) (u:=.none) I g c ix f (i.mono g') r e;refine notIn_tupleAt (YA X F' 7 dx) pl h2 ⟨.bl (!b),H,I,by show _=_; rw [<-h1]; simp,po _ F H q .refl (.bl _)⟩
 | _=>exact po.elim
end
end L2.D2
namespace L2.D2
open PySem PySem.Spec PyProof.Rows
def PoT (C:Ct) (own:List Nat) (σ:St) (F H:Hp) (r:Out (Bool×Sl)) (Q:Bool->Hp->Prop):Prop:=match r with
 | .ok (b,ρ')=>∀ F' H',Rep C.K own F' H' σ ρ'->Chg (OA own σ) F H F' H'->Q b H'
 | .exc c ρ'=>∀ F' H',Same F' H'->Xg C.K C.ox F' H' σ ρ'->Chg (OA own σ) F H F' H'->C.E (C.cv c) iF H'
 | .bad=>False
def tT (C:Ct) (own:List Nat) (f:Sl->Out (Bool×Sl)):TT:=λσ H Q=>∃ F ρ,Rep C.K own F H σ ρ/\PoT C own σ F H (f ρ) Q
variable {C:Ct} {own:List Nat} {σ:St} {F H F1 H1:Hp} {Q:Bool->Hp->Prop}
theorem PoT.shift {r:Out (Bool×Sl)} (h:PoT C own σ F H r Q) (c:Chg (OA own σ) F H F1 H1):PoT C own σ F1 H1 r Q:=by
 cases r with
 | ok p=>exact λF' H' a T=>h F' H' a (c.trans' T)
 | exc x=>exact λF' H' s io T=>h F' H' s io (c.trans' T)
 | bad=>exact h.elim
variable {o:Out (D×Sl)}
theorem PoT.bindV {ma:Mo} {k:D×Sl->Out (Bool×Sl)} {R:VK} (hp:PoT C own σ F H (o.bind k) Q)
  (h:∀ v F1 H1 d ρ1,Rep C.K own F1 H1 σ ρ1->Chg (OA own σ) F H F1 H1->MoIs C.K ma H F1 H1 v d->PoT C own σ F1 H1 (k (d,ρ1)) Q->R v H1):Po C own ma σ F H o R:=by
 cases o with
 | ok p=>obtain ⟨d,ρ1⟩:=p;exact λv F1 H1 a c mo=>h v F1 H1 d ρ1 a c mo (PoT.shift (show PoT C own σ F H (k (d,ρ1)) Q from hp) c)
 | exc x=>exact hp
 | bad=>exact hp.elim
theorem PoT.bindT {o:Out (Bool×Sl)} {k:Bool×Sl->Out (Bool×Sl)} {R:Bool->Hp->Prop} (hp:PoT C own σ F H (o.bind k) Q)
  (h:∀ F1 H1 b ρ1,Rep C.K own F1 H1 σ ρ1->Chg (OA own σ) F H F1 H1->PoT C own σ F1 H1 (k (b,ρ1)) Q->R b H1):PoT C own σ F H o R:=by
 cases o with
 | ok p=>obtain ⟨d,ρ1⟩:=p;exact λF1 H1 a c=>h F1 H1 d ρ1 a c (PoT.shift (show PoT C own σ F H (k (d,ρ1)) Q from hp) c)
 | exc x=>exact hp
 | bad=>exact hp.elim
variable {m:Mo}
theorem Po.bindT {o:Out (Bool×Sl)} {k:Bool×Sl->Out (D×Sl)} {Q:VK} {R:Bool->Hp->Prop} (hp:Po C own m σ F H (o.bind k) Q)
  (h:∀ F1 H1 b ρ1,Rep C.K own F1 H1 σ ρ1->Chg (OA own σ) F H F1 H1->Po C own m σ F1 H1 (k (b,ρ1)) Q->R b H1):PoT C own σ F H o R:=by
 cases o with
 | ok p=>obtain ⟨d,ρ1⟩:=p;exact λF1 H1 a c=>h F1 H1 d ρ1 a c (Po.shift (show Po C own m σ F H (k (d,ρ1)) Q from hp) c)
 | exc x=>exact hp
 | bad=>exact hp.elim
noncomputable def uO:D->Out Bool
 | .non=>.ok iH
 | .bl b=>.ok b
 | .int i=>.ok (i != 0)
 | .str x=>.ok ((x.length:Int) != 0)
 | .tup xs=>.ok (!xs.isEmpty)
 | .lst xs=>.ok (!xs.isEmpty)
 | .dct xs=>.ok (!xs.isEmpty)
 | .raw _=>.bad
 | .xcp _=>.bad
 | .ins _ _=>.bad
 | .at_ _ _=>.bad
noncomputable def Qc (f:Sl->Out (D×Sl)):Sl->Out (Bool×Sl):=λρ=>(f ρ).bind λp=>(uO p.1).bind λb=>.ok (b,p.2)
variable {K:Frag} {vs:List V} {ds:List D}
theorem IsL.isEmpty (h:IsL K F vs ds):vs.isEmpty=ds.isEmpty:=by cases h <;> rfl
theorem IsK.isEmpty {vs:List (Key×V)} {ds:List (Key×D)} (h:IsK K F vs ds):vs.isEmpty=ds.isEmpty:=by cases h <;> rfl
variable {v:V} {d:D}
theorem qc8 {b:Bool} (s:Same F H) (h:TopIs K F H v d) (e:uO d=.ok b):qgR K v H b:=by
 cases d with
 | non=>obtain rfl:=h.non; cases e; rfl
 | bl x=>obtain rfl:=h.bl; cases e; rfl
 | int x=>obtain rfl:=h.int; cases e; rfl
 | str x=>obtain ⟨rfl,q⟩:=h.str; cases e; exact ⟨q,rfl⟩
 | tup x=>obtain ⟨a,xs,rfl,p,t⟩:=h.tup s; cases e; exact .inr (.inl ⟨xs,p,by rw [t.isEmpty]⟩)
 | lst x=>obtain ⟨a,xs,rfl,p,t⟩:=h.lst s; cases e; exact .inl ⟨xs,p,by rw [t.isEmpty]⟩
 | dct x=>obtain ⟨a,xs,rfl,p,t⟩:=h.dct s; cases e; exact .inr (.inr ⟨xs,p,by rw [t.isEmpty]⟩)
 | raw x=>cases e
 | xcp x=>cases e
 | ins x y=>cases e
 | at_ x y=>cases e
noncomputable def qP (f:Sl->Out (D×Sl)):Sl->Out (Bool×Sl):=λρ=>(f ρ).bind λp=>match p.1 with
 | .bl b=>.ok (b,p.2)
 | _=>.bad
variable {X:Cx} {c e:Expr} {f fa fb:Sl->Out (D×Sl)} {ft:Sl->Out (Bool×Sl)} {ma mb:Mo} {pos:Pos} {op op':CmpOp} {ρ:Sl} {g':D->D->Out D}
section
variable {a b:Expr} {fc:Sl->Out (D×Sl)} {fu:Sl->Out (Bool×Sl)} {mc:Mo} {rest:List Expr}
theorem jD (l:C.K=X.K) (h:PE X e (tE C own m f)) (g:∀ whole,isTrue e X.env whole=(do let v <-whole; standAt e.pos; holding [v] (truthy v))):PT X e (tT C own (Qc f)):=by
 refine qaH (qav h g) λσ H Q ⟨F,ρ,r,h⟩=>⟨F,ρ,r,PoT.bindV h λv F1 H1 d ρ1 a i c h1=>?_⟩
 cases q:uO d with
 | ok k=>have h1:PoT C own σ F1 H1 ((uO d).bind λb=>.ok (b,ρ1)) Q:=h1;rw [q] at h1;exact ⟨k,by rw [<-l]; exact qc8 a.sub c.top q,h1 F1 H1 a .refl⟩
 | exc x=>have h1:PoT C own σ F1 H1 ((uO d).bind λb=>.ok (b,ρ1)) Q:=h1;cases d <;> cases q
 | bad=>have h1:PoT C own σ F1 H1 ((uO d).bind λb=>.ok (b,ρ1)) Q:=h1;rw [q] at h1;exact h1.elim
theorem XZ (h:tT C own (qP f) σ H Q):tE C own .sh f σ H λx H'=>∃ k,x=.bl k/\Q k H':=by
 obtain ⟨F,ρ,r,h⟩:=h;refine ⟨F,ρ,r,PoT.bindV h λv F1 H1 d ρ1 a l c h1=>?_⟩;cases d with
 | bl k=>have c:Is C.K F1 v (.bl k):=c;cases c;exact ⟨k,rfl,h1 F1 H1 a .refl⟩
 | _=>exact h1.elim
theorem qI {g:D->D->Out D} (m:OpD X C .sh (compareOp op) g) (c:PE X a (tE C own ma fa)) (hb:PE X b (tE C own mb fb)) (f:ma≠.any:=by decide)
  (k:behindInMarks op b=false:=by first | exact qb7 _ | with_unfolding_all rfl):PT X (.Compare a [op] [b] pos) (tT C own (qP (d2 g fa fb))):=by
 refine qaH (qcR m c hb k) λσ H Q h=>?_;exact JV f (XZ h)
noncomputable def JI (ft:Sl->Out (Bool×Sl)):Sl->Out (Bool×Sl):=λρ=>(ft ρ).bind λp=>.ok (!p.1,p.2)
theorem jQ (h:PT X a (tT C own ft)):PT X (.UnaryOp .Not a pos) (tT C own (JI ft)):=by refine qaH (qeA h) λσ H Q ⟨F,ρ,p,h⟩=>⟨F,ρ,p,PoT.bindT h λF1 H1 b ρ1 r l h1=>h1 F1 H1 r .refl⟩
theorem qe5 {e:Expr} {t t':TT} (h:PW X e t) (i:∀ σ H Q,t' σ H Q->t σ H Q):PW X e t':=⟨λw pins s σ H Q I hw=>h w pins s σ H Q I (i σ H Q hw)⟩
noncomputable def qgn (ft fu:Sl->Out (Bool×Sl)):Sl->Out (Bool×Sl):=λρ=>(ft ρ).bind λp=>if p.1=iI then fu p.2 else .ok (iH,p.2)
noncomputable def dOr (ft fu:Sl->Out (Bool×Sl)):Sl->Out (Bool×Sl):=λρ=>(ft ρ).bind λp=>if p.1=iI then .ok (iI,p.2) else fu p.2
theorem wb {op} (h:PT X a (tT C own ft)):PW X (.BoolOp op [a] pos) (tT C own ft):=by
 cases op;·exact qcM h
 ·exact qey h
theorem qc9 (f:PT X a (tT C own ft)) (hb:PW X (.BoolOp .And (b::rest) pos) (tT C own fu)):PW X (.BoolOp .And (a::b::rest) pos) (tT C own (qgn ft fu)):=by
 refine qe5 (qez f hb) λσ H Q ⟨F,ρ,p,h⟩=>⟨F,ρ,p,PoT.bindT h λF1 H1 k ρ1 r l h1=>?_⟩
 cases k with
 | true=>exact ⟨F1,ρ1,r,h1⟩
 | false=>exact h1 F1 H1 r .refl
theorem yp (f:PT X a (tT C own ft)) (hb:PW X (.BoolOp .Or (b::rest) pos) (tT C own fu)):PW X (.BoolOp .Or (a::b::rest) pos) (tT C own (dOr ft fu)):=by
 refine qe5 (qgC f hb) λσ H Q ⟨F,ρ,p,h⟩=>⟨F,ρ,p,PoT.bindT h λF1 H1 k ρ1 r l h1=>?_⟩
 cases k with
 | true=>exact h1 F1 H1 r .refl
 | false=>exact ⟨F1,ρ1,r,h1⟩
noncomputable def JZ (fa fb:Sl->Out (D×Sl)):Sl->Out (D×Sl):=λρ=>(fa ρ).bind λp=>match p.1 with
 | .bl iI=>fb p.2
 | .bl iH=>.ok (.bl iH,p.2)
 | _=>.bad
noncomputable def qhE (fa fb:Sl->Out (D×Sl)):Sl->Out (D×Sl):=λρ=>(fa ρ).bind λp=>match p.1 with
 | .bl iI=>.ok (.bl iI,p.2)
 | .bl iH=>fb p.2
 | _=>.bad
theorem Uf {op} (h:PE X a (tE C own m f)):PE X (.BoolOp op [a] pos) (tE C own m f):=qeB h
theorem Ka (f:PE X a (tE C own .sh fa)) (hb:PE X (.BoolOp .And (b::rest) pos) (tE C own .sh fb)):PE X (.BoolOp .And (a::b::rest) pos) (tE C own .sh (JZ fa fb)):=by
 refine jh (qeC f hb) λσ H Q ⟨F,ρ,p,h⟩=>⟨F,ρ,p,Po.bind h λv F1 H1 d ρ1 r l c h1=>?_⟩
 cases d with
 | bl k=>
  have c:Is C.K F1 v (.bl k):=c;cases c;refine ⟨k,rfl,?_⟩;cases k with
  | true=>exact ⟨F1,ρ1,r,h1⟩
  | false=>exact h1 _ F1 H1 r .refl (.bl _)
 | _=>exact h1.elim
noncomputable def dIf (ft:Sl->Out (Bool×Sl)) (fa fb:Sl->Out (D×Sl)):Sl->Out (D×Sl):=λρ=>(ft ρ).bind λp=>if p.1=iI then fa p.2 else fb p.2
theorem xP {t:Expr} (l:PT X t (tT C own ft)) (f:PE X a (tE C own ma fa)) (hb:PE X b (tE C own mb fb)) (h1:ma≠.any:=by decide) (h2:mb≠.any:=by decide):PE X (.IfExp t a b pos) (tE C own .sh (dIf ft fa fb)):=by
 refine jh (qao l (vi f h1) (vi hb h2)) λσ H Q ⟨F,ρ,p,h⟩=>⟨F,ρ,p,Po.bindT h λF1 H1 k ρ1 r c h1=>?_⟩
 cases k with
 | true=>exact ⟨F1,ρ1,r,h1⟩
 | false=>exact ⟨F1,ρ1,r,h1⟩
noncomputable def yq (g g':D->D->Out D) (fa fb fc:Sl->Out (D×Sl)):Sl->Out (D×Sl):=λρ=>(fa ρ).bind λp=>(fb p.2).bind λq=>(g p.1 q.1).plain.bind λz=>match z with
 | .bl iI=>(fc q.2).bind λr=>(g' q.1 r.1).plain.bind λd=>.ok (d,r.2)
 | .bl iH=>.ok (.bl iH,q.2)
 | _=>.bad
theorem PoV.bind {o:Out D} {k:D->Out (D×Sl)} {Q R:VK} (a:Rep C.K own F H σ ρ) (h:Po C own m σ F H (o.plain.bind k) Q)
  (b:∀ v F1 H1 d,Rep C.K own F1 H1 σ ρ->Chg No F H F1 H1->MoIs C.K ma H F1 H1 v d->Po C own m σ F1 H1 (k d) Q->R v H1):PoV C ma F H o R:=by
 cases o with
 | ok d=>exact λv F1 H1 s c mo=>b v F1 H1 d (a.grow c s) c mo (Po.shift (show Po C own m σ F H (k d) Q from h) c.ofNo)
 | exc c=>exact h.elim
 | bad=>exact h.elim
theorem Ug {g:D->D->Out D} {Q:VK} (t:ma≠.any) (l:mb≠.any) (h:tE C own .sh (yq g g' fa fb fc) σ H Q):Xu (λx y H Q=>∃ F dx n,Same F H/\TopIs C.K F H x dx/\TopIs C.K F H y n/\PoV C .sh F H (g dx n) Q) (λx y H Q=>∃ F dx n,Same F H/\TopIs C.K F H x dx/\TopIs C.K F H y n/\PoV C .sh F H (g' dx n) Q)
   (tE C own ma fa) (tE C own mb fb) (tE C own mc fc) σ H Q:=by
 obtain ⟨F,ρ,A,h⟩:=h;refine ⟨F,ρ,A,Po.bind h λv F1 H1 d ρ1 i O s h1=>⟨F1,ρ1,i,Po.bind h1 λw N H2 e p f c2 j h2=>?_⟩⟩;have oa:∀ x,OA own σ x->H x≠none:=λx z=>(A.OA_there z).1;have o:∀ x,OA own σ x->H1 x≠none:=λx z=>(i.OA_there z).1;refine ⟨N,d,e,f.sub,(s.grow t c2 oa).top,j.top,PoV.bind (m:=.sh) f h2 λz F3 L G c J a u=>?_⟩;cases G with
 | bl k=>
  have a:Is C.K F3 z (.bl k):=a;cases a;refine ⟨k,rfl,?_⟩;cases k with
  | true=>refine ⟨F3,p,c,Po.bind u λS M P r B b I q E=>?_⟩;exact ⟨M,e,r,b.sub,((j.grow l (J.ofNo) o).grow l I o).top,q.top,PoV.of b E⟩
  | false=>exact u _ F3 L c .refl (.bl _)
 | _=>exact u.elim
theorem Uh {g:D->D->Out D} (m:OpD X C .sh (compareOp op) g) (d:OpD X C .sh (compareOp op') g') (j:PE X a (tE C own ma fa)) (hb:PE X b (tE C own mb fb)) (i:PE X c (tE C own mc fc)) (f:ma≠.any:=by decide) (l:mb≠.any:=by decide)
  (e:lastMarks [op,op'] [b,c]=false:=by with_unfolding_all rfl):PE X (.Compare a [op,op'] [b,c] pos) (tE C own .sh (yq g g' fa fb fc)):=jh (qat m d j hb i e) λ_ _ _ h=>Ug f l h
theorem Kb {g:D->D->Out D} (m:OpD X C .sh (compareOp op) g) (d:OpD X C .sh (compareOp op') g') (j:PE X a (tE C own ma fa)) (hb:PE X b (tE C own mb fb)) (i:PE X c (tE C own mc fc)) (f:ma≠.any:=by decide) (l:mb≠.any:=by decide)
  (e:lastMarks [op,op'] [b,c]=false:=by with_unfolding_all rfl):PT X (.Compare a [op,op'] [b,c] pos) (tT C own (qP (yq g g' fa fb fc))):=qaH (qau m d j hb i e) λ_ _ _ h=>Ug f l (XZ h)
theorem Za:OpR X (compareOp .LtE) (λx y H Q=>∃ i j,x=.str i/\y=.str j/\Q (.bl (!vN j i)) H):=by intro pins s σ H x y v u Q I d c h;obtain ⟨i,j,rfl,rfl,q⟩:=h;obtain ⟨t,rfl⟩:=d;obtain ⟨t',rfl⟩:=c;exact PySem.P.le_str (Xq I q (by simp [vN]))
noncomputable def leD:D->D->Out D
 | .int i,.int j=>.ok (.bl (decide (i<=j)))
 | .str x,.str y=>.ok (.bl (!vN y x))
 | _,_=>.bad
theorem Kc:OpD X C .sh (compareOp .LtE) leD:=by
 intro pins s σ H x y v u Q I d c h;obtain ⟨F,dx,a,q,t,ty,po⟩:=h;cases dx <;> try exact po.elim
 ·cases a <;> try exact po.elim
  obtain rfl:=t.int;obtain rfl:=ty.int;exact qgP pins s σ H _ _ v u Q I d c ⟨_,_,rfl,rfl,po _ F H q .refl (.bl _)⟩
 ·cases a <;> try exact po.elim
  obtain ⟨rfl,_⟩:=t.str;obtain ⟨rfl,_⟩:=ty.str;exact Za pins s σ H _ _ v u Q I d c ⟨_,_,rfl,rfl,po _ F H q .refl (.bl _)⟩
noncomputable def geD:D->D->Out D:=Qa λi j=>.ok (.bl (decide (j<=i)))
theorem qda:OpD X C .sh (compareOp .GtE) geD:=XQ qgQ λ_ _ _=>.bl _
noncomputable def qgo:D->D->Out D
 | .non,.non=>.ok (.bl iI)
 | .raw _,.non=>.bad
 | _,.non=>.ok (.bl iH)
 | _,_=>.bad
theorem TopIs.notN (h:TopIs K F H v d) (h1:d≠.non) (h2:∀ u,d≠.raw u):v≠.non:=by
 rintro rfl;rcases h with h | ⟨a,e,_⟩
 ·cases h;·exact h1 rfl
  ·exact h2 _ rfl
 ·cases e
theorem qe6:OpD X C .sh (compareOp .Is) qgo:=by
 intro pins s σ H x y v u Q I r c h;obtain ⟨F,dx,d,q,t,ty,po⟩:=h;have k:d=.non:=by cases d <;> first | rfl | (cases dx <;> exact po.elim)
 subst k;obtain rfl:=ty.non;refine qeN pins s σ H x .non v u Q I r c ⟨rfl,?_⟩;cases dx with
 | non=>obtain rfl:=t.non; exact po _ F H q .refl (.bl _)
 | raw _=>exact po.elim
 | _=>rw [decide_eq_false (t.notN (by intro z; cases z) (by intro _ z; cases z))]; exact po _ F H q .refl (.bl _)
end
inductive Fl where
 | nx | rt (d:D) | bk | ct
structure Nx (C:Ct) (own own':List Nat) (σ:St) (F H:Hp) (ρ':Sl) (σ':St) (F' H':Hp):Prop where
 rep:Rep C.K own' F' H' σ' ρ'
 chg:Chg (OA own σ) F H F' H'
 oa:∀ b,OA own' σ' b->OA own σ b\/H b=iF
 io:∀ i∈C.io,σ'[i]?=σ[i]?
def PoS (C:Ct) (own own':List Nat) (σ:St) (F H:Hp) (r:Out (Fl×Sl)) (D:Ends):Prop:=match r with
 | .ok (.nx,ρ')=>∀ σ' F' H',Nx C own own' σ F H ρ' σ' F' H'->D.nx σ' H'
 | .ok (.rt d,ρ')=>∀ v σ' F' H',Same F' H'->Xg C.K C.io F' H' σ' ρ'->Chg (OA own σ) F H F' H'->(∀ i∈C.io,σ'[i]?=σ[i]?)->MoIs C.K C.mr H F' H' v d->D.rt v H'
 | .ok (.bk,ρ')=>∀ σ' F' H',Nx C own C.ol σ F H ρ' σ' F' H'->D.bk σ' H'
 | .ok (.ct,ρ')=>∀ σ' F' H',Nx C own C.ol σ F H ρ' σ' F' H'->D.ct σ' H'
 | .exc c ρ'=>∀ F' H',Same F' H'->Xg C.K C.ox F' H' σ ρ'->Chg (OA own σ) F H F' H'->C.E (C.cv c) iF H'
 | .bad=>False
def tSt (C:Ct) (own own':List Nat) (f:Sl->Out (Fl×Sl)):TS:=λD σ H=>∃ F ρ,Rep C.K own F H σ ρ/\PoS C own own' σ F H (f ρ) D
variable {o1 o2 o3:List Nat} {σ1:St} {ρ1:Sl}
theorem Nx.then {c:St} {d H2:Hp} {j:Sl} (a:Nx C o1 o2 σ F H ρ1 σ1 F1 H1) (b:Nx C o2 o3 σ1 F1 H1 j c d H2):Nx C o1 o3 σ F H j c d H2 where
 rep:=b.rep
 chg:=a.chg.trans b.chg a.oa
 oa:=λx h=>by
  rcases b.oa x h with z | z;·exact a.oa x z
  ·refine .inr ?_;cases q:H x with
   | none=>rfl
   | some o=>exact absurd z (a.chg.stay x (by rw [q]; simp))
 io:=λi hi=>(b.io i hi).trans (a.io i hi)
theorem PoS.shift {r:Out (Fl×Sl)} {D:Ends} (h:PoS C o1 o3 σ F H r D) (a:Nx C o1 o2 σ F H ρ1 σ1 F1 H1):PoS C o2 o3 σ1 F1 H1 r D:=by
 cases r with
 | ok p=>
  obtain ⟨fl,ρ'⟩:=p;cases fl with
  | nx=>exact λσ' F' H' n=>h σ' F' H' (a.then n)
  | rt d=>exact λv σ' F' H' s io c e mo=>h v σ' F' H' s io (a.chg.trans c a.oa) (λi hi=>(e i hi).trans (a.io i hi)) (MoIs.back (Ha:=H1) a.chg mo)
  | bk=>exact λσ' F' H' n=>h σ' F' H' (a.then n)
  | ct=>exact λσ' F' H' n=>h σ' F' H' (a.then n)
 | exc c=>exact λF' H' s io T=>h F' H' s (λi hi=>by obtain ⟨d,b,e1,g,f⟩:=io i hi;exact ⟨d,b,e1,by rw [<-a.io i (C.oxs i hi)]; exact g,f⟩) (a.chg.trans T a.oa)
 | bad=>exact h.elim
theorem Nx.ofE (r:Rep C.K own F1 H1 σ ρ1) (c:Chg (OA own σ) F H F1 H1):Nx C own own σ F H ρ1 σ F1 H1:=⟨r,c,λ_ h=>.inl h,λ_ _=>rfl⟩
variable {own':List Nat}
theorem PoS.bindE {m:Mo} {k:D×Sl->Out (Fl×Sl)} {D:Ends} {R:VK} (hp:PoS C own own' σ F H (o.bind k) D)
  (h:∀ v F1 H1 d ρ1,Rep C.K own F1 H1 σ ρ1->Chg (OA own σ) F H F1 H1->MoIs C.K m H F1 H1 v d->PoS C own own' σ F1 H1 (k (d,ρ1)) D->R v H1):Po C own m σ F H o R:=by
 cases o with
 | ok p=>obtain ⟨d,ρ1⟩:=p;exact λv F1 H1 a c mo=>h v F1 H1 d ρ1 a c mo (PoS.shift (show PoS C own own' σ F H (k (d,ρ1)) D from hp) (.ofE a c))
 | exc x=>exact hp
 | bad=>exact hp.elim
theorem PoS.bindT {o:Out (Bool×Sl)} {k:Bool×Sl->Out (Fl×Sl)} {D:Ends} {R:Bool->Hp->Prop} (hp:PoS C own own' σ F H (o.bind k) D)
  (h:∀ F1 H1 b ρ1,Rep C.K own F1 H1 σ ρ1->Chg (OA own σ) F H F1 H1->PoS C own own' σ F1 H1 (k (b,ρ1)) D->R b H1):PoT C own σ F H o R:=by
 cases o with
 | ok p=>obtain ⟨d,ρ1⟩:=p;exact λF1 H1 a c=>h F1 H1 d ρ1 a c (PoS.shift (show PoS C own own' σ F H (k (d,ρ1)) D from hp) (.ofE a c))
 | exc x=>exact hp
 | bad=>exact hp.elim
variable {b a:Addr} {t':TS} {st:Stmt} {fe:Sl->Out (D×Sl)} {i:Nat} {x:Str} {pos':Pos}
section
variable {sts rest:List Stmt} {f g:Sl->Out (Fl×Sl)}
theorem Ke {t:TS} (h:PS X st t) (i:∀ D σ H,t' D σ H->t D σ H):PS X st t':=⟨λpins s σ H D I hw=>h pins s σ H D I (i D σ H hw)⟩
theorem Kf {t:TS} (h:PSs X sts t) (i:∀ D σ H,t' D σ H->t D σ H):PSs X sts t':=⟨λpins s σ H D I hw=>h pins s σ H D I (i D σ H hw)⟩
noncomputable def kn:Sl->Out (Fl×Sl):=λρ=>.ok (.nx,ρ)
noncomputable def jf (f g:Sl->Out (Fl×Sl)):Sl->Out (Fl×Sl):=λρ=>(f ρ).bind λp=>match p.1 with
 | .nx=>g p.2
 | fl=>.ok (fl,p.2)
theorem Nx.refl (r:Rep C.K own F H σ ρ):Nx C own own σ F H ρ σ F H:=.ofE r .refl
theorem qX:PSs X [] (tSt C own own kn):=Kf Vy λD σ H ⟨F,ρ,a,h⟩=>h σ F H (.refl a)
theorem qca {D:Ends} (h:tSt C o1 o3 (jf f g) D σ H):tSt C o1 o2 f { D with nx:=tSt C o2 o3 g D } σ H:=by
 obtain ⟨F,ρ,a,h⟩:=h;refine ⟨F,ρ,a,?_⟩;unfold jf at h;cases q:f ρ with
 | ok p=>
  rw [q] at h;obtain ⟨fl,ρ1⟩:=p;cases fl with
  | nx=>exact λσ' F' H' n=>⟨F',ρ1,n.rep,PoS.shift (show PoS C o1 o3 σ F H (g ρ1) D from h) n⟩
  | rt d=>exact h
  | bk=>exact h
  | ct=>exact h
 | exc c=>rw [q] at h; exact h
 | bad=>rw [q] at h; exact h.elim
theorem qo (h1:PS X st (tSt C o1 o2 f)) (h2:PSs X rest (tSt C o2 o3 g)):PSs X (st::rest) (tSt C o1 o3 (jf f g)):=Kf (uC h1 h2) λD σ H h=>qca h
theorem qp (h1:PS X st (tSt C o1 o2 f)):PSs X [st] (tSt C o1 o2 f):=Vz h1
theorem Rep.weak {K:Frag} {F H:Hp} {σ:St} {ρ:Sl}:∀ (drop:List Nat) {own own':List Nat},(∀ i,i∈own'↔i∈own/\i∉drop)->Rep K own F H σ ρ->∃ F',Rep K own' F' H σ ρ/\Chg (OA own σ) F H F' H
 | [],own,own',hs,rp=>⟨F,⟨rp.sub,rp.len,λi d hi=>rp.val i d λz=>hi ((hs i).mpr ⟨z,by simp⟩),λi d hi=>rp.ow i d ((hs i).mp hi).1,λi hi=>rp.opn i ((hs i).mp hi).1,λi j a hi G=>rp.dis i j a ((hs i).mp hi).1 ((hs j).mp G).1⟩,.refl⟩
 | k::r,own,own',hs,rp=>by
  obtain ⟨F1,c,n⟩:=Rep.weak r (own:=own) (own':=own.filter λi=>decide (i∉r)) (λi=>by simp) rp;by_cases f:k∈own/\k∉r
  ·obtain ⟨d,hd⟩:=c.opn k (by simp [f.1,f.2]);obtain ⟨a,h1,h2,g⟩:=c.ow k d (by simp [f.1,f.2]) hd;obtain ⟨u,hu⟩:∃ u,H a=iD u:=by
    cases q:H a with
    | none=>exact absurd q g.there
    | some u=>exact ⟨u,rfl⟩
   have gr:Same F1 (upd F1 a u):=λb w e=>by rw [qt (qD e h2)]; exact e
   refine ⟨upd F1 a u,⟨λb w e=>?_,c.len,λi d' hi e=>?_,λi d' hi e=>?_,λi hi=>?_,λi j b hi G=>?_⟩,?_⟩
   ·by_cases q:b=a;·subst q; rw [qm] at e; cases e; exact hu
    ·rw [qt q] at e; exact c.sub b w e
   ·by_cases q:i=k
    ·subst q;rw [hd] at e; cases e;refine ⟨_,h1,?_⟩;cases d with
     | lst ds=>obtain ⟨xs,e,t⟩:=g; rw [hu] at e; cases e; exact .lst (.inl (.inl qm)) (t.mono gr)
     | dct ds=>obtain ⟨xs,e,t⟩:=g; rw [hu] at e; cases e; exact .dct qm (t.mono gr)
     | ins C fs=>obtain ⟨dx,xs,e,t⟩:=g; rw [hu] at e; cases e; exact .ins qm (t.mono gr)
     | at_ b ds=>obtain ⟨B,xs,e,t⟩:=g; rw [hu] at e; cases e; subst B; exact .at_ (.inl (.inl qm)) (t.mono gr)
     | _=>exact g.elim
    ·obtain ⟨v,o,p⟩:=c.val i d' (λz=>by simp at z; exact hi ((hs i).mpr ⟨z.1,by simp [q,z.2]⟩)) e;exact ⟨v,o,p.mono gr⟩
   ·have h:=(hs i).mp hi;have s:i≠k:=λz=>h.2 (by simp [z]);have m:i∉r:=λz=>h.2 (by simp [z]);obtain ⟨b,o,p,x⟩:=c.ow i d' (by simp [h.1,m]) e;refine ⟨b,o,?_,x.grow gr λ_ z=>z⟩;have y:b≠a:=λz=>by subst z; exact s (c.dis i k b (by simp [h.1,m]) (by simp [f.1,f.2]) o h1)
    rw [qt y]; exact p
   ·have h:=(hs i).mp hi;exact c.opn i (by simp [h.1]; exact λz=>h.2 (by simp [z]))
   ·have h:=(hs i).mp hi;have l:=(hs j).mp G;exact c.dis i j b (by simp [h.1]; exact λz=>h.2 (by simp [z])) (by simp [l.1]; exact λz=>l.2 (by simp [z]))
   ·refine ⟨n.keep,n.stay,n.grow.trans gr,λb hb=>?_⟩;by_cases q:b=a;·exact .inr (.inr ⟨k,f.1,by rw [q]; exact h1⟩)
    ·rw [qt q] at hb; exact n.new b hb
  ·refine ⟨F1,⟨c.sub,c.len,λi d hi=>c.val i d λz=>?_,λi d hi=>c.ow i d ?_,λi hi=>c.opn i ?_,λi j a hi G=>c.dis i j a ?_ ?_⟩,n⟩;·simp at z;refine hi ((hs i).mpr ⟨z.1,?_⟩);simp only [ah,not_or];exact ⟨λq=>f (by subst q; exact z),z.2⟩
   all_goals
    first
     | (have q:=(hs _).mp hi; simp only [fq,decide_eq_true_eq]; exact ⟨q.1,λz=>q.2 (by simp [z])⟩)
     | (have q:=(hs _).mp G; simp only [fq,decide_eq_true_eq]; exact ⟨q.1,λz=>q.2 (by simp [z])⟩)
theorem OA.sub (h:∀ i∈own',i∈own) (q:OA own' σ b):OA own σ b:=let ⟨i,hi,e⟩:=q; ⟨i,h i hi,e⟩
theorem Nx.drop (drop:List Nat) (h:∀ i,i∈own'↔i∈own/\i∉drop) (r:Rep C.K own F H σ ρ):∃ F',Nx C own own' σ F H ρ σ F' H:=by obtain ⟨F',a,c⟩:=Rep.weak drop h r;exact ⟨F',a,c,λb q=>.inl (OA.sub (λi hi=>((h i).mp hi).1) q),λ_ _=>rfl⟩
noncomputable def uc (own drop:List Nat):List Nat:=own.filter λi=>decide (i∉drop)
theorem jb {own drop:List Nat} (i:Nat):i∈uc own drop↔i∈own/\i∉drop:=by simp [uc]
theorem QJ (drop:List Nat) (h:PSs X sts (tSt C (uc own drop) o2 f)):PSs X sts (tSt C own o2 f):=Kf h λD σ H ⟨F,ρ,a,h⟩=>by obtain ⟨F',n⟩:=Nx.drop (C:=C) drop (λi=>jb (own:=own) i) a;exact ⟨F',ρ,n.rep,h.shift n⟩
noncomputable def sIf (ft:Sl->Out (Bool×Sl)) (f g:Sl->Out (Fl×Sl)):Sl->Out (Fl×Sl):=λρ=>(ft ρ).bind λp=>if p.1=iI then f p.2 else g p.2
theorem jp {a b:List Stmt} (d:PT X c (tT C own ft)) (e:PSs X a (tSt C own own' f)) (hb:PSs X b (tSt C own own' g)):PS X (.If c a b pos) (tSt C own own' (sIf ft f g)):=by
 refine Ke (qgG d e hb) λD σ H ⟨F,ρ,p,h⟩=>⟨F,ρ,p,PoS.bindT h λF1 H1 k ρ1 r l h1=>?_⟩
 cases k with
 | true=>exact ⟨F1,ρ1,r,h1⟩
 | false=>exact ⟨F1,ρ1,r,h1⟩
noncomputable def uP (fe:Sl->Out (D×Sl)):Sl->Out (Fl×Sl):=λρ=>(fe ρ).bind λp=>.ok (.nx,p.2)
theorem jZ (g:PE X e (tE C own m fe)) (s:swapsWith e iF pos.line X.env=pure false:=by rfl):PS X (.Expr e pos) (tSt C own own (uP fe)):=by refine Ke (qcN g s) λD σ H ⟨F,ρ,r,h⟩=>⟨F,ρ,r,PoS.bindE h λv F1 H1 d ρ1 a l c h1=>h1 σ F1 H1 (.refl a)⟩
noncomputable def kr (fe:Sl->Out (D×Sl)):Sl->Out (Fl×Sl):=λρ=>(fe ρ).bind λp=>.ok (.rt p.1,p.2)
theorem Zb (g:PE X e (tE C own C.mr fe)) (o:∀ i∈C.io,i∈own:=by exact kq rfl):PS X (.Return (iD e) pos) (tSt C own own' (kr fe)):=by
 refine Ke (qeD g) λD σ H ⟨F,ρ,r,h⟩=>⟨F,ρ,r,?_⟩
 unfold kr at h;cases q:fe ρ with
 | ok p=>rw [q] at h;obtain ⟨d,ρ1⟩:=p;exact λv F1 H1 a l m=>h v σ F1 H1 a.sub (a.ioIs o) l (λ_ _=>rfl) m
 | exc c=>rw [q] at h; exact h
 | bad=>rw [q] at h; exact h.elim
theorem qu (g:PE X e (tE C own m fe)) (c:m≠.any:=by decide) (hr:C.mr=.sh:=by rfl) (o:∀ i∈C.io,i∈own:=by exact kq rfl):PS X (.Return (iD e) pos) (tSt C own own' (kr fe)):=Zb (by rw [hr]; exact vi g c) o
theorem Rep.put (r:Rep K own F H σ ρ) (hi:i < ρ.length) (is:Is K F v d):Rep K (uc own [i]) F H (σ.set i (iD v)) (ρ.set i (iD d)) where
 sub:=r.sub
 len:=by simp [r.len]
 val:=λj d' G e=>by
  by_cases q:j=i;·subst q;rw [aC hi] at e;cases e;exact ⟨v,aC (by rw [r.len]; exact hi),is⟩
  ·rw [aj (be q)] at e;obtain ⟨w,h1,h2⟩:=r.val j d' (λz=>G ((jb j).mpr ⟨z,by simp [q]⟩)) e;exact ⟨w,by rw [aj (be q)]; exact h1,h2⟩
 ow:=λj d' G e=>by have l:=(jb j).mp G;have q:j≠i:=λz=>l.2 (by simp [z]);rw [aj (be q)] at e;obtain ⟨a,h1,h2⟩:=r.ow j d' l.1 e;exact ⟨a,by rw [aj (be q)]; exact h1,h2⟩
 opn:=λj G=>by have l:=(jb j).mp G;have q:j≠i:=λz=>l.2 (by simp [z]);obtain ⟨d',e⟩:=r.opn j l.1;exact ⟨d',by rw [aj (be q)]; exact e⟩
 dis:=λj k a G c e1 b=>by have l:=(jb j).mp G;have h:=(jb k).mp c;rw [aj (λz=>l.2 (by simp [z]))] at e1;rw [aj (λz=>h.2 (by simp [z]))] at b;exact r.dis j k a l.1 h.1 e1 b
theorem OA.put (h:OA (uc own [i]) (σ.set i (iD v)) b):OA own σ b:=by obtain ⟨j,G,e⟩:=h;have l:=(jb j).mp G;rw [aj (λz=>l.2 (by simp [z]))] at e;exact ⟨j,l.1,e⟩
noncomputable def ku (i:Nat) (fe:Sl->Out (D×Sl)):Sl->Out (Fl×Sl):=λρ=>(fe ρ).bind λp=>if i < p.2.length then .ok (.nx,p.2.set i (iD p.1)) else .bad
theorem qL (l:X.N.Nodup) (hi:X.N[i]?=iD x) (hx:Loc X.env.scope x) (k:PE X e (tE C own m fe)) (f:m≠.any:=by decide) (o:i∉C.io:=by exact yo rfl) (s:swapsWith e (iD (.Name x pos')) pos.line X.env=pure false:=by rfl)
  (g:X.fn x=iI\/X.env.scope.names.lookup x=iD .local:=by first | exact .inl rfl | exact .inr rfl):PS X (.Assign [.Name x pos'] e pos) (tSt C own (uc own [i]) (ku i fe)):=by
 refine Ke (qb4 l hi hx (vi k f) s g) λD σ H ⟨F,ρ,r,h⟩=>⟨F,ρ,r,PoS.bindE h λv F1 H1 d ρ1 a n c h1=>?_⟩
 by_cases q:i < ρ1.length;·have h1:PoS C own (uc own [i]) σ F1 H1 (if i < ρ1.length then .ok (.nx,ρ1.set i (iD d)) else .bad) D:=h1;rw [if_pos q] at h1;exact h1 _ F1 H1 ⟨a.put q c,.refl,λb z=>.inl (OA.put z),λj G=>aj λz=>o (by rw [z]; exact G)⟩
 ·have h1:PoS C own (uc own [i]) σ F1 H1 (if i < ρ1.length then .ok (.nx,ρ1.set i (iD d)) else .bad) D:=h1;rw [if_neg q] at h1;exact h1.elim
theorem Rep.putO (r:Rep K own F H σ ρ) (hi:i < ρ.length) (C:F a=iF) (n:¬OA own σ a) (o:OwnIs K F H a d):Rep K (i::uc own [i]) F H (σ.set i (iD (.ref a))) (ρ.set i (iD d)) where
 sub:=r.sub
 len:=by simp [r.len]
 val:=λj d' G e=>by have q:j≠i:=λz=>G (by simp [z]);rw [aj (be q)] at e;obtain ⟨w,h1,h2⟩:=r.val j d' (λz=>G (ai _ ((jb j).mpr ⟨z,by simp [q]⟩))) e;exact ⟨w,by rw [aj (be q)]; exact h1,h2⟩
 ow:=λj d' G e=>by
  by_cases q:j=i;·subst q;rw [aC hi] at e;cases e;exact ⟨a,aC (by rw [r.len]; exact hi),C,o⟩
  ·have l:=(jb j).mp ((ah.mp G).resolve_left q);rw [aj (be q)] at e;obtain ⟨b,h1,h2⟩:=r.ow j d' l.1 e;exact ⟨b,by rw [aj (be q)]; exact h1,h2⟩
 opn:=λj G=>by
  by_cases q:j=i;·subst q; exact ⟨d,aC hi⟩
  ·have l:=(jb j).mp ((ah.mp G).resolve_left q);obtain ⟨d',e⟩:=r.opn j l.1;exact ⟨d',by rw [aj (be q)]; exact e⟩
 dis:=λj k b G p e1 f=>by
  have m:i < σ.length:=by rw [r.len]; exact hi
  by_cases g:j=i
  ·by_cases c:k=i;·rw [g,c]
   ·subst g;have h:=(jb k).mp ((ah.mp p).resolve_left c);rw [aC m] at e1;cases e1;rw [aj (be c)] at f;exact absurd ⟨k,h.1,f⟩ n
  ·have l:=(jb j).mp ((ah.mp G).resolve_left g);by_cases c:k=i;·subst c;rw [aC m] at f;cases f;rw [aj (be g)] at e1;exact absurd ⟨j,l.1,e1⟩ n
   ·have h:=(jb k).mp ((ah.mp p).resolve_left c);rw [aj (be g)] at e1;rw [aj (be c)] at f;exact r.dis j k b l.1 h.1 e1 f
theorem xZ (w:X.N.Nodup) (hi:X.N[i]?=iD x) (hx:Loc X.env.scope x) (u:PE X e (tE C own .fr fe)) (f:i∉C.io:=by exact yo rfl) (s:swapsWith e (iD (.Name x pos')) pos.line X.env=pure false:=by rfl)
  (t:X.fn x=iI\/X.env.scope.names.lookup x=iD .local:=by first | exact .inl rfl | exact .inr rfl):PS X (.Assign [.Name x pos'] e pos) (tSt C own (i::uc own [i]) (ku i fe)):=by
 refine Ke (qb4 w hi hx u s t) λD σ H ⟨F,ρ,k,h⟩=>⟨F,ρ,k,?_⟩
 unfold ku at h;cases q:fe ρ with
 | ok p=>
  rw [q] at h;obtain ⟨d,ρ1⟩:=p;intro v F1 H1 r B m;obtain ⟨a,rfl,n,A,o⟩:=m;by_cases z:i < ρ1.length
  ·have h1:PoS C own (i::uc own [i]) σ F H (if i < ρ1.length then .ok (.nx,ρ1.set i (iD d)) else .bad) D:=h;rw [if_pos z] at h1;refine h1 _ F1 H1 ⟨r.putO z A (λy=>(k.OA_there y).1 n) o,B,λb y=>?_,λj G=>aj λy=>f (by rw [y]; exact G)⟩;obtain ⟨j,G,e⟩:=y;by_cases g:j=i;·subst g;rw [aC (by rw [r.len]; exact z)] at e;cases e;exact .inr n
   ·have l:=(jb j).mp ((ah.mp G).resolve_left g);rw [aj (be g)] at e;exact .inl ⟨j,l.1,e⟩
  ·have h1:PoS C own (i::uc own [i]) σ F H (if i < ρ1.length then .ok (.nx,ρ1.set i (iD d)) else .bad) D:=h;rw [if_neg z] at h1;exact h1.elim
 | exc c=>rw [q] at h; exact h
 | bad=>rw [q] at h; exact h.elim
end
inductive AK where
 | vl | sl (i:Nat) | fr
 deriving DecidableEq
def ArgV (K:Frag) (H0 F H:Hp) (σ:St):List AK->List V->List D->Prop
 | [],[],[]=>True
 | .vl::as,v::vs,d::ds=>Is K F v d/\ArgV K H0 F H σ as vs ds
 | .sl i::as,v::vs,d::ds=>σ[i]?=iD (iD v)/\d=.non/\ArgV K H0 F H σ as vs ds
 | .fr::as,v::vs,d::ds=>MoIs K .fr H0 F H v d/\ArgV K H0 F H σ as vs ds
 | _,_,_=>False
variable {H0 F' H':Hp}
theorem ArgV.grow {A:Addr->Prop} (c:Chg A F H F' H') (hA:∀ x,A x->H0 x≠iF):∀ {as:List AK} {vs:List V} {ds:List D},ArgV K H0 F H σ as vs ds->ArgV K H0 F' H' σ as vs ds
 | [],[],[],h=>trivial
 | .vl::as,v::vs,d::ds,h=>⟨h.1.mono c.grow,ArgV.grow c hA h.2⟩
 | .sl i::as,v::vs,d::ds,h=>⟨h.1,h.2.1,ArgV.grow c hA h.2.2⟩
 | .fr::as,v::vs,d::ds,h=>⟨h.1.grow (by decide) c hA,ArgV.grow c hA h.2⟩
 | [],_::_,_,h=>h.elim
 | [],[],_::_,h=>h.elim
 | .vl::_,[],_,h=>h.elim
 | .vl::_,_::_,[],h=>h.elim
 | .sl _::_,[],_,h=>h.elim
 | .sl _::_,_::_,[],h=>h.elim
 | .fr::_,[],_,h=>h.elim
 | .fr::_,_::_,[],h=>h.elim
theorem ArgV.back {A:Addr->Prop} {F0:Hp} (c:Chg A F0 H0 F1 H1):∀ {as:List AK} {vs:List V} {ds:List D},ArgV K H1 F H σ as vs ds->ArgV K H0 F H σ as vs ds
 | [],[],[],h=>trivial
 | .vl::as,v::vs,d::ds,h=>⟨h.1,ArgV.back c h.2⟩
 | .sl i::as,v::vs,d::ds,h=>⟨h.1,h.2.1,ArgV.back c h.2.2⟩
 | .fr::as,v::vs,d::ds,h=>⟨MoIs.back (Ha:=H1) c h.1,ArgV.back c h.2⟩
 | [],_::_,_,h=>h.elim
 | [],[],_::_,h=>h.elim
 | .vl::_,[],_,h=>h.elim
 | .vl::_,_::_,[],h=>h.elim
 | .sl _::_,[],_,h=>h.elim
 | .sl _::_,_::_,[],h=>h.elim
 | .fr::_,[],_,h=>h.elim
 | .fr::_,_::_,[],h=>h.elim
def PoA (C:Ct) (own:List Nat) (as:List AK) (σ:St) (F H:Hp) (r:Out (List D×Sl)) (Q:List V->Hp->Prop):Prop:=match r with
 | .ok (ds,ρ')=>∀ vs F' H',Rep C.K own F' H' σ ρ'->Chg (OA own σ) F H F' H'->ArgV C.K H F' H' σ as vs ds->Q vs H'
 | .exc c ρ'=>∀ F' H',Same F' H'->Xg C.K C.ox F' H' σ ρ'->Chg (OA own σ) F H F' H'->C.E (C.cv c) iF H'
 | .bad=>False
def tAr (C:Ct) (own:List Nat) (as:List AK) (f:Sl->Out (List D×Sl)):TA:=λσ H Q=>∃ F ρ,Rep C.K own F H σ ρ/\PoA C own as σ F H (f ρ) Q
variable {as:List AK}
theorem PoA.bindV {ma:Mo} {k:D×Sl->Out (List D×Sl)} {Q:List V->Hp->Prop} {R:VK} (hp:PoA C own as σ F H (o.bind k) Q)
  (h:∀ v F1 H1 d ρ1,Rep C.K own F1 H1 σ ρ1->Chg (OA own σ) F H F1 H1->MoIs C.K ma H F1 H1 v d->PoA C own as σ F H (k (d,ρ1)) Q->R v H1):Po C own ma σ F H o R:=by
 cases o with
 | ok p=>obtain ⟨d,ρ1⟩:=p;exact λv F1 H1 a c mo=>h v F1 H1 d ρ1 a c mo hp
 | exc x=>exact hp
 | bad=>exact hp.elim
theorem Po.bindA {as:List AK} {o:Out (List D×Sl)} {k:List D×Sl->Out (D×Sl)} {Q:VK} {R:List V->Hp->Prop} (hp:Po C own m σ F H (o.bind k) Q)
  (h:∀ vs F1 H1 ds ρ1,Rep C.K own F1 H1 σ ρ1->Chg (OA own σ) F H F1 H1->ArgV C.K H F1 H1 σ as vs ds->Po C own m σ F1 H1 (k (ds,ρ1)) Q->R vs H1):PoA C own as σ F H o R:=by
 cases o with
 | ok p=>obtain ⟨d,ρ1⟩:=p;exact λvs F1 H1 a c v=>h vs F1 H1 d ρ1 a c v (Po.shift (show Po C own m σ F H (k (d,ρ1)) Q from hp) c)
 | exc x=>exact hp
 | bad=>exact hp.elim
noncomputable def qF:Sl->Out (List D×Sl):=λρ=>.ok ([],ρ)
noncomputable def qe (fe:Sl->Out (D×Sl)) (fr:Sl->Out (List D×Sl)):Sl->Out (List D×Sl):=λρ=>(fe ρ).bind λp=>(fr p.2).bind λq=>.ok (p.1::q.1,q.2)
noncomputable def jR (fr:Sl->Out (List D×Sl)):Sl->Out (List D×Sl):=λρ=>(fr ρ).bind λq=>.ok (D.non::q.1,q.2)
variable {es:List Expr} {p:Addr} {u:HO}
section
variable {fr:Sl->Out (List D×Sl)}
theorem qdb {t t':TA} (h:PA X es t) (i:∀ σ H Q,t' σ H Q->t σ H Q):PA X es t':=⟨λpos pins s σ H Q I hw=>h pos pins s σ H Q I (i σ H Q hw)⟩
theorem ql:PA X [] (tAr C own [] qF):=qdb jU λσ H Q ⟨F,ρ,a,h⟩=>h [] F H a .refl trivial
theorem Kg {a:AK} {Q:List V->Hp->Prop} {v:V} (h:∀ x,OA own σ x->H x≠iF) (e:Rep C.K own F1 H1 σ ρ1) (l:Chg (OA own σ) F H F1 H1) (hp:PoA C own (a::as) σ F H ((fr ρ1).bind λq=>.ok (d::q.1,q.2)) Q)
  (f:∀ b H2 vs ds,Chg (OA own σ) F1 H1 b H2->ArgV C.K H b H2 σ as vs ds->ArgV C.K H b H2 σ (a::as) (v::vs) (d::ds)):tAr C own as fr σ H1 λxs H2=>Q (v::xs) H2:=by
 refine ⟨F1,ρ1,e,?_⟩;cases q:fr ρ1 with
 | ok p=>rw [q] at hp;obtain ⟨ds,j⟩:=p;exact λvs b H2 r c2 g=>hp (v::vs) b H2 r (l.trans' c2) (f b H2 vs ds c2 (ArgV.back l g))
 | exc c=>rw [q] at hp; exact λF' H' s io T=>hp F' H' s io (l.trans' T)
 | bad=>rw [q] at hp; exact hp.elim
theorem qc (f:PE X e (tE C own m fe)) (hr:PA X es (tAr C own as fr)) (b:m≠.any:=by decide) (s:starEach (e::es) X.env=(iH,eval e X.env)::starEach es X.env:=by exact ja rfl):PA X (e::es) (tAr C own (.vl::as) (qe fe fr)):=by
 refine qdb (qT (vi f b) hr s) λσ H Q ⟨F,ρ,r,h⟩=>⟨F,ρ,r,PoA.bindV h λv F1 H1 d ρ1 a l c h1=>?_⟩
 exact Kg (λx z=>(r.OA_there z).1) a l h1 λi H2 vs ds c2 g=>⟨Is.mono c2.grow c,g⟩
theorem qU {px:Pos} (e:X.N[i]?=iD x) (c:Vis X.env.scope x) (m:i∈own) (hr:PA X es (tAr C own as fr)) (s:starEach (.Name x px::es) X.env=(iH,eval (.Name x px) X.env)::starEach es X.env:=by rfl)
  (hd:(x == ("__debug__":Str))=false:=by decide) (b:(x == ("__classdict__":Str))=false:=by decide):PA X (.Name x px::es) (tAr C own (.sl i::as) (jR fr)):=by
 refine qdb (qT (uQ e c hd b) hr s) λσ H Q ⟨F,ρ,r,h⟩=>?_;obtain ⟨d,hd⟩:=r.opn i m;obtain ⟨a,h1,h2,f⟩:=r.ow i d m hd;exact ⟨_,h1,Kg (λx z=>(r.OA_there z).1) r .refl h λg H2 vs ds c2 v=>⟨h1,rfl,v⟩⟩
theorem ArgV.isL:∀ {as:List AK} {vs:List V} {ds:List D},(as.all λa=>decide (a=.vl))=iI->ArgV K H0 F H σ as vs ds->IsL K F vs ds
 | [],[],[],_,_=>.nil
 | .vl::as,v::vs,d::ds,h,a=>.cons a.1 (ArgV.isL (by simpa using h) a.2)
 | .sl i::as,_,_,h,a=>by simp at h
 | .fr::as,_,_,h,a=>by simp at h
 | [],_::_,_,_,h=>h.elim
 | [],[],_::_,_,h=>h.elim
 | .vl::_,[],_,_,h=>h.elim
 | .vl::_,_::_,[],_,h=>h.elim
noncomputable def wG (fr:Sl->Out (List D×Sl)):Sl->Out (D×Sl):=λρ=>(fr ρ).bind λp=>if p.1.length<=sizeLine then .ok (.tup p.1,p.2) else .bad
noncomputable def yU (fr:Sl->Out (List D×Sl)):Sl->Out (D×Sl):=λρ=>(fr ρ).bind λp=>if p.1.length<=sizeLine then .ok (.lst p.1,p.2) else .bad
theorem qe7 (a:Rep C.K own F H σ ρ) (hp:H p=iF):Rep C.K own (upd F p u) (upd H p u) σ ρ/\Chg No F H (upd F p u) (upd H p u):=by
 have h:F p=none:=by
  cases q:F p with
  | none=>rfl
  | some o=>rw [a.sub p o q] at hp; cases hp
 have c:Chg No F H (upd F p u) (upd H p u):=⟨λb o e _=>by rw [qt (qD e hp)]; exact e,λb e=>by
  by_cases q:b=p;·rw [q,qm]; simp
  ·rw [qt q]; exact e,λb o e=>by rw [qt (qD e h)]; exact e,λb e=>by
  by_cases q:b=p;·exact .inr (.inl (by rw [q]; exact hp))
  ·rw [qt q] at e; exact .inl e⟩
 refine ⟨a.grow c λb o e=>?_,c⟩;by_cases q:b=p;·subst q; rw [qm] at e ⊢; exact e
 ·rw [qt q] at e ⊢; exact a.sub b o e
theorem qcb (a:Rep C.K own F H σ ρ) (hp:H p=iF):Rep C.K own F (upd H p u) σ ρ/\Chg No F H F (upd H p u)/\F p=none:=by
 have h:F p=none:=by
  cases q:F p with
  | none=>rfl
  | some o=>rw [a.sub p o q] at hp; cases hp
 have c:Chg No F H F (upd H p u):=⟨λb o e _=>by rw [qt (qD e hp)]; exact e,λb e=>by
  by_cases q:b=p;·rw [q,qm]; simp
  ·rw [qt q]; exact e,Same.refl _,λb e=>.inl e⟩
 exact ⟨a.grow c λb o e=>by rw [qt (qD e h)]; exact a.sub b o e,c,h⟩
theorem jA {x1} (h:PA X es (tAr C own as fr)) (f:(as.all λa=>decide (a=.vl))=true:=by decide):PE X (.Tuple es x1 pos) (tE C own .sh (wG fr)):=by
 refine jh (qeR h) λσ H Q ⟨F,ρ,c,h⟩=>⟨F,ρ,c,Po.bindA h λvs F1 H1 ds ρ1 b l v h1=>?_⟩
 have i:=v.isL f;have h1:Po C own .sh σ F1 H1 (if ds.length<=sizeLine then .ok (.tup ds,ρ1) else .bad) Q:=h1;by_cases z:ds.length<=sizeLine;·rw [if_pos z] at h1;refine ⟨by rw [i.length]; exact z,λp hp=>?_⟩;obtain ⟨r,c2⟩:=qe7 (u:=.tup vs) b hp;exact h1 _ _ _ r c2.ofNo (.tup (.inl (.inl qm)) (i.mono c2.grow))
 ·rw [if_neg z] at h1; exact h1.elim
theorem vd (h:PA X es (tAr C own as fr)) (f:(as.all λa=>decide (a=.vl))=true:=by decide):PE X (.List es pos) (tE C own .fr (yU fr)):=by
 refine jh (qeS h) λσ H Q ⟨F,ρ,c,h⟩=>⟨F,ρ,c,Po.bindA h λvs F1 H1 ds ρ1 b l v h1=>?_⟩
 have i:=v.isL f;have h1:Po C own .fr σ F1 H1 (if ds.length<=sizeLine then .ok (.lst ds,ρ1) else .bad) Q:=h1;by_cases z:ds.length<=sizeLine;·rw [if_pos z] at h1;refine ⟨by rw [i.length]; exact z,λp hp=>?_⟩;obtain ⟨r,c2,d⟩:=qcb (u:=.lst vs) b hp;exact h1 _ _ _ r c2.ofNo ⟨p,rfl,hp,d,vs,qm,i⟩
 ·rw [if_neg z] at h1; exact h1.elim
noncomputable def ixD:D->D->Out D
 | .lst xs,.int i=>match atI xs i with
  | some d=>.ok d
  | none=>.bad
 | .tup xs,.int i=>match atI xs i with
  | some d=>.ok d
  | none=>.bad
 | .str x,.int i=>match atI x.cps.toList i with
  | some c=>.ok (.str ⟨#[c]⟩)
  | none=>.bad
 | .dct kvs,.str x=>match (kvs.find? λkv=>decide (kv.1=dX x)) with
  | some kv=>.ok kv.2
  | none=>.bad
 | .dct kvs,.int x=>match (kvs.find? λkv=>decide (kv.1=fh x)) with
  | some kv=>.ok kv.2
  | none=>.bad
 | _,_=>.bad
theorem IsL.atI {i:Int} (h:IsL K F vs ds) (e:L2.atI ds i=iD d):∃ v,L2.atI vs i=iD v/\Is K F v d:=by
 unfold L2.atI at e ⊢;rw [h.length];cases q:ixN ds.length i with
 | none=>rw [q] at e; cases e
 | some j=>rw [q] at e;exact h.getD e
theorem IsK.find {k:Key}:∀ {vs:List (Key×V)} {ds:List (Key×D)} {d:Key×D},IsK K F vs ds->(ds.find? λkv=>decide (kv.1=k))=iD d->∃ v,WY vs k=iD v/\Is K F v d.2
 | _,_,_,.nil,e=>by simp at e
 | _,_,d,.cons (k:=k') (vs:=vs) h t,e=>by
  by_cases q:k'=k;·rw [List.find?_cons_of_pos (by simp [q])] at e;cases e;exact ⟨_,xX q,h⟩
  ·rw [List.find?_cons_of_neg (by simp [q])] at e;obtain ⟨v,h1,h2⟩:=IsK.find t e;exact ⟨v,by rw [xY q]; exact h1,h2⟩
theorem Ui (c:Nat):(⟨#[c]⟩:Str).length<=sizeLine:=by show 1<=sizeLine;rw [iR]; decide
def qhF (K:Frag):R2:=λx y H Q=>rIx K x y H Q\/∃ a v,x=.ref a/\DGet H a y (iD v)/\Q v H
theorem qe8 (b:X.A.units+1 < cLine):IxR X (qhF X.K):=by
 refine IxR.or qeV ?_;intro value e pins s σ H x y v u Q I d c h f;obtain ⟨a,w,rfl,g,q⟩:=h;cases d;obtain ⟨T,l⟩:∃ T,s.TypeIs (.ref a) T/\T = "dict":=⟨_,VH I g,rfl⟩
 obtain ⟨l,rfl⟩:=l;exact lN l PySem.slot_dict_getitem.lookup (XM b I g c λS s' i r=>⟨w,H,i,r,q⟩) f
end
variable {T:String}
section
variable {a b:Expr}
theorem qe9 {σ:St} {x y:V} {dx b:D} {Q:VK} (l:C.K=X.K) (q:Same F H) (f:TopIs C.K F H x dx) (ty:TopIs C.K F H y b) (po:PoV C .sh F H (ixD dx b) Q):qhF X.K x y H Q:=by
 rw [l] at f ty;cases dx with
 | lst xs=>
  cases b <;> try exact po.elim
  rename_i i;obtain rfl:=ty.int;obtain ⟨a,vs,rfl,p,t⟩:=f.lst q;unfold ixD at po;cases e:L2.atI xs i with
  | none=>simp only [e] at po; exact po.elim
  | some d=>simp only [e] at po;obtain ⟨v,h1,h2⟩:=t.atI e;exact .inl (.inl ⟨a,vs,i,v,rfl,rfl,p,h1,po v F H q .refl (by rw [l]; exact h2)⟩)
 | tup xs=>
  cases b <;> try exact po.elim
  rename_i i;obtain rfl:=ty.int;obtain ⟨a,vs,rfl,p,t⟩:=f.tup q;unfold ixD at po;cases e:L2.atI xs i with
  | none=>simp only [e] at po; exact po.elim
  | some d=>simp only [e] at po;obtain ⟨v,h1,h2⟩:=t.atI e;exact .inl (.inr (.inl ⟨a,vs,i,v,rfl,rfl,p,h1,po v F H q .refl (by rw [l]; exact h2)⟩))
 | str z=>
  cases b <;> try exact po.elim
  rename_i i;obtain rfl:=ty.int;obtain ⟨rfl,h⟩:=f.str;unfold ixD at po;cases e:L2.atI z.cps.toList i with
  | none=>simp only [e] at po; exact po.elim
  | some c=>simp only [e] at po;exact .inl (.inr (.inr ⟨z,i,c,rfl,rfl,h,e,po _ F H q .refl (.str (Ui c))⟩))
 | dct kvs=>
  obtain ⟨a,kv,rfl,p,t⟩:=f.dct q;cases b with
  | int i=>
   obtain rfl:=ty.int;unfold ixD at po;cases e:(kvs.find? λkv=>decide (kv.1=fh i)) with
   | none=>simp only [e] at po; exact po.elim
   | some d=>simp only [e] at po;obtain ⟨v,h1,h2⟩:=t.find e;exact .inr ⟨a,v,rfl,by rw [<-h1]; exact DGet.k (k:=fh i) p,po v F H q .refl (by rw [l]; exact h2)⟩
  | str z=>
   obtain ⟨rfl,_⟩:=ty.str;unfold ixD at po;cases e:(kvs.find? λkv=>decide (kv.1=dX z)) with
   | none=>simp only [e] at po; exact po.elim
   | some d=>simp only [e] at po;obtain ⟨v,h1,h2⟩:=t.find e;exact .inr ⟨a,v,rfl,by rw [<-h1]; exact DGet.k (k:=dX z) p,po v F H q .refl (by rw [l]; exact h2)⟩
  | _=>exact po.elim
 | _=>exact po.elim
theorem jL (x:C.K=X.K) (D:X.A.units+64 < cLine) (u:PE X a (tE C own ma fa)) (hb:PE X b (tE C own mb fb)) (o:VD b) (k:ma≠.any:=by decide):PE X (.Subscript a b pos) (tE C own .sh (d2 ixD fa fb)):=by
 refine jh (qgX (qe8 (by omega)) u hb o) λσ H Q h=>?_;obtain ⟨F,ρ,n,h⟩:=JV (mb:=mb) k h;refine ⟨F,ρ,n,?_⟩;cases q:fa ρ with
 | ok p=>
  rw [q] at h;obtain ⟨d,ρ1⟩:=p;intro v F1 H1 f y i;obtain ⟨B,j,e,h2⟩:=h v F1 H1 f y i;refine ⟨B,j,e,?_⟩;cases g:fb j with
  | ok p=>rw [g] at h2;obtain ⟨d',l⟩:=p;intro w F3 z r J m;obtain ⟨M,dx,E,s,t,ty,po⟩:=h2 w F3 z r J m;exact qe9 (σ:=σ) x s t ty po
  | exc c=>rw [g] at h2; exact h2
  | bad=>rw [g] at h2; exact h2.elim
 | exc c=>rw [q] at h; exact h
 | bad=>rw [q] at h; exact h.elim
def Kh (X:Cx) (C:Ct) (m:Mo) (f:iG) (g:D->Out D):Prop:=ya X f (λxs H Q=>∃ x F dx,xs=[x]/\Same F H/\TopIs C.K F H x dx/\PoV C m F H (g dx) Q)
theorem QK {Q:VK} {g:D->Out D} (h:tE C own m (d1 g fa) σ H Q):Yv (tE C own ma fa) qeQ σ H λxs H1=>∃ x F dx,xs=[x]/\Same F H1/\TopIs C.K F H1 x dx/\PoV C m F H1 (g dx) Q:=by
 obtain ⟨F,ρ,r,h⟩:=JW (ma:=ma) h;refine ⟨F,ρ,r,?_⟩;cases q:fa ρ with
 | ok p=>rw [q] at h;obtain ⟨d,ρ1⟩:=p;intro v F1 H1 a l b;obtain ⟨e,dx,s,t,po⟩:=h v F1 H1 a l b;exact ⟨v,e,dx,rfl,s,t,po⟩
 | exc c=>rw [q] at h; exact h
 | bad=>rw [q] at h; exact h.elim
theorem qJ {id:String} {p:Pos} {g:D->Out D} (f:Kh X C m (.builtin id) g) (hg:Gl X x) (d:X.mg x=iF) (c:bootBuiltins x=iD (.builtin id)) (i:PE X e (tE C own ma fa)) (n:x ≠ "__name__":=by decide) (b:(x == ("__debug__":Str))=false:=by decide)
  (a:starEach [e] X.env=[(iH,eval e X.env)]:=by exact qO rfl):PE X (.Call (.Name x p) [e] [] pos) (tE C own m (d1 g fa)):=
 jh (wE f hg d c (qT i jU a) n b (by rw [a]; rfl) rfl) λ_ _ _ h=>QK h
theorem jW {p:Pos} {g:D->Out D} (f:Kh X C m (.type T) g) (hg:Gl X x) (d:X.mg x=iF) (c:bootBuiltins x=iD (.type T)) (i:PE X e (tE C own ma fa)) (n:x ≠ "__name__":=by decide) (b:(x == ("__debug__":Str))=false:=by decide)
  (a:starEach [e] X.env=[(iH,eval e X.env)]:=by exact qO rfl):PE X (.Call (.Name x p) [e] [] pos) (tE C own m (d1 g fa)):=
 jh (zu f hg d c (qT i jU a) n b (by rw [a]; rfl) rfl) λ_ _ _ h=>QK h
noncomputable def kE:D->Out D
 | .str x=>.ok (.int x.length)
 | .lst xs=>.ok (.int xs.length)
 | .tup xs=>.ok (.int xs.length)
 | .dct xs=>.ok (.int xs.length)
 | _=>.bad
theorem IsK.length:∀ {vs:List (Key×V)} {ds:List (Key×D)},IsK K F vs ds->vs.length=ds.length
 | _,_,.nil=>rfl
 | _,_,.cons _ t=>congrArg (·+1) (IsK.length t)
theorem jX (l:C.K=X.K):Kh X C .sh (.builtin "len") kE:=by
 intro pins s σ H xs us Q I r h;obtain ⟨x,F,dx,rfl,q,b,po⟩:=h;cases dx with
 | str z=>obtain ⟨rfl,c⟩:=b.str;exact QE pins s σ H _ us Q I r ⟨_,_,rfl,⟨c,rfl⟩,po _ F H q .refl (.int _)⟩
 | lst ds=>obtain ⟨a,vs,rfl,p,t⟩:=b.lst q;exact QE pins s σ H _ us Q I r ⟨_,ds.length,rfl,.inl ⟨vs,by rw [<-l]; exact p,t.length.symm⟩,po _ F H q .refl (.int _)⟩
 | tup ds=>obtain ⟨a,vs,rfl,p,t⟩:=b.tup q;exact QE pins s σ H _ us Q I r ⟨_,ds.length,rfl,.inr ⟨vs,by rw [<-l]; exact p,t.length.symm⟩,po _ F H q .refl (.int _)⟩
 | dct ds=>obtain ⟨a,vs,rfl,p,t⟩:=b.dct q;refine XN pins s σ H _ us Q I r ⟨a,vs,rfl,p,?_⟩;rw [t.length];exact po _ F H q .refl (.int _)
 | _=>exact po.elim
noncomputable def wc:D->D->Out D
 | .int i,.int j=>.ok (.int (i+j))
 | .str x,.str y=>if x.length+y.length<=sizeLine then .ok (.str (x++y)) else .bad
 | .lst xs,.lst ys=>if xs.length+ys.length<=sizeLine then .ok (.lst (xs++ys)) else .bad
 | .tup xs,.tup ys=>if xs.length+ys.length<=sizeLine then .ok (.tup (xs++ys)) else .bad
 | _,_=>.bad
theorem wH (s:Same F H) (hp:H p=iF):Same (upd F p u) (upd H p u)/\Chg No F H (upd F p u) (upd H p u):=by
 have C:F p=none:=by
  cases q:F p with
  | none=>rfl
  | some o=>rw [s p o q] at hp; cases hp
 refine ⟨λb o e=>?_,⟨λb o e _=>by rw [qt (qD e hp)]; exact e,λb e=>?_,λb o e=>by rw [qt (qD e C)]; exact e,λb e=>?_⟩⟩
 ·by_cases q:b=p;·subst q; rw [qm] at e ⊢; exact e
  ·rw [qt q] at e ⊢; exact s b o e
 ·by_cases q:b=p;·rw [q,qm]; simp
  ·rw [qt q]; exact e
 ·by_cases q:b=p;·exact .inr (.inl (by rw [q]; exact hp))
  ·rw [qt q] at e; exact .inl e
theorem yc (s:Same F H) (hp:H p=iF):Same F (upd H p u)/\Chg No F H F (upd H p u)/\F p=none:=by
 have C:F p=none:=by
  cases q:F p with
  | none=>rfl
  | some o=>rw [s p o q] at hp; cases hp
 refine ⟨λb o e=>by rw [qt (qD e C)]; exact s b o e,⟨λb o e _=>by rw [qt (qD e hp)]; exact e,λb e=>?_,Same.refl _,λb e=>.inl e⟩,C⟩;by_cases q:b=p;·rw [q,qm]; simp
 ·rw [qt q]; exact e
theorem VM (x y:Str):(x++y).length=x.length+y.length:=by show (x.cps++y.cps).size=_;simp [h8]
theorem qdc:OpR X (binaryOp .Add) (λx y H Q=>∃ l b xs zs,x=.ref l/\y=.ref b/\SqL X.K H l xs/\SqL X.K H b zs/\xs.length+zs.length<=sizeLine/\∀ p,H p=iF->Q (.ref p) (upd H p (.lst (xs++zs)))):=by
 intro pins s σ H x y v u Q I k r h;obtain ⟨l,b,xs,zs,rfl,rfl,h1,h2,z,q⟩:=h;cases k;cases r;obtain ⟨its,r1,p1,_⟩:=I.list h1;obtain ⟨i,r2,p2,_⟩:=I.list h2;obtain ⟨⟨cls,dd,data,sl⟩,m,g,n,hd⟩:=id p1.isList;obtain ⟨⟨j,e,f,d⟩,a,c,n2,hd2⟩:=id p2.isList;simp only at g hd c hd2;subst g hd c hd2;have t:=r1.length;have o:=r2.length;refine lF ⟨_,m,rfl⟩ ⟨_,a,rfl⟩ noFill_list_add seq_list_add PySem.F.slot_list_add PySem.F.entry_list_add (PySem.F.args_list_add_2 _ _)
  (list_addW l b its.toArray i.toArray n n2 dd e sl d (by simp only [aw]; omega)) ⟨m,a,?_⟩
 have w:its.toArray++i.toArray=(its++i).toArray:=by simp
 rw [w];exact ⟨.ref _,_,I.lnew (t':=s.toks) (r1.append r2) (by rw [ap]; exact z),rfl,q _ I.fresh⟩
theorem qdd:OpR X (binaryOp .Add) (λx y H Q=>∃ a b ys,x=.ref a/\y=.ref b/\SqT X.K H a []/\SqT X.K H b ys/\Q (.ref b) H):=by
 intro pins s σ H x y v u Q I l r h;obtain ⟨a,b,ys,rfl,rfl,h1,h2,q⟩:=h;cases l;cases r;obtain ⟨its,r1,p1,_⟩:=I.tuple h1;obtain ⟨i,r2,p2,_⟩:=I.tuple h2;cases r1;obtain ⟨⟨cls,dd,data,sl⟩,m,j,n,hd⟩:=id p1;obtain ⟨⟨k,f,g,e⟩,c,d,n2,hd2⟩:=id p2;simp only at j hd d hd2;subst j hd d hd2;exact lF ⟨_,m,rfl⟩ ⟨_,c,rfl⟩ noFill_tuple_add seq_tuple_add eG d9 (dR _ _)
  (tuple_addW0 a b _ _ n n2 dd f sl e rfl) ⟨m,c,⟨.ref b,H,I,rfl,q⟩⟩
theorem kW (l:C.K=X.K):OpD X C .sh (binaryOp .Add) wc:=by
 intro pins s σ H x y v u Q I d r h;obtain ⟨F,dx,g,q,t,ty,po⟩:=h;cases dx with
 | int i=>
  cases g <;> try exact po.elim
  obtain rfl:=t.int;obtain rfl:=ty.int;exact qeI pins s σ H _ _ v u Q I d r ⟨_,_,rfl,rfl,po _ F H q .refl (.int _)⟩
 | str a=>
  cases g <;> try exact po.elim
  rename_i b;obtain ⟨rfl,_⟩:=t.str;obtain ⟨rfl,_⟩:=ty.str;have po:PoV C .sh F H (if a.length+b.length<=sizeLine then .ok (.str (a++b)) else .bad) Q:=po;by_cases z:a.length+b.length<=sizeLine;·rw [if_pos z] at po;exact Yq pins s σ H _ _ v u Q I d r ⟨_,_,rfl,rfl,z,po _ F H q .refl (.str (by rw [VM]; exact z))⟩
  ·rw [if_neg z] at po; exact po.elim
 | lst xs=>
  cases g <;> try exact po.elim
  rename_i ys;obtain ⟨a,vs,rfl,p1,f⟩:=t.lst q;obtain ⟨b,ws,rfl,p2,c⟩:=ty.lst q;have po:PoV C .sh F H (if xs.length+ys.length<=sizeLine then .ok (.lst (xs++ys)) else .bad) Q:=po;by_cases z:xs.length+ys.length<=sizeLine;·rw [if_pos z] at po;refine qdc pins s σ H _ _ v u Q I d r ⟨a,b,vs,ws,rfl,rfl,by rw [<-l]; exact p1,by rw [<-l]; exact p2,by rw [f.length,c.length]; exact z,λp hp=>?_⟩;obtain ⟨s2,c2⟩:=wH (u:=.lst (vs++ws)) q hp;exact po _ _ _ s2 c2 (.lst (.inl (.inl qm)) ((f.append c).mono c2.grow))
  ·rw [if_neg z] at po; exact po.elim
 | tup xs=>
  cases g <;> try exact po.elim
  rename_i ys;obtain ⟨a,vs,rfl,p1,f⟩:=t.tup q;obtain ⟨b,ws,rfl,p2,c⟩:=ty.tup q;have po:PoV C .sh F H (if xs.length+ys.length<=sizeLine then .ok (.tup (xs++ys)) else .bad) Q:=po;by_cases z:xs.length+ys.length<=sizeLine
  ·rw [if_pos z] at po;cases vs with
   | nil=>
    cases f;rcases ty with ty | ⟨_,_,ty⟩
    ·exact qdd pins s σ H _ _ v u Q I d r ⟨a,b,ws,rfl,rfl,by rw [<-l]; exact p1,by rw [<-l]; exact p2,po _ F H q .refl ty⟩
    ·exact ty.elim
   | cons j vs=>
    refine qc0 pins s σ H _ _ v u Q I d r ⟨a,b,j::vs,ws,rfl,rfl,by rw [<-l]; exact p1,by rw [<-l]; exact p2,by simp,by rw [f.length,c.length]; exact z,λe=>?_,λe p hp=>?_⟩
    ·subst e;cases c;rcases t with t | ⟨_,_,t⟩
     ·refine po _ F H q .refl ?_;rw [bj];exact t
     ·exact t.elim
    ·obtain ⟨s2,c2⟩:=wH (u:=.tup (j::vs++ws)) q hp;exact po _ _ _ s2 c2 (.tup (.inl (.inl qm)) ((f.append c).mono c2.grow))
  ·rw [if_neg z] at po; exact po.elim
 | _=>exact po.elim
end
inductive PM where
 | val | io | tk
 deriving DecidableEq
noncomputable def uf:List PM->List V->List Addr
 | .val::ms,_::vs=>uf ms vs
 | .io::ms,.ref a::vs=>a::uf ms vs
 | .tk::ms,.ref a::vs=>a::uf ms vs
 | _::ms,_::vs=>uf ms vs
 | _,_=>[]
def ArgsIs (K:Frag) (F H:Hp):List PM->List V->List D->Prop
 | [],[],[]=>True
 | .val::ms,v::vs,d::ds=>Is K F v d/\ArgsIs K F H ms vs ds
 | .io::ms,v::vs,d::ds=>(∃ a,v=.ref a/\F a=iF/\OwnIs K F H a d)/\ArgsIs K F H ms vs ds
 | .tk::ms,v::vs,d::ds=>(∃ a,v=.ref a/\F a=iF/\OwnIs K F H a d)/\ArgsIs K F H ms vs ds
 | _,_,_=>False
def wq (K:Frag) (F H:Hp):List PM->List V->List D->Prop
 | [],_,_=>True
 | .io::ms,v::vs,d::ds=>(∃ a,v=.ref a/\F a=iF/\OwnIs K F H a d)/\wq K F H ms vs ds
 | _::ms,_::vs,_::ds=>wq K F H ms vs ds
 | _,_,_=>False
abbrev LA (ms:List PM) (vs:List V):Addr->Prop:=λb=>b∈uf ms vs
def PoG (K:Frag) (cv:Str->iG) (ms:List PM) (mr:Mo) (vs:List V) (F H:Hp) (Q:VK) (E:XK) (o:Out (D×List D)):Prop:=match o with
 | .ok (d,outs)=>∀ v F' H',Same F' H'->Chg (LA ms vs) F H F' H'->wq K F' H' ms vs outs->MoIs K mr H F' H' v d->Q v H'
 | .exc c o=>∀ F' H',Same F' H'->Chg (LA ms vs) F H F' H'->wq K F' H' ms vs (o.map (·.getD .non))->E (cv c) iF H'
 | .bad=>False
def spD (K:Frag) (cv:Str->iG) (ms:List PM) (mr:Mo) (G:List D->Out (D×List D)):Sp:=λvs H Q E=>∃ F ds,Same F H/\ArgsIs K F H ms vs ds/\(uf ms vs).Nodup/\PoG K cv ms mr vs F H Q E (G ds)
theorem ArgsIs.length:∀ {ms:List PM} {vs:List V} {ds:List D},ArgsIs K F H ms vs ds->vs.length=ms.length/\ds.length=ms.length
 | [],[],[],_=>⟨rfl,rfl⟩
 | .val::ms,v::vs,d::ds,h=>by have:=ArgsIs.length h.2; simp [this]
 | .io::ms,v::vs,d::ds,h=>by have:=ArgsIs.length h.2; simp [this]
 | .tk::ms,v::vs,d::ds,h=>by have:=ArgsIs.length h.2; simp [this]
 | [],_::_,_,h=>h.elim
 | [],[],_::_,h=>h.elim
 | .val::_,[],_,h=>h.elim
 | .val::_,_::_,[],h=>h.elim
 | .io::_,[],_,h=>h.elim
 | .io::_,_::_,[],h=>h.elim
 | .tk::_,[],_,h=>h.elim
 | .tk::_,_::_,[],h=>h.elim
noncomputable def jy (n:Nat):List PM->List Nat
 | []=>[]
 | .val::ms=>jy (n+1) ms
 | _::ms=>n::jy (n+1) ms
noncomputable def Qd (n:Nat):List PM->List Nat
 | []=>[]
 | .io::ms=>n::Qd (n+1) ms
 | _::ms=>Qd (n+1) ms
variable {n:Nat}
theorem yr:∀ {ms:List PM} {i:Nat},i∈jy n ms->n<=i/\i < n+ms.length:=by
 intro ms
 induction ms generalizing n with
 | nil=>intro i h; simp [jy] at h
 | cons m ms j=>
  intro i h;cases m with
  | val=>have:=j (n:=n+1) h; simp only [ac]; omega
  | io=>
   rcases ah.mp h with e | h;·simp only [ac]; omega
   ·have:=j (n:=n+1) h; simp only [ac]; omega
  | tk=>
   rcases ah.mp h with e | h;·simp only [ac]; omega
   ·have:=j (n:=n+1) h; simp only [ac]; omega
theorem qaM:∀ {ms:List PM} {i:Nat},i∈Qd n ms->i∈jy n ms:=by
 intro ms
 induction ms generalizing n with
 | nil=>intro i h; simp [Qd] at h
 | cons m ms j=>
  intro i h;cases m with
  | val=>exact j (n:=n+1) h
  | io=>
   rcases ah.mp h with e | h;·exact ah.mpr (.inl e)
   ·exact ai _ (j (n:=n+1) h)
  | tk=>exact ai _ (j (n:=n+1) h)
theorem YB:∀ {ms:List PM} {vs:List V} {ds:List D} {n:Nat},ArgsIs K F H ms vs ds ->(∀ j d,ds[j]?=iD d->n+j∉jy n ms->∃ v,vs[j]?=iD v/\Is K F v d) /\
  (∀ j d,ds[j]?=iD d->n+j∈jy n ms->∃ a,vs[j]?=iD (.ref a)/\F a=iF/\OwnIs K F H a d):=by
 intro ms
 induction ms with
 | nil=>intro vs ds n h; cases vs <;> cases ds <;> first | exact h.elim | (refine ⟨λj d e=>?_,λj d e=>?_⟩ <;> simp at e)
 | cons m ms i=>
  intro vs ds n h;cases vs with
  | nil=>cases m <;> exact h.elim
  | cons v vs=>
   cases ds with
   | nil=>cases m <;> exact h.elim
   | cons d ds=>
    cases m with
    | val=>
     obtain ⟨h1,h2⟩:=h;obtain ⟨i1,i2⟩:=i (n:=n+1) h2;refine ⟨λj e G b=>?_,λj e G b=>?_⟩
     ·cases j with
      | zero=>simp at G; subst G; exact ⟨v,rfl,h1⟩
      | succ j=>simpa using i1 j e (by simpa using G) (by rw [show n+1+j=n+(j+1) by omega]; exact b)
     ·cases j with
      | zero=>have:=yr (n:=n+1) b; omega
      | succ j=>simpa using i2 j e (by simpa using G) (by rw [show n+1+j=n+(j+1) by omega]; exact b)
    | io=>
     obtain ⟨⟨a,rfl,h1⟩,h2⟩:=h;obtain ⟨i1,i2⟩:=i (n:=n+1) h2;refine ⟨λj e G b=>?_,λj e G b=>?_⟩
     ·cases j with
      | zero=>exact absurd (ah.mpr (.inl rfl)) b
      | succ j=>simpa using i1 j e (by simpa using G) (λz=>b (ai _ (by rw [show n+(j+1)=n+1+j by omega]; exact z)))
     ·cases j with
      | zero=>simp at G; subst G; exact ⟨a,rfl,h1⟩
      | succ j=>
       have c:n+1+j∈jy (n+1) ms:=by
        rcases ah.mp b with z | z;·omega
        ·rw [show n+1+j=n+(j+1) by omega]; exact z
       simpa using i2 j e (by simpa using G) c
    | tk=>
     obtain ⟨⟨a,rfl,h1⟩,h2⟩:=h;obtain ⟨i1,i2⟩:=i (n:=n+1) h2;refine ⟨λj e G b=>?_,λj e G b=>?_⟩
     ·cases j with
      | zero=>exact absurd (ah.mpr (.inl rfl)) b
      | succ j=>simpa using i1 j e (by simpa using G) (λz=>b (ai _ (by rw [show n+(j+1)=n+1+j by omega]; exact z)))
     ·cases j with
      | zero=>simp at G; subst G; exact ⟨a,rfl,h1⟩
      | succ j=>
       have c:n+1+j∈jy (n+1) ms:=by
        rcases ah.mp b with z | z;·omega
        ·rw [show n+1+j=n+(j+1) by omega]; exact z
       simpa using i2 j e (by simpa using G) c
theorem Zc:∀ {ms:List PM} {vs:List V} {j:Nat} {a:Addr},n+j∈jy n ms->vs[j]?=iD (.ref a)->a∈uf ms vs:=by
 intro ms
 induction ms generalizing n with
 | nil=>intro vs j a h; simp [jy] at h
 | cons m ms i=>
  intro vs j a h e;cases vs with
  | nil=>simp at e
  | cons v vs=>
   cases j with
   | zero=>
    simp at e; subst e;cases m with
    | val=>have:=yr (n:=n+1) h; omega
    | io=>exact ah.mpr (.inl rfl)
    | tk=>exact ah.mpr (.inl rfl)
   | succ j=>
    have b:vs[j]?=iD (.ref a):=by simpa using e
    have sub:n+1+j∈jy (n+1) ms:=by
     rw [show n+1+j=n+(j+1) by omega];cases m with
     | val=>exact h
     | io=>exact (ah.mp h).resolve_left (by omega)
     | tk=>exact (ah.mp h).resolve_left (by omega)
    have q:=i (n:=n+1) sub b;cases m <;> cases v <;> first | exact q | exact ai _ q
theorem Zd:∀ {ms:List PM} {vs:List V} {a:Addr},a∈uf ms vs->∃ j,n+j∈jy n ms/\vs[j]?=iD (.ref a):=by
 intro ms
 induction ms generalizing n with
 | nil=>intro vs a h; cases vs <;> simp [uf] at h
 | cons m ms i=>
  intro vs a h;cases vs with
  | nil=>cases m <;> simp [uf] at h
  | cons v vs=>
   have up:∀ {b},b∈uf ms vs->∃ j,n+j∈jy n (m::ms)/\(v::vs)[j]?=iD (.ref b):=λhb=>by
    obtain ⟨j,h1,h2⟩:=i (n:=n+1) hb;refine ⟨j+1,?_,by simpa using h2⟩;rw [show n+(j+1)=n+1+j by omega];cases m with
    | val=>exact h1
    | io=>exact ai _ h1
    | tk=>exact ai _ h1
   cases m with
   | val=>exact up (by cases v <;> exact h)
   | io=>
    cases v with
    | ref c=>
     rcases ah.mp h with e | h;·subst e; exact ⟨0,ah.mpr (.inl rfl),rfl⟩
     ·exact up h
    | _=>exact up h
   | tk=>
    cases v with
    | ref c=>
     rcases ah.mp h with e | h;·subst e; exact ⟨0,ah.mpr (.inl rfl),rfl⟩
     ·exact up h
    | _=>exact up h
theorem qaN:∀ {ms:List PM} {vs:List V} {i j:Nat} {a:Addr},(uf ms vs).Nodup->n+i∈jy n ms->n+j∈jy n ms->vs[i]?=iD (.ref a)->vs[j]?=iD (.ref a)->i=j:=by
 intro ms
 induction ms generalizing n with
 | nil=>intro vs i j a _ h; simp [jy] at h
 | cons m ms f=>
  intro vs i j a nd hi G e1 e;cases vs with
  | nil=>simp at e1
  | cons v vs=>
   have sub:∀ {k},n+(k+1)∈jy n (m::ms)->n+1+k∈jy (n+1) ms:=λ{k} h=>by
    rw [show n+1+k=n+(k+1) by omega];cases m with
    | val=>exact h
    | io=>exact (ah.mp h).resolve_left (by omega)
    | tk=>exact (ah.mp h).resolve_left (by omega)
   have d:(uf ms vs).Nodup:=by cases m <;> cases v <;> first | exact nd | exact (bb.mp nd).2
   have c:∀ {k b},n+0∈jy n (m::ms)->v=.ref b->n+(k+1)∈jy n (m::ms)->vs[k]?=iD (.ref b)->False:=λ{k b} o g l p=>by
    subst g;have q:=Zc (n:=n+1) (sub l) p;cases m with
    | val=>have:=yr (n:=n+1) o; omega
    | io=>exact (bb.mp nd).1 q
    | tk=>exact (bb.mp nd).1 q
   cases i with
   | zero=>
    cases j with
    | zero=>rfl
    | succ j=>exact (c hi (by simpa using e1) G (by simpa using e)).elim
   | succ i=>
    cases j with
    | zero=>exact (c G (by simpa using e) hi (by simpa using e1)).elim
    | succ j=>exact congrArg (·+1) (f (n:=n+1) d (sub hi) (sub G) (by simpa using e1) (by simpa using e))
noncomputable def qv (N:List Str) (ds:List D):Sl:=ds.map iD++ao (N.length - ds.length) iF
variable {α:Type} {N:List Str}
theorem get_start {xs:List α} {x:α}:(xs.map iD++ao (N.length - xs.length) iF)[i]?=iD (iD x)↔xs[i]?=iD x:=by
 by_cases h:i < xs.length
 ·rw [bS (by simpa using h),aJ];cases e:xs[i]? with
  | none=>simp
  | some y=>simp
 ·rw [bn (by simpa using h),aY];have e:xs[i]?=none:=cq.mpr (by omega);rw [e];split <;> simp
variable {ms:List PM}
theorem zB (s:Same F H) (r:ArgsIs K F H ms vs ds) (nd:(uf ms vs).Nodup):Rep K (jy 0 ms) F H (ko N vs) (qv N ds):=by
 obtain ⟨h1,h2⟩:=YB (n:=0) r;obtain ⟨c,l⟩:=r.length;refine ⟨s,by simp [ko,qv,c,l],λi d hi e=>?_,λi d hi e=>?_,λi hi=>?_,λi j a hi G e1 f=>?_⟩;·obtain ⟨v,a,b⟩:=h1 i d (get_start.mp e) (by simpa using hi);exact ⟨v,get_start.mpr a,b⟩
 ·obtain ⟨v,a,b⟩:=h2 i d (get_start.mp e) (by simpa using hi);exact ⟨v,get_start.mpr a,b⟩
 ·have q:=yr hi;have hl:i < ds.length:=by omega
  exact ⟨ds[i],get_start.mpr (by simp [hl])⟩
 ·exact qaN (n:=0) nd (by simpa using hi) (by simpa using G) (get_start.mp e1) (get_start.mp f)
theorem oa_start:OA (jy 0 ms) (ko N vs) b↔LA ms vs b:=by
 constructor;·rintro ⟨i,hi,e⟩;exact Zc (n:=0) (by simpa using hi) (get_start.mp e)
 ·intro h;obtain ⟨j,h1,h2⟩:=Zd (n:=0) h;exact ⟨j,by simpa using h1,get_start.mpr h2⟩
noncomputable def qB (ρ:Sl):Nat->List PM->List D
 | _,[]=>[]
 | n,.io::ms=>((ρ[n]?).getD iF).getD .non::qB ρ (n+1) ms
 | n,_::ms=>.non::qB ρ (n+1) ms
theorem qde {σ:St} {N:List Str}:∀ {ms:List PM} {vs:List V} {n:Nat},vs.length=ms.length->(∀ i∈Qd n ms,∃ d a,ρ[i]?=iD (iD d)/\vs[i - n]?=iD (V.ref a)/\F a=iF/\OwnIs K F H a d)->wq K F H ms vs (qB ρ n ms):=by
 intro ms
 induction ms with
 | nil=>intro vs n _ _; trivial
 | cons m ms j=>
  intro vs n hl h;cases vs with
  | nil=>simp at hl
  | cons v vs=>
   have rest:(∀ i∈Qd (n+1) ms,i∈Qd n (m::ms))->wq K F H ms vs (qB ρ (n+1) ms):=λc=>by refine j (by simpa using hl) λi hi=>?_;obtain ⟨d,a,e1,e,D⟩:=h i (c i hi);have q:=yr (qaM hi);refine ⟨d,a,e1,?_,D⟩;rw [show i - n=(i - (n+1))+1 by omega] at e;simpa using e
   cases m with
   | val=>exact rest λi hi=>hi
   | io=>obtain ⟨d,a,e1,e,D⟩:=h n (ah.mpr (.inl rfl));refine ⟨⟨a,by simpa using e,D.1,?_⟩,rest λi hi=>ai _ hi⟩;rw [e1];exact D.2
   | tk=>exact rest λi hi=>hi
noncomputable def Fl.val:Fl->Option D
 | .nx=>iD .non
 | .rt d=>iD d
 | _=>iF
noncomputable def vf (N:List Str) (ms:List PM) (f:Sl->Out (Fl×Sl)) (ds:List D):Out (D×List D):=match f (qv N ds) with
 | .ok (.nx,ρ)=>.ok (.non,qB ρ 0 ms)
 | .ok (.rt d,ρ)=>.ok (d,qB ρ 0 ms)
 | .ok _=>.bad
 | .exc c ρ=>.exc c ((qB ρ 0 ms).map iD)
 | .bad=>.bad
theorem Uj:∀ (l:List D),(l.map iD).map (λx:Option D=>x.getD .non)=l
 | []=>rfl
 | a::l=>congrArg (a::·) (Uj l)
def Out.le {α:Type} (a b:Out α):Prop:=a=.bad\/a=b
theorem VN {f:Sl->Out (Fl×Sl)} {Q:VK} {o:Out (D×List D)} (g:C.io=Qd 0 ms) (k:C.ox=C.io) (hmr:C.mr=.sh\/∀ ρ,(f (qv N ds))≠.ok (.nx,ρ)) (b:∀ i∈Qd 0 ms,i∈own') (m:Same F H) (r:ArgsIs C.K F H ms vs ds) (nd:(uf ms vs).Nodup)
  (G:Out.le o (vf N ms f ds)) (h:PoG C.K C.cv ms C.mr vs F H Q C.E o):tSt C (jy 0 ms) own' f { nx:=λ_ H'=>Q .non H',rt:=Q } (ko N vs) H:=by
 refine ⟨F,qv N ds,zB m r nd,?_⟩;have hl:=r.length.1;have ch:∀ {F' H'},Chg (OA (jy 0 ms) (ko N vs)) F H F' H'->Chg (LA ms vs) F H F' H':=λc=>c.mono λx z=>oa_start.mp z;have outs:∀ {σ':St} {ρ':Sl} {F' H':Hp},Xg C.K C.io F' H' σ' ρ'->(∀ i∈C.io,σ'[i]?=(ko N vs)[i]?)->wq C.K F' H' ms vs (qB ρ' 0 ms):=λ{σ' ρ' F' H'} io e=>by
  refine qde (N:=N) (σ:=σ') hl λi hi=>?_;have j:i∈C.io:=by rw [g]; exact hi
  obtain ⟨d,a,e1,l,u⟩:=io i j;refine ⟨d,a,e1,?_,u⟩;rw [e i j] at l;exact get_start.mp l
 rcases G with e | e;·subst e; exact h.elim
 ·subst e;unfold vf at h;cases q:f (qv N ds) with
  | ok p=>
   rw [q] at h;obtain ⟨fl,ρ'⟩:=p;cases fl with
   | nx=>have t:C.mr=.sh:=hmr.resolve_right λz=>z ρ' q;exact λσ' F' H' n=>h .non F' H' n.rep.sub (ch n.chg) (outs (n.rep.ioIs (by rw [g]; exact b)) n.io) (by rw [t]; exact .non)
   | rt d=>exact λv σ' F' H' s io c e mo=>h v F' H' s (ch c) (outs io e) mo
   | bk=>exact h.elim
   | ct=>exact h.elim
  | exc c ρ'=>rw [q] at h;exact λF' H' s io T=>h F' H' s (ch T) (by rw [Uj]; exact outs (σ':=ko N vs) (by rw [<-k]; exact io) λ_ _=>rfl)
  | bad=>rw [q] at h; exact h.elim
def Qe (K:Frag) (cv:Str->iG) (E:XK) (ms:List PM) (mr:Mo):Ct:=⟨K,cv,E,Qd 0 ms,mr,[],Qd 0 ms,λ_ h=>h⟩
theorem qhG {P:iL} {w:iM} {K:Frag} {mg:Str->Option iG} {base:Heap} {CX:CXT} {x qual:Str} {st:Stmt} {f:Addr} {fd:i6} {N ps:List Str} {k:Nat} {cv:Str->iG} {ms:List PM} {mr:Mo} {own':List Nat} {fb:Sl->Out (Fl×Sl)} {G:List D->Out (D×List D)}
  (F:Fun K x qual st f fd) (S:FnScope N ps (qd st)) (hl:ms.length=ps.length) (b:∀ i∈Qd 0 ms,i∈own') (hmr:mr=.sh\/∀ ds ρ,(fb (qv N ds))≠.ok (.nx,ρ))
  (c:∀ (cdv:iG) (A:iO) (outer:List Env) (s:iJ) (H:Hp) (E:XK),Room k (A.deeper (envOfC qual (qd st) s.heap.objs.size f cdv)) ->PSs (qah CX P w K mg base N qual (qd st) f cdv A outer s H E) (jm st) (tSt (Qe K cv E ms mr) (jy 0 ms) own' fb))
  (a:∀ ds,Out.le (G ds) (vf N ms fb ds)):FnOk P w K mg base CX (k+1) f fd ps (spD K cv ms mr G):=by
 obtain ⟨oc,od,kV,doc,pm,an,cdv,ct,osl,rfl,lk,d⟩:=F.ex;refine qaz lk d S (λvs H Q E h=>?_) λA outer s H vs Q E hr p=>?_;·obtain ⟨F,ds,_,r,_⟩:=h;rw [r.length.1,hl]
 ·obtain ⟨F1,ds,q,r,nd,h⟩:=p;refine ⟨_,c cdv A outer s H E hr,?_⟩;exact VN (C:=Qe K cv E ms mr) rfl rfl (hmr.imp id λz ρ=>z ds ρ) b q r nd (a ds) h
noncomputable def wn:AK->PM
 | .vl=>.val
 | .sl _=>.io
 | .fr=>.tk
noncomputable def qH:List AK->List D->Sl->Option (List D)
 | [],[],_=>iD []
 | .sl i::as,_::ds,ρ=>match ρ[i]? with
  | some (iD d)=>(qH as ds ρ).map (d::·)
  | _=>iF
 | .vl::as,d::ds,ρ=>(qH as ds ρ).map (d::·)
 | .fr::as,d::ds,ρ=>(qH as ds ρ).map (d::·)
 | _,_,_=>iF
noncomputable def jK:List AK->List D->Sl->Sl
 | .sl i::as,d::outs,ρ=>jK as outs (ρ.set i (iD d))
 | _::as,_::outs,ρ=>jK as outs ρ
 | _,_,ρ=>ρ
noncomputable def ji:List AK->List Nat
 | []=>[]
 | .sl i::as=>i::ji as
 | _::as=>ji as
noncomputable def frA:List AK->Nat
 | []=>0
 | .fr::as=>frA as+1
 | _::as=>frA as
section
theorem yt:∀ {as:List AK} {vs:List V} {ds g:List D},Rep K own F H σ ρ->(∀ i∈ji as,i∈own)->ArgV K H0 F H σ as vs ds->qH as ds ρ=iD g->ArgsIs K F H (as.map wn) vs g
 | [],vs,ds,g,rp,hs,av,e=>by cases vs <;> cases ds <;> first | exact av.elim | (simp [qH] at e; subst e; trivial)
 | a::as,[],ds,g,rp,hs,av,e=>by cases a <;> exact av.elim
 | a::as,v::vs,[],g,rp,hs,av,e=>by cases a <;> exact av.elim
 | .vl::as,v::vs,d::ds,g,rp,hs,av,e=>by
  cases q:qH as ds ρ with
  | none=>simp [qH,q] at e
  | some l=>
   have e:d::l=g:=by simpa [qH,q] using e
   subst e;exact ⟨av.1,yt rp hs av.2 q⟩
 | .fr::as,v::vs,d::ds,g,rp,hs,av,e=>by
  cases q:qH as ds ρ with
  | none=>simp [qH,q] at e
  | some l=>
   have e:d::l=g:=by simpa [qH,q] using e
   subst e;obtain ⟨a,h1,_,h2,h⟩:=av.1;exact ⟨⟨a,h1,h2,h⟩,yt rp hs av.2 q⟩
 | .sl i::as,v::vs,d::ds,g,rp,hs,av,e=>by
  obtain ⟨h1,_,b⟩:=av;have hi:i∈own:=hs i (ah.mpr (.inl rfl));obtain ⟨d',hd⟩:=rp.opn i hi;obtain ⟨a,e1,f,c⟩:=rp.ow i d' hi hd;rw [h1] at e1;cases e1;cases q:qH as ds ρ with
  | none=>simp [qH,q,hd] at e
  | some l=>
   have e:d'::l=g:=by simpa [qH,q,hd] using e
   subst e;exact ⟨⟨a,rfl,f,c⟩,yt rp (λj G=>hs j (ai _ G)) b q⟩
theorem vF:∀ {as:List AK} {vs:List V} {ds:List D} {b:Addr},ArgV K H0 F H σ as vs ds->b∈uf (as.map wn) vs->(∃ i∈ji as,σ[i]?=iD (iD (V.ref b)))\/(H0 b=iF/\frA as≠0/\H b≠iF/\F b=iF)
 | [],vs,ds,b,av,h=>by cases vs <;> simp [uf] at h
 | a::as,[],ds,b,av,h=>by cases a <;> exact av.elim
 | a::as,v::vs,[],b,av,h=>by cases a <;> exact av.elim
 | .vl::as,v::vs,d::ds,b,av,h=>by
  have h:b∈uf (as.map wn) vs:=by cases v <;> exact h
  exact vF (as:=as) av.2 h
 | .fr::as,v::vs,d::ds,b,av,h=>by
  obtain ⟨⟨a,rfl,f,C,o⟩,c⟩:=av;have h:b∈a::uf (as.map wn) vs:=h;rcases ah.mp h with e | h;·subst e; exact .inr ⟨f,by simp [frA],o.there,C⟩
  ·rcases vF c h with z | ⟨z,_,z2⟩
   ·exact .inl z
   ·exact .inr ⟨z,by simp [frA],z2⟩
 | .sl i::as,v::vs,d::ds,b,av,h=>by
  obtain ⟨h1,_,c⟩:=av;have up:b∈uf (as.map wn) vs->(∃ j∈ji (.sl i::as),σ[j]?=iD (iD (V.ref b)))\/(H0 b=iF/\frA (.sl i::as)≠0/\H b≠iF/\F b=iF):=λh=>by
   rcases vF c h with ⟨j,hj,e⟩ | z;·exact .inl ⟨j,ai _ hj,e⟩
   ·exact .inr z
  cases v with
  | ref a=>
   have h:b∈a::uf (as.map wn) vs:=h;rcases ah.mp h with e | h;·subst e; exact .inl ⟨i,ah.mpr (.inl rfl),h1⟩
   ·exact up h
  | _=>exact up h
theorem uF:∀ {as:List AK} {vs:List V} {ds:List D},Rep K own F H σ ρ->(∀ x,OA own σ x->H0 x≠iF)->(∀ i∈ji as,i∈own)->(ji as).Nodup->frA as<=1->ArgV K H0 F H σ as vs ds->(uf (as.map wn) vs).Nodup
 | [],vs,ds,rp,h0,hs,nd,hf,av=>by cases vs <;> simp [uf]
 | a::as,[],ds,rp,h0,hs,nd,hf,av=>by cases a <;> exact av.elim
 | a::as,v::vs,[],rp,h0,hs,nd,hf,av=>by cases a <;> exact av.elim
 | .vl::as,v::vs,d::ds,rp,h0,hs,nd,hf,av=>by have q:=uF (as:=as) rp h0 hs nd hf av.2;cases v <;> exact q
 | .fr::as,v::vs,d::ds,rp,h0,hs,nd,hf,av=>by
  have f:frA as=0:=by simp only [frA] at hf; omega
  obtain ⟨⟨a,rfl,k,C,o⟩,b⟩:=av;show (a::uf (as.map wn) vs).Nodup;refine bb.mpr ⟨λz=>?_,uF rp h0 hs nd (by omega) b⟩;rcases vF b z with ⟨i,hi,e⟩ | ⟨_,n,_⟩
  ·exact h0 a ⟨i,hs i hi,e⟩ k
  ·exact n f
 | .sl i::as,v::vs,d::ds,rp,h0,hs,nd,hf,av=>by
  obtain ⟨h1,_,b⟩:=av;have h:∀ j∈ji as,j∈own:=λj G=>hs j (ai _ G);have hi:i∈own:=hs i (ah.mpr (.inl rfl));obtain ⟨g,c⟩:=bb.mp nd;have q:=uF rp h0 h c hf b;cases v with
  | ref a=>
   show (a::uf (as.map wn) vs).Nodup;refine bb.mpr ⟨λz=>?_,q⟩;rcases vF b z with ⟨j,G,e⟩ | ⟨n,_⟩
   ·exact g (by rw [rp.dis i j a hi (h j G) h1 e]; exact G)
   ·exact h0 a ⟨i,hi,h1⟩ n
  | _=>exact q
theorem wI:∀ {as:List AK} {outs:List D} {ρ:Sl} {i:Nat},i∉ji as->(jK as outs ρ)[i]?=ρ[i]?
 | [],outs,ρ,i,h=>by cases outs <;> rfl
 | a::as,[],ρ,i,h=>by cases a <;> rfl
 | .vl::as,d::outs,ρ,i,h=>wI (as:=as) h
 | .fr::as,d::outs,ρ,i,h=>wI (as:=as) h
 | .sl j::as,d::outs,ρ,i,h=>by
  have h':i≠j/\i∉ji as:=by simpa [ji] using h
  show (jK as outs (ρ.set j (iD d)))[i]?=_;rw [wI h'.2,aj (be h'.1)]
theorem zc:∀ {as:List AK} {outs:List D} {ρ:Sl},(jK as outs ρ).length=ρ.length
 | [],outs,ρ=>by cases outs <;> rfl
 | a::as,[],ρ=>by cases a <;> rfl
 | .vl::as,d::outs,ρ=>zc (as:=as)
 | .fr::as,d::outs,ρ=>zc (as:=as)
 | .sl j::as,d::outs,ρ=>by show (jK as outs (ρ.set j (iD d))).length=_;rw [zc,bx]
theorem QL {F' H':Hp}:∀ {as:List AK} {vs:List V} {ds outs:List D} {ρ:Sl},(ji as).Nodup->(∀ i∈ji as,i < ρ.length)->ArgV K H0 F H σ as vs ds->wq K F' H' (as.map wn) vs outs->∀ i∈ji as,∃ d a,(jK as outs ρ)[i]?=iD (iD d)/\σ[i]?=iD (iD (V.ref a))/\F' a=iF/\OwnIs K F' H' a d
 | [],vs,ds,outs,ρ,nd,hl,av,o,i,hi=>by simp [ji] at hi
 | a::as,[],ds,outs,ρ,nd,hl,av,o,i,hi=>by cases a <;> exact av.elim
 | a::as,v::vs,[],outs,ρ,nd,hl,av,o,i,hi=>by cases a <;> exact av.elim
 | a::as,v::vs,d::ds,[],ρ,nd,hl,av,o,i,hi=>by cases a <;> exact o.elim
 | .vl::as,v::vs,d::ds,u::outs,ρ,nd,hl,av,o,i,hi=>QL (as:=as) nd hl av.2 o i hi
 | .fr::as,v::vs,d::ds,u::outs,ρ,nd,hl,av,o,i,hi=>QL (as:=as) nd hl av.2 o i hi
 | .sl j::as,v::vs,d::ds,u::outs,ρ,nd,hl,av,o,i,hi=>by
  obtain ⟨g,n⟩:=bb.mp nd;obtain ⟨h1,_,b⟩:=av;obtain ⟨⟨a,e,C,ow⟩,o2⟩:=o;subst e;rcases ah.mp hi with e | hi;·subst e;refine ⟨u,a,?_,h1,C,ow⟩;show (jK as outs (ρ.set i (iD u)))[i]?=_;rw [wI g,aC (hl i (ah.mpr (.inl rfl)))]
  ·exact QL (as:=as) (ρ:=ρ.set j (iD u)) n (λk h=>by rw [bx]; exact hl k (ai _ h)) b o2 i hi
end
noncomputable def qC (as:List AK) (G:List D->Out (D×List D)) (fr:Sl->Out (List D×Sl)):Sl->Out (D×Sl):=λρ=>(fr ρ).bind λp=>match qH as p.1 p.2 with
 | some ds=>match G ds with
  | .ok q=>.ok (q.1,jK as q.2 p.2)
  | .exc c o=>.exc c (jK as (o.map (·.getD .non)) p.2)
  | .bad=>.bad
 | none=>.bad
variable {G:List D->Out (D×List D)} {mr:Mo} {CX:CXT} {fd:i6} {ps:List Str}
section
variable {fr:Sl->Out (List D×Sl)}
theorem Uk {F' H':Hp} {outs:List D} (r:Rep C.K own F H σ ρ) (k:∀ x,OA own σ x->H0 x≠iF) (h:∀ i∈ji as,i∈own) (nd:(ji as).Nodup) (g:ArgV C.K H0 F H σ as vs ds)
  (s:Same F' H') (c:Chg (LA (as.map wn) vs) F H F' H') (o:wq C.K F' H' (as.map wn) vs outs):Rep C.K own F' H' σ (jK as outs ρ):=by
 have pin:=QL (ρ:=ρ) nd (λi hi=>by obtain ⟨d,e⟩:=r.opn i (h i hi);exact (aA.mp e).1) g o;refine ⟨s,by rw [zc]; exact r.len,λi d hi e=>?_,λi d hi e=>?_,λi hi=>?_,r.dis⟩;·rw [wI (λz=>hi (h i z))] at e;obtain ⟨v,h1,h2⟩:=r.val i d hi e;exact ⟨v,h1,h2.mono c.grow⟩
 ·by_cases q:i∈ji as;·obtain ⟨d',a,e1,t,p,m⟩:=pin i q;rw [e1] at e;cases e;exact ⟨a,t,p,m⟩
  ·rw [wI q] at e;obtain ⟨a,h1,h2,b⟩:=r.ow i d hi e;have l:¬LA (as.map wn) vs a:=λz=>by
    rcases vF g z with ⟨j,G,w⟩ | ⟨n,_⟩
    ·exact q (by rw [r.dis i j a hi (h j G) h1 w]; exact G)
    ·exact k a ⟨i,hi,h1⟩ n
   refine ⟨a,h1,?_,b.grow c.grow λo' f=>c.keep a o' f l⟩;cases f:F' a with
   | none=>rfl
   | some u=>
    rcases c.new a (by rw [f]; simp) with z | z | z;·exact absurd h2 z
    ·exact absurd z b.there
    ·exact absurd z l
 ·by_cases q:i∈ji as;·obtain ⟨d',a,e1,_⟩:=pin i q;exact ⟨d',e1⟩
  ·rw [wI q];exact r.opn i hi
theorem Ze {Q:VK} (l:∀ i∈C.ox,i∈own) (s:∀ i∈ji as,i∈own) (nd:(ji as).Nodup) (u:frA as<=1) (h:tE C own mr (qC as G fr) σ H Q):tAr C own as fr σ H λvs H1=>spD C.K C.cv (as.map wn) mr G (vs++[]) H1 Q C.E:=by
 obtain ⟨F,ρ,t,h⟩:=h;have m:∀ x,OA own σ x->H x≠none:=λx z=>(t.OA_there z).1;refine ⟨F,ρ,t,?_⟩;unfold qC at h;cases k:fr ρ with
 | ok p=>
  rw [k] at h;obtain ⟨ds,ρ1⟩:=p;intro vs F1 H1 a r b;rw [bj];have h1:Po C own mr σ F H (match qH as ds ρ1 with | some ds=>(match G ds with | .ok q=>.ok (q.1,jK as q.2 ρ1) | .exc c o=>.exc c (jK as (o.map (·.getD .non)) ρ1) | .bad=>.bad) | none=>.bad) Q:=h;cases q:qH as ds ρ1 with
  | none=>simp only [q] at h1; exact h1.elim
  | some g=>
   simp only [q] at h1;have lo:∀ x,LA (as.map wn) vs x->OA own σ x\/H x=none:=λx z=>by
    rcases vF b z with ⟨i,hi,e⟩ | ⟨n,_⟩
    ·exact .inl ⟨i,s i hi,e⟩
    ·exact .inr n
   refine ⟨F1,g,a.sub,yt a s b q,uF a m s nd u b,?_⟩;cases j:G g with
   | ok p=>rw [j] at h1;obtain ⟨d,outs⟩:=p;exact λv F' H' f c o mo=>h1 v F' H' (Uk a m s nd b f c o) (r.trans c lo) (MoIs.back (Ha:=H1) r mo)
   | exc x o=>rw [j] at h1; exact λF' H' f c outs=>h1 F' H' f ((Uk a m s nd b f c outs).ioIs l) (r.trans c lo)
   | bad=>rw [j] at h1; exact h1.elim
 | exc c=>rw [k] at h; exact h
 | bad=>rw [k] at h; exact h.elim
theorem qdf {k:Nat} {f:Addr} {p pos:Pos} (F:FnOk X.prog X.w X.K X.mg X.base CX k f fd ps (spD C.K C.cv ms mr G)) (hr:Room k X.A) (hg:Gl X x) (m:X.mg x=iD (.ref f)) (a:keepIn X.K (.ref f)=iI) (hb:Binds X.K fd ps []) (hx:jO CX X C.E)
  (j:PA X (e::es) (tAr C own as fr)) (s:ms=as.map wn:=by rfl) (c:∀ i∈ji as,i∈own:=by decide) (nd:(ji as).Nodup:=by decide) (d:frA as<=1:=by decide) (o:∀ i∈C.ox,i∈own:=by exact kq rfl) (b:(x == ("__debug__":Str))=false:=by decide) (g:starEach (e::es) X.env=(iH,eval e X.env)::starEach es X.env:=by exact ja rfl)
  (l:(backTo pos (starEach es X.env)).any (·.1)=false:=by exact vh rfl):PE X (.Call (.Name x p) (e::es) [] pos) (tE C own mr (qC as G fr)):=by
 subst s;exact jh (XC F hr hg m a hb .nil hx j b g l) λσ H Q h=>Ze o c nd d h
end
structure ItIs (K:Frag) (F:Hp) (J:It) (ds:List D):Prop where
 go:∀ i H,i < ds.length->Same F H->J.go i H
 yld:∀ i Fi H x H' d,ds[i]?=iD d->Same F Fi->Same Fi H->J.yld i H x H'->∃ F',Chg No Fi H F' H'/\Same F' H'/\Is K F' x d
 stop:∀ i H,ds.length<=i->Same F H->J.stop i H
def PoI (C:Ct) (own:List Nat) (σ:St) (F H:Hp) (r:Out (List D×Sl)) (R:It->Hp->Prop):Prop:=match r with
 | .ok (ds,ρ')=>∀ J F' H',Rep C.K own F' H' σ ρ'->Chg (OA own σ) F H F' H'->ItIs C.K F' J ds->R J H'
 | .exc c ρ'=>∀ F' H',Same F' H'->Xg C.K C.ox F' H' σ ρ'->Chg (OA own σ) F H F' H'->C.E (C.cv c) iF H'
 | .bad=>False
def tIt (C:Ct) (own:List Nat) (f:Sl->Out (List D×Sl)):TI:=λσ H R=>∃ F ρ,Rep C.K own F H σ ρ/\PoI C own σ F H (f ρ) R
noncomputable def yu:D->Out (List D)
 | .lst xs=>.ok xs
 | .tup xs=>.ok xs
 | _=>.bad
noncomputable def qiq (f:Sl->Out (D×Sl)):Sl->Out (List D×Sl):=λρ=>(f ρ).bind λp=>(yu p.1).bind λds=>.ok (ds,p.2)
theorem PoI.bindV {m:Mo} {k:D×Sl->Out (List D×Sl)} {Q:It->Hp->Prop} {R:VK} (hp:PoI C own σ F H (o.bind k) Q)
  (h:∀ v F1 H1 d ρ1,Rep C.K own F1 H1 σ ρ1->Chg (OA own σ) F H F1 H1->MoIs C.K m H F1 H1 v d->PoI C own σ F H (k (d,ρ1)) Q->R v H1):Po C own m σ F H o R:=by
 cases o with
 | ok p=>exact λv F1 H1 a c mo=>h v F1 H1 p.1 p.2 a c mo hp
 | exc x=>exact hp
 | bad=>exact hp.elim
variable {g:D->Sl->Out Sl} {tg iter:Expr} {xs:List V} {gs:List D->Sl->Out Sl} {fi:Sl->Out (List D×Sl)}
section
theorem qdg {t t':TI} (h:PI X tg e t) (i:∀ σ H Q,t' σ H Q->t σ H Q):PI X tg e t':=⟨λpins s σ H R I hw=>h pins s σ H R I (i σ H R hw)⟩
theorem qfa (p:SqL K F a xs) (t:IsL K F xs ds):ItIs K F (Itl K a) ds where
 go:=λi H hi s=>by
  have hx:i < xs.length:=by rw [t.length]; exact hi
  exact ⟨xs,xs[i],s.seq p,by simp [hx]⟩
 yld:=λi Fi H x H' d e s1 s2 y=>by obtain ⟨rfl,y⟩:=y;obtain ⟨v,h1,h2⟩:=t.getD e;have q:=y xs ((s1.trans s2).seq p);rw [h1] at q;cases q;exact ⟨Fi,.refl,s2,h2.mono s1⟩
 stop:=λi H hi s=>⟨xs,s.seq p,by rw [t.length]; exact hi⟩
theorem qfb (p:SqT K F a xs) (t:IsL K F xs ds):ItIs K F (Itt K a) ds where
 go:=λi H hi s=>by
  have hx:i < xs.length:=by rw [t.length]; exact hi
  exact ⟨xs,xs[i],je s p,by simp [hx]⟩
 yld:=λi Fi H x H' d e s1 s2 y=>by obtain ⟨rfl,y⟩:=y;obtain ⟨v,h1,h2⟩:=t.getD e;have q:=y xs (je (s1.trans s2) p);rw [h1] at q;cases q;exact ⟨Fi,.refl,s2,h2.mono s1⟩
 stop:=λi H hi s=>⟨xs,je s p,by rw [t.length]; exact hi⟩
noncomputable def JJ (lo:Int) (n:Nat):List D:=(bE n).map λk=>.int (lo+(k:Nat))
theorem qfc {lo:Int}:ItIs K F (Itr lo n) (JJ lo n) where
 go:=λi H hi _=>by
  have:i < n:=by simpa [JJ] using hi
  exact this
 yld:=λi Fi H x H' d e s1 s2 y=>by
  obtain ⟨rfl,rfl⟩:=y;have e:d=.int (lo+i):=by
   unfold JJ at e;rw [aJ] at e;cases q:(bE n)[i]? with
   | none=>rw [q] at e; cases e
   | some k=>
    rw [q] at e;have h:k=i:=by have:=aA.mp q;obtain ⟨_,z⟩:=this;simpa using z.symm
    subst h;exact (aU.inj e).symm
  subst e;exact ⟨Fi,.refl,s2,.int _⟩
 stop:=λi H hi _=>by
  have:n<=i:=by simpa [JJ] using hi
  exact this
noncomputable def kx (f:Sl->Out (D×Sl)):Sl->Out (List D×Sl):=λρ=>(f ρ).bind λp=>match p.1 with
 | .int j=>if -(2 ^ 62)<=j/\j < 2 ^ 62 then .ok (JJ 0 j.toNat,p.2) else .bad
 | _=>.bad
theorem wt {p:Pos} (hg:Gl X "range") (b:X.mg "range"=iF) (h:PE X e (tE C own m f)) (s:starEach [e] X.env=[(iH,eval e X.env)]:=by exact qO rfl):PI X tg (.Call (.Name "range" p) [e] [] pos) (tIt C own (kx f)):=by
 refine qdg (Xo hg b (qT h jU s) s) λσ H R ⟨F,ρ,r,h⟩=>⟨F,ρ,r,PoI.bindV h λv F1 H1 d ρ1 a l c h1=>?_⟩
 cases d with
 | int j=>
  obtain rfl:=c.top.int;have h1:PoI C own σ F H (if -(2 ^ 62)<=j/\j < 2 ^ 62 then .ok (JJ 0 j.toNat,ρ1) else .bad) R:=h1;by_cases z:-(2 ^ 62)<=j/\j < 2 ^ 62;·rw [if_pos z] at h1;exact ⟨j,rfl,z.1,z.2,h1 _ F1 H1 a l qfc⟩
  ·rw [if_neg z] at h1; exact h1.elim
 | _=>exact h1.elim
def tGd (C:Ct) (own:List Nat) (g:D->Sl->Out Sl):TG:=λv σ H Q=>∃ F ρ d,Rep C.K own F H σ ρ/\Is C.K F v d/\∃ ρ',g d ρ=.ok ρ'/\∀ σ',Rep C.K own F H σ' ρ'->(∀ b,OA own σ' b->OA own σ b)->(∀ i∈C.io,σ'[i]?=σ[i]?)->Q σ' H
def qgp (C:Ct) (own:List Nat) (g:List D->Sl->Out Sl):TGs:=λvs σ H Q=>∃ F ρ ds,Rep C.K own F H σ ρ/\IsL C.K F vs ds/\∃ ρ',g ds ρ=.ok ρ'/\∀ σ',Rep C.K own F H σ' ρ'->(∀ b,OA own σ' b->OA own σ b)->(∀ i∈C.io,σ'[i]?=σ[i]?)->Q σ' H
theorem qfd {t t':TG} (h:PG X e t) (i:∀ v σ H Q,t' v σ H Q->t v σ H Q):PG X e t':=⟨λpins s σ H v u Q I r hw=>h pins s σ H v u Q I r (i v σ H Q hw)⟩
theorem qcc {t t':TGs} (h:PGs X es t) (i:∀ v σ H Q,t' v σ H Q->t v σ H Q):PGs X es t':=⟨λpins s σ H v u Q I r hw=>h pins s σ H v u Q I r (i v σ H Q hw)⟩
noncomputable def gNm (i:Nat):D->Sl->Out Sl:=λd ρ=>if i < ρ.length then .ok (ρ.set i (iD d)) else .bad
theorem vz {own:List Nat} (h:i∉own):uc own [i]=own:=by unfold uc;rw [fA];intro j G;simp only [aK,decide_eq_true_eq];exact λz=>h (by rw [<-z]; exact G)
theorem qA (c:X.N.Nodup) (hi:X.N[i]?=iD x) (hx:Loc X.env.scope x) (m:i∉own:=by decide) (o:i∉C.io:=by exact yo rfl) (h:X.fn x=iI\/X.env.scope.names.lookup x=iD .local:=by first | exact .inl rfl | exact .inr rfl):PG X (.Name x pos) (tGd C own (gNm i)):=by
 refine qfd (qcO c hi hx h) λv σ H Q ⟨F,ρ,d,a,is,ρ',e,k⟩=>?_;unfold gNm at e;by_cases z:i < ρ.length
 ·rw [if_pos z] at e;cases e;have r2:=a.put z is;rw [vz m] at r2;refine k _ r2 (λb q=>?_) λj G=>aj λq=>o (by rw [q]; exact G);have f:OA (uc own [i]) (σ.set i (iD v)) b:=by rw [vz m]; exact q
  exact f.put
 ·rw [if_neg z] at e; cases e
noncomputable def we:List D->Sl->Out Sl
 | [],ρ=>.ok ρ
 | _::_,_=>.bad
noncomputable def qS (g:D->Sl->Out Sl) (gs:List D->Sl->Out Sl):List D->Sl->Out Sl
 | d::ds,ρ=>(g d ρ).bind λρ1=>gs ds ρ1
 | [],_=>.bad
theorem vQ:PGs X [] (qgp C own we):=by
 refine qcc qcP λvs σ H Q ⟨F,ρ,ds,a,is,ρ',e,k⟩=>?_;cases is with
 | nil=>cases e; exact ⟨rfl,k σ a (λ_ z=>z) λ_ _=>rfl⟩
 | cons _ _=>cases e
theorem qN (h1:PG X e (tGd C own g)) (h2:PGs X es (qgp C own gs)) (s:(assignEach (e::es) X.env).map (·.2)=assign e X.env::(assignEach es X.env).map (·.2):=by rfl):PGs X (e::es) (qgp C own (qS g gs)):=by
 refine qcc (qaq h1 h2 s) λvs σ H Q ⟨F,ρ,ds,p,is,ρ',e,k⟩=>?_;cases is with
 | nil=>cases e
 | @cons v d vs ds a t=>
  have e:(g d ρ).bind (λρ1=>gs ds ρ1)=.ok ρ':=e;cases q:g d ρ with
  | ok ρ1=>rw [q] at e;exact ⟨v,vs,rfl,F,ρ,d,p,a,ρ1,q,λσ1 h j m=>⟨F,ρ1,ds,h,t,ρ',e,λf r o l=>k f r (λb z=>j b (o b z)) λi hi=>(l i hi).trans (m i hi)⟩⟩
  | exc c=>rw [q] at e; cases e
  | bad=>rw [q] at e; cases e
noncomputable def wf (n:Nat) (gs:List D->Sl->Out Sl):D->Sl->Out Sl
 | .tup ds,ρ=>if ds.length=n then gs ds ρ else .bad
 | _,_=>.bad
theorem uh {k:Nat} (l:C.K=X.K) (f:X.calm=iI) (h:PGs X es (qgp C own gs)) (b:(assignEach es X.env).length=n:=by rfl) (c:(assignEach es X.env).findIdx? (·.1)=none:=by rfl):PG X (.Tuple es k pos) (tGd C own (wf n gs)):=by
 refine qfd (qeF f h b c) λv σ H Q ⟨F,ρ,d,r,is,ρ',e,k⟩=>?_;cases is with
 | @tup a xs ds p t=>
  have e:(if ds.length=n then gs ds ρ else .bad)=.ok ρ':=e;by_cases z:ds.length=n;·rw [if_pos z] at e;exact ⟨a,xs,rfl,by rw [<-l]; exact je r.sub p,by rw [t.length]; exact z,F,ρ,ds,r,t,ρ',e,k⟩
  ·rw [if_neg z] at e; cases e
 | _=>cases e
noncomputable def qcd (fe:Sl->Out (D×Sl)) (g:D->Sl->Out Sl):Sl->Out (Fl×Sl):=λρ=>(fe ρ).bind λp=>match g p.1 p.2 with
 | .ok ρ'=>.ok (.nx,ρ')
 | _=>.bad
theorem QM (k:PE X e (tE C own m f)) (hg:PG X tg (tGd C own g)) (j:m≠.any:=by decide) (s:swapsWithSole [tg] e pos.line X.env=pure false:=by rfl) (hw:swappedStores [tg] e X.env=pure none:=by rfl)
  (h1:(assignEach [tg] X.env).map (·.2)=[assign tg X.env]:=by rfl):PS X (.Assign [tg] e pos) (tSt C own own (qcd f g)):=by
 refine Ke (qb3 (vi k j) hg s hw h1) λD σ H ⟨F,ρ,p,h⟩=>⟨F,ρ,p,PoS.bindE h λv F1 H1 d ρ1 a l i h1=>?_⟩
 cases q:g d ρ1 with
 | ok ρ'=>simp only [q] at h1;exact ⟨F1,ρ1,d,a,i,ρ',q,λσ' r oa io=>h1 σ' F1 H1 ⟨r,.refl,λb z=>.inl (oa b z),io⟩⟩
 | exc c=>simp only [q] at h1; exact h1.elim
 | bad=>simp only [q] at h1; exact h1.elim
noncomputable def zd (g:D->Sl->Out Sl) (fb:Sl->Out (Fl×Sl)):List D->Sl->Out (Fl×Sl)
 | [],ρ=>.ok (.nx,ρ)
 | d::ds,ρ=>(g d ρ).plain.bind λρ1=>(fb ρ1).bind λp=>match p.1 with
  | .nx=>zd g fb ds p.2
  | .ct=>zd g fb ds p.2
  | .bk=>.ok (.nx,p.2)
  | .rt v=>.ok (.rt v,p.2)
noncomputable def qdh (fi:Sl->Out (List D×Sl)) (g:D->Sl->Out Sl) (fb:Sl->Out (Fl×Sl)):Sl->Out (Fl×Sl):=λρ=>(fi ρ).bind λp=>zd g fb p.1 p.2
theorem QN {l:List Stmt} {fb:Sl->Out (Fl×Sl)} (hp:PassesOwn (model X.prog X.w) X.A X.env X.xe) (V:X.calm=iI) (hi:PI X tg iter (tIt C own fi)) (hg:PG X tg (tGd C own g))
  (hb:PSs X l (tSt { C with ol:=own } own own fb)) (T:∀ x,foldedSetIterable iter X.env x=pure x:=by intro _; rfl):PS X (.For tg iter l [] pos) (tSt C own own (qdh fi g fb)):=by
 refine Ke (qb5 hp V hi hg hb T) λD σ H ⟨F,ρ,S,h⟩=>⟨F,ρ,S,?_⟩
 unfold qdh at h;cases L:fi ρ with
 | exc c=>rw [L] at h; exact h
 | bad=>rw [L] at h; exact h.elim
 | ok p=>
  rw [L] at h;obtain ⟨ds,ρ1⟩:=p;intro J F1 H1 G R it;have h:PoS C own own σ F H (zd g fb ds ρ1) D:=h;refine ⟨λi m σ' H'=>m=ds.length - i/\i<=ds.length/\∃ F' ρ',Nx C own own σ F H ρ' σ' F' H'/\Same F1 F'/\PoS C own own σ' F' H' (zd g fb (ds.drop i) ρ') D,⟨ds.length,by simp,bA _,F1,ρ1,.ofE G R,Same.refl _,h.shift (.ofE G R)⟩,?_⟩;rintro i m σ' H' ⟨rfl,U,F',ρ',nx,gr,po⟩;by_cases t:i < ds.length
  ·have hd:ds.drop i=ds[i]::ds.drop (i+1):=dN t;rw [hd] at po;have po:PoS C own own σ' F' H' ((g ds[i] ρ').plain.bind λρ1=>(fb ρ1).bind λp=>match p.1 with | .nx=>zd g fb (ds.drop (i+1)) p.2 | .ct=>zd g fb (ds.drop (i+1)) p.2 | .bk=>.ok (.nx,p.2) | .rt v=>.ok (.rt v,p.2)) D:=po;refine .inr ⟨it.go i H' t (gr.trans nx.rep.sub),λr H2=>ds.length - (i+1)=ds.length - (i+1)/\i+1<=ds.length/\∃ F' ρ',Nx C own own σ F H ρ' r F' H2/\Same F1 F'/\PoS C own own r F' H2 (zd g fb (ds.drop (i+1)) ρ') D,λr H2 q=>⟨ds.length - (i+1),by omega,q⟩,λx H2 y=>?_⟩;obtain ⟨u,c2,s2,P⟩:=it.yld i F' H' x H2 ds[i] (by simp [t]) gr nx.rep.sub y;cases I:g ds[i] ρ' with
   | exc c=>rw [I] at po; exact po.elim
   | bad=>rw [I] at po; exact po.elim
   | ok k=>
    rw [I] at po;refine ⟨u,ρ',ds[i],nx.rep.grow c2 s2,P,k,I,λj E N Q=>⟨u,k,E,?_⟩⟩;have O:Nx C own own σ' F' H' k j u H2:=⟨E,c2.ofNo,λb z=>.inl (N b z),Q⟩
    have a:=PoS.shift (show PoS C own own σ' F' H' ((fb k).bind λp=>match p.1 with | .nx=>zd g fb (ds.drop (i+1)) p.2 | .ct=>zd g fb (ds.drop (i+1)) p.2 | .bk=>.ok (.nx,p.2) | .rt v=>.ok (.rt v,p.2)) D from po) O;have up:∀ {B f M o},Nx { C with ol:=own } own own j u H2 B f M o->Nx C own own j u H2 B f M o:=λz=>⟨z.rep,z.chg,z.oa,z.io⟩
    cases K:fb k with
    | exc c=>rw [K] at a; exact a
    | bad=>rw [K] at a; exact a.elim
    | ok p=>
     rw [K] at a;obtain ⟨fl,B⟩:=p;cases fl with
     | nx=>exact λf M o n=>⟨rfl,t,M,B,(nx.then O).then (up n),(gr.trans c2.grow).trans n.chg.grow,PoS.shift (show PoS C own own j u H2 (zd g fb (ds.drop (i+1)) B) D from a) (up n)⟩
     | ct=>exact λf M o n=>⟨rfl,t,M,B,(nx.then O).then (up n),(gr.trans c2.grow).trans n.chg.grow,PoS.shift (show PoS C own own j u H2 (zd g fb (ds.drop (i+1)) B) D from a) (up n)⟩
     | bk=>exact λf M o n=>a f M o (up n)
     | rt d=>exact λv f M o s io c e mo=>a v f M o s io c e mo
  ·have e:i=ds.length:=by omega
   subst e;rw [fQ] at po;exact .inl ⟨it.stop _ H' (aG _) (gr.trans nx.rep.sub),po σ' F' H' (.refl nx.rep)⟩
end
noncomputable def Qf (cells:List (Str×Addr)):List (Str×i9)->List (Str×Addr)->List (Str×Addr)
 | [],acc=>acc
 | (n,k)::r,acc=>if (k == .free)=iI then Qf cells r ((n,(cells.lookup n).getD 0)::acc) else Qf cells r acc
variable {env:Env}
theorem ui:∀ (names:List (Str×i9)) (acc:List (Str×Addr)),(∀ x∈names,x.2=.free->∃ c,env.cells.lookup x.1=iD c) ->(forIn names acc λ(x:Str×i9) (cs:List (Str×Addr))=>if (x.2 == bK)=iI then (do let a <-cellOf env x.1; pure (cA ((x.1,a)::cs))) else pure (cA cs):Sem (List (Str×Addr)))=pure (Qf env.cells names acc)
 | [],acc,_=>rfl
 | (n,k)::r,acc,h=>by
  rw [fX];by_cases q:(k == bK)=iI
  ·obtain ⟨c,d⟩:=h (n,k) ay (by simpa using q);have e:cellOf env n=pure c:=by unfold cellOf; rw [d]
   simp only [q,if_true,e];have j:=ui r ((n,c)::acc) (λx hx=>h x (ai _ hx));simp only [Qf,q,if_true,d,cE];exact j
  ·simp only [q,if_false,Qf];exact ui r acc (λx hx=>h x (ai _ hx))
variable {scope:lm}
theorem Qg (h:∀ x∈scope.names,x.2=.free->∃ c,env.cells.lookup x.1=iD c):closureFor scope env=pure (Qf env.cells scope.names []):=by have:=ui scope.names [] h;unfold closureFor;simp only [bind_pure];exact this
variable {cells:List (Str×Addr)}
theorem yd:∀ {names:List (Str×i9)} {acc:List (Str×Addr)} {x:Str} {c:Addr},(∀ y∈names,y.2=.free->∃ c,cells.lookup y.1=iD c)->(Qf cells names acc).lookup x=iD c->cells.lookup x=iD c\/acc.lookup x=iD c
 | [],acc,x,c,_,h=>.inr h
 | (n,k)::r,acc,x,c,hf,h=>by
  unfold Qf at h;by_cases q:(k == bK)=iI
  ·rw [if_pos q] at h;obtain ⟨T,d⟩:=hf (n,k) ay (by simpa using q);rcases yd (λy a=>hf y (ai _ a)) h with z | z;·exact .inl z
   ·rw [cw] at z;have d:cells.lookup n=iD T:=d;by_cases e:(x == n)=iI
    ·rw [e] at z;simp only [d,cE] at z;have:x=n:=by simpa using e
     subst this;rw [d]; exact .inl z
    ·have e:(x == n)=false:=by simpa using e
     rw [e] at z;exact .inr z
  ·rw [if_neg q] at h;exact yd (λy a=>hf y (ai _ a)) h
theorem QO:∀ {names:List (Str×i9)} {acc:List (Str×Addr)} {x:Str},(∃ c,acc.lookup x=iD c)->∃ c,(Qf cells names acc).lookup x=iD c
 | [],_,_,h=>h
 | (n,k)::r,acc,x,h=>by
  unfold Qf;by_cases q:(k == bK)=iI
  ·rw [if_pos q];refine QO ?_;obtain ⟨c,d⟩:=h;rw [cw];by_cases e:(x == n)=iI;·rw [e]; exact ⟨_,rfl⟩
   ·have e:(x == n)=false:=by simpa using e
    rw [e]; exact ⟨c,d⟩
  ·rw [if_neg q]; exact QO h
theorem yv:∀ {names:List (Str×i9)} {acc:List (Str×Addr)} {x:Str},(x,bK)∈names->∃ c,(Qf cells names acc).lookup x=iD c
 | (n,k)::r,acc,x,h=>by
  unfold Qf;rcases ah.mp h with e | h
  ·cases e;rw [if_pos (by rfl)];refine QO ?_;rw [cw,beq_self_eq_true];exact ⟨_,rfl⟩
  ·by_cases q:(k == bK)=iI;·rw [if_pos q]; exact yv h
   ·rw [if_neg q]; exact yv h
noncomputable def kh (X:Cx) (scope:lm) (N:List Str) (fp:List Addr) (L:Addr) (s:iJ) (H:Hp):Cx:=
 { X with N:=N,s₀:=s,H₀:=H,env:=compEnvC scope (cellsFrom (L+1) scope.names (Qf X.env.cells scope.names [])) L X.env,outer:=X.stack,stack:=X.stack,ex:=fp,fn:=λx=>scope.names.lookup x == iD .cell,pn:=[],xe:=λ_ _=>False }
structure ScOk (X:Cx) (scope:lm):Prop where
 kind:scope.kind=.function
 cel:∀ y∈scope.names,y.2=.cell->scope.names.lookup y.1=iD .cell
 names:∀ y∈scope.names,y.2=.local->scope.names.lookup y.1=iD .local
 free:∀ y∈scope.names,y.2=.free->X.env.kindOf y.1=iD .cell\/X.env.kindOf y.1=iD .free
 frl:∀ y∈scope.names,y.2=.free->scope.names.lookup y.1=iD .free
theorem kJ {a:α}:∀ {l:List (Str×α)},l.lookup x=iD a->(x,a)∈l
 | [],h=>by simp at h
 | (n,k)::r,h=>by
  rw [cw] at h;by_cases e:(x == n)=iI
  ·rw [e] at h;have h:iD k=iD a:=h;cases h;have:x=n:=by simpa using e
   subst this;exact ay
  ·have e:(x == n)=false:=by simpa using e
   rw [e] at h;exact ai _ (kJ h)
theorem xz {k:i9} (h:(relabel scope env).names.lookup x=iD k) (a:k=.cell\/k=.free):(x,bK)∈scope.names\/(x,dS)∈scope.names:=by
 have m:=kJ h;obtain ⟨⟨n,k'⟩,c,e⟩:=aF.mp m;dsimp only at e;by_cases q:(k' == bK&&env.scope.kind == .function&&env.kindOf n == iD .cell)=iI
 ·rw [if_pos q] at e;cases e;have:k'=.free:=by rw [aZ,aZ] at q;simpa using q.1.1
  subst this;exact .inl c
 ·rw [if_neg q] at e;cases e;rcases a with rfl | rfl;·exact .inr c
  ·exact .inl c
theorem vj:∀ (names:List (Str×i9)) (n:Nat) (a b:List (Str×Addr)),cellsFrom n names (a++b)=cellsFrom n names a++b
 | [],_,_,_=>rfl
 | (x,k)::r,n,a,b=>by
  unfold cellsFrom;split;·exact vj r (n+1) ((x,n)::a) b
  ·exact vj r n a b
theorem wJ:∀ (names:List (Str×i9)) (n:Nat) (a:List (Str×Addr)) (x:Str) (c:Addr),(x,c)∈cellsFrom n names a->(x,c)∈a\/(x,dS)∈names
 | [],_,_,_,_,h=>.inl h
 | (y,k)::r,n,a,x,c,h=>by
  unfold cellsFrom at h;split at h
  ·rename_i b;have b:k=.cell:=by simpa using b
   rcases wJ r (n+1) _ x c h with h | h
   ·rcases ah.mp h with e | h;·cases e; subst b; exact .inr ay
    ·exact .inl h
   ·exact .inr (ai _ h)
  ·exact (wJ r n a x c h).imp id (ai _)
variable {names:List (Str×i9)}
theorem qce {cl:List (Str×Addr)} {c:Addr} (h:(cellsFrom n names cl).lookup x=iD c):(x,c)∈cellsFrom n names []\/((cellsFrom n names []).lookup x=iF/\cl.lookup x=iD c):=by
 rw [show cl=[]++cl from rfl,vj,List.lookup_append] at h;cases q:(cellsFrom n names []).lookup x with
 | some T=>rw [q] at h;cases h;exact .inl (kJ q)
 | none=>rw [q] at h; exact .inr ⟨rfl,h⟩
theorem qdi {cl:List (Str×Addr)} {c:Addr} (h:cl.lookup x=iD c) (hx:(x,dS)∉names):(cellsFrom n names cl).lookup x=iD c:=by
 rw [show cl=[]++cl from rfl,vj,List.lookup_append];cases q:(cellsFrom n names []).lookup x with
 | none=>exact h
 | some T=>exact absurd ((wJ _ _ _ _ _ (kJ q)).resolve_left (by simp)) hx
theorem Zf {cl:List (Str×Addr)} (h:(x,dS)∈names\/∃ c,cl.lookup x=iD c):∃ c,(cellsFrom n names cl).lookup x=iD c:=by
 cases q:(cellsFrom n names cl).lookup x with
 | some c=>exact ⟨c,rfl⟩
 | none=>
  exfalso;have go:∀ (names:List (Str×i9)) (n:Nat) (a:List (Str×Addr)),((x,dS)∈names\/∃ c,a.lookup x=iD c)->∃ c,(cellsFrom n names a).lookup x=iD c:=by
   intro names
   induction names with
   | nil=>intro n a h; exact h.resolve_left (by simp)
   | cons y r j=>
    intro n a h;obtain ⟨y,k⟩:=y;unfold cellsFrom;split
    ·refine j _ _ ?_;rcases h with h | ⟨c,h⟩
     ·rcases ah.mp h with e | h;·cases e; exact .inr ⟨n,by simp⟩
      ·exact .inl h
     ·by_cases e:(x == y)=iI;·exact .inr ⟨n,by rw [cw,e]⟩
      ·have e:(x == y)=false:=by simpa using e
       exact .inr ⟨c,by rw [cw,e]; exact h⟩
    ·rename_i b;refine j _ _ ?_;rcases h with h | h
     ·rcases ah.mp h with e | h;·cases e; exact absurd rfl b
      ·exact .inl h
     ·exact .inr h
  obtain ⟨c,e⟩:=go names n cl h;rw [q] at e;cases e
theorem QP {M:Model} {A:iO} {E:iG->iJ->Prop} {s:iJ} {scope:lm} {globals:Addr} {c:List (Str×Addr)} {qual:Str} {func:Option Addr} {code:iG} {env:Env} {builtins:Addr} {Q:Env->iJ->Prop}
  (a:∀ h',h'.Ns s.heap.objs.size (λ_=>iF)->(∀ b o,s.heap.get? b=iD o->h'.get? b=iD o)->CellsOk h' (s.heap.objs.size+1) (cellsFrom (s.heap.objs.size+1) scope.names []) ->Q (newEnv scope s.heap.objs.size globals (cellsFrom (s.heap.objs.size+1) scope.names c) qual func code (iD env) builtins) { s with heap:=h' }) :
  wpAny M A (newFunctionEnv scope globals c [] qual func code (iD env) builtins) Q E s:=by
 simp only [newFunctionEnv,Option.isSome_some,if_true];refine iE (wpAny_alloc ?_);refine iE (wpAny_layCells _ (λname kind cells=>by cases h:kind == dS <;> simp [h]) _ _ _ _ ?_);have ok:=cellsFrom_ok scope.names (s.heap.push { cls:=.type "dict",data:=.dict #[] }) (s.heap.objs.size+1) [] ⟨λ_ _ m=>(nomatch m),dw⟩ (by rw [bH]; exact aG _);rw [bH] at ok;rw [show ({ s with heap:=s.heap.push { cls:=.type "dict",data:=.dict #[] } }:iJ).heap.objs.size=s.heap.objs.size+1 from bH ..];rw [f9];exact iE (iK (iK (a _ ((Heap.Ns.new s.heap (.type "dict")).keeps (pushCells_keeps _ _)) (λb o e=>pushCells_keeps _ _ b o (aa _ e)) ok)))
theorem Ki (h:Vis (relabel scope env) x):∃ k,(x,k)∈scope.names:=by
 have go:∀ {k:i9},(relabel scope env).names.lookup x=iD k->∃ k,(x,k)∈scope.names:=λ{k} h=>by
  obtain ⟨⟨n,k'⟩,c,e⟩:=aF.mp (kJ h);dsimp only at e;by_cases q:(k' == bK&&env.scope.kind == .function&&env.kindOf n == iD .cell)=iI;·rw [if_pos q] at e;cases e;exact ⟨_,c⟩
  ·rw [if_neg q] at e;cases e;exact ⟨_,c⟩
 rcases h with h | h | h <;> exact go h
variable {pins:List (Addr×Obj)} {σc:St} {s s':iJ} {fp:List Addr} {h':Heap}
section
theorem zD (I:Inv X pins σ H s) (S:ScOk X scope):∀ y∈scope.names,y.2=.free->∃ c,X.env.cells.lookup y.1=iD c:=λy k e=>I.ok.has y.1 (S.free y k e)
theorem qaO (I:Inv X pins σ H s) (S:ScOk X scope) (M:∀ b∈fp,Vt X pins H b) (R:∀ b∈fp,b < s.heap.objs.size) (G:h'.Ns s.heap.objs.size (λ_=>iF)) (l:CellsOk h' (s.heap.objs.size+1) (cellsFrom (s.heap.objs.size+1) scope.names []))
  (w:∀ b o,s.heap.get? b=iD o->h'.get? b=iD o) (hl:σc.length=N.length)
  (E:∀ (j:Nat) (x:Str) (v:V),N[j]?=iD x->σc[j]?=iD (iD v)->(∃ k,(x,k)∈scope.names)->∃ i:Nat,X.N[i]?=iD x/\σ[i]?=iD (iD v)/\Vis X.env.scope x/\(x,bK)∈scope.names) {t:Nat} :
  Inv (kh X scope N fp s.heap.objs.size s H) [] σc H { s with heap:=h',toks:=t }:=by
 have L:=zD I S;have cl:∀ x c,(Qf X.env.cells scope.names []).lookup x=iD c->X.env.cells.lookup x=iD c:=λx c e=>(yd L e).resolve_right (by simp);have A:∀ x c,(cellsFrom (s.heap.objs.size+1) scope.names (Qf X.env.cells scope.names [])).lookup x=iD c->((x,c)∈cellsFrom (s.heap.objs.size+1) scope.names []/\h'.IsCell c iF/\s.heap.objs.size < c)\/(X.env.cells.lookup x=iD c/\c < s.heap.objs.size):=λx c h=>by
  rcases qce h with h | ⟨_,h⟩
  ·exact .inl ⟨h,(l.empty x c h).1,(l.empty x c h).2⟩
  ·obtain ⟨v,Y⟩:=I.cell x c (cl x c h);exact .inr ⟨cl x c h,Y.lt⟩
 have D:∀ b∈fp,b∉frs X.stack:=λb hb z=>by
  obtain ⟨f0,f1,f2,_⟩:=M b hb;rcases ah.mp (I.stkSub b z) with e | e;·exact f1 e
  ·exact f2 e
 refine ⟨⟨I.ok.mod,?_,I.ok.glob,I.ok.blt,aG _,λx y c h1 h2=>?_,λx hx=>?_,λx c h e=>?_,I.ok.hd,I.ok.frames,.inl rfl,λb hb=>⟨aL (R b hb),λx c e z=>?_⟩,I.bs,bR I.ok.bsz I.sz,λb o e hb=>?_,D,I.stack,I.stkFree⟩,rfl,I.bare,Un.kept w,⟨_,G,λj x v e1 d U=>?_⟩,λx c e=>?_,I.hok.fresh (aG _),λx c e=>?_,λp hp=>absurd (show p∈([]:List (Addr×Obj)) from hp) (by simp),I.hok.kept w,hl⟩;·exact S.kind
 ·rcases A x c h1 with ⟨a1,_,a2⟩ | ⟨a1,a2⟩ <;> rcases A y c h2 with ⟨b1,_,b2⟩ | ⟨b1,b2⟩
  ·exact name_of_addr l.apart a1 b1
  ·exact absurd a2 (iq b2)
  ·exact absurd b2 (iq a2)
  ·exact I.ok.inj x y c a1 b1
 ·refine Zf ?_;rcases hx with hx | hx
  ·rcases xz hx (.inl rfl) with z | z;·exact .inr (yv z)
   ·exact .inl z
  ·rcases xz hx (.inr rfl) with z | z;·exact .inr (yv z)
   ·exact .inl z
 ·have h:(scope.names.lookup x == iD .cell)=true:=h;have h:scope.names.lookup x=iD .cell:=by simpa using h
  rcases qce e with q | ⟨q,_⟩
  ·exact Nat.le_of_succ_le (l.empty x c q).2
  ·obtain ⟨c',Q⟩:=Zf (n:=s.heap.objs.size+1) (cl:=[]) (.inl (kJ h));rw [q] at Q;cases Q
 ·rcases A x c e with ⟨_,_,q⟩ | ⟨q,_⟩
  ·subst z; exact absurd (R _ hb) (iq q)
  ·exact (M b hb).2.2.2.2.1 x c q z
 ·rcases (M b hb).2.2.2.1 with z | z;·exact I.ok.noex b o e z
  ·have J:=aE e;exact absurd (aQ J (bR I.ok.bsz z)) (cD _)
 ·obtain ⟨i,g1,g2,g3,B⟩:=E j x v e1 d (Ki U);obtain ⟨m,F,K⟩:=I.loc;obtain ⟨u,r,look⟩:=K i x v g1 g2 g3;refine ⟨u,r,?_⟩;obtain ⟨C,a⟩:=yv (cells:=X.env.cells) (acc:=[]) B;have O:=cl x C a;have a:(cellsFrom (s.heap.objs.size+1) scope.names (Qf X.env.cells scope.names [])).lookup x=iD C:=qdi a λz=>by have e1:=S.cel _ z rfl;have d:=S.frl _ B rfl;have e1:scope.names.lookup x=iD .cell:=e1;have d:scope.names.lookup x=iD .free:=d;rw [e1] at d;cases d
  have kd:(kh X scope N fp s.heap.objs.size s H).env.kindOf x=iD .cell\/(kh X scope N fp s.heap.objs.size s H).env.kindOf x=iD .free\/(kh X scope N fp s.heap.objs.size s H).env.kindOf x=iD .local:=by
   rcases U with z | z | z;·exact .inr (.inr z)
   ·exact .inl z
   ·exact .inr (.inl z)
  rcases look with ⟨k,_⟩ | ⟨k,c,T,z⟩
  ·rcases S.free _ B rfl with q | q;·have q:X.env.kindOf x=iD .cell:=q;rw [k] at q; cases q
   ·have q:X.env.kindOf x=iD .free:=q;rw [k] at q; cases q
  ·rw [O] at T;cases T;obtain ⟨oc,g,f⟩:=z;rcases kd with q | q | q;·exact .inr ⟨.inl q,C,a,⟨oc,w _ _ g,f⟩⟩
   ·exact .inr ⟨.inr q,C,a,⟨oc,w _ _ g,f⟩⟩
   ·refine absurd q ?_;intro q;have W:=kJ (show (relabel scope X.env).names.lookup x=iD .local from q);obtain ⟨⟨n,k'⟩,Z,e⟩:=aF.mp W;dsimp only at e;by_cases P:(k' == bK&&X.env.scope.kind == .function&&X.env.kindOf n == iD .cell)=iI;·rw [if_pos P] at e; cases e
    ·rw [if_neg P] at e;cases e;have e1:=S.names _ Z rfl;have d:=S.frl _ B rfl;have e1:scope.names.lookup x=iD .local:=e1;have d:scope.names.lookup x=iD .free:=d;rw [e1] at d;cases d
 ·rcases A x c e with ⟨_,q,_⟩ | ⟨q,_⟩
  ·exact ⟨iF,q⟩
  ·obtain ⟨v,oc,g,f⟩:=I.cell x c q;exact ⟨v,oc,w _ _ g,f⟩
 ·rcases A x c e with ⟨_,_,q⟩ | ⟨q,_⟩
  ·exact I.hok.fresh (cN q)
  ·exact I.freeC x c q
theorem qaP {H1:Hp} {s1:iJ} {L:Addr} (I:Inv X pins σ H s) (f:∀ b∈fp,Vt X pins H b) (J:Inv (kh X scope N fp s.heap.objs.size s H) [] σc H' s') (a:bM s.heap.objs.size s'.heap h'):Inv X pins σ H' { s' with heap:=h' }:=by
 have h:H' s.heap.objs.size=none:=J.free;have ne:∀ b o,s.heap.get? b=iD o->b≠s.heap.objs.size:=λb o e=>aL (aE e);have U:Un (frs X.stack) fp H H' s.heap s'.heap:=J.base;refine I.call' (s':={ s' with heap:=h' }) (ch:=fp) J.os ⟨λb o e n h1 h2=>(a.2 b (ne b o e)).trans (U.keep b o e n h1 h2),λb o e n h1 h2=>?_,U.free,λb o e h2=>?_,U.tups,U.frzs,U.tbls⟩ (λb u e=>?_) J.bare λb hb=>?_;·obtain ⟨sl,q⟩:=U.slot b o e n h1 h2;exact ⟨sl,(a.2 b (ne b o e)).trans q⟩
 ·obtain ⟨o',q⟩:=U.there b o e h2;exact ⟨o',(a.2 b (ne b o e)).trans q⟩
 ·refine (J.hok b u e).stay (λc w d q=>(a.2 c ?_).trans q) (λ_ q=>q) λ_ _ q=>q;rintro rfl;rcases d with z | z;·rw [<-z,h] at e; cases e
  ·rw [h] at z; cases z
 ·obtain ⟨f0,f1,f2,m,f4,f5⟩:=f b hb;exact ⟨m,f1,f4,f5⟩
end
theorem QQ {prog:iL} {w:iM} {A:iO} {R:lL->iJ->Prop} {s:iJ} {elt target iter:Expr} {ifs:List Expr} {scope:lm} {pos:Pos} {it acc:iG} {env:Env} (I:Nat->iJ->Prop)
  (turn:∀ n s,I n s->wpAny (model prog w) A (pyNext it) (λr d=>match r with
   | none=>R (.ok .next) d
   | some v=>wpAny (model prog w) A (letOwnedTupleGo target it v) (λ_ e=>wpAny (model prog w) A (assign target env v) (λ_ i=>
     wpAny (model prog w) A (forIn ifs iI λc r=>if r=iI then do let ok <-isTrue c env (eval c env); pure (cA ok) else pure (cA r)) (λok b=>
      if ok=iI then wpAny (model prog w) A (eval elt env) (λx g=>
       wpAny (model prog w) A (call (.builtin "list.append") [acc,x]) (λ_ f=>∃ m,m < n/\I m f) (λ_ _=>False) g) (λ_ _=>False) b
      else ∃ m,m < n/\I m b) (λ_ _=>False) i) (λ_ _=>False) e) (λ_ _=>False) d) (λ_ _=>False) s)
  (n:Nat) (h:I n s):codeAny (model prog w) A (.compLoop (.ListComp elt [⟨target,iter,ifs,0⟩] scope pos) 0 it acc env) R s:=by
 have no:∀ {α:Type} {t:Sem α} {Q u:α->iJ->Prop} {E:iG->iJ->Prop} {s:iJ},wpAny (model prog w) A t Q (λ_ _=>False) s->(∀ a s,Q a s->u a s)->wpAny (model prog w) A t u E s:=λh k=>i8 h k λ_ _ z=>z.elim;refine codeAny_loop rfl I (λn s y=>?_) n h;show wpAny _ A ((compTurn (.ListComp elt [⟨target,iter,ifs,0⟩] scope pos) 0 it acc env).onRaise (λx=>do noteFrame x env; theTreesLotGoes x)) _ _ s;refine wpAny_noted ?_;rw [compTurn_list];refine iE (lC (iE (no (turn n s y) λr d h₁=>?_)));cases r with
 | none=>exact iK h₁
 | some v=>
  refine iE (no h₁ λ_ e l=>iE (no l λ_ i q=>iE (no q λok b j=>?_)));cases ok with
  | false=>exact iK ⟨rfl,j⟩
  | true=>exact iE (iE (no j λx g p=>iE (no p λ_ f o=>iK (iK ⟨rfl,o⟩))))
structure PTs (Y:Cx) (ifs:List Expr) (t:TT):Prop where
 run:∀ (pins:List (Addr×Obj)) (s:iJ) (σ:St) (H:Hp) (Q:Bool->Hp->Prop),Inv Y pins σ H s->t σ H Q ->wpAny (model Y.prog Y.w) Y.A (forIn ifs iI λc r=>if r=iI then do let ok <-isTrue c Y.env (eval c Y.env); pure (cA ok) else pure (cA r)) (TP Y pins σ Q) Y.xe s
instance {Y:Cx} {ifs:List Expr} {t:TT}:CoeFun (PTs Y ifs t) (λ_=>∀ (pins:List (Addr×Obj)) (s:iJ) (σ:St) (H:Hp) (Q:Bool->Hp->Prop),Inv Y pins σ H s->t σ H Q ->wpAny (model Y.prog Y.w) Y.A (forIn ifs iI λc r=>if r=iI then do let ok <-isTrue c Y.env (eval c Y.env); pure (cA ok) else pure (cA r)) (TP Y pins σ Q) Y.xe s):=⟨λh=>h.run⟩
variable {Y:Cx}
theorem qdj:PTs Y [] (λ_ H Q=>Q iI H):=⟨λ_ _ _ H _ I h=>wpAny_tests_nil ⟨H,I,h⟩⟩
theorem QR {t:TT} (h:PT Y c t):PTs Y [c] t:=⟨λpins s σ H Q I q=>wpAny_tests_one (h pins s σ H Q I q)⟩
variable {ifs:List Expr} {te:TE} {E:iG->iJ->Prop}
section
variable {it:Addr} {tn:Nat->Heap->Prop} {J:It} {elt:Expr} {g:TG} {tt:TT}
theorem qaQ (I:Inv X pins σ H s) (O:X.calm=iI) (S:ScOk X scope) (T:Turn X.prog X.w X.K tg J fp it tn) (st0:tn 0 s.heap) (hf:∀ b∈fp,Vt X pins H b)
  (hg:∀ fp L s' H',PG (kh X scope N fp L s' H') tg g) (ht:∀ fp L s' H',PTs (kh X scope N fp L s' H') ifs tt) (he:∀ fp L s' H',PE (kh X scope N fp L s' H') elt te) (hl:σc.length=N.length)
  (hσ:∀ (j:Nat) (x:Str) (v:V),N[j]?=iD x->σc[j]?=iD (iD v)->(∃ k,(x,k)∈scope.names)->∃ i:Nat,X.N[i]?=iD x/\σ[i]?=iD (iD v)/\Vis X.env.scope x/\(x,bK)∈scope.names)
  (W:Addr->Nat->Nat->St->Hp->Prop) (Fin:Addr->Hp->Prop) (w0:∀ p,H p=iF->∃ m,W p 0 m σc (upd H p (.lst [])))
  (turn:∀ p i m σ1 H1,W p i m σ1 H1->(J.stop i H1/\Fin p H1)\/(J.go i H1/\∀ x H2,J.yld i H1 x H2->g x σ1 H2 λz H3=>tt z H3 λb H4=>if b=iI then te z H4 λy H5=>∃ xs,H5 p=iD (.lst xs)/\xs.length < sizeLine/\∃ f,f < m/\W p (i+1) f z (upd H5 p (.lst (xs++[y]))) else ∃ f,f < m/\W p (i+1) f z H4))
  (RR:iG->Addr->lL->iJ->Prop)
  (hRR:∀ p L H' s',Fin p H'->(∃ m,s'.heap.Ns L m)->Vt X pins H' L->(∀ h',bM L s'.heap h'->Inv X pins σ H' { s' with heap:=h' })->RR (.ref p) L (.ok .next) s') :
  wpAny (model X.prog X.w) X.A (newList []) (λacc F=>wpAny (model X.prog X.w) X.A (newFunctionEnv scope X.env.globals (Qf X.env.cells scope.names []) [] X.env.qual iF .none (iD X.env)) (λD Z=>
   codeAny (model X.prog X.w) X.A (.compStart (.ListComp elt [⟨tg,iter,ifs,0⟩] scope pos) 0 (.ref it) acc { D with scope:=relabel scope X.env }) (RR acc D.locals) Z) E F) E s:=by
 have hfo:∀ b∈fp,b < s.heap.objs.size:=λb hb=>let ⟨o,e,_⟩:=T.obj 0 _ st0 b hb; aE e;have C:=I.fresh;have I3:Inv X pins σ (upd H s.heap.objs.size (.lst [])) { s with heap:=s.heap.push { cls:=.type "list",data:=.seq ([]:List iG).toArray } }:=I.lnew (t':=s.toks) (ys:=[]) (its:=[]) .nil (bA _);have M:∀ b∈fp,Vt X pins (upd H s.heap.objs.size (.lst [])) b:=λb hb=>⟨by rw [qt (aL (hfo b hb))]; exact (hf b hb).1,(hf b hb).2⟩
 have st3:tn 0 (s.heap.push { cls:=.type "list",data:=.seq ([]:List iG).toArray }):=T.keep 0 _ _ st0 λb hb o e=>aa _ e;refine iN (QP λh₁ h keep a=>?_);dsimp only at h keep a ⊢;generalize hs3:({ s with heap:=s.heap.push { cls:=.type "list",data:=.seq ([]:List iG).toArray } }:iJ)=s3 at I3;have e3:s3.heap=s.heap.push { cls:=.type "list",data:=.seq ([]:List iG).toArray }:=by rw [<-hs3]
 rw [<-e3] at h keep a st3 ⊢;have ho3:∀ b∈fp,b < s3.heap.objs.size:=λb hb=>by rw [e3,bH]; exact eU (hfo b hb)
 have J1:Inv (kh X scope N fp s3.heap.objs.size s3 (upd H s.heap.objs.size (.lst []))) [] σc (upd H s.heap.objs.size (.lst [])) { s3 with heap:=h₁,toks:=s.toks+0 }:=
  qaO I3 S M ho3 h a keep hl hσ
 have st4:tn 0 h₁:=T.keep 0 _ _ st3 λb hb o e=>keep b o e;have loop:∀ s4:iJ,s4={ s3 with heap:=h₁,toks:=s.toks+0 }->codeAny (model X.prog X.w) X.A (.compLoop (.ListComp elt [⟨tg,iter,ifs,0⟩] scope pos) 0 (.ref it) (.ref s.heap.objs.size) (compEnvC scope (cellsFrom (s3.heap.objs.size+1) scope.names (Qf X.env.cells scope.names [])) s3.heap.objs.size X.env)) (RR (.ref s.heap.objs.size) s3.heap.objs.size) s4:=by
  rintro s4 rfl;generalize B:kh X scope N fp s3.heap.objs.size s3 (upd H s.heap.objs.size (.lst []))=Y at J1;have eP:Y.prog=X.prog:=by rw [<-B]; rfl
  have ew:Y.w=X.w:=by rw [<-B]; rfl
  have eA:Y.A=X.A:=by rw [<-B]; rfl
  have ee:Y.env=compEnvC scope (cellsFrom (s3.heap.objs.size+1) scope.names (Qf X.env.cells scope.names [])) s3.heap.objs.size X.env:=by rw [<-B]; rfl
  have eK:Y.K=X.K:=by rw [<-B]; rfl
  have ec:Y.calm=true:=by rw [<-B]; exact O
  have ex:Y.xe=λ_ _=>False:=by rw [<-B]; rfl
  have hgY:PG Y tg g:=by rw [<-B]; exact hg fp _ _ _
  have htY:PTs Y ifs tt:=by rw [<-B]; exact ht fp _ _ _
  have heY:PE Y elt te:=by rw [<-B]; exact he fp _ _ _
  have t:∀ {H1:Hp},(∀ b∈fp,H1 b=iF)->∀ b∈fp,Vt Y [] H1 b:=λhn b hb=>by have q:=J1.ok.exf b (by rw [<-B]; exact hb);refine ⟨hn b hb,q.1,J1.ok.exfs b (by rw [<-B]; exact hb),.inl (by rw [<-B]; exact hb),q.2,λp hp=>?_⟩;rw [<-B] at hp;exact absurd (show p∈([]:List (Addr×Obj)) from hp) (by simp)
  obtain ⟨m0,hm0⟩:=w0 s.heap.objs.size C;refine QQ (λn s'=>∃ i σ1 H1,Inv Y [] σ1 H1 s'/\tn i s'.heap/\(∀ b∈fp,H1 b=iF)/\W s.heap.objs.size i n σ1 H1) ?_ m0 ⟨0,σc,_,J1,st4,λb hb=>(M b hb).1,hm0⟩;rintro n s5 ⟨i,σ1,H1,J5,st5,fr5,w5⟩;rw [<-eP,<-ew,<-eA,<-ee];have TY:Turn Y.prog Y.w Y.K tg J fp it tn:=by rw [eP,ew,eK]; exact T
  rcases turn _ i n σ1 H1 w5 with ⟨stop,fin⟩ | ⟨go,step⟩
  ·refine thn (TY.done Y rfl rfl rfl ec i [] s5 σ1 H1 _ J5 (t fr5) st5 stop) λr s6 ⟨hr,J6⟩=>?_;subst hr;have P:Inv (kh X scope N fp s3.heap.objs.size s3 (upd H s.heap.objs.size (.lst []))) [] σ1 H1 s6:=by rw [B]; exact J6
   exact hRR _ _ H1 s6 fin (let ⟨m,hn,_⟩:=P.loc; ⟨m,hn⟩) (I3.fpOk (aG _) P.free) λh' sb=>qaP (s1:=s6) (H1:=H1) (L:=0) I3 M P sb
  ·refine thn (TY.item Y rfl rfl rfl ec i [] s5 σ1 H1 _ J5 (t fr5) st5 go) λr s6 ⟨u,hr,h6⟩=>?_;subst hr;refine thn h6 λ_ s7 ⟨x,H7,J7,r7,y7,G,fr7⟩=>?_;have J7':=J7.pinned (t fr7) (TY.obj _ _ G);have back:∀ {c:St} {U:Hp} {Q:iJ},Inv Y ([]++JP fp s7.heap) c U Q->(∃ f,f < n/\W s.heap.objs.size (i+1) f c U)->∃ m,m < n/\∃ i σ1 H1,Inv Y [] σ1 H1 Q/\tn i Q.heap/\(∀ b∈fp,H1 b=iF)/\W s.heap.objs.size i m σ1 H1:=λ{c U Q} R ⟨f,hm,w9⟩=>by refine ⟨f,hm,i+1,c,U,R.unpinned,TY.keep _ _ _ G λb hb o e=>(R.pin (b,o) (bc _ (bc _ (uD hb e)))).1,λb hb=>?_,w9⟩;obtain ⟨o,e,d⟩:=TY.obj _ _ G b hb;exact (R.pin (b,o) (bc _ (bc _ (uD hb e)))).2.1
   rw [<-ex];refine thn (hgY _ s7 σ1 H7 x u _ J7' r7 (step x H7 y7)) λ_ s8 ⟨l,H8,J8,q8⟩=>?_;refine thn (htY _ s8 l H8 _ J8 q8) λok Q ⟨U,R,q9⟩=>?_;cases ok with
   | false=>exact back R q9
   | true=>refine thn (heY _ Q l U _ R q9) λv s10 ⟨y,H10,J10,r10,xs,hx,hlen,q10⟩=>?_;exact thn (zv _ s10 l H10 (.ref s.heap.objs.size) [y] (.ref s.heap.objs.size) [v] (λ_ H11=>∃ f,f < n/\W s.heap.objs.size (i+1) f l H11) J10 rfl (.cons r10 .nil) ⟨_,xs,y,rfl,rfl,hx,hlen,q10⟩) λ_ s11 ⟨_,H11,J11,_,q11⟩=>back J11 q11
 have e4:({ heap:=h₁,gens:=s.gens,drawn:=s.drawn,toks:=s.toks+([]:List (Str×iG)).length,os:=s.os }:iJ)={ s3 with heap:=h₁,toks:=s.toks+0 }:=by rw [<-hs3]; rfl
 exact codeAny_compStart_list (loop _ e4) (T.self _ 0 _ _ _ st4 (loop _ e4))
end
noncomputable def vm (nt:Nat) (cap:List Nat) (ρ:List (Option α)):List (Option α):=ao nt iF++cap.map λk=>(ρ[k]?).getD iF
noncomputable def ye (own:List Nat):Nat->List Nat->List Nat
 | _,[]=>[]
 | n,k::cap=>if k∈own then n::ye own (n+1) cap else ye own (n+1) cap
noncomputable def ioC (nt len:Nat):List Nat:=(bE len).map (nt + ·)
noncomputable def jY (own:List Nat) (ρc:Sl):Nat->List Nat->Sl->Sl
 | _,[],ρ=>ρ
 | n,k::cap,ρ=>if k∈own then jY own ρc (n+1) cap (ρ.set k ((ρc[n]?).getD iF)) else jY own ρc (n+1) cap ρ
variable {nt:Nat} {cap:List Nat}
theorem get_cap {ρ:List (Option α)} {d:α}:(vm nt cap ρ)[i]?=iD (iD d)↔∃ j k,i=nt+j/\cap[j]?=iD k/\ρ[k]?=iD (iD d):=by
 unfold vm;constructor
 ·intro h;by_cases hi:i < nt;·rw [bS (by simpa using hi),aY] at h;split at h <;> cases h
  ·rw [bn (by simpa using hi),cr,aJ] at h;cases q:cap[i - nt]? with
   | none=>rw [q] at h; cases h
   | some k=>
    rw [q] at h;have h:(ρ[k]?).getD iF=iD d:=aU.inj h;refine ⟨i - nt,k,by omega,q,?_⟩;cases a:ρ[k]? with
    | none=>rw [a] at h; cases h
    | some o=>rw [a] at h; exact congrArg iD h
 ·rintro ⟨j,k,rfl,h1,h2⟩;rw [bn (by simp),cr,aJ,show nt+j - nt=j by omega,h1];simp [h2]
theorem mem_ownC {own:List Nat}:∀ {n:Nat} {cap:List Nat} {i:Nat},i∈ye own n cap↔∃ j k,i=n+j/\cap[j]?=iD k/\k∈own
 | n,[],i=>by simp [ye]
 | n,k::cap,i=>by
  have a:=@mem_ownC own (n+1) cap i;unfold ye;by_cases h:k∈own
  ·rw [if_pos h,ah,a];constructor
   ·rintro (rfl | ⟨j,k',e,h1,h2⟩);·exact ⟨0,k,rfl,rfl,h⟩
    ·exact ⟨j+1,k',by omega,by simpa using h1,h2⟩
   ·rintro ⟨j,k',e,h1,h2⟩;cases j with
    | zero=>exact .inl (by omega)
    | succ j=>exact .inr ⟨j,k',by omega,by simpa using h1,h2⟩
  ·rw [if_neg h,a];constructor;·rintro ⟨j,k',e,h1,h2⟩;exact ⟨j+1,k',by omega,by simpa using h1,h2⟩
   ·rintro ⟨j,k',e,h1,h2⟩;cases j with
    | zero=>simp at h1; subst h1; exact absurd h2 h
    | succ j=>exact ⟨j,k',by omega,by simpa using h1,h2⟩
theorem mem_ioC {len:Nat}:i∈ioC nt len↔∃ j,j < len/\i=nt+j:=by
 unfold ioC;rw [aF];constructor;·rintro ⟨j,h1,h2⟩; exact ⟨j,cY.mp h1,h2.symm⟩
 ·rintro ⟨j,h1,h2⟩; exact ⟨j,cY.mpr h1,h2.symm⟩
variable {ρc:Sl}
theorem yV:∀ {n:Nat} {cap:List Nat} {ρ:Sl},(jY own ρc n cap ρ).length=ρ.length
 | _,[],_=>rfl
 | n,k::cap,ρ=>by
  unfold jY;by_cases h:k∈own;·rw [if_pos h,yV,bx]
  ·rw [if_neg h,yV]
theorem vA:∀ {n:Nat} {cap:List Nat} {ρ:Sl} {i:Nat},¬(i∈cap/\i∈own)->(jY own ρc n cap ρ)[i]?=ρ[i]?
 | _,[],_,_,_=>rfl
 | n,k::cap,ρ,i,h=>by
  unfold jY;have h':¬(i∈cap/\i∈own):=λz=>h ⟨ai _ z.1,z.2⟩;by_cases a:k∈own;·rw [if_pos a,vA h',aj (λe=>h ⟨ah.mpr (.inl e.symm),by rw [<-e]; exact a⟩)]
  ·rw [if_neg a,vA h']
theorem yw:∀ {n:Nat} {cap:List Nat} {ρ:Sl} {j k:Nat} {d:D},cap.Nodup->cap[j]?=iD k->k∈own->k < ρ.length->ρc[n+j]?=iD (iD d)->(jY own ρc n cap ρ)[k]?=iD (iD d)
 | _,[],_,_,_,_,_,h,_,_,_=>by simp at h
 | n,k0::cap,ρ,0,k,d,nd,h,hk,hl,e=>by simp at h; subst h;obtain ⟨n1,n2⟩:=bb.mp nd;unfold jY;rw [if_pos hk,vA (λz=>n1 z.1),aC hl];have e:ρc[n]?=iD (iD d):=e;rw [e]; rfl
 | n,k0::cap,ρ,j+1,k,d,nd,h,hk,hl,e=>by
  obtain ⟨n1,n2⟩:=bb.mp nd;have h:cap[j]?=iD k:=by simpa using h
  have e:ρc[n+1+j]?=iD (iD d):=by rw [show n+1+j=n+(j+1) by omega]; exact e
  unfold jY;by_cases a:k0∈own;·rw [if_pos a]; exact yw n2 h hk (by rw [bx]; exact hl) e
  ·rw [if_neg a]; exact yw n2 h hk hl e
section
theorem VO {ρ:List (Option α)}:(vm nt cap ρ).length=nt+cap.length:=by simp [vm]
theorem Zg {l:List Nat} (h:l.Nodup) {j k:Nat} (a:l[i]?=iD k) (b:l[j]?=iD k):i=j:=by obtain ⟨h1,e1⟩:=aA.mp a;obtain ⟨h2,e⟩:=aA.mp b;exact (fO h).mp (e1.trans e.symm)
theorem qdk (r:Rep K own F H σ ρ) (nd:cap.Nodup):Rep K (ye own nt cap) F H (vm nt cap σ) (vm nt cap ρ) where
 sub:=r.sub
 len:=by rw [VO,VO]
 val:=λi d hi e=>by obtain ⟨j,k,rfl,h1,h2⟩:=get_cap.mp e;obtain ⟨v,g1,g2⟩:=r.val k d (λz=>hi (mem_ownC.mpr ⟨j,k,rfl,h1,z⟩)) h2;exact ⟨v,get_cap.mpr ⟨j,k,rfl,h1,g1⟩,g2⟩
 ow:=λi d hi e=>by
  obtain ⟨j,k,rfl,h1,h2⟩:=get_cap.mp e;obtain ⟨f,k',m,c,h⟩:=mem_ownC.mp hi;have:j=f:=by omega
  subst this;rw [h1] at c; cases c;obtain ⟨a,g1,g2⟩:=r.ow k d h h2;exact ⟨a,get_cap.mpr ⟨j,k,rfl,h1,g1⟩,g2⟩
 opn:=λi hi=>by obtain ⟨j,k,rfl,h1,h2⟩:=mem_ownC.mp hi;obtain ⟨d,e⟩:=r.opn k h2;exact ⟨d,get_cap.mpr ⟨j,k,rfl,h1,e⟩⟩
 dis:=λi u a hi g e m=>by
  obtain ⟨j,k,rfl,h1,h2⟩:=mem_ownC.mp hi;obtain ⟨f,k',rfl,c,h⟩:=mem_ownC.mp g;obtain ⟨x,y,t,l,o⟩:=get_cap.mp e;obtain ⟨n,s,p,q,b⟩:=get_cap.mp m;have:x=j:=by omega
  subst this;have:n=f:=by omega
  subst this;rw [h1] at l; cases l;rw [c] at q; cases q;have e:=r.dis k k' a h2 h o b;subst e;rw [Zg nd h1 c]
theorem Zh (o:∀ i∈ioC nt cap.length,σ1[i]?=(vm nt cap σ)[i]?) (h:OA (ye own nt cap) σ1 b):OA own σ b:=by
 obtain ⟨i,hi,e⟩:=h;obtain ⟨j,k,rfl,h1,h2⟩:=mem_ownC.mp hi;rw [o _ (mem_ioC.mpr ⟨j,(aA.mp h1).1,rfl⟩)] at e;obtain ⟨x,y,a,d,q⟩:=get_cap.mp e;have:x=j:=by omega
 subst this;rw [h1] at d; cases d;exact ⟨k,h2,q⟩
theorem Zi (p:Rep K own F H σ ρ) (nd:cap.Nodup) (r:Rep K (ye own nt cap) F' H' σ1 ρ1) (g:∀ i∈ioC nt cap.length,σ1[i]?=(vm nt cap σ)[i]?) (c:Chg (OA (ye own nt cap) σ1) F H F' H'):Rep K own F' H' σ (jY own ρ1 nt cap ρ) where
 sub:=r.sub
 len:=by rw [yV]; exact p.len
 val:=λi d hi e=>by rw [vA (λz=>hi z.2)] at e;obtain ⟨v,h1,h2⟩:=p.val i d hi e;exact ⟨v,h1,h2.mono c.grow⟩
 ow:=λi d hi e=>by
  by_cases q:i∈cap
  ·obtain ⟨j,G⟩:=dG q;have m:nt+j∈ye own nt cap:=mem_ownC.mpr ⟨j,i,rfl,G,hi⟩;obtain ⟨d',h⟩:=r.opn _ m;obtain ⟨A,b⟩:=p.opn i hi;rw [yw nd G hi (aA.mp b).1 h] at e;cases e;obtain ⟨a,h1,h2⟩:=r.ow _ _ m h;rw [g _ (mem_ioC.mpr ⟨j,(aA.mp G).1,rfl⟩)] at h1;obtain ⟨x,y,w,f,l⟩:=get_cap.mp h1;have:x=j:=by omega
   subst this;rw [G] at f; cases f;exact ⟨a,l,h2⟩
  ·rw [vA (λz=>q z.1)] at e;obtain ⟨a,h1,h2,s⟩:=p.ow i d hi e;have na:¬OA (ye own nt cap) σ1 a:=λz=>by
    obtain ⟨B,n,t⟩:=z;obtain ⟨j,k,rfl,g1,g2⟩:=mem_ownC.mp n;rw [g _ (mem_ioC.mpr ⟨j,(aA.mp g1).1,rfl⟩)] at t;obtain ⟨x,y,w,f,l⟩:=get_cap.mp t;have:x=j:=by omega
    subst this;rw [g1] at f; cases f;have e:=p.dis i k a hi g2 h1 l;subst e;exact q (cf g1)
   refine ⟨a,h1,?_,s.grow c.grow λo z=>c.keep a o z na⟩;cases P:F' a with
   | none=>rfl
   | some u=>
    rcases c.new a (by rw [P]; simp) with z | z | z;·exact absurd h2 z
    ·exact absurd z s.there
    ·exact absurd z na
 opn:=λi hi=>by
  by_cases q:i∈cap;·obtain ⟨j,G⟩:=dG q;have m:nt+j∈ye own nt cap:=mem_ownC.mpr ⟨j,i,rfl,G,hi⟩;obtain ⟨d',h⟩:=r.opn _ m;obtain ⟨A,b⟩:=p.opn i hi;exact ⟨d',yw nd G hi (aA.mp b).1 h⟩
  ·rw [vA (λz=>q z.1)];exact p.opn i hi
 dis:=p.dis
end
noncomputable def QS (g:D->Sl->Out Sl) (ft:Sl->Out (Bool×Sl)) (fe:Sl->Out (D×Sl)) (d:D) (ρ:Sl):Out (Option D×Sl):=
 (g d ρ).plain.bind λρ1=>(ft ρ1).plain.bind λq=>if q.1=iI then (fe q.2).plain.bind λr=>.ok (iD r.1,r.2) else .ok (iF,q.2)
noncomputable def kG (g:D->Sl->Out Sl) (ft:Sl->Out (Bool×Sl)) (fe:Sl->Out (D×Sl)):List D->Sl->Out (List D×Sl)
 | [],ρ=>.ok ([],ρ)
 | d::ds,ρ=>(QS g ft fe d ρ).bind λp=>(kG g ft fe ds p.2).bind λq=>.ok (p.1.toList++q.1,q.2)
noncomputable def jo (own:List Nat) (nt:Nat) (cap:List Nat) (fi:Sl->Out (List D×Sl)) (g:D->Sl->Out Sl) (ft:Sl->Out (Bool×Sl)) (fe:Sl->Out (D×Sl)):Sl->Out (D×Sl):=λρ=>(fi ρ).bind λp=>
 if p.1.length<=sizeLine then (kG g ft fe p.1 (vm nt cap p.2)).bind λq=>.ok (.lst q.1,jY own q.2 nt cap p.2) else .bad
noncomputable def ctC (C:Ct) (nt len:Nat):Ct:=⟨C.K,C.cv,λ_ _ _=>False,ioC nt len,.sh,[],[],λ_ h=>absurd h (by simp)⟩
noncomputable def ftT:Sl->Out (Bool×Sl):=λρ=>.ok (iI,ρ)
theorem jv:PTs Y [] (tT C own ftT):=⟨λpins s σ H Q I ⟨F,ρ,a,h⟩=>qdj pins s σ H Q I (h F H a .refl)⟩
structure CW (C:Ct) (own:List Nat) (nt:Nat) (cap:List Nat) (σ:St) (F H F0:Hp) (g:D->Sl->Out Sl) (ft:Sl->Out (Bool×Sl)) (fe:Sl->Out (D×Sl)) (ds ys:List D) (ρe:Sl) (p:Addr) (i:Nat) (σ1:St) (H1:Hp) (F1:Hp) (ρi:Sl) (accD:List D) (xs:List V) (rest:List D):Prop where
 rep:Rep C.K (ye own nt cap) F1 H1 σ1 ρi
 io:∀ i∈ioC nt cap.length,σ1[i]?=(vm nt cap σ)[i]?
 chg:Chg (OA (ye own nt cap) σ1) F H F1 H1
 gr:Same F0 F1
 at_:H1 p=iD (.lst xs)
 nF:F1 p=iF
 is:IsL C.K F1 xs accD
 le:accD.length<=i
 run:kG g ft fe (ds.drop i) ρi=.ok (rest,ρe)
 all:accD++rest=ys
variable {ρe:Sl}
theorem YC {rest:List D} (h:kG g ft fe (d::ds) ρ=.ok (rest,ρe)):∃ ρ1,g d ρ=.ok ρ1/\∃ b j,ft ρ1=.ok (b,j)/\((b=iI/\∃ y l r,fe j=.ok (y,l)/\kG g ft fe ds l=.ok (r,ρe)/\rest=y::r)\/(b=iH/\kG g ft fe ds j=.ok (rest,ρe))):=by
 unfold kG QS at h;cases f:g d ρ with
 | exc c=>rw [f] at h; cases h
 | bad=>rw [f] at h; cases h
 | ok ρ1=>
  rw [f] at h;refine ⟨ρ1,rfl,?_⟩;simp only [Out.plain,Out.oo] at h;cases e:ft ρ1 with
  | exc c=>rw [e] at h; cases h
  | bad=>rw [e] at h; cases h
  | ok p=>
   obtain ⟨b,j⟩:=p;rw [e] at h;refine ⟨b,j,rfl,?_⟩;simp only [Out.plain,Out.oo] at h;cases b with
   | true=>
    refine .inl ⟨rfl,?_⟩;simp only [if_true] at h;cases a:fe j with
    | exc c=>rw [a] at h; cases h
    | bad=>rw [a] at h; cases h
    | ok p=>
     obtain ⟨y,l⟩:=p;rw [a] at h;simp only [Out.plain,Out.oo] at h;cases q:kG g ft fe ds l with
     | exc c=>rw [q] at h; cases h
     | bad=>rw [q] at h; cases h
     | ok p=>obtain ⟨r,B⟩:=p;rw [q] at h;simp only [Out.oo] at h;cases h;exact ⟨y,l,r,rfl,q,rfl⟩
   | false=>
    refine .inr ⟨rfl,?_⟩;simp only [aX,if_false,Out.oo] at h;cases q:kG g ft fe ds j with
    | exc c=>rw [q] at h; cases h
    | bad=>rw [q] at h; cases h
    | ok p=>obtain ⟨r,B⟩:=p;rw [q] at h;simp only [Out.oo] at h;cases h;rfl
section
variable {elt:Expr} {me:Mo}
structure CapOk (X:Cx) (scope:lm) (N:List Str) (nt:Nat) (cap:List Nat):Prop where
 nd:cap.Nodup
 len:N.length=nt+cap.length
 at_:∀ (j k:Nat),cap[j]?=iD k->∃ x,N[nt+j]?=iD x/\X.N[k]?=iD x/\((Vis X.env.scope x/\(x,bK)∈scope.names)\/∀ k',(x,k')∉scope.names)
theorem Kj {F:Hp} {ρ1:Sl} {it:Addr} {fp:List Addr} {tn:Nat->Heap->Prop} {J:It} {E:iG->iJ->Prop} {ds ys:List D} {ρe:Sl} (I:Inv X pins σ H s) (W:X.calm=iI) (S:ScOk X scope) (CO:CapOk X scope N nt cap)
  (T:Turn X.prog X.w X.K tg J fp it tn) (st0:tn 0 s.heap) (hf:∀ b∈fp,Vt X pins H b) (rp:Rep C.K own F H σ ρ1) (O:ItIs C.K F J ds) (hz:ds.length<=sizeLine)
  (hg:∀ fp L s' H',PG (kh X scope N fp L s' H') tg (tGd (ctC C nt cap.length) (ye own nt cap) g)) (ht:∀ fp L s' H',PTs (kh X scope N fp L s' H') ifs (tT (ctC C nt cap.length) (ye own nt cap) ft))
  (he:∀ fp L s' H',PE (kh X scope N fp L s' H') elt (tE (ctC C nt cap.length) (ye own nt cap) me fe)) (hme:me≠.any)
  (hrun:kG g ft fe ds (vm nt cap ρ1)=.ok (ys,ρe)) (RR:iG->Addr->lL->iJ->Prop)
  (hRR:∀ p L s' F' H',H p=iF->Rep C.K own F' H' σ (jY own ρe nt cap ρ1)->Chg (OA own σ) F H F' H'->F' p=iF->OwnIs C.K F' H' p (.lst ys)->(∃ m,s'.heap.Ns L m)->Vt X pins H' L->(∀ h',bM L s'.heap h'->Inv X pins σ H' { s' with heap:=h' })->RR (.ref p) L (.ok .next) s') :
  wpAny (model X.prog X.w) X.A (newList []) (λacc s₃=>wpAny (model X.prog X.w) X.A (newFunctionEnv scope X.env.globals (Qf X.env.cells scope.names []) [] X.env.qual iF .none (iD X.env)) (λG s₄=>
   codeAny (model X.prog X.w) X.A (.compStart (.ListComp elt [⟨tg,iter,ifs,0⟩] scope pos) 0 (.ref it) acc { G with scope:=relabel scope X.env }) (RR acc G.locals) s₄) E s₃) E s:=by
 have oaH:∀ {σ1:St} {b:Addr},(∀ i∈ioC nt cap.length,σ1[i]?=(vm nt cap σ)[i]?)->OA (ye own nt cap) σ1 b->H b≠none:=λU z=>(rp.OA_there (Zh U z)).1;refine qaQ (σc:=vm nt cap σ) I W S T st0 hf hg ht (λfp L s' H'=>vi (he fp L s' H') hme) (by rw [VO,CO.len]) (λj x v e1 e2 e3=>?_)
  (λp i m σ1 H1=>H p=iF/\m=ds.length - i/\i<=ds.length/\∃ F1 ρi accD xs rest,CW C own nt cap σ F H F g ft fe ds ys ρe p i σ1 H1 F1 ρi accD xs rest)
  (λp H1=>H p=iF/\∃ σ1 F1 xs,Rep C.K (ye own nt cap) F1 H1 σ1 ρe/\(∀ i∈ioC nt cap.length,σ1[i]?=(vm nt cap σ)[i]?)/\Chg (OA (ye own nt cap) σ1) F H F1 H1/\H1 p=iD (.lst xs)/\F1 p=iF/\IsL C.K F1 xs ys) (λp hp=>?_) ?_ RR ?_
 ·obtain ⟨j',k,rfl,h1,h2⟩:=get_cap.mp e2;obtain ⟨y,g1,g2,g3⟩:=CO.at_ j' k h1;rw [g1] at e1; cases e1;obtain ⟨k',hk'⟩:=e3;rcases g3 with ⟨g3,g4⟩ | g3;·exact ⟨k,g2,h2,g3,g4⟩
  ·exact absurd hk' (g3 k')
 ·obtain ⟨r1,c1,hF⟩:=qcb (C:=C) (u:=.lst []) (qdk (nt:=nt) rp CO.nd) hp;exact ⟨ds.length,hp,by simp,bA _,F,vm nt cap ρ1,[],[],ys,r1,λ_ _=>rfl,c1.ofNo,Same.refl _,qm,hF,.nil,aG _,by simpa using hrun,rfl⟩
 ·rintro p i m σ1 H1 ⟨hp,rfl,hle,F1,ρi,accD,xs,rest,w⟩;by_cases t:i < ds.length
  ·have hd:ds.drop i=ds[i]::ds.drop (i+1):=dN t;have run:=w.run;rw [hd] at run;obtain ⟨ρa,ea,b,Z,eb,R⟩:=YC run;have sub1:Same F H1:=w.gr.trans w.rep.sub;refine .inr ⟨O.go i H1 t sub1,λx H2 y=>?_⟩;obtain ⟨F2,c2,s2,is2⟩:=O.yld i F1 H1 x H2 ds[i] (by simp [t]) w.gr w.rep.sub y;have rp2:=w.rep.grow c2 s2;have M:∀ {Y:St},(∀ i∈ioC nt cap.length,Y[i]?=(vm nt cap σ)[i]?)->¬OA (ye own nt cap) Y p:=λU z=>oaH U z hp;have P:∀ {A:Addr->Prop} {Fa Ha Fb Hb:Hp} {zs:List V},Chg A Fa Ha Fb Hb->¬A p->Ha p=iD (.lst zs)->Fa p=iF->Hb p=iD (.lst zs)/\Fb p=none:=λ{A Fa Ha Fb Hb zs} c na e1 e2=>by
    refine ⟨c.keep p _ e1 na,?_⟩;cases q:Fb p with
    | none=>rfl
    | some u=>
     rcases c.new p (by rw [q]; simp) with z | z | z;·exact absurd e2 z
     ·rw [e1] at z; cases z
     ·exact absurd z na
   obtain ⟨at2,nF2⟩:=P c2 (λz=>z) w.at_ w.nF;refine ⟨F2,ρi,ds[i],rp2,is2,ρa,ea,λl rp3 oa3 io3=>?_⟩;have f:∀ i∈ioC nt cap.length,l[i]?=(vm nt cap σ)[i]?:=λi hi=>(io3 i hi).trans (w.io i hi);refine ⟨F2,ρa,rp3,?_⟩;rw [eb];intro F4 H4 rp4 c4;obtain ⟨at4,nF4⟩:=P c4 (M f) at2 nF2;have B:Chg (OA (ye own nt cap) l) F H F4 H4:=by
    have q1:Chg (OA own σ) F H F1 H1:=w.chg.mono λb z=>Zh w.io z;have mv:∀ {b},OA (ye own nt cap) σ1 b->OA (ye own nt cap) l b:=λ{b} z=>by obtain ⟨i',hi',e'⟩:=z;obtain ⟨j,k,rfl,g1,g2⟩:=mem_ownC.mp hi';have hm:nt+j∈ioC nt cap.length:=mem_ioC.mpr ⟨j,(aA.mp g1).1,rfl⟩;exact ⟨nt+j,hi',by rw [f _ hm,<-w.io _ hm]; exact e'⟩
    exact ((w.chg.mono λb z=>mv z).trans' c2.ofNo).trans' c4
   have gr4:Same F F4:=(w.gr.trans c2.grow).trans c4.grow;have Q:IsL C.K F4 xs accD:=(w.is.mono c2.grow).mono c4.grow;rcases R with ⟨rfl,y',ρc,r,ec,er,hr⟩ | ⟨rfl,er⟩
   ·rw [if_pos rfl];refine ⟨F4,Z,rp4,?_⟩;rw [ec];intro v F5 H5 h c5 mo5;obtain ⟨at5,nF5⟩:=P c5 (M f) at4 nF4;have hlen:xs.length=accD.length:=Q.length;refine ⟨xs,at5,by have:=w.le; omega,ds.length - (i+1),by omega,hp,rfl,t,F5,ρc,accD++[y'],xs++[v],r,?_⟩;have cp:Chg (λb=>b=p) F5 H5 F5 (upd H5 p (.lst (xs++[v]))):=⟨λb o e n=>by rw [qt n]; exact e,λb e=>by
     by_cases q:b=p;·rw [q,qm]; simp
     ·rw [qt q]; exact e,Same.refl _,λb e=>.inl e⟩
    have sb5:Same F5 (upd H5 p (.lst (xs++[v]))):=λb o e=>by rw [qt (qD e nF5)]; exact h.sub b o e
    have rp6:Rep C.K (ye own nt cap) F5 (upd H5 p (.lst (xs++[v]))) l ρc:=by
     refine ⟨sb5,h.len,h.val,λi d hi e=>?_,h.opn,h.dis⟩;obtain ⟨a,h1,h2,h3⟩:=h.ow i d hi e;have na:a≠p:=λz=>by subst z; exact M f ⟨i,hi,h1⟩
     exact ⟨a,h1,h2,h3.grow (Same.refl _) λo z=>by rw [qt na]; exact z⟩
    refine ⟨rp6,f,?_,(gr4.trans c5.grow),qm,nF5,(Q.mono c5.grow).append (.cons mo5 .nil),by simp only [ap,ac,am]; have:=w.le; omega,er,?_⟩;·exact (B.trans' c5).trans cp λb z=>.inr (by rw [z]; exact hp)
    ·rw [dA,<-w.all,hr]; rfl
   ·rw [if_neg cu];exact ⟨ds.length - (i+1),by omega,hp,rfl,t,F4,Z,accD,xs,rest,rp4,f,B,gr4,at4,nF4,Q,by have:=w.le; omega,er,w.all⟩
  ·have e:i=ds.length:=by omega
   subst e;have run:=w.run;rw [fQ] at run;unfold kG at run;cases run;have ha:=w.all;rw [bj] at ha;subst ha;exact .inl ⟨O.stop _ H1 (aG _) (w.gr.trans w.rep.sub),hp,σ1,F1,xs,w.rep,w.io,w.chg,w.at_,w.nF,w.is⟩
 ·rintro p L H' s' ⟨hp,σ1,F1,xs,r1,io1,c1,e1,n1,is1⟩ hns hfp hinv;exact hRR p L s' F1 H' hp (Zi rp CO.nd r1 io1 c1) (c1.mono λb z=>Zh io1 z) n1 ⟨xs,e1,is1⟩ hns hfp hinv
theorem VP:∀ (ds:List D) (ρ:Sl) (c:Str) (o:Sl),kG g ft fe ds ρ≠.exc c o:=by
 intro ds
 induction ds with
 | nil=>intro ρ c o z; cases z
 | cons d ds j=>
  intro ρ c o z;unfold kG QS at z;cases b:g d ρ with
  | exc c=>rw [b] at z; cases z
  | bad=>rw [b] at z; cases z
  | ok ρ1=>
   rw [b] at z;simp only [Out.plain,Out.oo] at z;cases a:ft ρ1 with
   | exc c=>rw [a] at z; cases z
   | bad=>rw [a] at z; cases z
   | ok p=>
    rw [a] at z;simp only [Out.plain,Out.oo] at z;by_cases hb:p.1=iI
    ·rw [if_pos hb] at z;cases q:fe p.2 with
     | exc c=>rw [q] at z; cases z
     | bad=>rw [q] at z; cases z
     | ok r=>
      rw [q] at z;simp only [Out.plain,Out.oo] at z;cases l:kG g ft fe ds r.2 with
      | exc c=>exact j _ _ _ l
      | bad=>rw [l] at z; cases z
      | ok t=>rw [l] at z; cases z
    ·rw [if_neg hb] at z;simp only [Out.oo] at z;cases l:kG g ft fe ds p.2 with
     | exc c=>exact j _ _ _ l
     | bad=>rw [l] at z; cases z
     | ok t=>rw [l] at z; cases z
theorem Kk {α:Type} {Z:Out (D×Sl)->Prop} (r:Rep C.K own F H σ ρ) (hb:¬Z .bad) (hx:∀ c ρ',Z (.exc c ρ')->∀ F' H',Same F' H'->Xg C.K C.ox F' H' σ ρ'->Chg (OA own σ) F H F' H'->C.E (C.cv c) iF H') (h:Z (jo own nt cap fi g ft fe ρ)):tIt C own fi σ H λJ H1=>∃ ds ρ1 ys ρe F1,ds.length<=sizeLine/\kG g ft fe ds (vm nt cap ρ1)=.ok (ys,ρe)/\Rep C.K own F1 H1 σ ρ1/\Chg (OA own σ) F H F1 H1/\ItIs C.K F1 J ds/\Z (.ok (.lst ys,jY own ρe nt cap ρ1)):=by
 refine ⟨F,ρ,r,?_⟩;unfold jo at h;cases q:fi ρ with
 | exc c=>rw [q] at h; exact hx c _ h
 | bad=>rw [q] at h; exact (hb h).elim
 | ok p=>
  obtain ⟨ds,ρ1⟩:=p;rw [q] at h;have h:Z (if ds.length<=sizeLine then (kG g ft fe ds (vm nt cap ρ1)).bind λq=>.ok (.lst q.1,jY own q.2 nt cap ρ1) else .bad):=h;by_cases z:ds.length<=sizeLine
  ·rw [if_pos z] at h;cases d:kG g ft fe ds (vm nt cap ρ1) with
   | exc c=>exact absurd d (VP _ _ _ _)
   | bad=>rw [d] at h; exact (hb h).elim
   | ok p=>obtain ⟨ys,ρe⟩:=p;rw [d] at h;exact λJ F1 H1 a l it=>⟨ds,ρ1,ys,ρe,F1,z,d,a,l,it,h⟩
  ·rw [if_neg z] at h; exact (hb h).elim
theorem jE (O:X.calm=iI) (S:ScOk X scope) (V:CapOk X scope N nt cap) (hi:PI X tg iter (tIt C own fi))
  (hg:∀ fp L s' H',PG (kh X scope N fp L s' H') tg (tGd (ctC C nt cap.length) (ye own nt cap) g)) (D:∀ fp L s' H',PTs (kh X scope N fp L s' H') ifs (tT (ctC C nt cap.length) (ye own nt cap) ft))
  (P:∀ fp L s' H',PE (kh X scope N fp L s' H') elt (tE (ctC C nt cap.length) (ye own nt cap) me fe)) (f:me≠.any:=by decide) (E:∀ x,foldedSetIterable iter X.env x=pure x:=by intro _; rfl) :
  PE X (.ListComp elt [⟨tg,iter,ifs,0⟩] scope pos) (tE C own .fr (jo own nt cap fi g ft fe)):=by
 refine ⟨?_⟩;intro pins s σ H Q I ⟨F,ρ,k,h⟩;rw [eval_ListComp];have n:=Kk (α:=Unit) (Z:=λr=>Po C own .fr σ F H r Q) k (λz=>z) (λc _ z=>z) h;refine wpAny_comprehension_free (use:=iF) rfl E (Qg (zD I S)) S.kind S.names (thn (hi pins s σ H _ I n) λY s1 h1=>thn h1 λt s2 h2=>?_);obtain ⟨it,fp,tn,J,H2,e,U,T,K,f2,ds,ρ1,ys,ρe,F1,B,a,b,l,i,po⟩:=h2;subst e;refine Kj (RR:=λacc W=>compPost (model X.prog X.w) X.A X.xe iF (EP X pins σ Q) acc W) U O S V T K f2 b i B hg D P f a λp L s' F' H' hp d R nF o y M v=>?_;obtain ⟨m,G⟩:=y;refine ⟨m,G,λh' j=>⟨.ref p,H',v h' j,rfl,?_⟩⟩;refine po (.ref p) F' H' d (l.trans' R) ⟨p,rfl,?_,nF,o⟩;cases q:H p with
 | none=>rfl
 | some u=>exact absurd hp (l.stay p (by rw [q]; simp))
theorem Ul {pos' d:Pos} (hN:X.N.Nodup) (W:X.N[i]?=iD x) (hx:Loc X.env.scope x) (O:X.calm=iI) (S:ScOk X scope) (CO:CapOk X scope N nt cap) (hi:PI X tg iter (tIt C own fi))
  (hg:∀ fp L s' H',PG (kh X scope N fp L s' H') tg (tGd (ctC C nt cap.length) (ye own nt cap) g)) (ht:∀ fp L s' H',PTs (kh X scope N fp L s' H') ifs (tT (ctC C nt cap.length) (ye own nt cap) ft))
  (he:∀ fp L s' H',PE (kh X scope N fp L s' H') elt (tE (ctC C nt cap.length) (ye own nt cap) me fe)) (R:me≠.any:=by decide) (Y:i∉C.io:=by exact yo rfl)
  (M:swapsWith (.ListComp elt [⟨tg,iter,ifs,0⟩] scope pos) (iD (.Name x pos')) d.line X.env=pure true:=by rfl) (hs:∀ x,foldedSetIterable iter X.env x=pure x:=by intro _; rfl)
  (hfx:X.fn x=iI\/X.env.scope.names.lookup x=iD .local:=by first | exact .inl rfl | exact .inr rfl) :
  PS X (.Assign [.Name x pos'] (.ListComp elt [⟨tg,iter,ifs,0⟩] scope pos) d) (tSt C own (i::uc own [i]) (ku i (jo own nt cap fi g ft fe))):=by
 refine ⟨?_⟩;intro pins s σ H D I ⟨F,ρ,rp,h⟩;rw [exec_Assign_Name_used _ _ _ _ M];refine iE (lC (iE ?_));show wpAny _ X.A (do let _ <-comprehension (.ListComp elt [⟨tg,iter,ifs,0⟩] scope pos) scope X.env _ (newList []) iH (eval iter X.env) (iD (assign (.Name x pos') X.env))) _ _ s;have n:=Kk (α:=Unit) (Z:=λr=>PoS C own (i::uc own [i]) σ F H (r.bind λp=>if i < p.2.length then .ok (.nx,p.2.set i (iD p.1)) else .bad) D) rp (λz=>z) (λc _ z=>z) h;refine iE (i8 (wpAny_comprehension_free (use:=iD (assign (.Name x pos') X.env)) (Q:=λ_ s'=>SP X pins D .next s') rfl hs (Qg (zD I S)) S.kind S.names (thn (hi pins s σ H _ I n) λxv s1 h1=>thn h1 λitv s2 h2=>?_)) (λ_ s' hq=>iK (iK hq)) λ_ _ e=>e);obtain ⟨it,fp,tn,J,H2,e,I2,T,K,f2,ds,ρ1,ys,ρe,F1,hz,k,B,c1,G,po⟩:=h2;subst e;refine Kj (RR:=λacc C'=>compPost (model X.prog X.w) X.A X.xe (iD (assign (.Name x pos') X.env)) (λ_ s'=>SP X pins D .next s') acc C') I2 O S CO T K f2 B G hz hg ht he R k λp L s' F' H' hp f c' nF o P hfp l=>?_;obtain ⟨m,hn⟩:=P;have I3:Inv X pins σ H' s':=by simpa using l s'.heap (.refl ..)
 have hH:H p=none:=by
  cases q:H p with
  | none=>rfl
  | some u=>exact absurd hp (c1.stay p (by rw [q]; simp))
 show wpAny _ X.A (assign (.Name x pos') X.env (.ref p)) _ _ s';refine wpAny_assign_Name (JN I3 hN W hx (v:=.ref p) rfl (λs4 I4 ⟨a,t,ha⟩=>?_) hfx);obtain ⟨f0,f1,f2',f3,f4,f5⟩:=hfp;have nL:L≠a:=by
  rcases ha with z | z;·rw [z]; exact f1
  ·exact λq=>f4 x a z q.symm
 refine ⟨m,hn.sameBut t nL,λh' sb=>?_⟩;have I5:Inv X pins (σ.set i (iD (.ref p))) H' { s4 with heap:=h' }:=by have:=I4.turned (h':=h') (t':=s4.toks) (it:=L) (λb o hb e=>(sb.2 b hb).trans e) f0 f1 f3 f4 f5;exact this
 refine ⟨_,H',I5,?_⟩;have po:PoS C own (i::uc own [i]) σ F H (if i < (jY own ρe nt cap ρ1).length then .ok (.nx,(jY own ρe nt cap ρ1).set i (iD (.lst ys))) else .bad) D:=po;by_cases z:i < (jY own ρe nt cap ρ1).length
 ·rw [if_pos z] at po;refine po _ F' H' ⟨f.putO z nF (λy=>(rp.OA_there y).1 hH) o,c1.trans' c',λb y=>?_,λj V=>aj λy=>Y (by rw [y]; exact V)⟩;obtain ⟨j,V,e⟩:=y;by_cases E:j=i;·subst E;rw [aC (by rw [f.len]; exact z)] at e;cases e;exact .inr hH
  ·have U:=(jb j).mp ((ah.mp V).resolve_left E);rw [aj (be E)] at e;exact .inl ⟨j,U.1,e⟩
 ·rw [if_neg z] at po; exact po.elim
end
def Fly (h:Heap) (ex T:Addr) (cls:iG):Prop:=∃ o vs a ts,h.get? ex=iD o/\o.cls=cls/\o.data=.fields vs/\vs[1]?=iD (.ref T)/\T≠ex/\h.get? T=iD a/\a.data=.fields ts/\ts[3]?=iD .none
def CXk (P:iL) (w:iM):CXT:=λouter H s E e s'=>∃ ex T C H',e=.ref ex/\s'.os=s.os/\ly s'.gens/\Un (frs outer) [] H H' s.heap s'.heap/\HOk P w H' s'.heap/\Fly s'.heap ex T (.ref C)/\H' ex=iF/\H' T=iF/\s.heap.get? ex=iF/\s.heap.get? T=iF/\E (.ref C) iF H'
def InB (X:Cx) (H:Hp) (s:iJ) (ex:Addr) (cls:iG):Prop:=H ex=iF/\X.s₀.heap.get? ex=iF /\
 ((∃ o vs,s.heap.get? ex=iD o/\o.cls=cls/\o.data=.fields vs/\vs[1]?=iD .none)\/∃ T,Fly s.heap ex T cls/\H T=iF/\X.s₀.heap.get? T=iF)
variable {ex:Addr} {T0:Option Addr} {h2:Heap}
section
variable {cls:iG}
theorem InB.dat (h:InB X H s ex cls):∃ o vs,s.heap.get? ex=iD o/\o.cls=cls/\o.data=.fields vs:=by
 rcases h.2.2 with ⟨o,vs,a,b,c,_⟩ | ⟨T,⟨o,vs,d,ts,a,b,c,_⟩,_⟩
 ·exact ⟨o,vs,a,b,c⟩
 ·exact ⟨o,vs,a,b,c⟩
noncomputable def yx (ex:Addr) (T:Option Addr) (X:Cx):List Addr:=ex::(T.toList++frs X.stack)
theorem yy (I:Inv X pins σ H s) (hb:b∈frs X.stack):∃ o,s.heap.get? b=iD o/\∀ vs,o.data≠.fields vs:=(I.stack.mem hb).2
theorem Kl (c:X.stack=X.env::X.outer):∀ env∈X.stack,∀ b,env.frame=iD b->b∈frs X.stack:=λenv g b hb=>fF.mpr ⟨env,g,hb⟩
structure Gone (X:Cx) (H:Hp) (s:iJ) (ex:Addr) (cls:iG) (h2:Heap):Prop where
 keep:∀ b o,s.heap.get? b=iD o->H b≠iF\/(X.s₀.heap.get? b≠iF/\b∉frs X.stack)->h2.get? b=iD o
 slot:∀ b o,s.heap.get? b=iD o->b∈frs X.stack->∃ sl,h2.get? b=iD { o with slots:=sl }
 ok:HOk X.prog X.w H h2
 un:Un (frs X.stack) [] H H s.heap h2\/True
theorem Zj {h2:Heap} (I:Inv X pins σ H s) (hex:H ex=iF) (hT:∀ T,T0=iD T->H T=iF) (n1:X.s₀.heap.get? ex=iF) (n2:∀ T,T0=iD T->X.s₀.heap.get? T=iF)
  (st:(bp s.heap (yx ex T0 X)).StaysIn h2) (sl:∀ b o,s.heap.get? b=iD o->(∀ vs,o.data≠.fields vs)->∃ sl,h2.get? b=iD { o with slots:=sl }):Gone X H s ex cls h2:=by
 have keep:∀ b o,s.heap.get? b=iD o->b≠ex->(∀ T,T0=iD T->b≠T)->b∉frs X.stack->h2.get? b=iD o:=λb o e h1 h2 i=>st b o (cW _ e λm=>by
  rcases ah.mp m with q | m;·exact h1 q
  ·rcases ba.mp m with q | q;·exact h2 b (Option.mem_toList.mp q) rfl
   ·exact i q)
 have k1:∀ b o,s.heap.get? b=iD o->H b≠iF->h2.get? b=iD o:=λb o e n=>keep b o e (λq=>n (by rw [q]; exact hex)) (λT h q=>n (by rw [q]; exact hT T h)) λq=>n (I.stkFree b q);refine ⟨λb o e hb=>?_,λb o e hb=>?_,λb u e=>?_,.inr trivial⟩
 ·rcases hb with hb | ⟨hb,hf⟩
  ·exact k1 b o e hb
  ·exact keep b o e (λq=>hb (by rw [q]; exact n1)) (λT h q=>hb (by rw [q]; exact n2 T h)) hf
 ·obtain ⟨o',a,t⟩:=yy I hb;rw [e] at a; cases a;exact sl b o e t
 ·refine (I.hok b u e).stay (λc v d q=>k1 c v q ?_) (λ_ q=>q) λ_ _ q=>q;rcases d with z | z;·rw [z,e]; simp
  ·rw [z]; simp
theorem Km (I:Inv X pins σ H s) (hT:∀ T,T0=iD T->H T=iF) (n2:∀ T,T0=iD T->X.s₀.heap.get? T=iF) (g:Gone X H s ex cls h2) (h:X.ex=[])
  (tr:h2.Traced (bp s.heap (yx ex T0 X)) ex cls):∃ T,Fly h2 ex T cls/\H T=iF/\X.s₀.heap.get? T=none:=by
 obtain ⟨t,vs,T,w,ts,K,J,G,E,p,l,k,j,D⟩:=tr;have c:∀ o,s.heap.get? T=iD o->(∃ q,T0=iD q/\T=q):=λo e=>by
  have m:T∈yx ex T0 X:=by refine Classical.byContradiction λA=>?_;rw [cW _ e A] at p;cases p
  rcases ah.mp m with q | m;·exact absurd q l
  ·rcases ba.mp m with q | q;·exact ⟨T,Option.mem_toList.mp q,rfl⟩
   ·obtain ⟨o',d,x⟩:=yy I q;obtain ⟨sl,i⟩:=g.slot T o' d q;rw [k] at i;cases i;exact absurd j (x ts)
 refine ⟨T,⟨t,vs,w,ts,K,J,G,E,l,k,j,D⟩,?_,?_⟩
 ·cases q:H T with
  | none=>rfl
  | some u=>
   have B:=I.hok.lt q;obtain ⟨o,e⟩:∃ o,s.heap.get? T=iD o:=by
    have:=(I.hok T u q)
    have st:=this.stay (H':=H) (h':=s.heap) (λb v _ z=>z) (λ_ z=>z) λ_ _ z=>z;cases z:s.heap.get? T with
    | some o=>exact ⟨o,rfl⟩
    | none=>
     exfalso;cases u with
     | lst xs=>obtain ⟨_,_,_,_,e⟩:=st; rw [z] at e; cases e
     | tup xs=>obtain ⟨_,_,_,_,e,_⟩:=st; rw [z] at e; cases e
     | dK kvs=>obtain ⟨_,_,_,_,o,_,_,e,_⟩:=st; rw [z] at e; cases e
     | dT kvs=>obtain ⟨_,_,_,_,o,_,_,e,_⟩:=st; rw [z] at e; cases e
     | set S n=>obtain ⟨o,_,_,_,e,_⟩:=st; rw [z] at e; cases e
     | ins C dx fs=>obtain ⟨_,_,_,e,_⟩:=st; rw [z] at e; cases e
     | own y=>obtain ⟨_,e⟩:=st; rw [z] at e; cases e
     | xd fs=>obtain ⟨_,⟨_,_,_,e,_⟩,_⟩:=st; rw [z] at e; cases e
     | rng lo hi=>obtain ⟨_,_,_,e⟩:=st; rw [z] at e; cases e
     | frz L u=>obtain ⟨e,_⟩:=st; rw [z] at e; cases e
     | tbl ps=>have e:s.heap.get? T=iD _:=st; rw [z] at e; cases e
     | met f y=>have e:s.heap.get? T=iD _:=st; rw [z] at e; cases e
     | ext φ=>obtain ⟨_,⟨_,e⟩,_⟩:=st; rw [z] at e; cases e
   obtain ⟨r,a,rfl⟩:=c o e;rw [hT _ a] at q; cases q
 ·cases q:X.s₀.heap.get? T with
  | none=>rfl
  | some o=>obtain ⟨o',d⟩:=I.base.there T o q (by rw [h]; simp);obtain ⟨r,a,rfl⟩:=c o' d;rw [n2 _ a] at q; cases q
theorem YD {E:iG->iJ->Prop} {Q:Unit->iJ->Prop} (I:Inv X pins σ H s) (h:X.stack=X.env::X.outer) (r:X.env.frame=iD X.env.locals) (a:X.ex=[]) (x:InB X H s ex cls)
  (k:∀ h2 T,Gone X H s ex cls h2->Fly h2 ex T cls->H T=iF->X.s₀.heap.get? T=iF->Q () { s with heap:=h2 }):wpAny (model X.prog X.w) X.A (leaving X.env (.ref ex)) Q E s:=by
 obtain ⟨hex,n1,hx⟩:=x;have C:X.A.frames=iD (X.env::X.outer):=by rw [I.ok.frames,h]
 have B:∀ as,(bp s.heap as).StaysIn s.heap:=λas b o e=>dZ as e;have hl:∀ T0,s.heap.FunFrames (bp s.heap (yx ex T0 X)) (X.env::X.outer):=λT0=>by rw [<-h];exact PySem.W.funFrames_hide I.stack λenv v b hb=>ai _ (bc _ (Kl h env v b hb))
 have q:∀ T0,(bp s.heap (yx ex T0 X)).get? ex=none:=λT0=>cM _ (ah.mpr (.inl rfl));rcases hx with ⟨l,vs,p,i,f,y⟩ | ⟨T,⟨l,vs,u,ts,p,i,f,y,K,J,G,D⟩,hT,n2⟩
 ·refine wpAny_leaving_first (base:=bp s.heap (yx ex iF X)) C (hl iF) r p (B _) (q iF) f y λh2 ⟨st,_,tr,sl⟩=>?_;have g:Gone X H s ex cls h2:=Zj I hex (T0:=iF) (λ_ z=>nomatch z) n1 (λ_ z=>nomatch z) st sl;rw [i] at tr;obtain ⟨j,f1,f2,m⟩:=Km I (T0:=iF) (λ_ z=>nomatch z) (λ_ z=>nomatch z) g a tr;exact k h2 j g f1 f2 m
 ·have d:∀ c,iD T=iD c->H c=none:=λc z=>by cases z; exact hT
  have n:∀ c,iD T=iD c->X.s₀.heap.get? c=none:=λc z=>by cases z; exact n2
  have t:s.heap.Traced (bp s.heap (yx ex (iD T) X)) ex cls:=⟨l,vs,T,u,ts,p,i,f,y,cM _ (ai _ (cx _ (by simp))),K,J,G,D⟩
  refine wpAny_leaving_next (base:=bp s.heap (yx ex (iD T) X)) C (hl (iD T)) r t (B _) (q _) λh2 ⟨st,_,tr,sl⟩=>?_;have g:Gone X H s ex cls h2:=Zj I hex d n1 n st sl;obtain ⟨j,f1,f2,m⟩:=Km I d n g a tr;exact k h2 j g f1 f2 m
end
variable {A:iO} {P:iL} {w:iM} {mg:Str->Option iG} {base h:Heap} {qual:Str} {cd:iG} {outer:List Env} {s0:iJ}
section
variable {f:Addr} {E:XK}
abbrev cxk (P:iL) (w:iM) (K:Frag) (mg:Str->Option iG) (base:Heap) (N:List Str) (qual:Str) (scope:lm) (f:Addr) (cd:iG) (A:iO) (outer:List Env) (s0:iJ) (H0:Hp) (E:XK):Cx:=qah (CXk P w) P w K mg base N qual scope f cd A outer s0 H0 E
theorem qfe {C:Addr} (I:Inv (cxk P w K mg base N qual scope f cd A outer s0 H0 E) pins σ H s) (x:InB (cxk P w K mg base N qual scope f cd A outer s0 H0 E) H s ex (.ref C)) (j:E (.ref C) iF H):(cxk P w K mg base N qual scope f cd A outer s0 H0 E).xe (.ref ex) s:=by
 refine YD I rfl rfl rfl x λh2 T g fl hT h=>?_;have a:=I.base;have L:∀ b o,s0.heap.get? b=iD o->b≠(cxk P w K mg base N qual scope f cd A outer s0 H0 E).env.locals:=λb o e=>aL (aQ (aE e) I.ok.above);have t:∀ b o,s0.heap.get? b=iD o->b∉frs outer->b∉frs (cxk P w K mg base N qual scope f cd A outer s0 H0 E).stack:=λb o e hb z=>by
  rcases ah.mp (I.stkSub b z) with q | q;·exact L b o e q
  ·exact hb q
 have i:∀ b,b∈frs outer->b∈frs (cxk P w K mg base N qual scope f cd A outer s0 H0 E).stack:=λb hb=>by show b∈frs (_::outer);unfold frs;rw [bu];exact ai _ hb
 refine ⟨ex,T,C,H,rfl,I.os,I.bare,⟨λb o e n hb hx=>?_,λb o e n hb hx=>?_,a.free,λb o e hx=>?_,a.tups,a.frzs,a.tbls⟩,g.ok,fl,x.1,hT,x.2.1,h,j⟩;·exact g.keep b o (a.keep b o e n hb hx) (.inr ⟨by show s0.heap.get? b≠iF; rw [e]; simp,t b o e hb⟩)
 ·obtain ⟨sl,q⟩:=a.slot b o e n hb hx;obtain ⟨c,d⟩:=g.slot b _ q (i b hb);exact ⟨c,d⟩
 ·obtain ⟨o',q⟩:=a.there b o e hx;by_cases hb:b∈frs (cxk P w K mg base N qual scope f cd A outer s0 H0 E).stack;·obtain ⟨sl,d⟩:=g.slot b o' q hb;exact ⟨_,d⟩
  ·exact ⟨o',g.keep b o' q (.inr ⟨by show s0.heap.get? b≠iF; rw [e]; simp,hb⟩)⟩
theorem qdl {e:iG} (a:X.ex=[]) (I:Inv X pins σ H s) (h:CXk X.prog X.w X.stack H s E e s'):∃ ex C H',e=.ref ex/\Inv X pins σ H' s'/\InB X H' s' ex (.ref C)/\E (.ref C) iF H':=by
 obtain ⟨ex,T,C,H',rfl,os,bare,un,hok,fl,e1,i,n1,n2,j⟩:=h;have old:∀ b,s.heap.get? b=iF->X.s₀.heap.get? b=none:=λb hb=>by
  cases q:X.s₀.heap.get? b with
  | none=>rfl
  | some o=>obtain ⟨o',c⟩:=I.base.there b o q (by rw [a]; simp);rw [hb] at c; cases c
 exact ⟨ex,C,H',rfl,I.call' (ch:=[]) os un hok bare (λb z=>absurd z (by simp)),⟨e1,old ex n1,.inr ⟨T,fl,i,old T n2⟩⟩,j⟩
theorem qZ:jO (CXk P w) (cxk P w K mg base N qual scope f cd A outer s0 H0 E) E:=λpins σ H s e s' I h=>by obtain ⟨ex,C,H',rfl,b,x,j⟩:=qdl rfl I h;exact qfe b x j
theorem qdm {C:Addr} {b:List iG} {d:String} (kin:K.In h) (c:mg x=iD (.ref C)) (q:dU K C b d=iI):OwnCls x C b d mg h:=by
 refine ⟨c,?_⟩;unfold dU at q;split at q
 case h_2=>cases q
 case h_1 dd cd sl lk=>
  split at q
  case h_2=>cases q
  case h_1 C' bm a0 a1 a2 a3 n a5 em es=>
   have f:=q;simp only [aZ,beq_iff_eq,Bool.not_eq_true'] at f;obtain ⟨⟨⟨⟨⟨e1,i⟩,l⟩,tl⟩,k⟩,t⟩:=f;obtain ⟨nm,bs,mro,ns,a,hd,sn,sub,ab,col,del⟩:=cd;dsimp only at em l k t;obtain ⟨s⟩:=sl;dsimp only at es;subst em l es e1 i;exact ⟨bm,ns,nm,a,bs,hd,sn,sub,ab,col,dd,a0,a1,a2,a3,a5,_,kin _ _ lk,.of_isNs (PySem.W.isNs_of_in kin k),PySem.W.nsMap_none_of_in kin k t,PySem.W.tail_of_in kin tl⟩
end
theorem qcf {T:Addr} (hok:HOk P w H h) (q:H T=iD u):∃ o,h.get? T=iD o:=by
 have st:=hok T u q;cases z:h.get? T with
 | some o=>exact ⟨o,rfl⟩
 | none=>
  exfalso;cases u with
  | lst xs=>obtain ⟨_,_,_,_,e⟩:=st; rw [z] at e; cases e
  | tup xs=>obtain ⟨_,_,_,_,e,_⟩:=st; rw [z] at e; cases e
  | dK kvs=>obtain ⟨_,_,_,_,o,_,_,e,_⟩:=st; rw [z] at e; cases e
  | dT kvs=>obtain ⟨_,_,_,_,o,_,_,e,_⟩:=st; rw [z] at e; cases e
  | set S n=>obtain ⟨o,_,_,_,e,_⟩:=st; rw [z] at e; cases e
  | ins C dx fs=>obtain ⟨_,_,_,e,_⟩:=st; rw [z] at e; cases e
  | own y=>obtain ⟨_,e⟩:=st; rw [z] at e; cases e
  | xd fs=>obtain ⟨_,⟨_,_,_,e,_⟩,_⟩:=st; rw [z] at e; cases e
  | rng lo hi=>obtain ⟨_,_,_,e⟩:=st; rw [z] at e; cases e
  | frz b u=>obtain ⟨e,_⟩:=st; rw [z] at e; cases e
  | tbl ps=>have e:h.get? T=iD _:=st; rw [z] at e; cases e
  | met f y=>have e:h.get? T=iD _:=st; rw [z] at e; cases e
  | ext φ=>obtain ⟨_,⟨_,e⟩,_⟩:=st; rw [z] at e; cases e
abbrev bmV:List iG:=[.type "ValueError",.type "Exception",.type "BaseException",.type "object"]
noncomputable def va (x:Str) (fr:Sl->Out (List D×Sl)):Sl->Out (Fl×Sl):=λρ=>(fr ρ).bind λp=>.exc x p.2
theorem PoS.bindA {as:List AK} {o:Out (List D×Sl)} {k:List D×Sl->Out (Fl×Sl)} {D:Ends} {R:List V->Hp->Prop} (hp:PoS C own own' σ F H (o.bind k) D)
  (h:∀ vs F1 H1 ds ρ1,Rep C.K own F1 H1 σ ρ1->Chg (OA own σ) F H F1 H1->ArgV C.K H F1 H1 σ as vs ds->PoS C own own' σ F1 H1 (k (ds,ρ1)) D->R vs H1):PoA C own as σ F H o R:=by
 cases o with
 | ok p=>obtain ⟨ds,ρ1⟩:=p;exact λvs F1 H1 a c v=>h vs F1 H1 ds ρ1 a c v (PoS.shift (show PoS C own own' σ F H (k (ds,ρ1)) D from hp) (.ofE a c))
 | exc x=>exact hp
 | bad=>exact hp.elim
def Zk (X:Cx) (C:Ct):Prop:=∀ (pins:List (Addr×Obj)) (σ:St) (H:Hp) (s:iJ) (ex A:Addr),Inv X pins σ H s->InB X H s ex (.ref A)->C.E (.ref A) iF H->X.xe (.ref ex) s
theorem qff {f:Addr}:Zk (cxk P w K mg base N qual scope f cd A outer s0 H0 C.E) C:=λpins σ H s ex A I x j=>qfe I x j
variable {Cc:Addr} {cpos:Pos}
section
variable {fr:Sl->Out (List D×Sl)} {np:Pos}
theorem ArgV.len:∀ {as:List AK} {vs:List V} {ds:List D},ArgV K H0 F H σ as vs ds->vs.length=as.length
 | [],[],[],_=>rfl
 | .vl::as,v::vs,d::ds,h=>congrArg (·+1) (ArgV.len h.2)
 | .sl i::as,v::vs,d::ds,h=>congrArg (·+1) (ArgV.len h.2.2)
 | .fr::as,v::vs,d::ds,h=>congrArg (·+1) (ArgV.len h.2)
 | [],_::_,_,h=>h.elim
 | [],[],_::_,h=>h.elim
 | .vl::_,[],_,h=>h.elim
 | .vl::_,_::_,[],h=>h.elim
 | .sl _::_,[],_,h=>h.elim
 | .sl _::_,_::_,[],h=>h.elim
 | .fr::_,[],_,h=>h.elim
 | .fr::_,_::_,[],h=>h.elim
theorem kX (b:X.ex=[]) (w:Zk X C) (O:X.calm=iI) (hg:Gl X x) (m:X.mg x=iD (.ref Cc)) (v:C.cv x=.ref Cc) (q:dU X.K Cc bmV "ValueError.__new__"=iI) (B:PA X (e::es) (tAr C own as fr)) (z:as.length<=1000:=by decide) (f:∀ i∈C.ox,i∈own:=by exact kq rfl) (hd:(x == ("__debug__":Str))=false:=by decide)
  (g:starEach (e::es) X.env=(iH,eval e X.env)::starEach es X.env:=by exact ja rfl) (l:(backTo cpos (starEach es X.env)).any (·.1)=false:=by rfl) :
  PS X (.Raise (iD (.Call (.Name x np) (e::es) [] cpos)) iF pos) (tSt C own own' (va x fr)):=by
 refine ⟨?_⟩;intro pins s σ H D I ⟨F,ρ,r,h⟩;obtain ⟨tl,N,nm,p,bs,hdct,sn,sub,ab,col,dd,k0,k1,k2,k3,k5,mN,hC,G,c,T⟩:=(qdm I.ok.mod.kin m q).obj;refine wpAny_Raise_call_subT (C:=Cc) (nm:=nm) (q:=p) (N:=N) (bs:=bs) (bm:=tl) (hdct:=hdct) (sn:=sn) (sub:=sub) (ab:=ab) (col:=col) (dd:=dd) (k0:=k0) (k1:=k1) (k2:=k2) (k3:=k3) (k5:=k5)
  PySem.F.excBase_ValueError (mN:=mN) (T.hasType PySem.F.excBase_ValueError.hasBase) (I.ok.hd O) (by rw [g]; show (iH||(backTo cpos (starEach es X.env)).any (·.1))=iH; rw [l]; rfl) c (uZ I hg m ⟨rfl,?_⟩ hd)
 have n:tAr C own as fr σ H λvs H1=>vs.length<=sizeLine/\C.E (.ref Cc) iF H1:=by
  refine ⟨F,ρ,r,PoS.bindA h λvs F1 H1 ds ρ1 a Q L h1=>⟨?_,?_⟩⟩;·rw [L.len]; exact bR z (by rw [iR]; decide)
  ·rw [<-v]; exact h1 F1 H1 a.sub (a.ioIs f) .refl
 have run:=B cpos pins s σ H _ I n;rw [g] at run ⊢;refine fk (i8 run (λus s2 ⟨vs,H2,k,r2,z2,J⟩=>?_) λ_ _ y=>y);refine ⟨rfl,by rw [<-r2.length]; exact z2,k.bk _ _ hC,G.keeps k.bk,T.keeps k.bk,λh' ex mk=>?_⟩;have M:Inv X pins σ H2 { s2 with heap:=h' }:=k.kept (t':=s2.toks) mk.keeps;obtain ⟨t,h1,h2,P⟩:=mk.there;refine w pins σ H2 _ ex Cc M ⟨?_,?_,.inl ⟨_,_,h1,rfl,rfl,rfl⟩⟩ J
 ·cases d:H2 ex with
  | none=>rfl
  | some u=>have A:=k.hok.lt d;refine absurd mk.new ?_;obtain ⟨o,e⟩:=qcf k.hok d;rw [e]; simp
 ·cases d:X.s₀.heap.get? ex with
  | none=>rfl
  | some o=>obtain ⟨o',j⟩:=k.base.there ex o d (by rw [b]; simp);rw [mk.new] at j; cases j
end
structure Caught (X:Cx) (pins:List (Addr×Obj)) (H:Hp) (s:iJ) (ex T Cc:Addr):Prop where
 fly:Fly s.heap ex T (.ref Cc)
 hex:H ex=iF
 hT:H T=iF
 n1:X.s₀.heap.get? ex=iF
 n2:X.s₀.heap.get? T=iF
 pp:∀ p∈X.pn++pins,p.1≠ex/\p.1≠T
variable {xe:iG->iJ->Prop}
section
variable {T:Addr}
theorem Caught.dex (c:Caught X pins H s ex T Cc):∃ o vs,s.heap.get? ex=iD o/\o.data=.fields vs:=let ⟨o,vs,a,ts,p,b,z,_⟩:=c.fly; ⟨o,vs,p,z⟩
theorem Caught.dT (c:Caught X pins H s ex T Cc):∃ o vs,s.heap.get? T=iD o/\o.data=.fields vs:=let ⟨o,vs,a,ts,p,b,z,y,m,l,k,_⟩:=c.fly; ⟨a,ts,l,k⟩
theorem Um {h2:Heap} (I:Inv X pins σ H s) (h:X.stack=X.env::X.outer) (g:X.env.frame=iD X.env.locals) (E:X.ex=[]) (c:Caught X pins H s ex T Cc)
  (keep:∀ b o,s.heap.get? b=iD o->b≠ex->b≠T->b∉frs X.stack->h2.get? b=iD o)
  (slot:∀ b o,s.heap.get? b=iD o->b∈frs X.stack->∃ sl,h2.get? b=iD { o with slots:=sl }):Inv X pins σ H { s with heap:=h2 }:=by
 obtain ⟨V,ve,J,O⟩:=c.dex;obtain ⟨W,U,hT,dT⟩:=c.dT;have D:∀ b o,s.heap.get? b=iD o->(∀ vs,o.data≠.fields vs)->b≠ex/\b≠T:=λb o e n=>by
  constructor;·rintro rfl; rw [J] at e; cases e; exact n _ O
  ·rintro rfl; rw [hT] at e; cases e; exact n _ dT
 have S:X.env.locals∈frs X.stack:=by rw [h]; unfold frs; rw [bu,g]; exact ay
 have L:∀ b o,X.s₀.heap.get? b=iD o->b≠X.env.locals:=λb o e=>aL (aQ (aE e) I.ok.above);have t:∀ b o,X.s₀.heap.get? b=iD o->b∉X.fs->b∉frs X.stack:=λb o e hb z=>by
  rcases ah.mp (I.stkSub b z) with q | q;·exact L b o e q
  ·exact hb q
 have w:∀ b,b∈X.fs->b∈frs X.stack:=λb hb=>by rw [h]; unfold frs; rw [bu,g]; exact ai _ hb
 have f:∀ b o,X.s₀.heap.get? b=iD o->b≠ex/\b≠T:=λb o e=>⟨(by rintro rfl; rw [c.n1] at e; cases e),(by rintro rfl; rw [c.n2] at e; cases e)⟩
 have y:∀ {a:Addr} {v:Option iG},s.heap.IsCell a v->h2.IsCell a v:=λ{a v} ⟨oc,e1,j⟩=>by
  have q:=D a oc e1 λvs z=>by rw [j] at z; cases z
  by_cases hb:a∈frs X.stack;·obtain ⟨sl,z⟩:=slot a oc e1 hb;exact ⟨_,z,j⟩
  ·exact ⟨oc,keep a oc e1 q.1 q.2 hb,j⟩
 refine ⟨I.ok,I.os,I.bare,⟨λb o e n hb hx=>?_,λb o e n hb hx=>?_,I.base.free,λb o e hx=>?_,I.base.tups,I.base.frzs,I.base.tbls⟩,?_,λx a e=>?_,I.free,I.freeC,λp hp=>?_,λb u e=>?_,I.len⟩;·exact keep b o (I.base.keep b o e n hb hx) (f b o e).1 (f b o e).2 (t b o e hb)
 ·obtain ⟨sl,q⟩:=I.base.slot b o e n hb hx;obtain ⟨l,C⟩:=slot b _ q (w b hb);exact ⟨l,C⟩
 ·obtain ⟨o',q⟩:=I.base.there b o e hx;by_cases hb:b∈frs X.stack;·obtain ⟨sl,z⟩:=slot b o' q hb;exact ⟨_,z⟩
  ·exact ⟨o',keep b o' q (f b o e).1 (f b o e).2 hb⟩
 ·obtain ⟨m,⟨o,es,ep,G,r⟩,hl⟩:=I.loc;obtain ⟨sl,M⟩:=slot _ o G S;refine ⟨m,⟨_,es,ep,M,r⟩,λi x v e1 j N=>?_⟩;obtain ⟨u,rv,lk⟩:=hl i x v e1 j N;refine ⟨u,rv,?_⟩;rcases lk with z | ⟨k,a,e,z⟩
  ·exact .inl z
  ·exact .inr ⟨k,a,e,y z⟩
 ·obtain ⟨v,z⟩:=I.cell x a e;exact ⟨v,y z⟩
 ·obtain ⟨R,Q,B,A,P⟩:=I.pin p hp;refine ⟨keep p.1 p.2 R (c.pp p hp).1 (c.pp p hp).2 λz=>?_,Q,B,A,P⟩;rcases ah.mp (I.stkSub p.1 z) with q | q;·exact B q
  ·exact A q
 ·refine (I.hok b u e).stay (λd v K q=>?_) (λ_ q=>q) λ_ _ q=>q;have hd:H d≠none:=by
   rcases K with z | z;·rw [z,e]; simp
   ·rw [z]; simp
  exact keep d v q (λz=>hd (by rw [z]; exact c.hex)) (λz=>hd (by rw [z]; exact c.hT)) λz=>hd (I.stkFree d z)
theorem Qh {z:iG} (I:Inv X pins σ H s) (h:X.ex=[]) (c:Caught X pins H s ex T Cc) (slot:∀ b o,s.heap.get? b=iD o->b∈frs X.stack->∃ sl,h2.get? b=iD { o with slots:=sl })
  (tr:h2.TracedW (bp s.heap (yx ex (iD T) X)) ex (.ref Cc) z):∃ j,Caught X pins H { s with heap:=h2 } ex j Cc:=by
 obtain ⟨l,vs,j,r,ts,b1,⟨b2,_⟩,y,x,k,g,f,d,w⟩:=tr;have n:∀ o,s.heap.get? j=iD o->j=T:=λo e=>by
  have m:j∈yx ex (iD T) X:=by refine Classical.byContradiction λv=>?_;rw [cW _ e v] at k;cases k
  rcases ah.mp m with q | m;·exact absurd q g
  ·rcases ba.mp m with q | q;·simpa using q
   ·obtain ⟨o',a,t⟩:=yy I q;obtain ⟨sl,i⟩:=slot j o' a q;rw [f] at i;cases i;exact absurd d (t ts)
 refine ⟨j,⟨l,vs,r,ts,b1,b2,y,x,g,f,d,w⟩,c.hex,?_,c.n1,?_,λp hp=>⟨(c.pp p hp).1,?_⟩⟩
 ·cases q:H j with
  | none=>rfl
  | some u=>obtain ⟨o,e⟩:=qcf I.hok q;rw [n o e,c.hT] at q; cases q
 ·cases q:X.s₀.heap.get? j with
  | none=>rfl
  | some o=>obtain ⟨o',a⟩:=I.base.there j o q (by rw [h]; simp);rw [n o' a,c.n2] at q; cases q
 ·rintro rfl;exact (c.pp p hp).2 (n _ (I.pin p hp).1)
theorem Qi (st:(bp s.heap (yx ex (iD T) X)).StaysIn h2):∀ b o,s.heap.get? b=iD o->b≠ex->b≠T->b∉frs X.stack->h2.get? b=iD o:=λb o e h1 h2 i=>st b o (cW _ e λc=>by
  rcases ah.mp c with q | c;·exact h1 q
  ·rcases ba.mp c with q | q;·exact h2 (by simpa using q)
   ·exact i q)
theorem Kn (c:Caught X pins H s ex T Cc):∃ e,s.heap.TracedW (bp s.heap (yx ex (iD T) X)) ex (.ref Cc) e:=by obtain ⟨o,vs,a,ts,p,d,b,y,m,l,k,j⟩:=c.fly;have z:0 < vs.size:=Nat.lt_of_succ_lt (Array.getElem?_eq_some_iff.mp y).1;exact ⟨vs[0],o,vs,T,a,ts,p,⟨d,by simp [z]⟩,b,y,cM _ (ai _ (cx _ (by simp))),m,l,k,j⟩
theorem Qj (I:Inv X pins σ H s) (h:X.stack=X.env::X.outer):s.heap.FunFrames (bp s.heap (yx ex (iD T) X)) (X.env::X.outer):=by rw [<-h];exact PySem.W.funFrames_hide I.stack λenv g b hb=>ai _ (bc _ (Kl h env g b hb))
theorem Ko {E:iG->iJ->Prop} {Q:Unit->iJ->Prop} (hA:A.frames=iD X.stack) (I:Inv X pins σ H s) (h:X.stack=X.env::X.outer) (r:X.env.frame=iD X.env.locals) (a:X.ex=[]) (c:Caught X pins H s ex T Cc)
  (k:∀ s' j,Inv X pins σ H s'->Caught X pins H s' ex j Cc->Q () s'):wpAny (model X.prog X.w) A (noteFrame (.ref ex) X.env) (λ_ s1=>wpAny (model X.prog X.w) A (setFlight (.ref ex) iF) Q E s1) E s:=by
 obtain ⟨z,tr⟩:=Kn c;refine wpAny_looks_onW (by rw [hA,h]) r ⟨λb o e=>dZ _ e,cM _ (ah.mpr (.inl rfl)),Qj I h,tr⟩ λh1 d i=>?_;refine wpAny_landsW d λh2 fl u=>?_;have slot:∀ b o,s.heap.get? b=iD o->b∈frs X.stack->∃ sl,h2.get? b=iD { o with slots:=sl }:=λb o e hb=>by obtain ⟨o',g,t⟩:=yy I hb;rw [e] at g; cases g;obtain ⟨sl,q⟩:=i b o e t;obtain ⟨f,l⟩:=u b _ q t;exact ⟨f,l⟩
 obtain ⟨j,m⟩:=Qh I a c slot fl.2.2.2;have n:Inv X pins σ H { s with heap:=h2 }:=Um I h r a c (Qi fl.1) slot;exact k { s with heap:=h2 } j n m
theorem zE {A:iO} {E:iG->iJ->Prop} {Q:Unit->iJ->Prop} (I:Inv X pins σ H s) (h:X.stack=X.env::X.outer) (r:X.env.frame=iD X.env.locals) (a:X.ex=[]) (c:Caught X pins H s ex T Cc)
  (k:∀ s' j,Inv X pins σ H s'->Caught X pins H s' ex j Cc->Q () s'):wpAny (model X.prog X.w) A (setFlight (.ref ex) iF) Q E s:=by
 obtain ⟨z,tr⟩:=Kn c;refine wpAny_setFlight_noneW (base:=bp s.heap (yx ex (iD T) X)) (λb o e=>dZ _ e) (Qj I h) tr λh2 st _ t kp=>?_;have slot:∀ b o,s.heap.get? b=iD o->b∈frs X.stack->∃ sl,h2.get? b=iD { o with slots:=sl }:=λb o e hb=>by obtain ⟨o',d,n⟩:=yy I hb;rw [e] at d; cases d;exact ⟨o.slots,kp b o e n⟩
 obtain ⟨j,f⟩:=Qh I a c slot t;exact k _ j (Um I h r a c (Qi st) slot) f
theorem qfg (I:Inv X pins σ H s) (c:Caught X pins H s ex T Cc):Inv X pins σ (upd H ex (gY ex Cc)) s:=by
 obtain ⟨g,vs,w,ts,f,r,h,_⟩:=c.fly;have t:∀ b o,s.heap.get? b=iD o->(∀ vs,o.data≠.fields vs)->b≠ex:=λb o e n=>by rintro rfl; rw [f] at e; cases e; exact n _ h
 have up:∀ {b:Addr} {u:HO},H b=iD u->upd H ex (gY ex Cc) b=iD u:=λ{b u} e=>by rw [qt (qD e c.hex)]; exact e
 refine ⟨I.ok,I.os,I.bare,⟨I.base.keep,I.base.slot,λb o e n hx=>?_,I.base.there,λb xs e=>up (I.base.tups b xs e),λb o u e=>up (I.base.frzs b o u e),λb ps e=>?_⟩,I.loc,I.cell,?_,λx a e=>?_,λp hp=>?_,λb u e=>?_,I.len⟩;·rw [qt (by rintro rfl; rw [c.n1] at e; cases e)]; exact I.base.free b o e n hx
 ·obtain ⟨more,z⟩:=I.base.tbls b ps e;exact ⟨more,up z⟩
 ·obtain ⟨m,⟨o,es,ep,l,hd,_⟩,_⟩:=I.loc;rw [qt (t _ o l λvs z=>by rw [hd] at z; cases z)]; exact I.free
 ·obtain ⟨v,oc,e1,i⟩:=I.cell x a e;rw [qt (t _ oc e1 λvs z=>by rw [i] at z; cases z)]; exact I.freeC x a e
 ·obtain ⟨b1,b2,y⟩:=I.pin p hp;refine ⟨b1,?_,y⟩;rw [qt (c.pp p hp).1]; exact b2
 ·by_cases q:b=ex;·subst q;rw [qm] at e; cases e;refine ⟨⟨g,vs,f,r,h⟩,⟨g,f⟩,λh1 h2 ⟨o1,j,e1,i,D⟩ k=>⟨o1,j,k _ e1,i,D⟩⟩
  ·rw [qt q] at e;exact (I.hok b u e).stay (λ_ _ _ z=>z) (λd z=>up z) λd xs z=>up z
def QT (X:Cx) (pn:List (Addr×Obj)) (xe:iG->iJ->Prop):Cx:={ X with pn:=pn,xe:=xe }
theorem Zl (I:Inv X pins σ H s):Inv (QT X (X.pn++pins) xe) [] σ H s:=
 ⟨⟨I.ok.mod,I.ok.kind,I.ok.glob,I.ok.blt,I.ok.above,I.ok.inj,I.ok.has,I.ok.cab,I.ok.hd,I.ok.frames,I.ok.stk,I.ok.exf,I.ok.bs,I.ok.bsz,I.ok.noex,I.ok.exfs,I.ok.funs,I.ok.frf⟩,I.os,I.bare,I.base,I.loc,I.cell,I.free,I.freeC,λp hp=>I.pin p (by simpa [QT] using hp),I.hok,I.len⟩
theorem ky {a:List (Addr×Obj)} (I:Inv (QT X (X.pn++pins) xe) a σ H s):Inv X pins σ H s:=
 ⟨⟨I.ok.mod,I.ok.kind,I.ok.glob,I.ok.blt,I.ok.above,I.ok.inj,I.ok.has,I.ok.cab,I.ok.hd,I.ok.frames,I.ok.stk,I.ok.exf,I.ok.bs,I.ok.bsz,I.ok.noex,I.ok.exfs,I.ok.funs,I.ok.frf⟩,I.os,I.bare,I.base,I.loc,I.cell,I.free,I.freeC,λp hp=>I.pin p (cx _ hp),I.hok,I.len⟩
noncomputable def qel (X:Cx) (e:iG):Cx:={ X with A:=X.A.mark (iD e),calm:=iH,xe:=λ_ _=>False }
theorem Uo {e:iG} (I:Inv X pins σ H s):Inv (qel X e) pins σ H s:=
 ⟨⟨I.ok.mod,I.ok.kind,I.ok.glob,I.ok.blt,I.ok.above,I.ok.inj,I.ok.has,I.ok.cab,λz=>absurd z (by show ¬(iH=iI); exact cu),I.ok.frames,I.ok.stk,I.ok.exf,I.ok.bs,I.ok.bsz,I.ok.noex,I.ok.exfs,I.ok.funs,I.ok.frf⟩,I.os,I.bare,I.base,I.loc,I.cell,I.free,I.freeC,I.pin,I.hok,I.len⟩
theorem Zm {e:iG} (hok:X.Ok) (I:Inv (qel X e) pins σ H s):Inv X pins σ H s:=
 ⟨hok,I.os,I.bare,I.base,I.loc,I.cell,I.free,I.freeC,I.pin,I.hok,I.len⟩
theorem YE {g:Str->Option iG} {t:Nat} (I:Inv X pins σ H s) (k:X.stack=X.env::X.outer) (r:X.env.frame=iD X.env.locals) (y:h'.Ns X.env.locals g) (c:bM X.env.locals s.heap h'):Inv X pins (σ.map λ_=>iF) H { s with heap:=h',toks:=t }:=by
 have L:∀ b o,X.s₀.heap.get? b=iD o->b≠X.env.locals:=λb o e=>aL (aQ (aE e) I.ok.above);obtain ⟨m,⟨D,es,ep,Y,h,_⟩,_⟩:=id I.loc;have w:∀ {a:Addr} {v:Option iG},s.heap.IsCell a v->a≠X.env.locals:=λ{a v} ⟨oc,e1,f⟩=>by rintro rfl; rw [Y] at e1; cases e1; rw [h] at f; cases f
 refine ⟨I.ok,I.os,I.bare,⟨λb o e n hb hx=>(c.2 b (L b o e)).trans (I.base.keep b o e n hb hx),λb o e n hb hx=>?_,I.base.free,λb o e hx=>?_,I.base.tups,I.base.frzs,I.base.tbls⟩,⟨g,y,λi x v e1 f=>?_⟩,λx a e=>?_,I.free,I.freeC,λp hp=>?_,λb u e=>?_,by simp [I.len]⟩;·obtain ⟨sl,q⟩:=I.base.slot b o e n hb hx;exact ⟨sl,(c.2 b (L b o e)).trans q⟩
 ·obtain ⟨o',q⟩:=I.base.there b o e hx;exact ⟨o',(c.2 b (L b o e)).trans q⟩
 ·simp only [aJ] at f;cases q:σ[i]? <;> rw [q] at f <;> cases f
 ·obtain ⟨v,z⟩:=I.cell x a e;exact ⟨v,z.sameBut c (w z)⟩
 ·obtain ⟨C,B,j,A⟩:=I.pin p hp;exact ⟨(c.2 p.1 j).trans C,B,j,A⟩
 ·refine (I.hok b u e).stay (λd v l q=>(c.2 d ?_).trans q) (λ_ q=>q) λ_ _ q=>q;rintro rfl;rcases l with z | z;·rw [<-z,I.free] at e; cases e
  ·rw [I.free] at z; cases z
end
def qgq (C:Ct) (own:List Nat) (E:XK):Ct:=⟨C.K,C.cv,E,own,C.mr,C.ol,own,λ_ h=>h⟩
noncomputable def exC (C:Ct):Ct:=⟨C.K,C.cv,λ_ _ _=>False,[],C.mr,[],[],λ_ h=>h⟩
noncomputable def VQ (n:Nat) (j:Option Nat) (hit:Str->Option Addr) (fb fs:Sl->Out (Fl×Sl)):Sl->Out (Fl×Sl):=λρ=>match fb ρ with
 | .exc c ρe=>match hit c with
  | some Cc=>match fs (match j with | some j=>(ao n iF).set j (iD (.xcp Cc)) | none=>ao n iF) with
   | .ok (.rt d,_)=>.ok (.rt d,ρe)
   | _=>.bad
  | none=>.bad
 | o=>o
def qfh (C:Ct) (own:List Nat) (σ:St) (F H:Hp) (r:Out (Fl×Sl)):XK:=λcls _ H'=>∃ c ρe F',r=.exc c ρe/\cls=C.cv c/\Same F' H'/\Xg C.K own F' H' σ ρe/\Chg (OA own σ) F H F' H'
def qgr (X:Cx) (pins:List (Addr×Obj)) (E:XK):iG->iJ->Prop:=λe s'=>∃ σ ex T Cc H',e=.ref ex/\Inv X pins σ H' s'/\Caught X pins H' s' ex T Cc/\E (.ref Cc) iF H'
section
variable {fb fs:Sl->Out (Fl×Sl)}
theorem Qk {E:XK} (c:X.ex=[]):jO (CXk X.prog X.w) (QT X (X.pn++pins) (qgr X pins E)) E:=λa σ H s e s' I h=>by
 obtain ⟨ex,T,Cc,H',rfl,os,bare,un,hok,fl,e1,i,n1,n2,j⟩:=h;have old:∀ b,s.heap.get? b=iF->X.s₀.heap.get? b=none:=λb hb=>by
  cases q:X.s₀.heap.get? b with
  | none=>rfl
  | some o=>obtain ⟨o',d⟩:=I.base.there b o q (by show b∉X.ex; rw [c]; simp);rw [hb] at d; cases d
 have k:Inv (QT X (X.pn++pins) (qgr X pins E)) a σ H' s':=I.call' (ch:=[]) os un hok bare (λb z=>absurd z (by simp));refine ⟨σ,ex,T,Cc,H',rfl,ky k,⟨fl,e1,i,old ex n1,old T n2,λp hp=>?_⟩,j⟩;have q:=(I.pin p (cx _ hp)).1;exact ⟨λz=>(by rw [z,n1] at q; cases q),λz=>(by rw [z,n2] at q; cases q)⟩
theorem Nx.untry {E:XK} {σ':St} {ρ':Sl} (b:∀ i∈C.io,i∈own) (n:Nx (qgq C own E) o1 o2 σ F H ρ' σ' F' H'):Nx C o1 o2 σ F H ρ' σ' F' H':=⟨n.rep,n.chg,n.oa,λi hi=>n.io i (b i hi)⟩
theorem Up {D:Ends} {j:Option Nat} {hit:Str->Option Addr} (b:∀ i∈C.io,i∈own) (r:Rep C.K own F H σ ρ) (h:PoS C own own' σ F H (VQ n j hit fb fs ρ) D):tSt (qgq C own (qfh C own σ F H (fb ρ))) own own' fb D σ H:=by
 refine ⟨F,ρ,r,?_⟩;unfold VQ at h;cases q:fb ρ with
 | ok p=>
  rw [q] at h;obtain ⟨fl,ρ'⟩:=p;cases fl with
  | nx=>exact λσ' F' H' a=>h σ' F' H' (a.untry b)
  | rt d=>exact λv σ' F' H' s io c e mo=>h v σ' F' H' s (λi hi=>io i (b i hi)) c (λi hi=>e i (b i hi)) mo
  | bk=>exact λσ' F' H' a=>h σ' F' H' (a.untry b)
  | ct=>exact λσ' F' H' a=>h σ' F' H' (a.untry b)
 | exc c ρe=>exact λF' H' s io ch=>⟨c,ρe,F',rfl,rfl,s,io,ch⟩
 | bad=>rw [q] at h; exact h.elim
theorem Kq {F3 e:Hp} {Cc:Addr} {D:Ends} {d:D2.D} {v:V} {w:St} (f:∀ i∈C.io,i∈own) (h:PoS C own own' σ F H (.ok (.rt d,ρe)) D) (n:H1 ex=iF) (j:Same F1 H1) (io:Xg C.K own F1 H1 σ ρe) (ch:Chg (OA own σ) F H F1 H1)
  (s3:Same F3 e) (J:Chg (OA [] w) (upd F1 ex (gY ex Cc)) (upd H1 ex (gY ex Cc)) F3 e) (mo:MoIs C.K C.mr (upd H1 ex (gY ex Cc)) F3 e v d):D.rt v e:=by
 obtain ⟨s,c2⟩:=wH (u:=gY ex Cc) j n;have no:∀ {b},OA [] w b->False:=λ⟨i,hi,_⟩=>by simp at hi
 have g:Chg No (upd F1 ex (gY ex Cc)) (upd H1 ex (gY ex Cc)) F3 e:=J.mono λx z=>no z;have c:Chg No F1 H1 F3 e:=c2.trans g λ_ z=>z.elim;refine h v σ F3 e s3 (λi hi=>?_) (ch.trans c λ_ z=>z.elim) (λ_ _=>rfl) (MoIs.back (Ha:=e) (ch.trans c2 λ_ z=>z.elim) mo);obtain ⟨d',a,e1,l,k,m⟩:=io i (f i hi);refine ⟨d',a,e1,l,?_,m.grow c.grow λo q=>c.keep a o q λz=>z⟩;cases q:F3 a with
 | none=>rfl
 | some u=>
  rcases c.new a (by rw [q]; simp) with z | z | z;·exact absurd k z
  ·exact absurd z m.there
  ·exact z.elim
theorem qdn {cn en:Str} {np L pos:Pos} {y b:List Stmt} {b0:Stmt} {cls:iG} {n j:Nat} {hit:Str->Option Addr} {own2:List Nat} (t:X.ex=[]) (k:X.stack=X.env::X.outer) (x:X.env.frame=iD X.env.locals)
  (hg:Gl X cn) (hm:X.mg cn=iD cls) (M:∀ c Cc,hit c=iD Cc->C.cv c=.ref Cc/\bP X.K (.ref Cc) cls=iD iI) (hN:X.N.Nodup) (hj:X.N[j]?=iD en) (hx:X.env.scope.names.lookup en=iD .local) (hn:X.N.length=n)
  (hb:∀ pn xe E,jO (CXk X.prog X.w) (QT X pn xe) E->PSs (QT X pn xe) y (tSt (qgq C own E) own own' fb)) (hs:∀ e,PSs (qel X e) (b0::b) (tSt (exC C) [] own2 fs)) (o:∀ i∈C.io,i∈own:=by exact kq rfl) (hd:(cn == ("__debug__":Str))=false:=by decide) :
  PS X (.Try y [.ExceptHandler (iD (.Name cn np)) (iD en) (b0::b) L] [] [] pos) (tSt C own own' (VQ n (iD j) hit fb fs)):=by
 refine ⟨?_⟩;intro pins s σ H D I ⟨F,ρ,rp,h⟩;have run:=hb (X.pn++pins) (qgr X pins (qfh C own σ F H (fb ρ))) (qfh C own σ F H (fb ρ)) (Qk t) [] s σ H D (Zl I) (Up o rp h);refine wpAny_Try_except (i8 run (λf s1 l=>?_) λe s1 he=>?_)
 ·cases f with
  | next=>obtain ⟨σ',H',A,q⟩:=l;exact Vy pins s1 σ' H' D (ky A) q
  | brk=>obtain ⟨σ',H',A,q⟩:=l; exact ⟨σ',H',ky A,q⟩
  | cont=>obtain ⟨σ',H',A,q⟩:=l; exact ⟨σ',H',ky A,q⟩
  | ret u=>obtain ⟨v,σ',H',A,r,q⟩:=l; exact ⟨v,σ',H',ky A,r,q⟩
 ·obtain ⟨σ1,ex,T,Cc,H1,rfl,I1,c1,c,ρe,F1,hr,O,B,io1,ch1⟩:=he;refine Ko I1.ok.frames I1 k x t c1 λs2 T2 I2 c2=>?_;unfold VQ at h;rw [hr] at h;cases Z:hit c with
  | none=>simp only [Z] at h; exact h.elim
  | some Ch=>
   simp only [Z] at h;obtain ⟨hc1,hc2⟩:=M c Ch Z;rw [hc1] at O;obtain rfl:Cc=Ch:=by injection O
   refine wpAny_handleBy_cons (codeAny_handlers_test (uZ (X:=qel X (.ref ex)) (Uo I2) hg hm ?_ hd)) (by intro q; cases q);obtain ⟨oe,vs,oT,ts,a1,a2,a3,_⟩:=id c2.fly;have LT:PySem.W.Looks (model X.prog X.w) s2.heap (typeOf (.ref ex)) (.ref Cc):=by rw [<-a2]; exact (PySem.W.Looks.ld a1).andThen .now
   refine (PySem.W.exm_one I2.kIn LT hc2) _ _ _ _ (λ_ _ z=>z) ?_;refine codeAny_handlers_suite_as (zE I2 k x t c2 λs3 T3 I3 c3=>?_);have I4:=qfg I3 c3;refine ym I4 hN hj (.inl hx) (v:=.ref ex) rfl (λs5 I5=>?_) (.inr hx);have g:j < n:=by rw [<-hn]; exact (aA.mp hj).1
   have I6:Inv X pins ((ao n iF).set j (iD (.ref ex))) (upd H1 ex (gY ex Cc)) s5:=I5.weak (by simp [I3.len,hn]) λi v e=>by
    by_cases G:i=j;·subst G;rw [aC (by simpa using g)] at e;rw [aC (by rw [I3.len,hn]; exact g)];exact e
    ·rw [aj (be G),aY] at e;split at e <;> cases e
   obtain ⟨R,cc2⟩:=wH (u:=gY ex Cc) B c1.hex;have U:Rep C.K [] (upd F1 ex (gY ex Cc)) (upd H1 ex (gY ex Cc)) ((ao n iF).set j (iD (V.ref ex))) ((ao n iF).set j (iD (.xcp Cc))):=by
    refine ⟨R,by simp,λi d hi e=>?_,λi d hi=>by simp at hi,λi hi=>by simp at hi,λi j a hi=>by simp at hi⟩;by_cases G:i=j;·subst G;rw [aC (by simpa using g)] at e;cases e;exact ⟨.ref ex,by rw [aC (by simpa using g)],.xcp qm⟩
    ·rw [aj (be G),aY] at e;split at e <;> cases e
   have J:tSt (exC C) [] own2 fs { nx:=λ_ _=>False,rt:=D.rt } ((ao n iF).set j (iD (V.ref ex))) (upd H1 ex (gY ex Cc)):=by
    refine ⟨_,_,U,?_⟩;cases Y:fs ((ao n iF).set j (iD (.xcp Cc))) with
    | ok p=>
     obtain ⟨fl,ρ5⟩:=p;rw [Y] at h;cases fl with
     | rt d=>exact λv σ' F3 H3 s3 io c3 e mo=>Kq (own':=own') (D:=D) (ex:=ex) (Cc:=Cc) o h c1.hex B io1 ch1 s3 c3 mo
     | nx=>exact h.elim
     | bk=>exact h.elim
     | ct=>exact h.elim
    | exc _ _=>rw [Y] at h; exact h.elim
    | bad=>rw [Y] at h; exact h.elim
   refine i8 (hs (.ref ex) pins s5 _ _ _ (Uo I6) J) (λf s7 l=>?_) λ_ _ z=>z.elim;cases f with
   | next=>obtain ⟨_,_,_,q⟩:=l; exact q.elim
   | brk=>obtain ⟨_,_,_,q⟩:=l; exact q.elim
   | cont=>obtain ⟨_,_,_,q⟩:=l; exact q.elim
   | ret u=>obtain ⟨v,Q,H7,I7,r7,q7⟩:=l;have P:Inv X pins Q H7 s7:=Zm I.ok I7;obtain ⟨m,hns,_⟩:=id P.loc;refine wpAny_nameGoes hx hns (by rw [I.ok.kind]; rfl) λh' m' hn' S=>?_;exact ⟨v,_,H7,YE P k x hn' S,r7,q7⟩
theorem qaR {cn:Str} {np L pos:Pos} {y b:List Stmt} {b0:Stmt} {cls:iG} {n:Nat} {hit:Str->Option Addr} {own2:List Nat} (m:X.ex=[]) (l:X.stack=X.env::X.outer) (x:X.env.frame=iD X.env.locals)
  (hg:Gl X cn) (hm:X.mg cn=iD cls) (M:∀ c Cc,hit c=iD Cc->C.cv c=.ref Cc/\bP X.K (.ref Cc) cls=iD iI) (hn:X.N.length=n)
  (hb:∀ pn xe E,jO (CXk X.prog X.w) (QT X pn xe) E->PSs (QT X pn xe) y (tSt (qgq C own E) own own' fb)) (hs:∀ e,PSs (qel X e) (b0::b) (tSt (exC C) [] own2 fs)) (k:∀ i∈C.io,i∈own:=by exact kq rfl) (hd:(cn == ("__debug__":Str))=false:=by decide) :
  PS X (.Try y [.ExceptHandler (iD (.Name cn np)) iF (b0::b) L] [] [] pos) (tSt C own own' (VQ n iF hit fb fs)):=by
 refine ⟨?_⟩;intro pins s σ H D I ⟨F,ρ,rp,h⟩;have run:=hb (X.pn++pins) (qgr X pins (qfh C own σ F H (fb ρ))) (qfh C own σ F H (fb ρ)) (Qk m) [] s σ H D (Zl I) (Up k rp h);refine wpAny_Try_except (i8 run (λf s1 g=>?_) λe s1 he=>?_)
 ·cases f with
  | next=>obtain ⟨σ',H',o,q⟩:=g;exact Vy pins s1 σ' H' D (ky o) q
  | brk=>obtain ⟨σ',H',o,q⟩:=g; exact ⟨σ',H',ky o,q⟩
  | cont=>obtain ⟨σ',H',o,q⟩:=g; exact ⟨σ',H',ky o,q⟩
  | ret u=>obtain ⟨v,σ',H',o,r,q⟩:=g; exact ⟨v,σ',H',ky o,r,q⟩
 ·obtain ⟨σ1,ex,T,Cc,H1,rfl,I1,V,c,ρe,F1,hr,O,B,J,R⟩:=he;refine Ko I1.ok.frames I1 l x m V λs2 T2 I2 c2=>?_;unfold VQ at h;rw [hr] at h;cases Z:hit c with
  | none=>simp only [Z] at h; exact h.elim
  | some Ch=>
   simp only [Z] at h;obtain ⟨Q,P⟩:=M c Ch Z;rw [Q] at O;obtain rfl:Cc=Ch:=by injection O
   refine wpAny_handleBy_cons (codeAny_handlers_test (uZ (X:=qel X (.ref ex)) (Uo I2) hg hm ?_ hd)) (by intro q; cases q);obtain ⟨oe,vs,oT,ts,a1,a2,a3,_⟩:=id c2.fly;have LT:PySem.W.Looks (model X.prog X.w) s2.heap (typeOf (.ref ex)) (.ref Cc):=by rw [<-a2]; exact (PySem.W.Looks.ld a1).andThen .now
   refine (PySem.W.exm_one I2.kIn LT P) _ _ _ _ (λ_ _ z=>z) ?_;refine codeAny_handlers_suite (zE I2 l x m c2 λs3 T3 I3 S=>?_);have I4:=qfg I3 S;have I6:Inv X pins (ao n iF) (upd H1 ex (gY ex Cc)) s3:=I4.weak (by simp [I3.len,hn]) λi v e=>by rw [aY] at e;split at e <;> cases e
   obtain ⟨G,cc2⟩:=wH (u:=gY ex Cc) B V.hex;have U:Rep C.K [] (upd F1 ex (gY ex Cc)) (upd H1 ex (gY ex Cc)) (ao n iF) (ao n iF):=by refine ⟨G,by simp,λi d hi e=>?_,λi d hi=>by simp at hi,λi hi=>by simp at hi,λi j a hi=>by simp at hi⟩;rw [aY] at e;split at e <;> cases e
   have t:tSt (exC C) [] own2 fs { nx:=λ_ _=>False,rt:=D.rt } (ao n iF) (upd H1 ex (gY ex Cc)):=by
    refine ⟨_,_,U,?_⟩;cases Y:fs (ao n iF) with
    | ok p=>
     obtain ⟨fl,ρ5⟩:=p;rw [Y] at h;cases fl with
     | rt d=>exact λv σ' F3 H3 s3 io S e mo=>Kq (own':=own') (D:=D) (ex:=ex) (Cc:=Cc) k h V.hex B J R s3 S mo
     | nx=>exact h.elim
     | bk=>exact h.elim
     | ct=>exact h.elim
    | exc _ _=>rw [Y] at h; exact h.elim
    | bad=>rw [Y] at h; exact h.elim
   refine i8 (hs (.ref ex) pins s3 _ _ _ (Uo I6) t) (λf s7 g=>?_) λ_ _ z=>z.elim;cases f with
   | next=>obtain ⟨_,_,_,q⟩:=g; exact q.elim
   | brk=>obtain ⟨_,_,_,q⟩:=g; exact q.elim
   | cont=>obtain ⟨_,_,_,q⟩:=g; exact q.elim
   | ret u=>obtain ⟨v,A,H7,I7,r7,q7⟩:=g;exact ⟨v,A,H7,Zm I.ok I7,r7,q7⟩
end
structure RoomQ (k:Nat) (A:iO):Prop where
 dp:A.depth+3 * k+5 < recursionLimit
 un:A.units+16 * k+200 < cLine
theorem RoomQ.deeper {k:Nat} (r:RoomQ (k+1) A) (env:Env):RoomQ k (A.deeper env):=
 ⟨by have:=r.dp; show A.depth+1+3 * k+5 < _; omega,by have:=r.un; show A.units+3+16 * k+200 < _; omega⟩
theorem RoomQ.depth {k:Nat} (r:RoomQ k A):A.depth < recursionLimit:=by have:=r.dp; omega
theorem RoomQ.units {k:Nat} (r:RoomQ k A):A.units+64 < cLine:=by have:=r.un; omega
theorem _root_.L2.Room.quiet {k:Nat} (r:Room k A):RoomQ k A:=⟨r.dp,r.un⟩
theorem RoomQ.mark {k:Nat} (r:RoomQ k A) (e:Option iG):RoomQ k (A.mark e):=⟨r.dp,r.un⟩
structure FnQ (P:iL) (w:iM) (K:Frag) (mg:Str->Option iG) (base:Heap) (CX:CXT) (k:Nat) (f:Addr) (fd:i6) (ps:List Str) (sp:Sp):Prop where
 len:∀ vs H Q E,sp vs H Q E->vs.length=ps.length
 run:∀ (A:iO) (outer:List Env) (s:iJ) (H:Hp) (args:Args) (us:List iG) (vs:List V) (Q:VK) (E:XK),RoomQ k A->Env0 P w K mg base A outer s H->lJ s fd args (ps.zip us)->Vals vs us->sp vs H Q E ->codeAny (model P w) A (.call (.ref f) args) (CR CX outer P w H s Q E) s
def cxQ (CX:CXT) (P:iL) (w:iM) (K:Frag) (mg:Str->Option iG) (base:Heap) (N:List Str) (qual:Str) (scope:lm) (f:Addr) (cd:iG) (A:iO) (outer:List Env) (s:iJ) (H:Hp) (E:XK):Cx where
 prog:=P
 w:=w
 K:=K
 mg:=mg
 base:=base
 A:=A.deeper (envOfC qual scope s.heap.objs.size f cd)
 N:=N
 s₀:=s
 H₀:=H
 env:=envOfC qual scope s.heap.objs.size f cd
 outer:=outer
 stack:=envOfC qual scope s.heap.objs.size f cd::outer
 ex:=[]
 calm:=iH
 fn:=λ_=>iI
 pn:=[]
 xe:=λe s'=>wpAny (model P w) (A.deeper (envOfC qual scope s.heap.objs.size f cd)) (leaving (envOfC qual scope s.heap.objs.size f cd) e) (λ_ a=>CX outer H s E e a) (λb a=>CX outer H s E b a) s'
theorem YF {CX:CXT} {P:iL} {w:iM} {K:Frag} {mg:Str->Option iG} {base:Heap} {N ps:List Str} {qual:Str} {scope:lm} {f:Addr} {cd:iG} {A:iO} {outer:List Env} {s s1:iJ} {H:Hp} {E:XK} {us:List iG} {vs:List V}
  (S:FnScope N ps scope) (d:Env0 P w K mg base A outer s H) (hl:vs.length=ps.length) (r:Vals vs us)
  (x:InCallC s s.heap.objs.size (bindL (envOfC qual scope s.heap.objs.size f cd).kindOf (ps.zip us) λ_=>iF) (cellsFrom (s.heap.objs.size+1) scope.names []) (bindC (envOfC qual scope s.heap.objs.size f cd).kindOf (ps.zip us) λ_=>iF) s1) :
  Inv (cxQ CX P w K mg base N qual scope f cd A outer s H E) [] (ko N vs) H s1:=by
 have t:ps.length<=N.length:=by have:=congrArg iA S.pre; rw [ff] at this; omega
 obtain ⟨h1,tk,rfl,o⟩:=x.done;have g:∀ b:Addr,b∉(cxQ CX P w K mg base N qual scope f cd A outer s H E).ex:=λb z=>absurd (show b∈([]:List Addr) from z) (by simp);refine ⟨⟨d.mod,S.kind,rfl,rfl,aG _,λy z c h1 h2=>?_,λy j=>?_,λy c _ h=>?_,λz=>absurd z (by show ¬(iH=iI); exact cu),Around.frames_deeper d.frames,.inr ⟨rfl,rfl⟩,λb z=>absurd z (g b),d.bs,d.bsz,λb _ _=>g b,λb z=>absurd z (g b),d.funs,d.frf⟩,rfl,d.bare,Un.kept o,⟨_,x.toInCall.ns,λi y v h1 h2 C=>?_⟩,λy c h=>⟨_,x.cell y c h⟩,d.hok.fresh (aG _),λy c h=>?_,λp hp=>absurd (show p∈([]:List (Addr×Obj)) from hp) (by simp),d.hok.kept o,?_⟩;·exact name_of_addr x.apart (bv h1) (bv h2)
 ·have j:scope.names.lookup y=iD .cell\/scope.names.lookup y=iD .free:=j;rcases j with j | j;·exact xW j
  ·exact absurd rfl (S.nofree _ (bv j))
 ·exact cN (x.above y c (bv h))
 ·have hi:i < vs.length:=by
   unfold ko at h2;by_cases hi:i < vs.length;·exact hi
   ·rw [bn (by simpa using hi)] at h2;rw [aY] at h2;split at h2 <;> cases h2
  have B:vs[i]?=iD v:=by
   unfold ko at h2;rw [bS (by simpa using hi),aJ] at h2;cases e:vs[i]? with
   | none=>rw [e] at h2; cases h2
   | some a=>rw [e] at h2; cases h2; rfl
  obtain ⟨u,m,rv⟩:=r.get B;have hp:ps[i]?=iD y:=by rw [<-S.pre,List.getElem?_take_of_lt (by omega)]; exact h1
  have l:ps.Nodup:=by rw [<-S.pre]; exact S.nd.sublist (List.take_sublist _ _)
  refine ⟨u,rv,?_⟩;rcases S.par y (cf hp) with k | k;·exact .inl ⟨k,zr l hp m k⟩
  ·obtain ⟨c,e⟩:=xW (n:=s.heap.objs.size+1) k;refine .inr ⟨.inl k,c,e,?_⟩;have q:=x.cell y c e;rw [zt l hp m (by show scope.names.lookup y≠_; rw [k]; decide)] at q;exact q
 ·exact d.hok.fresh (cN (x.above y c (bv h)))
 ·unfold ko;show _=N.length;rw [ap,aH,cr];omega
theorem qfi {CX:CXT} {P:iL} {w:iM} {K:Frag} {mg:Str->Option iG} {base:Heap} {k:Nat} {f:Addr} {name qual:Str} {params:Arguments} {a:List Stmt} {scope:lm} {j kV doc pm cdv ct oc:iG} {an od:Option Addr}
  {osl:Array (Option iG)} {N ps:List Str} {sp:Sp} (lk:K.lookup f=iD ⟨oc,od,.func (bX name qual params a scope j kV doc pm an cdv ct),osl⟩) (i:codeIn K cdv qual=iI) (S:FnScope N ps scope)
  (len:∀ vs H Q E,sp vs H Q E->vs.length=ps.length)
  (c:∀ (A:iO) (outer:List Env) (s:iJ) (H:Hp) (vs:List V) (Q:VK) (E:XK),RoomQ k (A.deeper (envOfC qual scope s.heap.objs.size f cdv))->sp vs H Q E ->∃ t,PSs (cxQ CX P w K mg base N qual scope f cdv A outer s H E) a t/\t { nx:=λ_ H'=>Q .non H',rt:=Q } (ko N vs) H) :
  FnQ P w K mg base CX (k+1) f (bX name qual params a scope j kV doc pm an cdv ct) ps sp:=by
 refine ⟨len,λA outer s H args us vs Q E hr g hb r p=>?_⟩;have hl:=len _ _ _ _ p;have X:K.In s.heap:=g.mod.kin.keeps λb o e=>(g.bs b o e).1;have l:s.heap.NoLimit:=g.mod.nolimit.keeps λb o e=>(g.bs b o e).1;have h:∀ y∈ps.zip us,scope.names.lookup y.1=iD .local\/(scope.names.lookup y.1=iD .cell/\((cellsFrom (s.heap.objs.size+1) scope.names []).lookup y.1).isSome=iI):=λ⟨n,v⟩ m=>by
  rcases S.par n (df m).1 with q | q;·exact .inl q
  ·exact .inr ⟨q,ez _ _ _ (.inl q)⟩
 refine codeAny_call_function hr.depth (X _ _ lk) rfl S.co S.gen rfl (PySem.W.codeRec_of X i) (hb _ _ _ _ ?_);refine wpAny_newFunctionEnv_cells S.kind h λenv B s1 x=>?_;subst B;refine ⟨l.keeps x.toInCall.keep,codeAny_func ?_⟩;obtain ⟨t,z,hq⟩:=c A outer s H vs Q E (hr.deeper _) p;have I:Inv (cxQ CX P w K mg base N qual scope f cdv A outer s H E) [] (ko N vs) H s1:=YF S g hl r x;refine i8 (z [] s1 (ko N vs) H _ I hq) (λfl s' d=>?_) λe s' d=>d;have fin:∀ {σ':St} {H':Hp} {v:V} {u:iG},Inv (cxQ CX P w K mg base N qual scope f cdv A outer s H E) [] σ' H' s'->RelV v u->Q v H'->CE outer P w H s Q u s':=
  λ{σ' H' v u} J rv q=>⟨v,H',J.os,J.bare,J.base,J.hok,rv,q⟩
 cases fl with
 | ret u=>obtain ⟨v,σ',H',J,rv,q⟩:=d;exact fin J rv q
 | next=>obtain ⟨σ',H',J,q⟩:=d;exact fin (v:=V.non) (u:=bT) J rfl q
 | brk=>obtain ⟨_,_,_,q⟩:=d;exact bU q
 | cont=>obtain ⟨_,_,_,q⟩:=d;exact bU q
theorem qg3 {P:iL} {w:iM} {K:Frag} {mg:Str->Option iG} {base:Heap} {CX:CXT} {x qual:Str} {st:Stmt} {f:Addr} {fd:i6} {N ps:List Str} {k:Nat} {cv:Str->iG} {ms:List PM} {mr:Mo} {own':List Nat} {fb:Sl->Out (Fl×Sl)} {G:List D->Out (D×List D)}
  (F:Fun K x qual st f fd) (S:FnScope N ps (qd st)) (hl:ms.length=ps.length) (b:∀ i∈Qd 0 ms,i∈own') (hmr:mr=.sh\/∀ ds ρ,(fb (qv N ds))≠.ok (.nx,ρ))
  (c:∀ (cdv:iG) (A:iO) (outer:List Env) (s:iJ) (H:Hp) (E:XK),RoomQ k (A.deeper (envOfC qual (qd st) s.heap.objs.size f cdv)) ->PSs (cxQ CX P w K mg base N qual (qd st) f cdv A outer s H E) (jm st) (tSt (Qe K cv E ms mr) (jy 0 ms) own' fb))
  (a:∀ ds,Out.le (G ds) (vf N ms fb ds)):FnQ P w K mg base CX (k+1) f fd ps (spD K cv ms mr G):=by
 obtain ⟨oc,od,kV,doc,pm,an,cdv,ct,osl,rfl,lk,d⟩:=F.ex;refine qfi lk d S (λvs H Q E h=>?_) λA outer s H vs Q E hr p=>?_;·obtain ⟨F,ds,_,r,_⟩:=h;rw [r.length.1,hl]
 ·obtain ⟨F1,ds,q,r,nd,h⟩:=p;refine ⟨_,c cdv A outer s H E hr,?_⟩;exact VN (C:=Qe K cv E ms mr) rfl rfl (hmr.imp id λz ρ=>z ds ρ) b q r nd (a ds) h
section
variable {fr:Sl->Out (List D×Sl)}
theorem qdo {k:Nat} {f:Addr} {sp:Sp} {E:XK} {pins:List (Addr×Obj)} {σ:St} {H:Hp} {s:iJ} {Q:VK} {us:List iG} {vs:List V} (F:FnQ X.prog X.w X.K X.mg X.base CX k f fd ps sp) (hr:RoomQ k X.A) (hb:Binds X.K fd ps []) (hx:jO CX X E)
  (I:Inv X pins σ H s) (r:Vals vs us) (h:sp (vs++[]) H Q E):wpAny (model X.prog X.w) X.A (call (.ref f) us) (EP X pins σ Q) X.xe s:=by
 have r2:Vals (vs++[]) (us++[]):=r.append .nil;have hl:(us++[]).length=ps.length:=by rw [<-r2.length]; exact F.len _ _ _ _ h
 refine lM (lj (F.run X.A X.stack s H ⟨us,[]⟩ (us++[]) (vs++[]) Q E hr I.env0 (hb s us I.kIn hl) r2 h) λr s' hq=>?_);cases r with
 | error e=>exact hx pins σ H s e s' I hq
 | ok fl=>
  cases fl with
  | ret u=>exact I.after hq
  | next=>exact bU hq
  | brk=>exact bU hq
  | cont=>exact bU hq
theorem qaS {k:Nat} {f:Addr} {p pos:Pos} (F:FnQ X.prog X.w X.K X.mg X.base CX k f fd ps (spD C.K C.cv ms mr G)) (hr:RoomQ k X.A) (hg:Gl X x) (m:X.mg x=iD (.ref f)) (g:keepIn X.K (.ref f)=iI) (hb:Binds X.K fd ps []) (hx:jO CX X C.E)
  (t:PA X (e::es) (tAr C own as fr)) (a:ms=as.map wn:=by rfl) (c:∀ i∈ji as,i∈own:=by decide) (nd:(ji as).Nodup:=by decide) (j:frA as<=1:=by decide) (o:∀ i∈C.ox,i∈own:=by exact kq rfl) (b:(x == ("__debug__":Str))=false:=by decide) (n:starEach (e::es) X.env=(iH,eval e X.env)::starEach es X.env:=by exact ja rfl)
  (l:(backTo pos (starEach es X.env)).any (·.1)=false:=by exact vh rfl):PE X (.Call (.Name x p) (e::es) [] pos) (tE C own mr (qC as G fr)):=by
 subst a;refine ⟨?_⟩;intro pins s σ H Q I h;refine lh (uZ I hg m ?_ b);refine d8 (h₀:=X.base) I.ok.mod.kin g (thn (t pos pins s σ H _ I (Ze o c nd j h)) λus s1 ⟨vs,H1,d,r,q⟩=>⟨d.kIn,?_⟩) n l;exact qdo F hr hb hx d r q
end
def DefOk (P:iL) (w:iM) (K:Frag) (mg:Str->Option iG) (base:Heap) (cv:Str->iG) (k:Nat) (x:Str) (ps:List Str) (ms:List PM) (mr:Mo) (G:List D->Out (D×List D)):Prop:=
 ∃ f fd,FnOk P w K mg base (CXk P w) k f fd ps (spD K cv ms mr G)/\mg x=iD (.ref f)/\keepIn K (.ref f)=iI/\Binds K fd ps []
def qg4 (P:iL) (w:iM) (K:Frag) (mg:Str->Option iG) (base:Heap) (cv:Str->iG) (k:Nat) (x:Str) (ps:List Str) (ms:List PM) (mr:Mo) (G:List D->Out (D×List D)):Prop:=
 ∃ f fd,FnQ P w K mg base (CXk P w) k f fd ps (spD K cv ms mr G)/\mg x=iD (.ref f)/\keepIn K (.ref f)=iI/\Binds K fd ps []
def jF (K:Frag) (mg:Str->Option iG) (x:Str) (st:Stmt) (ps:List Str):Prop:=∃ f fd,Fun K x x st f fd/\mg x=iD (.ref f)/\Binds K fd ps []
theorem jc {P:iL} {w:iM} {base:Heap} {cv:Str->iG} {k:Nat} {ms:List PM} {mr:Mo} {own':List Nat} {fb:Sl->Out (Fl×Sl)} (T:jF K mg x st ps) (S:FnScope N ps (qd st))
  (c:∀ (cdv:iG) (f:Addr) (A:iO) (outer:List Env) (s:iJ) (H:Hp) (E:XK),Room k (A.deeper (envOfC x (qd st) s.heap.objs.size f cdv)) ->PSs (cxk P w K mg base N x (qd st) f cdv A outer s H E) (jm st) (tSt (Qe K cv E ms mr) (jy 0 ms) own' fb))
  (hl:ms.length=ps.length:=by rfl) (b:∀ i∈Qd 0 ms,i∈own':=by exact kq rfl) (hmr:mr=.sh\/∀ ds ρ,(fb (qv N ds))≠.ok (.nx,ρ):=by exact .inl rfl):DefOk P w K mg base cv (k+1) x ps ms mr (vf N ms fb):=by
 obtain ⟨f,fd,F,h,hb⟩:=T;exact ⟨f,fd,qhG F S hl b hmr (λcdv A outer s H E hr=>c cdv f A outer s H E hr) λ_=>.inr rfl,h,F.kp,hb⟩
theorem qg5 {P:iL} {w:iM} {base:Heap} {cv:Str->iG} {k:Nat} {ms:List PM} {mr:Mo} {own':List Nat} {fb:Sl->Out (Fl×Sl)} (T:jF K mg x st ps) (S:FnScope N ps (qd st))
  (c:∀ (cdv:iG) (f:Addr) (A:iO) (outer:List Env) (s:iJ) (H:Hp) (E:XK),RoomQ k (A.deeper (envOfC x (qd st) s.heap.objs.size f cdv)) ->PSs (cxQ (CXk P w) P w K mg base N x (qd st) f cdv A outer s H E) (jm st) (tSt (Qe K cv E ms mr) (jy 0 ms) own' fb))
  (hl:ms.length=ps.length:=by rfl) (b:∀ i∈Qd 0 ms,i∈own':=by exact kq rfl) (hmr:mr=.sh\/∀ ds ρ,(fb (qv N ds))≠.ok (.nx,ρ):=by exact .inl rfl):qg4 P w K mg base cv (k+1) x ps ms mr (vf N ms fb):=by
 obtain ⟨f,fd,F,h,hb⟩:=T;exact ⟨f,fd,qg3 F S hl b hmr (λcdv A outer s H E hr=>c cdv f A outer s H E hr) λ_=>.inr rfl,h,F.kp,hb⟩
variable {cv:Str->iG}
theorem DefOk.by {k:Nat} {a:List D->Out (D×List D)} (h:DefOk P w K mg base cv k x ps ms mr G) (e:∀ ds,Out.le (a ds) (G ds)):DefOk P w K mg base cv k x ps ms mr a:=by
 obtain ⟨f,fd,F,r⟩:=h;refine ⟨f,fd,F.imp λvs H Q E ⟨F1,ds,q,b,nd,po⟩=>⟨F1,ds,q,b,nd,?_⟩,r⟩;rcases e ds with z | z;·rw [z] at po; exact po.elim
 ·rw [<-z]; exact po
section
variable {fr:Sl->Out (List D×Sl)} {p:Pos} {k j:Nat}
theorem qr (F:DefOk X.prog X.w X.K X.mg X.base cv j x ps ms mr G) (hr:Room k X.A) (d:j<=k) (hx:jO (CXk X.prog X.w) X C.E) (hg:Gl X x) (q:PA X (e::es) (tAr C own as fr)) (v:C.cv=cv:=by rfl) (h:C.K=X.K:=by rfl) (s:ms=as.map wn:=by rfl) (c:∀ i∈ji as,i∈own:=by decide) (nd:(ji as).Nodup:=by decide) (g:frA as<=1:=by decide) (o:∀ i∈C.ox,i∈own:=by exact kq rfl)
  (b:(x == ("__debug__":Str))=false:=by decide) (n:starEach (e::es) X.env=(iH,eval e X.env)::starEach es X.env:=by exact ja rfl) (l:(backTo pos (starEach es X.env)).any (·.1)=false:=by exact vh rfl):PE X (.Call (.Name x p) (e::es) [] pos) (tE C own mr (qC as G fr)):=by
 subst v;obtain ⟨f,fd,F,m,a,hb⟩:=F;rw [<-h] at F;exact qdf (by rw [<-h]; exact F) (hr.mono d) hg m a hb hx q s c nd g o b n l
theorem Zn (F:qg4 X.prog X.w X.K X.mg X.base cv j x ps ms mr G) (hr:RoomQ j X.A) (hx:jO (CXk X.prog X.w) X C.E) (hg:Gl X x) (d:PA X (e::es) (tAr C own as fr)) (v:C.cv=cv:=by rfl) (h:C.K=X.K:=by rfl) (s:ms=as.map wn:=by rfl) (c:∀ i∈ji as,i∈own:=by decide) (nd:(ji as).Nodup:=by decide) (a:frA as<=1:=by decide) (o:∀ i∈C.ox,i∈own:=by exact kq rfl)
  (b:(x == ("__debug__":Str))=false:=by decide) (g:starEach (e::es) X.env=(iH,eval e X.env)::starEach es X.env:=by exact ja rfl) (l:(backTo pos (starEach es X.env)).any (·.1)=false:=by exact vh rfl):PE X (.Call (.Name x p) (e::es) [] pos) (tE C own mr (qC as G fr)):=by
 subst v;obtain ⟨f,fd,F,m,k,hb⟩:=F;rw [<-h] at F;exact qaS (by rw [<-h]; exact F) hr hg m k hb hx d s c nd a o b g l
noncomputable def YG:D->Out D
 | .int i=>.ok (.int (-i))
 | _=>.bad
theorem Ql:UnD X C .sh (unaryOp .USub) YG:=by
 intro pins s σ H x v Q I d h;obtain ⟨F,dx,q,t,po⟩:=h;cases dx <;> try exact po.elim
 obtain rfl:=t.int;exact qeM pins s σ H _ v Q I d ⟨_,rfl,po _ F H q .refl (.int _)⟩
end
noncomputable def zF:Option (Option D)->Bool
 | some (iD (.lst _))=>iI
 | _=>iH
noncomputable def Uq (i:Nat) (g:List D->D->Out (List D)) (fe:Sl->Out (D×Sl)):Sl->Out (D×Sl):=λρ=>if zF ρ[i]?=iI then (fe ρ).bind λp=>match p.2[i]? with
 | some (iD (.lst xs))=>match g xs p.1 with
  | .ok ys=>.ok (.non,p.2.set i (iD (.lst ys)))
  | _=>.bad
 | _=>.bad
 else .bad
noncomputable def Zo (xs:List D) (d:D):Out (List D):=if xs.length < sizeLine then .ok (xs++[d]) else .bad
noncomputable def qcg (xs:List D):D->Out (List D)
 | .lst ys=>if xs.length+ys.length<=sizeLine then .ok (xs++ys) else .bad
 | .tup ys=>if xs.length+ys.length<=sizeLine then .ok (xs++ys) else .bad
 | _=>.bad
section
theorem Rep.write (r:Rep K own F H σ ρ) (hi:i∈own) (f:σ[i]?=iD (iD (V.ref a))) (ow:OwnIs K F (upd H a u) a d):Rep K own F (upd H a u) σ (ρ.set i (iD d))/\Chg (OA own σ) F H F (upd H a u):=by
 obtain ⟨A,h⟩:=r.opn i hi;obtain ⟨k,e1,C,g⟩:=r.ow i A hi h;rw [f] at e1; cases e1;have hl:i < ρ.length:=(aA.mp h).1;refine ⟨⟨λb o e=>by rw [qt (qD e C)]; exact r.sub b o e,by simp [r.len],λj d' G e=>?_,λj d' G e=>?_,λj G=>?_,r.dis⟩,⟨λb o e n=>?_,λb e=>?_,Same.refl _,λb e=>.inl e⟩⟩;·rw [aj (λz=>G (by rw [<-z]; exact hi))] at e;exact r.val j d' G e
 ·by_cases q:j=i;·subst q;rw [aC hl] at e;cases e;exact ⟨a,f,C,ow⟩
  ·rw [aj (be q)] at e;obtain ⟨b,h1,h2,c⟩:=r.ow j d' G e;have y:b≠a:=λz=>by subst z; exact q (r.dis j i b G hi h1 f)
   exact ⟨b,h1,h2,c.grow (Same.refl _) λo z=>by rw [qt y]; exact z⟩
 ·by_cases q:j=i;·subst q; exact ⟨d,aC hl⟩
  ·rw [aj (be q)]; exact r.opn j G
 ·have y:b≠a:=λz=>n (by rw [z]; exact ⟨i,hi,f⟩);rw [qt y]; exact e
 ·by_cases q:b=a;·rw [q,qm]; simp
  ·rw [qt q]; exact e
theorem Ur {o:Option (Option D)} (h:zF o=iI):∃ xs,o=iD (iD (.lst xs)):=by
 unfold zF at h;split at h;·exact ⟨_,rfl⟩
 ·cases h
theorem qaT {g:List D->D->Out (List D)} {R:V->V->Hp->VK->Prop} {σ:St} {H:Hp} {Q:VK} (j:i∈own) (w:m≠.any)
  (k:∀ (a:Addr) (xs:List V) (ds ys:List D) (v:V) (d:D) (F H:Hp),Same F H->H a=iD (.lst xs)->F a=iF->IsL C.K F xs ds->Is C.K F v d->g ds d=.ok ys->(∀ zs,IsL C.K F zs ys->Q .non (upd H a (.lst zs)))->R (.ref a) v H Q)
  (h:tE C own .sh (Uq i g fe) σ H Q):∃ a xs,σ[i]?=iD (iD (V.ref a))/\H a=iD (.lst xs)/\tE C own .sh fe σ H λv H1=>R (.ref a) v H1 Q:=by
 obtain ⟨F,ρ,p,h⟩:=h;unfold Uq at h;by_cases q:zF ρ[i]?=iI
 ·rw [if_pos q] at h;obtain ⟨ds,hd⟩:=Ur q;obtain ⟨a,h1,h2,xs,l,x⟩:=p.ow i _ j hd;refine ⟨a,xs,h1,l,F,ρ,p,Po.bind h λv F1 H1 d ρ1 r y f po=>?_⟩;cases e:ρ1[i]? with
  | none=>simp only [e] at po; exact po.elim
  | some o=>
   cases o with
   | none=>simp only [e] at po; exact po.elim
   | some dd=>
    simp only [e] at po;cases dd with
    | lst es=>
     simp only at po;cases b:g es d with
     | ok ys=>simp only [b] at po;obtain ⟨A,e1,t,vs,s,n⟩:=r.ow i _ j e;rw [h1] at e1; cases e1;refine k a vs es ys v d F1 H1 r.sub s t n f b λzs z=>?_;obtain ⟨r2,c2⟩:=r.write (u:=.lst zs) (d:=.lst ys) j h1 ⟨zs,qm,z⟩;exact po .non F1 _ r2 c2 .non
     | exc c o=>simp only [b] at po; exact po.elim
     | bad=>simp only [b] at po; exact po.elim
    | _=>exact po.elim
 ·rw [if_neg q] at h; exact h.elim
theorem zG {px apos cpos:Pos} (y:C.K=X.K) (r:X.N[i]?=iD x) (n:Vis X.env.scope x) (o:i∈own) (p:PE X e (tE C own m fe)) (j:m≠.any:=by decide)
  (hd:(x == ("__debug__":Str))=false:=by decide) (f:(x == ("__classdict__":Str))=false:=by decide)
  (c:attributeBase (.Name x px) "append" X.env (eval (.Name x px) X.env)=eval (.Name x px) X.env:=by rfl)
  (w:((backTo cpos (starEach [e] X.env)).all (λx=>!x.1)&&(backToKw cpos (keywordEach [] X.env)).all (λx=>x.1.isSome)
   && decide ([e].length+([]:List i5).length+(if ([]:List i5).isEmpty then 0 else 1) < 30))=true:=by exact vP rfl)
  (b:(apos.endLine == cpos.line)=true:=by rfl) (s:starEach [e] X.env=[(iH,eval e X.env)]:=by exact qO rfl) :
  PE X (.Call (.Attribute (.Name x px) "append" apos) [e] [] cpos) (tE C own .sh (Uq i Zo fe)):=by
 refine jh (VE bO PySem.F.slot_list_append PySem.F.type_list_append zv (uQ r n hd f) (qT (vi p j) jU s) c w b s rfl) λσ H Q h=>?_;have q:∀ (a:Addr) (xs:List V) (ds ys:List D) (v:V) (d:D) (F H:Hp),Same F H->H a=iD (.lst xs)->F a=iF->IsL C.K F xs ds->Is C.K F v d->Zo ds d=.ok ys->(∀ zs,IsL C.K F zs ys->Q .non (upd H a (.lst zs)))->VF (.ref a) [v] H Q:=λa xs ds ys v d F H u t z ix l g k=>by
  unfold Zo at g;split at g;·cases g;exact ⟨a,xs,v,rfl,rfl,t,by rw [ix.length]; assumption,k _ (ix.append (.cons l .nil))⟩
  ·cases g
 obtain ⟨a,xs,h1,h2,k⟩:=qaT (R:=λx v H Q=>VF x [v] H Q) o j q h;exact ⟨.ref a,h1,.inl ⟨rfl,xs,.inl (.inl h2)⟩,k⟩
theorem zH {px apos cpos:Pos} (I:X.N[i]?=iD x) (A:Vis X.env.scope x) (j:i∈own) (B:PE X e (tE C own .fr fe))
  (hd:(x == ("__debug__":Str))=false:=by decide) (k:(x == ("__classdict__":Str))=false:=by decide)
  (f:attributeBase (.Name x px) "extend" X.env (eval (.Name x px) X.env)=eval (.Name x px) X.env:=by rfl)
  (w:((backTo cpos (starEach [e] X.env)).all (λx=>!x.1)&&(backToKw cpos (keywordEach [] X.env)).all (λx=>x.1.isSome)
   && decide ([e].length+([]:List i5).length+(if ([]:List i5).isEmpty then 0 else 1) < 30))=true:=by exact vP rfl)
  (c:(apos.endLine == cpos.line)=true:=by rfl) (s:starEach [e] X.env=[(iH,eval e X.env)]:=by exact qO rfl) :
  PE X (.Call (.Attribute (.Name x px) "extend" apos) [e] [] cpos) (tE C own .sh (Uq i qcg fe)):=by
 refine jh (VE bO PySem.F.slot_list_extend PySem.F.type_list_extend XG (uQ I A hd k) (qT B jU s) f w c s rfl) λσ H Q ⟨F,ρ,p,h⟩=>?_;unfold Uq at h;by_cases q:zF ρ[i]?=iI
 ·rw [if_pos q] at h;obtain ⟨ds,hd⟩:=Ur q;obtain ⟨a,h1,h2,xs,J,L⟩:=p.ow i _ j hd;refine ⟨.ref a,h1,.inl ⟨rfl,xs,.inl (.inl J)⟩,F,ρ,p,Po.bind h λv F1 H1 d ρ1 r O m po=>?_⟩;obtain ⟨b,rfl,G,E,l⟩:=m;cases g:ρ1[i]? with
  | none=>simp only [g] at po; exact po.elim
  | some o=>
   cases o with
   | none=>simp only [g] at po; exact po.elim
   | some dd=>
    simp only [g] at po;cases dd with
    | lst es=>
     simp only at po;obtain ⟨P,e1,M,vs,K,t⟩:=r.ow i _ j g;rw [h1] at e1; cases e1;cases d with
     | lst ys=>
      obtain ⟨zs,y,n⟩:=l;have po:Po C own .sh σ F1 H1 (match (if es.length+ys.length<=sizeLine then .ok (es++ys) else .bad:Out (List D)) with | .ok ys=>.ok (.non,ρ1.set i (iD (.lst ys))) | _=>.bad) Q:=po;by_cases z:es.length+ys.length<=sizeLine;·rw [if_pos z] at po;refine ⟨a,b,vs,zs,rfl,rfl,K,y,by rw [t.length,n.length]; exact z,?_⟩;obtain ⟨r2,c2⟩:=r.write (u:=.lst (vs++zs)) (d:=.lst (es++ys)) j h1 ⟨_,qm,t.append n⟩;exact po .non F1 _ r2 c2 .non
      ·rw [if_neg z] at po; exact po.elim
     | dct ys=>exact po.elim
     | ins _ _=>exact po.elim
     | at_ _ _=>exact po.elim
     | _=>exact l.elim
    | _=>exact po.elim
 ·rw [if_neg q] at h; exact h.elim
end
noncomputable def scB (names:List (Str×i9)) (scope:lm):Bool:=decide (scope.kind=.function)&&scope.names.all λy=>(!decide (y.2=.cell)||decide (scope.names.lookup y.1=iD .cell))&&(!decide (y.2=.local)||decide (scope.names.lookup y.1=iD .local)) &&
 (!decide (y.2=.free)||((decide (names.lookup y.1=iD .cell)||decide (names.lookup y.1=iD .free))&&decide (scope.names.lookup y.1=iD .free)))
theorem wK (h:X.env.scope.names=names) (b:scB names scope=iI):ScOk X scope:=by
 subst h;unfold scB at b;rw [aZ,bh] at b;obtain ⟨a,b1⟩:=b;refine ⟨of_decide_eq_true a,λy k e=>?_,λy k e=>?_,λy k e=>?_,λy k e=>?_⟩;all_goals
  have q:=b1 y k;simp only [aZ,Bool.or_eq_true,Bool.not_eq_true',decide_eq_true_eq,decide_eq_false_iff_not] at q
 ·exact q.1.1.resolve_left λz=>z e
 ·exact q.1.2.resolve_left λz=>z e
 ·exact (q.2.resolve_left λz=>z e).1
 ·exact (q.2.resolve_left λz=>z e).2
noncomputable def qhH (names:List (Str×i9)) (N:List Str) (scope:lm) (c:List Str) (nt:Nat) (cap:List Nat):Bool:=decide cap.Nodup&&decide (c.length=nt+cap.length)&&(bE cap.length).all λj=>match cap[j]? with
 | some k=>match c[nt+j]? with
  | some x=>decide (N[k]?=iD x)&&(((decide (names.lookup x=iD .local)||decide (names.lookup x=iD .cell)||decide (names.lookup x=iD .free))&&decide ((x,bK)∈scope.names))||scope.names.all λy=>decide (y.1≠x))
  | none=>iH
 | none=>iH
theorem kz {c:List Str} (a:X.env.scope.names=names) (d:X.N=N) (b:qhH names N scope c nt cap=iI):CapOk X scope c nt cap:=by
 subst a d;unfold qhH at b;rw [aZ,aZ,bh] at b;obtain ⟨⟨f,b1⟩,b2⟩:=b;refine ⟨of_decide_eq_true f,of_decide_eq_true b1,λj k G=>?_⟩;have q:=b2 j (cY.mpr (aA.mp G).1);rw [G] at q;cases e:c[nt+j]? with
 | none=>simp only [e] at q; cases q
 | some x=>
  simp only [e,aZ,Bool.or_eq_true,decide_eq_true_eq] at q;refine ⟨x,rfl,q.1,?_⟩;rcases q.2 with ⟨z,q2⟩ | z
  ·refine .inl ⟨?_,q2⟩;rcases z with (z | z) | z;·exact .inl z
   ·exact .inr (.inl z)
   ·exact .inr (.inr z)
  ·refine .inr λk' h=>?_;rw [bh] at z;exact of_decide_eq_true (z (x,k') h) rfl
theorem yW:jO (CXk P w) X (λ_ _ _=>False):=λ_ _ _ _ _ _ _ h=>by obtain ⟨_,_,_,_,_,_,_,_,_,_,_,_,_,_,j⟩:=h;exact j.elim
noncomputable def qg6 (f:Sl->Out (D×Sl)):Sl->Out (D×Sl):=λρ=>(qP f ρ).bind λp=>.ok (.bl (!p.1),p.2)
section
variable {i:Int}
theorem yz (h:∃ t,X.mg x=iD (.int i t)) (hg:Gl X x) (hd:(x == ("__debug__":Str))=false:=by decide):PE X (.Name x pos) (tE C own .sh (dC (.int i))):=by obtain ⟨t,h⟩:=h;exact qc5 (v:=.int i) hg h ⟨t,rfl⟩ (λ_=>.int i) hd
end
section
variable {a b:Expr}
noncomputable def wY:D->Out D
 | .lst xs=>.ok (.tup xs)
 | .tup xs=>.ok (.tup xs)
 | _=>.bad
noncomputable def YH:D->Out D
 | .lst xs=>.ok (.lst xs)
 | .tup xs=>.ok (.lst xs)
 | _=>.bad
theorem yA (c:C.K=X.K):Kh X C .sh (.type "tuple") wY:=by
 intro pins s σ H xs us Q I r h;obtain ⟨x,F,dx,rfl,q,a,po⟩:=h;cases dx with
 | lst ds=>obtain ⟨p,vs,rfl,hq,t⟩:=a.lst q;refine yn pins s σ H _ us Q I r ⟨p,vs,rfl,.inl ⟨by rw [<-c]; exact hq,λl hl=>?_⟩⟩;obtain ⟨s2,c2⟩:=wH (u:=.tup vs) q hl;exact po _ _ _ s2 c2 (.tup (.inl (.inl qm)) (t.mono c2.grow))
 | tup ds=>
  rcases a with a | ⟨_,_,a⟩
  ·have b:=a;cases a with
   | tup hq t=>exact yn pins s σ H _ us Q I r ⟨_,_,rfl,.inr ⟨by rw [<-c]; exact je q hq,po _ F H q .refl b⟩⟩
  ·exact a.elim
 | _=>exact po.elim
theorem Zp (c:C.K=X.K):Kh X C .fr (.type "list") YH:=by
 intro pins s σ H xs us Q I r h;obtain ⟨x,F,dx,rfl,q,b,po⟩:=h;cases dx with
 | lst ds=>obtain ⟨p,vs,rfl,hq,t⟩:=b.lst q;refine xx pins s σ H _ us Q I r ⟨p,vs,rfl,.inl (by rw [<-c]; exact hq),λl hl=>?_⟩;obtain ⟨s2,c2,a⟩:=yc (u:=.lst vs) q hl;exact po _ _ _ s2 c2 ⟨l,rfl,hl,a,vs,qm,t⟩
 | tup ds=>obtain ⟨p,vs,rfl,hq,t⟩:=b.tup q;refine xx pins s σ H _ us Q I r ⟨p,vs,rfl,.inr (by rw [<-c]; exact hq),λl hl=>?_⟩;obtain ⟨s2,c2,a⟩:=yc (u:=.lst vs) q hl;exact po _ _ _ s2 c2 ⟨l,rfl,hl,a,vs,qm,t⟩
 | _=>exact po.elim
def Zq (X:Cx) (C:Ct) (m:Mo) (f:iG) (g:D->D->Out D):Prop:=ya X f (λxs H Q=>∃ x y F dx d,xs=[x,y]/\Same F H/\TopIs C.K F H x dx/\TopIs C.K F H y d/\PoV C m F H (g dx d) Q)
theorem qaU {Q:VK} {g:D->D->Out D} (l:ma≠.any) (h:tE C own m (d2 g fa fb) σ H Q):Yv (tE C own ma fa) (Yv (tE C own mb fb) qeQ) σ H λxs H1=>∃ x y F dx a,xs=[x,y]/\Same F H1/\TopIs C.K F H1 x dx/\TopIs C.K F H1 y a/\PoV C m F H1 (g dx a) Q:=by
 obtain ⟨F,ρ,o,h⟩:=JV (mb:=mb) l h;refine ⟨F,ρ,o,?_⟩;cases q:fa ρ with
 | ok p=>
  rw [q] at h;obtain ⟨d,ρ1⟩:=p;intro v F1 H1 e s k;obtain ⟨u,j,b,h2⟩:=h v F1 H1 e s k;refine ⟨u,j,b,?_⟩;cases f:fb j with
  | ok p=>rw [f] at h2;obtain ⟨d',n⟩:=p;intro w F3 t r J i;obtain ⟨M,dx,a,z⟩:=h2 w F3 t r J i;exact ⟨v,w,M,dx,a,rfl,z⟩
  | exc c=>rw [f] at h2; exact h2
  | bad=>rw [f] at h2; exact h2.elim
 | exc c=>rw [q] at h; exact h
 | bad=>rw [q] at h; exact h.elim
theorem Kr {id:String} {p:Pos} {g:D->D->Out D} (e:Zq X C m (.builtin id) g) (hg:Gl X x) (d:X.mg x=iF) (v:bootBuiltins x=iD (.builtin id)) (i:PE X a (tE C own ma fa)) (hb:PE X b (tE C own mb fb)) (f:ma≠.any:=by decide) (n:x ≠ "__name__":=by decide) (c:(x == ("__debug__":Str))=false:=by decide)
  (h1:starEach [a,b] X.env=(iH,eval a X.env)::starEach [b] X.env:=by rfl) (h2:starEach [b] X.env=[(iH,eval b X.env)]:=by exact qO rfl):PE X (.Call (.Name x p) [a,b] [] pos) (tE C own m (d2 g fa fb)):=
 jh (wE e hg d v (qT i (qT hb jU h2) h1) n c (by rw [h1]) (by rw [h2]; rfl)) λ_ _ _ h=>qaU f h
noncomputable def qgs:D->D->Out D:=Qa λi j=>.ok (.int (if j > i then j else i))
noncomputable def qgt:D->D->Out D:=Qa λi j=>.ok (.int (if j < i then j else i))
theorem qfj (d:X.calm=iI):Zq X C .sh (.builtin "max") qgs:=by
 intro pins s σ H xs us Q I r h;obtain ⟨x,y,F,dx,a,rfl,q,t,ty,po⟩:=h;cases dx <;> try exact po.elim
 cases a <;> try exact po.elim
 obtain rfl:=t.int;obtain rfl:=ty.int;exact Xw d pins s σ H _ us Q I r ⟨_,_,rfl,po _ F H q .refl (.int _)⟩
theorem qfk (d:X.calm=iI):Zq X C .sh (.builtin "min") qgt:=by
 intro pins s σ H xs us Q I r h;obtain ⟨x,y,F,dx,a,rfl,q,t,ty,po⟩:=h;cases dx <;> try exact po.elim
 cases a <;> try exact po.elim
 obtain rfl:=t.int;obtain rfl:=ty.int;exact Xx d pins s σ H _ us Q I r ⟨_,_,rfl,po _ F H q .refl (.int _)⟩
noncomputable def kK (a T:String):Option Bool:=if (fE a == fE T)=iI then iD iI else if PySem.W.kitMeta T=iI then (fastBuiltinMro a).map (·.contains (.type T)) else iF
theorem qaV (K:Frag) (a T:String):cj K (.type a) (.type T)=kK a T:=rfl
noncomputable def tyN:D->Option String
 | .non=>iD "NoneType"
 | .bl _=>iD "bool"
 | .int _=>iD "int"
 | .str _=>iD "str"
 | .tup _=>iD "tuple"
 | .lst _=>iD "list"
 | .dct _=>iD "dict"
 | _=>iF
noncomputable def yB (T:String) (d:D):Out D:=match tyN d with
 | some a=>match kK a T with
  | some b=>.ok (.bl b)
  | none=>.bad
 | none=>.bad
theorem qaW (l:C.K=X.K):ya X (.builtin "isinstance") (λxs H Q=>∃ x F d,xs=[x,.ty T]/\Same F H/\TopIs C.K F H x d/\PoV C .sh F H (yB T d) Q):=by
 intro pins s σ H xs us Q I r h;obtain ⟨x,F,d,rfl,i,f,po⟩:=h;obtain ⟨u,c,rfl,g,k⟩:=Xv r;cases k;cases q:tyN d with
 | none=>unfold yB at po; rw [q] at po; exact po.elim
 | some a=>
  cases j:kK a T with
  | none=>unfold yB at po; rw [q] at po; simp only [j] at po; exact po.elim
  | some b=>
   have po:PoV C .sh F H (.ok (.bl b)) Q:=by unfold yB at po; rw [q] at po; simp only [j] at po; exact po
   have fin:∀ tk,EP X pins σ Q (.bool b) { s with toks:=tk }:=λtk=>⟨.bl b,H,I.tok tk,rfl,po _ F H i .refl (.bl b)⟩
   have e:cj X.K (.type a) (.type T)=iD b:=(qaV X.K a T).trans j;cases d with
   | non=>obtain rfl:=f.non; cases g; cases q; exact cK PySem.W.kitx_none I.kIn d7 e (λz=>nomatch z) fin
   | bl y=>obtain rfl:=f.bl; cases g; cases q; exact cK PySem.W.kitx_bool I.kIn d7 e (λz=>nomatch z) fin
   | int y=>obtain rfl:=f.int; obtain ⟨t,rfl⟩:=g; cases q; exact cK PySem.W.kitx_int I.kIn d7 e (λz=>nomatch z) fin
   | str y=>obtain ⟨rfl,_⟩:=f.str; obtain ⟨t,rfl⟩:=g; cases q; exact cK PySem.W.kitx_str I.kIn d7 e (λz=>nomatch z) fin
   | tup y=>obtain ⟨p,vs,rfl,hq,t⟩:=f.tup i;cases g; cases q;obtain ⟨its,_,⟨o,h1,h2,_⟩,_⟩:=I.tuple (show SqT X.K H p vs by rw [<-l]; exact hq);exact cK PySem.W.kitx_tuple I.kIn ⟨o,h1,h2⟩ e (λz=>nomatch z) fin
   | lst y=>obtain ⟨p,vs,rfl,hq,t⟩:=f.lst i;cases g; cases q;obtain ⟨its,_,⟨o,n,h1,h2,_⟩,_⟩:=I.list (show SqL X.K H p vs by rw [<-l]; exact hq);exact cK PySem.W.kitx_list I.kIn ⟨o,h1,h2⟩ e (λz=>nomatch z) fin
   | dct y=>
    obtain ⟨p,vs,rfl,hq,t⟩:=f.dct i;cases g; cases q;obtain ⟨_,_,ws,_,o,es,ep,h1,h2,_⟩:=(show ObjOk X.prog X.w H s.heap p (.dK vs) from I.hok p _ hq)
    exact cK PySem.W.kitx_dict I.kIn ⟨o,h1,h2.1⟩ e (λz=>nomatch z) fin
   | _=>cases q
theorem yC {tn:Str} {p t:Pos} (o:C.K=X.K) (hg:Gl X "isinstance") (j:X.mg "isinstance"=iF) (i:bootBuiltins "isinstance"=iD (.builtin "isinstance")) (l:Gl X tn) (e:X.mg tn=iF) (b:bootBuiltins tn=iD (.type T)) (k:PE X a (tE C own ma fa)) (n:tn ≠ "__name__":=by decide) (f:(tn == ("__debug__":Str))=false:=by decide)
  (h1:starEach [a,.Name tn t] X.env=(iH,eval a X.env)::starEach [.Name tn t] X.env:=by rfl) (h2:starEach [.Name tn t] X.env=[(iH,eval (.Name tn t) X.env)]:=by rfl):PE X (.Call (.Name "isinstance" p) [a,.Name tn t] [] pos) (tE C own .sh (d1 (yB T) fa)):=by
 refine jh (wE (qaW (T:=T) o) hg j i (qT k (qT (Xm (v:=.ty T) l e b rfl n f) jU h2) h1) (by decide) (by decide) (by rw [h1]) (by rw [h2]; rfl)) λσ H Q h=>?_;obtain ⟨F,ρ,g,h⟩:=JW (ma:=ma) h;refine ⟨F,ρ,g,?_⟩;cases q:fa ρ with
 | ok p=>rw [q] at h;obtain ⟨d,ρ1⟩:=p;intro v F1 H1 r s m;obtain ⟨u,dx,z⟩:=h v F1 H1 r s m;exact ⟨v,u,dx,rfl,z⟩
 | exc c=>rw [q] at h; exact h
 | bad=>rw [q] at h; exact h.elim
noncomputable def vR:List D->Option (List Bool)
 | []=>iD []
 | .bl b::ds=>(vR ds).map (b::·)
 | _::_=>iF
noncomputable def qai:D->Out D
 | .lst ds=>match vR ds with
  | some bs=>.ok (.bl (bs.all id))
  | none=>.bad
 | _=>.bad
theorem ze:∀ {vs:List V} {us:List iG} {ds:List D} {bs:List Bool},IsL K F vs ds->Vals vs us->vR ds=iD bs->us=bs.map bg
 | _,_,_,_,.nil,.nil,e=>by cases e; rfl
 | _,_,_,_,.cons (d:=d) h t,.cons r rs,e=>by
  cases d with
  | bl b=>unfold vR at e;obtain ⟨a,e1,i⟩:=bQ.mp e;subst i;cases h;cases r;rw [ze t rs e1]; rfl
  | _=>cases e
theorem Ks (l:C.K=X.K) (k:X.calm=iI):Kh X C .sh (.builtin "all") qai:=by
 intro pins s σ H xs us Q I r h;obtain ⟨x,F,dx,rfl,d,f,po⟩:=h;cases dx <;> try exact po.elim
 rename_i ds;obtain ⟨p,vs,rfl,hq,t⟩:=f.lst d;obtain ⟨u,rfl,g⟩:=QD r;cases g;unfold qai at po;cases q:vR ds with
 | none=>simp only [q] at po; exact po.elim
 | some bs=>
  simp only [q] at po;obtain ⟨its,rv,pl,z⟩:=I.list (show SqL X.K H p vs by rw [<-l]; exact hq);have B:=ze t rv q;subst B;have hp:p < s.heap.objs.size:=let ⟨o,h1,_⟩:=pl.isList; aE h1;refine call_all_walk (wpAny_pyIter_list pl.isList ?_);have W:Walks X.prog X.w X.A.in1 s.heap.objs.size [s.heap.objs.size,p] [s.heap.objs.size] (bs.map bg).toArray.size (λi v=>(bs.map bg).toArray[i]?=iD v) (λi h=>h.IsListIter s.heap.objs.size p i/\h.IsList p (bs.map bg).toArray):=Walks.list (A:=X.A.in1) (show X.A.in1.handled=iF from I.ok.hd k) s.heap.objs.size p (aL hp) _;have st:(s.heap.push { cls:=.type "list_iterator",data:=.fields #[.ref p,.int 0 0] }).IsListIter s.heap.objs.size p 0/\(s.heap.push { cls:=.type "list_iterator",data:=.fields #[.ref p,.int 0 0] }).IsList p (bs.map bg).toArray:=⟨⟨_,aq _ rfl,rfl,rfl⟩,let ⟨o,h1,h2⟩:=pl.isList; ⟨o,aa _ h1,h2⟩⟩
  refine ⟨_,_,_,_,_,_,λi=>(bs[i]?).getD iH,rfl,W,st,λi v s' m E j c=>?_,λh' tk kp=>?_⟩
  ·have j:(bs.map bg).toArray[i]?=iD v:=j;rw [eZ,aJ] at j;cases G:bs[i]? with
   | none=>rw [G] at j; cases j
   | some b=>have a:m ((bs[i]?).getD iH) s':=c;rw [G] at j a;cases j;exact i7 a
  ·have e:(bE (bs.map bg).toArray.size).all (λi=>(bs[i]?).getD iH)=bs.all id:=by
    rw [aw,aH,Bool.eq_iff_iff,bh,bh];constructor;·intro h b hb;obtain ⟨i,hi,e⟩:=fm.mp hb;have:=h i (cY.mpr hi);rw [aM hi,e] at this;exact this
    ·intro h i hi;have hi:=cY.mp hi;rw [aM hi];exact h _ (dI hi)
   rw [e];refine ⟨.bl (bs.all id),H,?_,rfl,po _ F H d .refl (.bl _)⟩;have k2:∀ b o,s.heap.get? b=iD o->h'.get? b=iD o:=λb o B=>kp b o (by simp; exact aL (aE B)) (aa _ B);exact I.kept (t':=tk) k2
end
noncomputable def wu (idx:List Nat) (xs:List α):List α:=idx.filterMap λk=>xs[k]?
theorem IsL.pick (h:IsL K F vs ds):∀ (idx:List Nat),IsL K F (wu idx vs) (wu idx ds)
 | []=>.nil
 | k::idx=>by
  unfold wu;rw [bu,bu];cases e:vs[k]? with
  | none=>have a:ds[k]?=none:=cq.mpr (by rw [<-h.length]; exact cq.mp e);rw [a];exact IsL.pick h idx
  | some v=>obtain ⟨d,a,i⟩:=h.get e;rw [a];exact .cons i (IsL.pick h idx)
theorem zI {us:List iG} (h:Vals vs us):∀ (idx:List Nat),Vals (wu idx vs) (wu idx us)
 | []=>.nil
 | k::idx=>by
  unfold wu;rw [bu,bu];cases e:vs[k]? with
  | none=>rw [h.none_of e]; exact zI h idx
  | some v=>obtain ⟨u,i,r⟩:=h.get e;rw [i];exact .cons r (zI h idx)
theorem qaX (xs:List α):wu (bE xs.length) xs=xs:=by unfold wu;have:=PySem.W.krv_all xs.toArray;simpa using this
noncomputable def Kt (n:Nat) (lo hi:Option Int) (st:Int):List Nat:=(bE (dO (bB lo hi st n).1 (bB lo hi st n).2 st)).map λ(k:Nat)=>((bB lo hi st n).1+(k:Int) * st).toNat
noncomputable def Qm (x:Str) (lo hi:Option Int) (st:Int):Str:=if (st == 1&&(dB lo hi st x.length).length == x.length)=iI then x else ⟨((dB lo hi st x.length).filterMap (x.cps[·]?)).toArray⟩
noncomputable def slD (lo hi st:Option Int):D->Out D
 | .tup xs=>if st.getD 1≠0/\(wu (Kt xs.length lo hi (st.getD 1)) xs).length<=sizeLine then .ok (.tup (wu (Kt xs.length lo hi (st.getD 1)) xs)) else .bad
 | .str x=>if st.getD 1≠0/\(Qm x lo hi (st.getD 1)).length<=sizeLine then .ok (.str (Qm x lo hi (st.getD 1))) else .bad
 | _=>.bad
def qhI (X:Cx) (r:V->Option Int->Option Int->Option Int->Hp->VK->Prop):Prop:=
 ∀ (pins:List (Addr×Obj)) (s:iJ) (σ:St) (H:Hp) (x:V) (v vl u k:iG) (lo hi st:Option Int) (sl:Addr) (Q:VK),Inv X pins σ H s->RelV x v->s.heap.IsSliceOf sl vl u k->lw vl lo->lw u hi->lw k st->r x lo hi st H Q ->∃ T id,typeLookup (.type T) "__getitem__"=pure (iD (.builtin id))/\s.TypeIs v T/\wpAny (model X.prog X.w) X.A (getItem v (.ref sl)) (EP X pins σ Q) X.xe s
section
variable {prog:iL}
theorem gH {sl:Addr} {vl u k:iG} {lo hi st:Option Int} {n:Nat} {Q:Int×Int×Nat->iJ->Prop} (d:s.heap.IsSliceOf sl vl u k) (pl:lw vl lo) (p:lw u hi) (c:lw k st) (e:st.getD 1≠0)
  (h:Q ((bB lo hi (st.getD 1) n).1,st.getD 1,dO (bB lo hi (st.getD 1) n).1 (bB lo hi (st.getD 1) n).2 (st.getD 1)) s):wpAny (model prog w) A (Builtin.Slice.sliceApplied (.ref sl) (pure (n:Int))) Q E s:=by
 obtain ⟨os,a,l,b⟩:=id d;unfold Builtin.Slice.sliceApplied Builtin.Slice.sliceFields;refine iE (iE (iS a b (x:=vl) rfl (iE (iS a b (x:=u) rfl (iE (iS a b (x:=k) rfl (iK ?_)))))));refine iE (HT.slicePart_ c ?_);show wpAny _ _ (if (st.getD 1 == 0)=iI then _ else _) _ _ s;rw [if_neg (by simpa using e)];refine iE (HT.slicePart_ pl (iE (HT.slicePart_ p (iE (iK ?_)))));exact iK h
theorem zJ {t sl:Addr} {items:Array iG} {vl u v:iG} {lo hi st:Option Int} {Q:iG->iJ->Prop} (l:IsTup s.heap t items) (g:s.heap.IsSliceOf sl vl u v) (pl:lw vl lo) (p:lw u hi) (n:lw v st) (x:st.getD 1≠0)
  (hw:Kt items.size lo hi (st.getD 1)=bE items.size->Q (.ref t) s)
  (h:Q (.ref s.heap.objs.size) { s with heap:=s.heap.push { cls:=.type "tuple",data:=.seq (wu (Kt items.size lo hi (st.getD 1)) items.toList).toArray } })
  (z:(wu (Kt items.size lo hi (st.getD 1)) items.toList).length<=sizeLine):wpAny (model prog w) A (getItem (.ref t) (.ref sl)) Q E s:=by
 obtain ⟨os,b,c,o⟩:=id g;have f:s.TypeIs (.ref sl) "slice":=⟨os,b,c⟩
 unfold getItem;try with_reducible refine iX ?_
 first | refine iE (iK ?_) | skip
 refine iE (wpAny_sequenceKey l.typeIs (by decide) ?_);refine iE (iP (name:=au "__getitem__") l.typeIs cU
  (iQ cU l.typeIs entry_tuple_getitem ?_ (args_tuple_getitem _ _)))
 show wpAny _ _ (Builtin.Tuple.tupleItemsOf (.ref t) >>= _) _ _ s;refine iE (tupleItemsOf_ l ?_);refine iE (ll f ?_);rw [if_pos (by decide)];refine iE (gH g pl p n x ?_);generalize hA:bB lo hi (st.getD 1) items.size=A0;generalize N:dO A0.1 A0.2 (st.getD 1)=N0;have ep:wu (Kt items.size lo hi (st.getD 1)) items.toList=(bE N0).filterMap λ(k:Nat)=>items[(A0.1+(k:Int) * st.getD 1).toNat]?:=by unfold wu Kt;rw [hA,N,List.filterMap_map];congr 1;funext k;simp
 rw [ep] at h z;by_cases d:(A0.1 == 0&&st.getD 1 == 1&&N0 == items.size)=iI
 ·have R:=d;rw [aZ,aZ] at R;have j:A0.1=0:=eq_of_beq R.1.1;have i:st.getD 1=1:=eq_of_beq R.1.2;have q:N0=items.size:=eq_of_beq R.2;have whole:Kt items.size lo hi (st.getD 1)=bE items.size:=by
   unfold Kt;rw [hA,N,j,i,q];have e:(λ(k:Nat)=>((0:Int)+(k:Int) * 1).toNat)=id:=by funext k;show ((0:Int)+(k:Int) * 1).toNat=k;omega
   rw [e,List.map_id]
  have r:=hw whole;show wpAny _ _ (if (A0.1 == 0&&st.getD 1 == 1&&N0 == items.size)=iI then _ else _) _ _ s;rw [if_pos d];unfold Builtin.Tuple.tupleIsExact;refine iE (iE (ll l.typeIs (iK ?_)));rw [if_pos (by decide)];exact iE (j8 (iK ⟨_,rfl,iK r⟩))
 ·show wpAny _ _ (if (A0.1 == 0&&st.getD 1 == 1&&N0 == items.size)=iI then _ else _) _ _ s;rw [if_neg d];have a:sizeOk (.seq ((bE N0).filterMap λ(k:Nat)=>items[(A0.1+(k:Int) * st.getD 1).toNat]?).toArray):=by show (((bE N0).filterMap λ(k:Nat)=>items[(A0.1+(k:Int) * st.getD 1).toNat]?).toArray).size<=sizeLine;rw [aw]; exact z
  first
   | exact iE (m:=cS _) (iN (iK ⟨_,rfl,iK h⟩) a)
   | exact iE (m:=cS _) (iN (iE (iK (iK ⟨_,rfl,iK h⟩))) a)
   | exact iE (iE (m:=cS _) (iN (iK (iK ⟨_,rfl,iK h⟩)) a))
   | exact iE (iE (m:=cS _) (iN (iK ⟨_,rfl,iK h⟩) a))
end
def PoO (C:Ct) (own:List Nat) (σ:St) (F H:Hp) (r:Out (Option Int×Sl)) (Q:Option Int->Hp->Prop):Prop:=match r with
 | .ok (b,ρ')=>∀ F' H',Rep C.K own F' H' σ ρ'->Chg (OA own σ) F H F' H'->Q b H'
 | .exc c ρ'=>∀ F' H',Same F' H'->Xg C.K C.ox F' H' σ ρ'->Chg (OA own σ) F H F' H'->C.E (C.cv c) iF H'
 | .bad=>False
def tO (C:Ct) (own:List Nat) (f:Sl->Out (Option Int×Sl)):TO:=λσ H Q=>∃ F ρ,Rep C.K own F H σ ρ/\PoO C own σ F H (f ρ) Q
noncomputable def ud:Option (Sl->Out (D×Sl))->Sl->Out (Option Int×Sl)
 | none,ρ=>.ok (iF,ρ)
 | some f,ρ=>(f ρ).bind λp=>match p.1 with
  | .int i=>.ok (iD i,p.2)
  | _=>.bad
theorem Po.bindO {o:Out (Option Int×Sl)} {k:Option Int×Sl->Out (D×Sl)} {Q:VK} {R:Option Int->Hp->Prop} (hp:Po C own m σ F H (o.bind k) Q)
  (h:∀ F1 H1 b ρ1,Rep C.K own F1 H1 σ ρ1->Chg (OA own σ) F H F1 H1->Po C own m σ F1 H1 (k (b,ρ1)) Q->R b H1):PoO C own σ F H o R:=by
 cases o with
 | ok p=>obtain ⟨d,ρ1⟩:=p;exact λF1 H1 a c=>h F1 H1 d ρ1 a c (Po.shift (show Po C own m σ F H (k (d,ρ1)) Q from hp) c)
 | exc x=>exact hp
 | bad=>exact hp.elim
noncomputable def yD (fa:Sl->Out (D×Sl)) (l u k:Option (Sl->Out (D×Sl))):Sl->Out (D×Sl):=λρ=>(fa ρ).bind λp=>(ud l p.2).bind λa=>(ud u a.2).bind λb=>(ud k b.2).bind λc=>(slD a.1 b.1 c.1 p.1).plain.bind λd=>.ok (d,c.2)
section
variable {a:Expr} {p2:Pos}
theorem yE:PO X iF (tO C own (ud iF)):=by intro pins s σ H Q I ⟨F,ρ,a,h⟩;exact qcX pins s σ H Q I (h F H a .refl)
theorem QU (h:PE X e (tE C own m f)):PO X (iD e) (tO C own (ud (iD f))):=by
 intro pins s σ H Q I ⟨F,ρ,r,hp⟩;refine qcY h pins s σ H Q I ⟨F,ρ,r,?_⟩;have hp:PoO C own σ F H ((f ρ).bind λp=>match p.1 with | .int i=>.ok (iD i,p.2) | _=>.bad) Q:=hp;cases q:f ρ with
 | ok p=>
  rw [q] at hp;obtain ⟨d,ρ1⟩:=p;cases d with
  | int i=>exact λv F1 H1 a l b=>⟨i,b.top.int,hp F1 H1 a l⟩
  | _=>exact hp.elim
 | exc c=>rw [q] at hp; exact hp
 | bad=>rw [q] at hp; exact hp.elim
theorem Zr {r:V->Option Int->Option Int->Option Int->Hp->VK->Prop} {tl th tk:TO} {lo hi st:Option Expr} (hr:qhI X r) (z:PE X e te) (hl:PO X lo tl) (o:PO X hi th) (y:PO X st tk):PE X (.Subscript e (.Slice lo hi st p2) pos) (λσ H Q=>te σ H λx H1=>tl σ H1 λl H2=>th σ H2 λu f=>tk σ f λk d=>r x l u k d Q):=by
 refine ⟨?_⟩;intro pins s σ H Q I h;refine Subscript_ (thn (z pins s σ H _ I h) λv s1 ⟨x,H1,G,r1,m⟩=>?_);refine wpAny_Slice (thn (hl pins s1 σ H1 _ G m) λvl s2 ⟨l,H2,E,pl,j⟩=>thn (o pins s2 σ H2 _ E j) λa s3 ⟨u,f,D,p,i⟩=>thn (y pins s3 σ f _ D i) λc s4 ⟨k,d,C,n,g⟩=>?_);have B:Inv X pins σ d { s4 with heap:=s4.heap.push { cls:=.type "slice",data:=.fields #[vl,a,c] } }:=C.kept (t':=s4.toks) λb J q=>aa _ q;obtain ⟨T,id,hT,t,hg⟩:=hr pins { s4 with heap:=s4.heap.push { cls:=.type "slice",data:=.fields #[vl,a,c] } } σ d x v vl a c l u k s4.heap.objs.size Q B r1 (Heap.IsSliceOf.new ..) pl p n g;show wpAny (model X.prog X.w) X.A (subscriptTail e (.Slice lo hi st p2) v (.ref s4.heap.objs.size)) (EP X pins σ Q) X.xe { s4 with heap:=s4.heap.push { cls:=.type "slice",data:=.fields #[vl,a,c] } };cases st with
 | none=>exact lN (ops:=[.ref s4.heap.objs.size,v]) t hT hg (by with_unfolding_all rfl)
 | some st=>exact lN (ops:=[v,.ref s4.heap.objs.size]) t hT hg (by with_unfolding_all rfl)
theorem QV {v:iG} {o:Option Int} (h:lw v o):∃ l:Option (Int×Tok),v=partValue l/\l.map (·.1)=o:=by
 cases h with
 | none=>exact ⟨iF,rfl,rfl⟩
 | int i t=>exact ⟨iD (i,t),rfl,rfl⟩
theorem qir (E:C.K=X.K):qhI X (λx lo hi st H Q=>∃ F d,Same F H/\Is C.K F x d/\PoV C .sh F H (slD lo hi st d) Q):=by
 intro pins s σ H x v vl J L lo hi st sl Q I p B pl w y h;obtain ⟨F,d,f,is,po⟩:=h;cases d with
 | tup ds=>
  have g:=is;cases is with
  | @tup a xs _ hq t=>
   cases p;have j:SqT X.K H a xs:=by rw [<-E]; exact je f hq
   obtain ⟨its,r,A,N⟩:=I.tuple j;have n:its.length=ds.length:=r.length.symm.trans t.length;have po:PoV C .sh F H (if st.getD 1≠0/\(wu (Kt ds.length lo hi (st.getD 1)) ds).length<=sizeLine then .ok (.tup (wu (Kt ds.length lo hi (st.getD 1)) ds)) else .bad) Q:=po;by_cases c:st.getD 1≠0/\(wu (Kt ds.length lo hi (st.getD 1)) ds).length<=sizeLine
   ·rw [if_pos c] at po;have i:=t.pick (Kt ds.length lo hi (st.getD 1));have rv:=zI r (Kt ds.length lo hi (st.getD 1));refine ⟨"tuple",_,cU.lookup,A.typeIs,zJ A B pl w y c.1 (λe=>?_) ?_ ?_⟩;·rw [aw,n] at e;refine ⟨.ref a,H,I,rfl,po _ F H f .refl ?_⟩;rw [e,qaX];exact g
    ·simp only [aw,n];have m:(wu (Kt ds.length lo hi (st.getD 1)) xs).length<=sizeLine:=by rw [i.length]; exact c.2
     refine ⟨.ref s.heap.objs.size,_,I.laid (t':=s.toks) (o:=.tup (wu (Kt ds.length lo hi (st.getD 1)) xs)) (λb M q=>aa _ q) (aG _) ⟨⟨m,⟨_,aq _ rfl,rfl⟩⟩,_,rv,ir _ _⟩,rfl,?_⟩;obtain ⟨s2,c2⟩:=wH (u:=.tup (wu (Kt ds.length lo hi (st.getD 1)) xs)) f (I.hok.fresh (aG _));exact po _ _ _ s2 c2 (.tup (.inl (.inl qm)) (i.mono c2.grow))
    ·simp only [aw,n];rw [<-rv.length,i.length];exact c.2
   ·rw [if_neg c] at po; exact po.elim
 | str z=>
  cases is;obtain ⟨t,rfl⟩:=p;have po:PoV C .sh F H (if st.getD 1≠0/\(Qm z lo hi (st.getD 1)).length<=sizeLine then .ok (.str (Qm z lo hi (st.getD 1))) else .bad) Q:=po;by_cases c:st.getD 1≠0/\(Qm z lo hi (st.getD 1)).length<=sizeLine
  ·rw [if_pos c] at po;obtain ⟨l,rfl,el⟩:=QV pl;obtain ⟨u,rfl,G⟩:=QV w;obtain ⟨k,rfl,D⟩:=QV y;refine ⟨"str",_,PySem.F.slot_str_getitem.lookup,typeIs_str s z t,wpAny_getItem_str_slice (l:=l) (u:=u) (st:=k) B (by rw [D]; simpa using c.1) ?_⟩;have c2:=c.2;unfold sliceMade slicePicked;rw [el,G,D];unfold Qm at c2 po;by_cases q:(st.getD 1 == 1&&(dB lo hi (st.getD 1) z.length).length == z.length)=iI;·rw [if_pos q] at c2 po ⊢;exact ⟨.str z,H,I,⟨t,rfl⟩,po _ F H f .refl (.str c2)⟩
   ·rw [if_neg q] at c2 po ⊢;exact ⟨c2,.str _,H,I.tok _,⟨_,rfl⟩,po _ F H f .refl (.str c2)⟩
  ·rw [if_neg c] at po; exact po.elim
 | _=>exact po.elim
theorem Us {lo hi st:Option Expr} {l u k:Option (Sl->Out (D×Sl))} (w:C.K=X.K) (t:PE X e (tE C own ma fa)) (hl:PO X lo (tO C own (ud l))) (q:PO X hi (tO C own (ud u))) (s:PO X st (tO C own (ud k))) (o:ma≠.any:=by decide):PE X (.Subscript e (.Slice lo hi st p2) pos) (tE C own .sh (yD fa l u k)):=by
 refine jh (Zr (qir (C:=C) w) (vi t o) hl q s) λσ H Q ⟨F,ρ,p,h⟩=>⟨F,ρ,p,Po.bind h λv F1 H1 d ρ1 m A n h1=>?_⟩
 refine ⟨F1,ρ1,m,Po.bindO h1 λz H2 a j i c2 h2=>⟨z,j,i,Po.bindO h2 λF3 G b f g J y=>⟨F3,f,g,Po.bindO y λM E c B r I x=>?_⟩⟩⟩;exact ⟨M,d,r.sub,((n.mono c2.grow).mono J.grow).mono I.grow,PoV.of r x⟩
end
noncomputable def Its (x:Str):It:=⟨λi _=>i < x.cps.size,λi H v H'=>H'=H/\∃ c,x.cps[i]?=iD c/\v=.str ⟨#[c]⟩,λi _=>x.cps.size<=i⟩
noncomputable def Ku (x:Str):List D:=x.cps.toList.map λc=>.str ⟨#[c]⟩
theorem Ut {P:iL} {w:iM} {K:Frag} {tg:Expr} (it:Addr) (x:Str) (t:Tok) (ty:String) (p:["enumerate", "zip", "dict_itemiterator", "dict_reverseitemiterator", "odict_iterator", "itertools.zip_longest", "itertools.pairwise"].contains ty=iH)
  (W:∀ A:iO,A.handled=iF->Walks P w A it [it] [it] x.cps.size (SignAt x) (λi h=>h.IsStrIter it ty x t i)) (n:∀ (A:iO) (i:Nat) (s:iJ) (Q:iG->iJ->Prop) (E:iG->iJ->Prop),s.heap.IsStrIter it ty x t i->Q (.ref it) s->wpAny (model P w) A (pyIter (.ref it)) Q E s) :
  Turn P w K tg (Its x) [it] it (λi h=>h.IsStrIter it ty x t i/\i<=x.cps.size) where
 mem:=by simp
 obj:=λi h st b hb=>by
  have e:b=it:=by simpa using hb
  subst e;obtain ⟨o,e,c,d⟩:=st.1;exact ⟨o,e,λv z=>by rw [d] at z; cases z⟩
 keep:=λi h h' st k=>by obtain ⟨⟨o,e,r⟩,hi⟩:=st;exact ⟨⟨o,k it (by simp) o e,r⟩,hi⟩
 item:=by
  intro X j hw l g i pins s σ H E I a st hg;subst j hw l;obtain ⟨f0,f1,f2,m,f4,f5⟩:=a it (by simp);refine (W X.A (I.ok.hd g)).item i s _ _ hg st.1 λv h' tk j f kp=>?_;have q:Inv X pins σ H { s with heap:=h',toks:=tk }:=I.turned (t':=tk) (λb o hb e=>kp b o (by simpa using hb) e) f0 f1 m f4 f5;obtain ⟨o,e,c,d⟩:=id f;obtain ⟨T,u,h1,h2⟩:∃ T u,x.cps[i]?=iD T/\v=g8 ⟨#[T]⟩ u:=by
   unfold SignAt at j;first
    | exact j
    | (obtain ⟨T,u,h1,h2⟩:=j; exact ⟨T,u,h1,h2⟩)
    | (obtain ⟨T,h1,u,h2⟩:=j; exact ⟨T,u,h1,h2⟩)
    | (obtain ⟨u,T,h1,h2⟩:=j; exact ⟨T,u,h1,h2⟩)
  subst h2;exact ⟨_,rfl,qar (s:={ s with heap:=h',toks:=tk }) e c d p ⟨.str ⟨#[T]⟩,H,q,⟨u,rfl⟩,⟨rfl,T,h1,rfl⟩,⟨f,hg⟩,λb hb=>(a b hb).1⟩⟩
 done:=by intro X j hw l g i pins s σ H E I a st hg;subst j hw l;obtain ⟨f0,f1,f2,m,f4,f5⟩:=a it (by simp);have hi:i=x.cps.size:=Nat.le_antisymm st.2 hg;subst hi;exact (W X.A (I.ok.hd g)).done s _ _ st.1 λh' tk kp=>⟨rfl,I.turned (t':=tk) (λb o hb e=>kp b o (by simpa using hb) e) f0 f1 m f4 f5⟩
 self:=λA i s Q E st h=>n A i s Q E st.1 h
theorem qfl:ItIs K F (Its x) (Ku x) where
 go:=λi H hi _=>by
  have:i < x.cps.size:=by simpa [Ku] using hi
  exact this
 yld:=λi Fi H v H' d e s1 s2 y=>by
  obtain ⟨rfl,c,h1,rfl⟩:=y;have e:d=.str ⟨#[c]⟩:=by
   unfold Ku at e;rw [aJ] at e;have h1:x.cps.toList[i]?=iD c:=by simpa using h1
   rw [h1] at e;exact (aU.inj e).symm
  subst e;exact ⟨Fi,.refl,s2,.str (Ui c)⟩
 stop:=λi H hi _=>by
  have:x.cps.size<=i:=by simpa [Ku] using hi
  exact this
noncomputable def kI:D->Out (List D)
 | .lst xs=>.ok xs
 | .tup xs=>.ok xs
 | .str x=>.ok (Ku x)
 | _=>.bad
noncomputable def wo (f:Sl->Out (D×Sl)):Sl->Out (List D×Sl):=λρ=>(f ρ).bind λp=>(kI p.1).bind λds=>.ok (ds,p.2)
section
theorem qfm {l:Expr} {tl:TE} (hl:PE X l tl):PI X tg l (λσ H R=>tl σ H λx H1=>(∃ a,x=.ref a/\(((∃ xs,SqL X.K H1 a xs)/\R (Itl X.K a) H1)\/((∃ xs,SqT X.K H1 a xs)/\R (Itt X.K a) H1)))\/∃ z,x=.str z/\R (Its z) H1):=by
 refine ⟨?_⟩;intro pins s σ H R I h;refine thn (hl pins s σ H _ I h) λv s1 ⟨x,H1,d,r1,c⟩=>?_;have fp:∀ b∈[s1.heap.objs.size],Vt X pins H1 b:=λb hb=>by
  have e:b=s1.heap.objs.size:=by simpa using hb
  subst e;exact d.fpOk (aG _) (d.hok.fresh (aG _))
 rcases c with ⟨a,rfl,q⟩ | ⟨z,rfl,q⟩
 ·cases r1;rcases q with ⟨⟨xs,hq⟩,q⟩ | ⟨⟨xs,hq⟩,q⟩
  ·obtain ⟨its,rv,p,g⟩:=d.list hq;refine wpAny_pyIter_list p.isList ?_;exact ⟨s1.heap.objs.size,[s1.heap.objs.size],_,_,H1,rfl,d.kept (t':=s1.toks) λb o e=>aa _ e,Xn a _,⟨_,aq _ rfl,rfl,rfl⟩,fp,q⟩
  ·obtain ⟨its,rv,p,g⟩:=d.tuple hq;refine wpAny_pyIter_tuple (show s1.heap.IsTuple a its.toArray from p) ?_;exact ⟨s1.heap.objs.size,[s1.heap.objs.size],_,_,H1,rfl,d.kept (t':=s1.toks) λb o e=>aa _ e,Yn a _,⟨_,aq _ rfl,rfl,rfl⟩,fp,q⟩
 ·obtain ⟨t,rfl⟩:=r1;cases f:z.cps.all (· < 128) with
  | true=>refine wpAny_pyIter_ascii f ?_;exact ⟨s1.heap.objs.size,[s1.heap.objs.size],_,_,H1,rfl,d.kept (t':=s1.toks) λb o e=>aa _ e,Ut _ z t "str_ascii_iterator" (by decide) (λA hA=>Walks.strAscii hA _ z t) (λA i s Q E st h=>wpAny_pyIter_striter_ascii st h),⟨⟨_,aq _ rfl,rfl,rfl⟩,bA _⟩,fp,q⟩
  | false=>refine wpAny_pyIter_wide f ?_;exact ⟨s1.heap.objs.size,[s1.heap.objs.size],_,_,H1,rfl,d.kept (t':=s1.toks) λb o e=>aa _ e,Ut _ z t "str_iterator" (by decide) (λA hA=>Walks.strWide hA _ z t) (λA i s Q E st h=>wpAny_pyIter_striter_wide st h),⟨⟨_,aq _ rfl,rfl,rfl⟩,bA _⟩,fp,q⟩
theorem jz (l:C.K=X.K) (h:PE X e (tE C own m f)) (g:m≠.any:=by decide):PI X tg e (tIt C own (wo f)):=by
 refine qdg (qfm (vi h g)) λσ H R ⟨F,ρ,r,h⟩=>⟨F,ρ,r,PoI.bindV h λv F1 H1 d ρ1 a b c h1=>?_⟩
 have c:Is C.K F1 v d:=c;cases c with
 | lst p t=>exact .inl ⟨_,rfl,.inl ⟨⟨_,by rw [<-l]; exact a.sub.seq p⟩,by rw [<-l]; exact h1 _ F1 H1 a b (qfa p t)⟩⟩
 | tup p t=>exact .inl ⟨_,rfl,.inr ⟨⟨_,by rw [<-l]; exact je a.sub p⟩,by rw [<-l]; exact h1 _ F1 H1 a b (qfb p t)⟩⟩
 | str z=>exact .inr ⟨_,rfl,h1 _ F1 H1 a b qfl⟩
 | _=>exact h1.elim
end
noncomputable def Kv (b:Bool):D->Out D
 | .lst ds=>match vR ds with
  | some bs=>.ok (.int (bs.countP (· == b):Nat))
  | none=>.bad
 | _=>.bad
noncomputable def Kw (b:Bool):D->Out D
 | .lst ds=>match vR ds with
  | some bs=>match bs.findIdx? (· == b) with
   | some j=>.ok (.int (j:Nat))
   | none=>.bad
  | none=>.bad
 | _=>.bad
section
variable {o:Expr} {fo:Sl->Out (D×Sl)} {apos:Pos} {b:Bool}
theorem Ky (A:iO) (s:iJ) (c b:Bool):h9 A s (.bool c) (.bool b) (c == b):=SeqAt.EqAt.bool_bool _ _
theorem qaY:MtR X "list.count" (λx vs H Q=>∃ (a:Addr) (xs:List V) (bs:List Bool) (b:Bool),x=.ref a/\vs=[.bl b]/\SqL X.K H a xs/\(∀ us,Vals xs us->us=bs.map bg)/\Q (.int (bs.countP (· == b):Nat)) H):=by
 intro pins s σ H x vs v us Q I f rv h;obtain ⟨a,xs,bs,b,rfl,rfl,hq,hb,q⟩:=h;cases f;obtain ⟨u,rfl,g⟩:=rv.one;cases g;obtain ⟨its,r,pl,z⟩:=I.list hq;have e:=hb its r;subst e;obtain ⟨⟨cls,dd,data,sl⟩,n,m,d,hd,t⟩:=pl;simp only at d hd t;subst d t;refine j9 PySem.F.slot_list_count ⟨_,m,rfl⟩ PySem.F.entry_list_count (PySem.F.args_list_count_2 _ _) (SeqAt.list_countAt a _ n dd sl (.bool b) (λv=>v == .bool b)) ⟨m,λy k=>?_,?_⟩
 ·have k:y∈bs.map bg:=by simpa using k
  obtain ⟨c,_,rfl⟩:=aF.mp k;have e:(bg c == bg b)=(c == b):=by cases c <;> cases b <;> rfl
  show h9 _ s (.bool c) (.bool b) (bg c == bg b);rw [e];exact Ky _ s c b
 ·refine ⟨.int (bs.countP (· == b):Nat),H,I.tok _,⟨s.toks,?_⟩,q⟩;have e:(bs.map bg).toArray.toList.countP (λv=>v == bg b)=bs.countP (· == b):=by rw [List.toList_toArray,List.countP_map];congr 1;funext c;cases c <;> cases b <;> rfl
  rw [e]
theorem qaZ:MtR X "list.index" (λx vs H Q=>∃ (a:Addr) (xs:List V) (bs:List Bool) (b:Bool) (j:Nat),x=.ref a/\vs=[.bl b]/\SqL X.K H a xs/\(∀ us,Vals xs us->us=bs.map bg)/\bs.findIdx? (· == b)=iD j/\Q (.int (j:Nat)) H):=by
 intro pins s σ H x vs v us Q I p rv h;obtain ⟨a,xs,bs,b,j,rfl,rfl,hq,hb,G,q⟩:=h;cases p;obtain ⟨u,rfl,w⟩:=rv.one;cases w;obtain ⟨its,r,pl,z⟩:=I.list hq;have e:=hb its r;subst e;obtain ⟨⟨cls,dd,data,sl⟩,n,o,l,hd,t⟩:=pl;simp only at l hd t;subst l t;obtain ⟨i,g,f⟩:=bJ.mp G;have d:bs.length<=sizeLine:=by have:=r.length; simp at this; omega
 have ev:∀ c:Bool,(bg c == bg b)=(c == b):=λc=>by cases c <;> cases b <;> rfl
 refine j9 c6 ⟨_,o,rfl⟩ PySem.F.entry_list_index (PySem.F.args_list_index_2 _ _) (SeqAt.list_indexAt a _ n dd sl (.bool b) (λv=>v == .bool b) j (by simpa using i) (by rw [iR] at d; omega) (by simp [ev]; simpa using g) λm A h1=>?_) ⟨o,λy k=>?_,?_⟩;·have:=f m h1;simp [ev];simpa using this
 ·have k:y∈bs.map bg:=by simpa using k
  obtain ⟨c,_,rfl⟩:=aF.mp k;show h9 _ s (.bool c) (.bool b) (bg c == bg b);rw [ev];exact Ky _ s c b
 ·exact ⟨.int (j:Nat),H,I.tok _,⟨_,rfl⟩,q⟩
theorem qa0 {l c2} (A:C.K=X.K) (z:PE X o (tE C own m fo))
  (f:attributeBase o "count" X.env (eval o X.env)=eval o X.env:=by rfl)
  (w:((backTo cpos (starEach [.Constant (.bool b) l c2] X.env)).all (λx=>!x.1)&&(backToKw cpos (keywordEach [] X.env)).all (λx=>x.1.isSome)
   && decide ([Expr.Constant (.bool b) l c2].length+([]:List i5).length+(if ([]:List i5).isEmpty then 0 else 1) < 30))=true:=by exact vP rfl)
  (e:(apos.endLine == cpos.line)=true:=by rfl) (n:starEach [.Constant (.bool b) l c2] X.env=[(iH,eval (.Constant (.bool b) l c2) X.env)]:=by exact qO rfl) :
  PE X (.Call (.Attribute o "count" apos) [.Constant (.bool b) l c2] [] cpos) (tE C own .sh (d1 (Kv b) fo)):=by
 refine jh (VE bO PySem.F.slot_list_count PySem.F.type_list_count qaY z (qT qcL jU n) f w e n rfl) λσ H Q h=>?_;obtain ⟨F,ρ,y,h⟩:=JW (ma:=m) h;refine ⟨F,ρ,y,?_⟩;cases q:fo ρ with
 | ok p=>
  rw [q] at h;obtain ⟨d,ρ1⟩:=p;intro v F1 H1 i l k;obtain ⟨B,dx,s,u,po⟩:=h v F1 H1 i l k;cases dx <;> try exact po.elim
  rename_i ds;unfold Kv at po;cases j:vR ds with
  | none=>simp only [j] at po; exact po.elim
  | some bs=>
   simp only [j] at po;obtain ⟨a,vs,rfl,hq,t⟩:=u.lst s;have g:SqL X.K H1 a vs:=by rw [<-A]; exact hq
   exact ⟨.inl ⟨rfl,vs,g⟩,a,vs,bs,b,rfl,rfl,g,λus r=>ze t r j,po _ B H1 s .refl (.int _)⟩
 | exc c=>rw [q] at h; exact h
 | bad=>rw [q] at h; exact h.elim
theorem qa1 {l c2} (D:C.K=X.K) (B:PE X o (tE C own m fo))
  (f:attributeBase o "index" X.env (eval o X.env)=eval o X.env:=by rfl)
  (w:((backTo cpos (starEach [.Constant (.bool b) l c2] X.env)).all (λx=>!x.1)&&(backToKw cpos (keywordEach [] X.env)).all (λx=>x.1.isSome)
   && decide ([Expr.Constant (.bool b) l c2].length+([]:List i5).length+(if ([]:List i5).isEmpty then 0 else 1) < 30))=true:=by exact vP rfl)
  (e:(apos.endLine == cpos.line)=true:=by rfl) (y:starEach [.Constant (.bool b) l c2] X.env=[(iH,eval (.Constant (.bool b) l c2) X.env)]:=by exact qO rfl) :
  PE X (.Call (.Attribute o "index" apos) [.Constant (.bool b) l c2] [] cpos) (tE C own .sh (d1 (Kw b) fo)):=by
 refine jh (VE bO c6 PySem.F.type_list_index qaZ B (qT qcL jU y) f w e y rfl) λσ H Q h=>?_;obtain ⟨F,ρ,A,h⟩:=JW (ma:=m) h;refine ⟨F,ρ,A,?_⟩;cases q:fo ρ with
 | ok p=>
  rw [q] at h;obtain ⟨d,ρ1⟩:=p;intro v F1 H1 i l s;obtain ⟨E,dx,u,z,po⟩:=h v F1 H1 i l s;cases dx <;> try exact po.elim
  rename_i ds;unfold Kw at po;cases n:vR ds with
  | none=>simp only [n] at po; exact po.elim
  | some bs=>
   simp only [n] at po;cases k:bs.findIdx? (· == b) with
   | none=>simp only [k] at po; exact po.elim
   | some j=>
    simp only [k] at po;obtain ⟨a,vs,rfl,hq,t⟩:=z.lst u;have g:SqL X.K H1 a vs:=by rw [<-D]; exact hq
    exact ⟨.inl ⟨rfl,vs,g⟩,a,vs,bs,b,j,rfl,rfl,g,λus r=>ze t r n,k,po _ E H1 u .refl (.int _)⟩
 | exc c=>rw [q] at h; exact h
 | bad=>rw [q] at h; exact h.elim
end
end L2.D2
namespace L2.D2
open PySem PySem.Spec PySem.Calls PyProof.Rows PySem.W Builtin Builtin.ObjectAttr Builtin.Getset_descriptor
variable {K:Frag} {R:lL->iJ->Prop}
section
variable {prog:iL} {w:iM} {A:iO} {E:iG->iJ->Prop} {h:Heap} {g:Array lG} {d:Drawn} {t:Nat} {os:j6} {a C:Addr} {o:Obj}
theorem qfn (X:K.In h) (b:Looks (model prog w) h (typeOf (.ref a)) (.ref C)) (c:mroIn K C (.type "object")=iD iI) (hq:R (.ok (.ret (.ref C))) ⟨h,g,d,t,os⟩):codeAny (model prog w) A (.call (.builtin "getset_descriptor.__get__") ⟨[.builtin "object.__class__",.ref a,.ref C],[]⟩) R ⟨h,g,d,t,os⟩:=by
 have L:=looks_mroIn (M:=model prog w) X c;refine codeAny_call_builtin KF.slot_gs.plain KF.entry_gs (KF.slot_gs.check _ _ _ _ _ _ _ _ hJ (KF.args_gs _ _ _) ?_);unfold Builtin.«getset_descriptor.__get__» descrGet;rw [dga_obj];refine iE (iK ?_);unfold descrGetter descrCheckInstance descrNameAndClass isInstance;simp only [KF.owner_class];repeat lk
 refine ⟨Code.quiet_builtin _ (by decide +kernel),iZ KF.entry_class ?_⟩;unfold Builtin.«object.__class__» shownTypeOf;repeat lk
 exact hq
theorem qa2 {n:iG} {Q:Unit->iJ->Prop} (X:K.In h) (e:Looks (model prog w) h (typeOf (.ref a)) (.ref C)) (c:subIn K (.ref C) (.type "BaseException")=iD iI) (hq:Q () ⟨h,g,d,t,os⟩):wpAny (model prog w) A (checkBuiltinCall "BaseException.__getattribute__" ⟨[.ref a,n],[]⟩) Q E ⟨h,g,d,t,os⟩:=by
 have k:builtinKind "BaseException.__getattribute__"=iD .slot:=by decide +kernel
 have b:splitId "BaseException.__getattribute__"=iD ("BaseException", "__getattribute__"):=by decide +kernel
 have f:=F.args_bexc_ga (.ref a) n;have L:Looks (model prog w) h (isInstance (.ref a) (.type "BaseException")) true:=e.andThen (looks_subIn X c);simp only [checkBuiltinCall,k,b];refine iE (L.at ?_);repeat (first | assumption | wp_step)
theorem qa3 {tk:Tok} {Q:Fin->iJ->Prop} (X:K.In h) (b:Looks (model prog w) h (typeOf (.ref a)) (.ref C)) (g3:findIn K (.ref C) "__class__"=iD (iD (.builtin "object.__class__"))) (c:mroIn K C (.type "object")=iD iI) (hq:Q (.done (.ret (.ref C))) ⟨h,g,d,t,os⟩):wpAny (model prog w) A (Builtin.«object.__getattribute__» ⟨[.ref a,.str "__class__" tk],[]⟩) Q E ⟨h,g,d,t,os⟩:=by
 have L:=looks_findIn (M:=model prog w) X g3;have e:(⟨h,g,d,t,os⟩:iJ).TypeIs (.builtin "object.__class__") "getset_descriptor":=hJ;have f5:=hJ;have i:=F.slot_gs_get.lookup;have f:=F.slot_gs_set.lookup;repeat (any_goals (first | assumption | with_reducible refine b.at ?_ | with_reducible refine L.at ?_ | wp_step))
 refine qfn X b c ?_;repeat (any_goals (first | assumption | wp_step))
theorem qdp {tk:Tok} (X:K.In h) (b:Looks (model prog w) h (typeOf (.ref a)) (.ref C)) (c:subIn K (.ref C) (.type "BaseException")=iD iI) (g3:findIn K (.ref C) "__class__"=iD (iD (.builtin "object.__class__"))) (m:mroIn K C (.type "object")=iD iI) (hq:R (.ok (.ret (.ref C))) ⟨h,g,d,t,os⟩):codeAny (model prog w) A (.call (.builtin "BaseException.__getattribute__") ⟨[.ref a,.str "__class__" tk],[]⟩) R ⟨h,g,d,t,os⟩:=
 codeAny_call_builtin F.excAttr_ValueError.ga.plain F.entry_bexc_ga (qa2 X b c (qa3 X b g3 m hq))
theorem qg7 {tk:Tok} {f e:Bool} {Q:iG->iJ->Prop} (X:K.In h) (L:Looks (model prog w) h (typeOf (.ref a)) (.ref C)) (s:subIn K (.ref C) (.type "BaseException")=iD iI) (g1:findIn K (.ref C) "__getattribute__"=iD (iD (.builtin "BaseException.__getattribute__"))) (g2:findIn K (.ref C) "__getattr__"=iD iF)
  (g3:findIn K (.ref C) "__class__"=iD (iD (.builtin "object.__class__"))) (m:mroIn K C (.type "object")=iD iI) (hq:Q (.ref C) ⟨h,g,d,t,os⟩) :
  wpAny (model prog w) A (getAttrBy (.ref a) (.str "__class__" tk) f e) Q E ⟨h,g,d,t,os⟩:=by
 have j:=looks_findIn (M:=model prog w) X g1;have L2:=looks_findIn (M:=model prog w) X g2;have k:=F.excAttr_ValueError.ga.bind (.ref a);have i:(e&&onTheHeap (dj "BaseException.__getattribute__"))=false:=by cases e <;> rfl
 have b:(dj "BaseException.__getattribute__" == dj "object.__getattribute__")=false:=by decide +kernel
 have c:(onTheHeap (br C)&&dj "BaseException.__getattribute__" == dj "object.__getattribute__")=false:=by rw [b]; rfl
 repeat (any_goals (first | assumption | with_reducible refine L.at ?_ | with_reducible refine j.at ?_ | with_reducible refine L2.at ?_ | wp_step))
 refine qdp X L s g3 m ?_;repeat (any_goals (first | assumption | wp_step))
theorem qdq {Q:Option iG->iJ->Prop} (X:K.In h) (b:Looks (model prog w) h (typeOf (.ref a)) (.ref C)) (c:subIn K (.ref C) (.type "BaseException")=iD iI) (g1:findIn K (.ref C) "__getattribute__"=iD (iD (.builtin "BaseException.__getattribute__"))) (g2:findIn K (.ref C) "__getattr__"=iD iF)
  (g3:findIn K (.ref C) "__class__"=iD (iD (.builtin "object.__class__"))) (m:mroIn K C (.type "object")=iD iI) (hq:Q (iD (.ref C)) ⟨h,g,d,t+1,os⟩) :
  wpAny (model prog w) A (getAttr? (.ref a) "__class__") Q E ⟨h,g,d,t,os⟩:=by
 unfold getAttr? getAttrBy?;exact iE (wpAny_mkText (iE (j3 (qg7 X b c g1 g2 g3 m (iK hq)))))
end
noncomputable def xcB (K:Frag) (C:Addr):Bool:=decide (subIn K (.ref C) (.type "BaseException")=iD iI)&&decide (findIn K (.ref C) "__getattribute__"=iD (iD (.builtin "BaseException.__getattribute__")))&&decide (findIn K (.ref C) "__getattr__"=iD iF) &&
 decide (findIn K (.ref C) "__class__"=iD (iD (.builtin "object.__class__")))&&decide (mroIn K C (.type "object")=iD iI)&&(clsIn K C).isSome
def qdr (a C:Addr) (h:Heap):Prop:=∃ o vs,h.get? a=iD o/\o.cls=.ref C/\o.data=.fields vs
theorem qa4 {a C:Addr} (b:xcB K C=iI):KitX K (.ref a) (.ref C) (qdr a C):=by
 unfold xcB at b;simp only [aZ,decide_eq_true_eq] at b;obtain ⟨⟨⟨⟨⟨b1,b2⟩,y⟩,o⟩,f⟩,c⟩:=b;have ty:∀ (M:Model) (h:Heap),qdr a C h->Looks M h (typeOf (.ref a)) (.ref C):=λM h ⟨r,vs,e1,i,D⟩=>by rw [<-i]; exact (Looks.ld e1).andThen .now
 refine ⟨λM h _ x=>ty M h x,λM h X _=>?_,λh p dd its n sl X l=>?_,λ{prog w A E Q s} X x hq=>?_⟩
 ·unfold clsIn at c;split at c;·rename_i T d' e j m;intro z u v s' k q;unfold isType loadHead;exact iE (wpAny_loadPart (k _ _ (X _ _ m)) (iK q))
  ·cases c
 ·refine Bool.eq_false_iff.mpr λq=>?_;have q:br C=br p:=beq_iff_eq.mp q;cases q;unfold clsIn at c;split at c;·rename_i T d' e j m;rw [X _ _ m] at l;cases l
  ·cases c
 ·obtain ⟨h,g,d,t,os⟩:=s;exact qdq X (ty _ h x) b1 b2 y o f hq
noncomputable def gF (ans:Addr->Option Bool):D->Out D
 | .xcp C=>match ans C with
  | some b=>.ok (.bl b)
  | none=>.bad
 | _=>.bad
variable {cn:Str}
section
variable {X:Cx} {C:Ct} {own:List Nat} {a:Expr} {fa:Sl->Out (D×Sl)} {ma:Mo} {pos:Pos} {cls:iG} {vc:V} {ans:Addr->Option Bool}
theorem Uu (g:∀ Cc b,ans Cc=iD b->xcB X.K Cc=iI/\kitOne X.K (.ref Cc) cls=iD b) (k:RelV vc cls):ya X (.builtin "isinstance") (λxs H Q=>∃ x F d,xs=[x,vc]/\Same F H/\TopIs C.K F H x d/\PoV C .sh F H (gF ans d) Q):=by
 intro pins s σ H xs us Q I r h;obtain ⟨x,F,d,rfl,i,f,po⟩:=h;obtain ⟨u,c,rfl,j,a⟩:=Xv r;cases d with
 | xcp Cc=>
  unfold gF at po;cases q:ans Cc with
  | none=>simp only [q] at po; exact po.elim
  | some b=>
   simp only [q] at po;obtain ⟨h1,h2⟩:=g Cc b q;rcases f with f | ⟨_,_,f⟩
   ·cases f with
    | @xcp ad _ hF=>
     cases j;have hx:qdr ad Cc s.heap:=(show ObjOk X.prog X.w H s.heap ad (gY ad Cc) from I.hok ad _ (i _ _ hF)).1;have e:cls=c:=by
      cases vc with
      | ref z=>exact (show cls=br z from k).trans (show c=br z from a).symm
      | ty z=>exact (show cls=fE z from k).trans (show c=fE z from a).symm
      | non=>exact (show cls=bT from k).trans (show c=bT from a).symm
      | bl z=>exact (show cls=bg z from k).trans (show c=bg z from a).symm
      | int z=>obtain ⟨t,rfl⟩:=k; unfold kitOne kitCls at h2; simp at h2
      | str z=>obtain ⟨t,rfl⟩:=k; unfold kitOne kitCls at h2; simp at h2
      | byt z=>obtain ⟨t,rfl⟩:=k; unfold kitOne kitCls at h2; simp at h2
      | flt z=>obtain ⟨t,rfl⟩:=k; unfold kitOne kitCls at h2; simp at h2
     subst e;exact kia_one (qa4 h1) I.kIn hx h2 (λz=>nomatch z) λtk=>⟨.bl b,H,I.tok tk,rfl,po _ F H i .refl (.bl b)⟩
   ·exact f.elim
 | _=>exact po.elim
theorem Uv {σ:St} {H:Hp} {Q:VK} (h:tE C own .sh (d1 (gF ans) fa) σ H Q):Yv (tE C own ma fa) (Yv (tC vc) qeQ) σ H λxs H1=>∃ x F d,xs=[x,vc]/\Same F H1/\TopIs C.K F H1 x d/\PoV C .sh F H1 (gF ans d) Q:=by
 obtain ⟨F,ρ,r,h⟩:=JW (ma:=ma) h;refine ⟨F,ρ,r,?_⟩;cases q:fa ρ with
 | ok p=>rw [q] at h;obtain ⟨d,ρ1⟩:=p;intro v F1 H1 a l m;obtain ⟨b,dx,z⟩:=h v F1 H1 a l m;exact ⟨v,b,dx,rfl,z⟩
 | exc c=>rw [q] at h; exact h
 | bad=>rw [q] at h; exact h.elim
theorem ww {Ct:Addr} {p t:Pos} (hg:Gl X "isinstance") (m:X.mg "isinstance"=iF) (d:bootBuiltins "isinstance"=iD (.builtin "isinstance")) (l:Gl X cn) (e:X.mg cn=iD (.ref Ct)) (g:∀ Cc b,ans Cc=iD b->xcB X.K Cc=iI/\kitOne X.K (.ref Cc) (.ref Ct)=iD b) (f:PE X a (tE C own ma fa)) (c:(cn == ("__debug__":Str))=false:=by decide)
  (h1:starEach [a,.Name cn t] X.env=(iH,eval a X.env)::starEach [.Name cn t] X.env:=by rfl) (h2:starEach [.Name cn t] X.env=[(iH,eval (.Name cn t) X.env)]:=by rfl):PE X (.Call (.Name "isinstance" p) [a,.Name cn t] [] pos) (tE C own .sh (d1 (gF ans) fa)):=
 jh (wE (Uu (vc:=.ref Ct) g rfl) hg m d (qT f (qT (Xl (v:=.ref Ct) l e rfl c) jU h2) h1) (by decide) (by decide) (by rw [h1]) (by rw [h2]; rfl)) λσ H Q h=>Uv h
theorem qds {T:String} {p t:Pos} (hg:Gl X "isinstance") (m:X.mg "isinstance"=iF) (f:bootBuiltins "isinstance"=iD (.builtin "isinstance")) (l:Gl X cn) (e:X.mg cn=iF) (c:bootBuiltins cn=iD (.type T)) (g:∀ Cc b,ans Cc=iD b->xcB X.K Cc=iI/\kitOne X.K (.ref Cc) (.type T)=iD b) (i:PE X a (tE C own ma fa)) (n:cn ≠ "__name__":=by decide) (d:(cn == ("__debug__":Str))=false:=by decide)
  (h1:starEach [a,.Name cn t] X.env=(iH,eval a X.env)::starEach [.Name cn t] X.env:=by rfl) (h2:starEach [.Name cn t] X.env=[(iH,eval (.Name cn t) X.env)]:=by rfl):PE X (.Call (.Name "isinstance" p) [a,.Name cn t] [] pos) (tE C own .sh (d1 (gF ans) fa)):=
 jh (wE (Uu (vc:=.ty T) g rfl) hg m f (qT i (qT (Xm (v:=.ty T) l e c rfl n d) jU h2) h1) (by decide) (by decide) (by rw [h1]) (by rw [h2]; rfl)) λσ H Q h=>Uv h
end
end L2.D2
namespace L2.D2
open PySem PySem.Spec PyProof.Rows
variable {P:iL} {w:iM} {K:Frag} {N:List Str} {A:iO} {C:Ct}
theorem xA {mg:Str->Option iG} {base:Heap} {qual:Str} {scope:lm} {f:Addr} {cd:iG} {outer:List Env} {s0:iJ} {H0:Hp} {E:XK} (h:C.E=E):Zk (cxk P w K mg base N qual scope f cd A outer s0 H0 E) C:=by subst h;exact qff
theorem RoomQ.mono {j k:Nat} (r:RoomQ k A) (h:j<=k):RoomQ j A:=⟨by have:=r.dp; omega,by have:=r.un; omega⟩
noncomputable def Zs (ca:Str->Addr) (cs:List Str) (c:Str):Option Addr:=if c∈cs then iD (ca c) else iF
noncomputable def Kz (ca:Str->Addr) (cs:List Str) (x:Str) (C:Addr):Option Bool:=if C∈cs.map ca then iD (decide (C=ca x)) else iF
noncomputable def qfo (ca:Str->Addr) (cs:List Str) (C:Addr):Option Bool:=if C∈cs.map ca then iD iI else iF
structure Xs (K:Frag) (cv:Str->iG) (ca:Str->Addr) (cs:List Str) (top:Str):Prop where
 val:∀ c∈cs,cv c=.ref (ca c)
 own:∀ c∈cs,bP K (.ref (ca c)) (cv top)=iD iI
 cls:∀ c∈cs,xcB K (ca c)=iI
 kit:∀ c∈cs,∀ d∈cs,cj K (.ref (ca c)) (.ref (ca d))=iD (decide (ca c=ca d))
 ve:∀ c∈cs,cj K (.ref (ca c)) (.type "ValueError")=iD iI
variable {x:Str}
section
variable {cv:Str->iG} {ca:Str->Addr} {cs:List Str} {top:Str}
theorem Xs.hit (z:Xs K cv ca cs top):∀ c Cc,Zs ca cs c=iD Cc->cv c=.ref Cc/\bP K (.ref Cc) (cv top)=iD true:=λc Cc h=>by
 unfold Zs at h;split at h;·cases h;exact ⟨z.val c (by assumption),z.own c (by assumption)⟩
 ·cases h
theorem Xs.ans (z:Xs K cv ca cs top) (hx:x∈cs):∀ Cc b,Kz ca cs x Cc=iD b->xcB K Cc=iI/\cj K (.ref Cc) (.ref (ca x))=iD b:=λCc b h=>by
 unfold Kz at h;split at h;·rename_i m;obtain ⟨c,d,rfl⟩:=aF.mp m;cases h;exact ⟨z.cls c d,z.kit c d x hx⟩
 ·cases h
theorem Xs.ansV (z:Xs K cv ca cs top):∀ Cc b,qfo ca cs Cc=iD b->xcB K Cc=iI/\cj K (.ref Cc) (.type "ValueError")=iD b:=λCc b h=>by
 unfold qfo at h;split at h;·rename_i m;obtain ⟨c,d,rfl⟩:=aF.mp m;cases h;exact ⟨z.cls c d,z.ve c d⟩
 ·cases h
end
inductive SK where
 | l | t
noncomputable def SK.itc:SK->String
 | .l => "list_iterator"
 | .t => "tuple_iterator"
def SeqK (h:Heap) (a:Addr):SK->Array iG->Prop
 | .l,xs=>h.IsList a xs
 | .t,xs=>h.IsTuple a xs
def ItK (h:Heap) (it a:Addr):SK->Nat->Prop
 | .l,i=>h.IsListIter it a i
 | .t,i=>h.IsTupleIter it a i
def SqK (K:Frag) (H:Hp) (a:Addr):SK->List V->Prop
 | .l,xs=>SqL K H a xs
 | .t,xs=>SqT K H a xs
variable {h h':Heap} {a:Addr} {xs:Array iG}
theorem SeqK.at:∀ {k:SK},SeqK h a k xs->(∀ o,h.get? a=iD o->h'.get? a=iD o)->SeqK h' a k xs
 | .l,⟨o,e,c⟩,k=>⟨o,k _ e,c⟩
 | .t,⟨o,e,c⟩,k=>⟨o,k _ e,c⟩
theorem SeqK.lt:∀ {k:SK},SeqK h a k xs->a < h.objs.size
 | .l,⟨o,e,c⟩=>aE e
 | .t,⟨o,e,c⟩=>aE e
variable {it:Addr} {i:Nat}
theorem ItK.obj:∀ {k:SK},ItK h it a k i->∃ o,h.get? it=iD o/\o.cls=.type k.itc/\o.data=.fields #[.ref a,.int i 0]
 | .l,⟨o,e,c,d⟩=>⟨o,e,c,d⟩
 | .t,⟨o,e,c,d⟩=>⟨o,e,c,d⟩
theorem ItK.of:∀ {k:SK},(∃ o,h.get? it=iD o/\o.cls=.type k.itc/\o.data=.fields #[.ref a,.int i 0])->ItK h it a k i
 | .l,⟨o,e,c,d⟩=>⟨o,e,c,d⟩
 | .t,⟨o,e,c,d⟩=>⟨o,e,c,d⟩
variable {E:iG->iJ->Prop} {prog:iL} {s:iJ} {Q:Option iG->iJ->Prop} {l:Addr} {items:Array iG} {o:Obj} {n:Nat}
section
theorem qa5 {k:SK} {Q:iG->iJ->Prop} (h:SeqK s.heap a k xs) (c:Q (.ref s.heap.objs.size) { s with heap:=s.heap.push { cls:=.type k.itc,data:=.fields #[.ref a,.int 0 0] } }):wpAny (model prog w) A (pyIter (.ref a)) Q E s:=by
 cases k with
 | l=>exact wpAny_pyIter_list h c
 | t=>exact wpAny_pyIter_tuple h c
noncomputable def SK.cl:SK->String
 | .l => "list"
 | .t => "tuple"
theorem Zu {k:SK} (b:A.handled=iF) (hi:ItK s.heap it l k i) (hl:SeqK s.heap l k items) (hx:items[i]?=iF) (c:∀ h',g6 it s.heap h'->Q iF { s with heap:=h' }):wpAny (model prog w) A (pyNext (.ref it)) Q E s:=by
 cases k with
 | l=>exact wpAny_pyNext_list_end b hi hl hx c
 | t=>exact wpAny_pyNext_tuple_end b hi hl hx c
theorem YI {k:SK} {x:iG} (hi:ItK s.heap it l k i) (hl:SeqK s.heap l k items) (hx:items[i]?=iD x) (c:∀ h',ItK h' it l k (i+1)->bM it s.heap h'->Q (iD x) { s with heap:=h' }):wpAny (model prog w) A (pyNext (.ref it)) Q E s:=by
 cases k with
 | l=>exact wpAny_pyNext_list_item hi hl hx c
 | t=>exact wpAny_pyNext_tuple_item hi hl hx c
theorem SeqK.of (e:h.get? a=iD o) (d:o.data=.seq xs n):∀ {k:SK},o.cls=.type k.cl->SeqK h a k xs
 | .l,c=>⟨o,e,c,n,d⟩
 | .t,c=>⟨o,e,c,n,d⟩
end
variable {sk:SK}
section
theorem YJ:typeLookup (.type "tuple") "keys"=pure none:=by rw [lx,li]; kernel_rfl
theorem gI {k:Nat} {Q:Option iG->iJ->Prop} (n:A.handled=iF) (hx:s.heap.get? a=iD o) (l:o.cls=.type "tuple") (t:o.data=.seq xs k) (hd:o.dict=iF)
  (h:∀ h' tk,(∀ b j,s.heap.get? b=iD j->h'.get? b=iD j)->Q iF { s with heap:=h',toks:=tk }):wpAny (model prog w) A (getAttr? (.ref a) "keys") Q E s:=by
 obtain ⟨c,dct,dat,sl⟩:=o;simp only at l t hd;subst l t hd;obtain ⟨hp,g,d,tk,os⟩:=s;have hT:∀ f,(⟨hp,g,d,f,os⟩:iJ).TypeIs (.ref a) "tuple":=λ_=>⟨_,hx,rfl⟩
 have f1:=sub_AttributeError;have r:=dP.lookup;have f4:=dP.bind (.ref a);have f5:=am_tuple_getattr_none;have p:=YJ;have m:(["__module__", "__name__", "__qualname__", "__doc__", "__annotations__"]:List Str).contains ("keys":Str)=false:=by decide +kernel
 have z:("keys":Str).length+100<=sizeLine:=by rw [iR]; decide +kernel
 unfold getAttr? getAttrBy?;refine iE (wpAny_mkText (iE (j3 ?_)));unfold getAttrBy;repeat (any_goals (first | assumption | exact hT _ | ((with_reducible show wpAny _ _ (call (dj "tuple.__getattribute__") _ _) _ _ _); refine j9 dP (hT _) am_entry_tuple_getattribute (F.args_tuple_getattribute_2 _ _) (meets_getattribute_miss_tuple a xs k sl "keys" _ p m z) ⟨hx,n,λh' f e i=>?_⟩) | wp_step))
 obtain ⟨t',V,q⟩:=i.there;show wpAny _ _ (getattributeRaised _ _ _ _ _ _ _) _ _ _;unfold getattributeRaised;repeat (any_goals (first | assumption | wp_step))
 exact h h' f i.keeps
theorem YK:typeLookup (.type "list") "keys"=pure none:=by rw [lx,li]; kernel_rfl
theorem zK {k:Nat} {Q:Option iG->iJ->Prop} (n:A.handled=iF) (hx:s.heap.get? a=iD o) (l:o.cls=.type "list") (t:o.data=.seq xs k) (hd:o.dict=iF)
  (h:∀ h' tk,(∀ b j,s.heap.get? b=iD j->h'.get? b=iD j)->Q iF { s with heap:=h',toks:=tk }):wpAny (model prog w) A (getAttr? (.ref a) "keys") Q E s:=by
 obtain ⟨c,dct,dat,sl⟩:=o;simp only at l t hd;subst l t hd;obtain ⟨hp,g,d,tk,os⟩:=s;have hT:∀ f,(⟨hp,g,d,f,os⟩:iJ).TypeIs (.ref a) "list":=λ_=>⟨_,hx,rfl⟩
 have f1:=sub_AttributeError;have r:=dW.lookup;have f4:=dW.bind (.ref a);have f5:=am_list_getattr_none;have p:=YK;have m:(["__module__", "__name__", "__qualname__", "__doc__", "__annotations__"]:List Str).contains ("keys":Str)=false:=by decide +kernel
 have z:("keys":Str).length+100<=sizeLine:=by rw [iR]; decide +kernel
 unfold getAttr? getAttrBy?;refine iE (wpAny_mkText (iE (j3 ?_)));unfold getAttrBy;repeat (any_goals (first | assumption | exact hT _ | ((with_reducible show wpAny _ _ (call (dj "list.__getattribute__") _ _) _ _ _); refine j9 dW (hT _) am_entry_list_getattribute (F.args_list_getattribute_2 _ _) (meets_getattribute_miss_list a xs k sl "keys" _ p m z) ⟨hx,n,λh' f e i=>?_⟩) | wp_step))
 obtain ⟨t',V,q⟩:=i.there;show wpAny _ _ (getattributeRaised _ _ _ _ _ _ _) _ _ _;unfold getattributeRaised;repeat (any_goals (first | assumption | wp_step))
 exact h h' f i.keeps
theorem xB:entryFor table "dict.update.loop"=iD Builtin.«dict.update.loop»:=entryFor_of_tree (by kernel_rfl)
theorem kR:plainId "dict.update.loop"=true:=by decide +kernel
def Zv (h:Heap) (v key val:iG):Prop:=∃ p o n,v=.ref p/\h.get? p=iD o/\o.cls=.type "tuple"/\o.data=.seq #[key,val] n
theorem qa6 {sk:SK} {R:lL->iJ->Prop} {d t:Addr} (hh:A.in1.handled=iF) (S:d≠t) (u:d≠it) (N:t≠it):∀ (n i:Nat) (s:iJ) (kvs:List (Key×iG)) (ps:List (Key×iG×iG)),items.size - i=n->i<=items.size ->ItK s.heap it t sk i->SeqK s.heap t sk items->s.heap.DictOf (ju prog w) d kvs->ps.length=n->(∀ j p,ps[j]?=iD p->∃ v,items[i+j]?=iD v/\gG p.1 p.2.1=iI/\Zv s.heap v p.2.1 p.2.2)->kvs.length+n<=sizeLine ->(∀ h' tk,h'.DictOf (ju prog w) d (ps.foldl (λl p=>stored l p.1 p.2.2) kvs)->(∀ b o,b≠d->b≠it->s.heap.get? b=iD o->h'.get? b=iD o)->R (.ok (.ret .none)) { s with heap:=h',toks:=tk }) ->codeAny (model prog w) A (.builtin "dict.update.loop" ⟨[.ref d,.ref it,rawInt i,.none],[]⟩) R s:=by
 intro n
 induction n with
 | zero=>intro i s kvs ps hn hi st H hd hl hp hz W;have e:ps=[]:=List.length_eq_zero_iff.mp hl;subst e;refine iZ xB ?_;rw [cg kR _];show wpAny _ A.in1 (pyNext (.ref it) >>= _) _ _ s;refine iE (Zu hh st H (by simp; omega) λh' Z=>?_);show wpAny _ A.in1 (ret bT) _ _ _;refine iK (W h' s.toks ?_ λb o _ h2 e=>Z b o h2 e);obtain ⟨o,es,ep,D,r⟩:=hd;exact ⟨o,es,ep,Z d o u D,r⟩
 | succ n ih=>
  intro i s kvs ps hn hi st H hd hl hp hz W;cases ps with
  | nil=>simp at hl
  | cons p ps=>
   obtain ⟨v,hv,hk,q,X,nq,rfl,hq,P,c⟩:=hp 0 p rfl;obtain ⟨od,es,ep,g,hdx,a⟩:=id hd;have nqd:q≠d:=λz=>by subst z;rw [hq] at g; cases g;rw [a.1] at c; cases c
   obtain ⟨oi,f,hic,E⟩:=st.obj;have K:q≠it:=λz=>by subst z;rw [hq] at f; cases f;rw [E] at c; cases c
   refine iZ xB ?_;rw [cg kR _];show wpAny _ A.in1 (pyNext (.ref it) >>= _) _ _ s;refine iE (YI st H (x:=.ref q) (by simpa using hv) λh' I G=>?_);have C:h'.get? q=iD X:=(G.2 q K).trans hq;have V:fN { s with heap:=h' } (.ref q) "tuple":=⟨X,C,P⟩
   have U:h'.DictOf (ju prog w) d kvs:=by obtain ⟨o,es,ep,D,r⟩:=hd;exact ⟨o,es,ep,(G.2 d u).trans D,r⟩
   have O:SeqK h' t sk items:=H.at λo D=>(G.2 t N).trans D;dsimp only;refine iE (iX (iE ?_));refine wpAny_tryCatch ?_;unfold Builtin.Dict.pairItems;refine iE (ll V ?_);rw [if_pos (by decide)];refine iE (iT C c (iK ?_));show wpAny _ A.in1 (holding [p.2.1,p.2.2] (dictSet d p.2.1 p.2.2)) _ _ _;refine iX (wpAny_dictSet_pairs (knd:=ju prog w) hk U (λh2 hd2 k=>?_) (by omega));have keep:∀ b o,b≠d->b≠it->s.heap.get? b=iD o->h2.get? b=iD o:=λb o n1 n2 e=>(k.2 b n1).trans ((G.2 b n2).trans e);have Y:(stored kvs p.1 p.2.2).length<=kvs.length+1:=by unfold stored;split <;> simp
   refine iK ⟨lp kR _,?_⟩;have ec:rawInt ((i:Int)+1)=rawInt ((i+1:Nat):Int):=by push_cast; rfl
   rw [ec];refine ih (i+1) _ (stored kvs p.1 p.2.2) ps (by omega) (by omega) ?_ ?_ hd2 (by simpa using hl) (λj F e=>?_) (by omega) λh3 tk T k3=>?_;·obtain ⟨o,e,r⟩:=I.obj;exact .of ⟨o,(k.2 it (be u)).trans e,r⟩
   ·exact O.at λo e=>(k.2 t (be S)).trans e
   ·obtain ⟨v',M,Q,J,y,L,rfl,m,B,h⟩:=hp (j+1) F (by simpa using e);refine ⟨.ref J,by rw [show i+1+j=i+(j+1) by omega]; exact M,Q,J,y,L,rfl,keep J y (λz=>?_) (λz=>?_) m,B,h⟩;·subst z;rw [m] at g; cases g;rw [a.1] at h; cases h
    ·subst z;rw [m] at f; cases f;rw [E] at h; cases h
   ·exact W h3 tk T λb o n1 n2 e=>k3 b o n1 n2 (keep b o n1 n2 e)
theorem zL {t:Addr} {ps:List (Key×iG×iG)} {Q:iG->iJ->Prop} (J:A.handled=iF) {m:Obj} {nt:Nat} (z:s.heap.get? t=iD m) (d:m.cls=.type sk.cl) (n:m.dict=iF) (f:m.data=.seq items nt)
  (hl:ps.length=items.size) (hp:∀ (j:Nat) (p:Key×iG×iG),ps[j]?=iD p->∃ v,items[j]?=iD v/\gG p.1 p.2.1=iI/\Zv s.heap v p.2.1 p.2.2) (M:items.size<=sizeLine)
  (h:∀ h' tk,h'.DictOf (ju prog w) s.heap.objs.size (ps.foldl (λl p=>stored l p.1 p.2.2) [])->(∀ b o,s.heap.get? b=iD o->h'.get? b=iD o)->Q (.ref s.heap.objs.size) { s with heap:=h',toks:=tk }) :
  wpAny (model prog w) A (call (.type "dict") [.ref t]) Q E s:=by
 refine callType_codes (Q₁:=λobj k=>obj=.ref s.heap.objs.size/\k={ s with heap:=s.heap.push { cls:=.type "dict",data:=.dict #[] } }) F.kt_called_dict (F.kt_typeCall_dict_1 _) F.entry_dict_init (kt_code_dict_new _ ⟨rfl,rfl⟩) ?_;rintro obj k ⟨rfl,rfl⟩;have i:(s.heap.push { cls:=.type "dict",data:=.dict #[] }).DictOf (ju prog w) s.heap.objs.size []:=Heap.DictOf.new s.heap;refine ⟨i.typeIs,F.args_dict_init_2 _ _,?_⟩;unfold Builtin.«dict.__init__»;refine iE ?_;unfold Builtin.Dict.selfAndRest;refine iE (wpAny_notOrdered_dict i.typeIs ?_);show wpAny _ _ (pure (s.heap.objs.size,[br t])) _ _ _;refine iK ?_;show wpAny _ _ (Builtin.Dict.updateFrom "dict.__init__" s.heap.objs.size (.ref t) [] .none) _ _ _;unfold Builtin.Dict.updateFrom;have g:(s.heap.push { cls:=.type "dict",data:=.dict #[] }).get? t=iD m:=aa _ z;have C:t < s.heap.objs.size:=aE z;refine iE (ll (T:=sk.cl) ⟨m,g,d⟩ ?_);rw [if_pos (by cases sk <;> decide)];have P:∀ {K:Option iG->iJ->Prop} {A1:iO} {R:iG->iJ->Prop} {s1:iJ},A1.handled=iF->s1.heap.get? t=iD m->(∀ h' tk,(∀ b I,s1.heap.get? b=iD I->h'.get? b=iD I)->K iF { s1 with heap:=h',toks:=tk })->wpAny (model prog w) A1 (getAttr? (.ref t) "keys") K R s1:=λa b c=>by
  cases sk with
  | l=>exact zK a b d f n c
  | t=>exact gI a b d f n c
 refine iE (P (by exact J) g λh1 H k1=>?_);rw [if_pos (show (iF:Option iG).isNone=iI from rfl)];refine iE (j8 ?_);have y:h1.get? t=iD m:=k1 _ _ g;have D:h1.DictOf (ju prog w) s.heap.objs.size []:=by obtain ⟨o,es,ep,B,r⟩:=i;exact ⟨o,es,ep,k1 _ _ B,r⟩
 have x:SeqK h1 t sk items:=.of y f d;refine iE (qa5 (s:={ s with heap:=h1,toks:=H }) x ?_);have u:s.heap.objs.size < h1.objs.size:=let ⟨o,es,ep,B,r⟩:=D; aE B;have up:∀ b o,s.heap.get? b=iD o->(h1.push { cls:=.type sk.itc,data:=.fields #[.ref t,.int 0 0] }).get? b=iD o:=λb o e=>aa _ (k1 _ _ (aa _ e));refine iK ⟨lp kR _,?_⟩;refine qa6 (items:=items) (t:=t) (A:=A.in1) (show A.in1.in1.handled=iF from J) (dH C) (aL u) (aL (eJ C u)) items.size 0 _ [] ps (by omega) (bA _) (.of ⟨_,aq _ rfl,rfl,rfl⟩) ?_ ?_ hl (λj p e=>?_) (by simpa using M) λh2 G hd2 k2=>⟨rfl,h h2 G hd2 λb o e=>?_⟩
 ·exact .of (aa _ y) f d
 ·obtain ⟨o,es,ep,B,r⟩:=D;exact ⟨o,es,ep,aa _ B,r⟩
 ·obtain ⟨v,N,O,q,X,L,rfl,hq,r⟩:=hp j p e;exact ⟨.ref q,by simpa using N,O,q,X,L,rfl,up q X hq,r⟩
 ·have hb:=aE e;exact k2 b o (aL hb) (aL (eJ hb u)) (up b o e)
end
noncomputable def qaj:D->Option Key
 | .int i=>iD (.inl i)
 | .str x=>iD (.inr x)
 | _=>iF
noncomputable def Zw (kvs:List (Key×D)) (k:Key) (d:D):List (Key×D):=if kvs.any (λp=>decide (p.1=k)) then kvs.map λp=>if p.1=k then (p.1,d) else p else kvs++[(k,d)]
noncomputable def qa7:D->Option (Key×D)
 | .tup [k,v]=>(qaj k).map λk=>(k,v)
 | _=>iF
noncomputable def uR:List D->Option (List (Key×D))
 | []=>iD []
 | d::ds=>match qa7 d,uR ds with
  | some p,iD ps=>iD (p::ps)
  | _,_=>iF
noncomputable def gJ:D->Out D
 | .tup ds=>match uR ds with
  | some ps=>.ok (.dct (ps.foldl (λl p=>Zw l p.1 p.2) []))
  | none=>.bad
 | _=>.bad
noncomputable def qfp (d:D):Out D:=(yu d).bind λds=>match uR ds with
 | some ps=>.ok (.dct (ps.foldl (λl p=>Zw l p.1 p.2) []))
 | none=>.bad
variable {d:D} {F H:Hp} {v:V} {ds:List D}
theorem qch (s:Same F H) (h:TopIs K F H v d) (e:yu d=.ok ds):∃ a k xs,v=.ref a/\SqK K H a k xs/\IsL K F xs ds:=by
 cases d with
 | lst es=>cases e; obtain ⟨a,xs,rfl,q,t⟩:=h.lst s; exact ⟨a,.l,xs,rfl,q,t⟩
 | tup es=>cases e; obtain ⟨a,xs,rfl,q,t⟩:=h.tup s; exact ⟨a,.t,xs,rfl,q,t⟩
 | _=>cases e
theorem IsK.any {k:Key}:∀ {kv:List (Key×V)} {ks:List (Key×D)},IsK K F kv ks->(kv.any λp=>decide (p.1=k))=(ks.any λp=>decide (p.1=k))
 | _,_,.nil=>rfl
 | _,_,.cons h t=>by rw [di,di,IsK.any t]
theorem IsK.repl {k:Key} (i:Is K F v d):∀ {kv:List (Key×V)} {ks:List (Key×D)},IsK K F kv ks->IsK K F (kv.map λp=>if p.1=k then (p.1,v) else p) (ks.map λp=>if p.1=k then (p.1,d) else p)
 | _,_,.nil=>.nil
 | _,_,.cons (k:=k') h t=>by
  rw [ax,ax];by_cases e:k'=k;·simp only [e,if_true]; exact .cons i (IsK.repl i t)
  ·simp only [e,if_false]; exact .cons h (IsK.repl i t)
theorem IsK.snoc {k:Key} (i:Is K F v d):∀ {kv:List (Key×V)} {ks:List (Key×D)},IsK K F kv ks->IsK K F (kv++[(k,v)]) (ks++[(k,d)])
 | _,_,.nil=>.cons i .nil
 | _,_,.cons h t=>.cons h (IsK.snoc i t)
variable {kv:List (Key×V)}
theorem IsK.put {k:Key} {ks:List (Key×D)} (h:IsK K F kv ks) (i:Is K F v d):IsK K F (Vu kv k v) (Zw ks k d):=by
 unfold Vu Zw;rw [h.any];by_cases e:(ks.any λp=>decide (p.1=k))=iI;·rw [if_pos e,if_pos e]; exact IsK.repl i h
 ·rw [if_neg e,if_neg e]; exact IsK.snoc i h
theorem Uw:∀ {pv:List (Key×V)} {ps:List (Key×D)} {kv:List (Key×V)} {ks:List (Key×D)},IsK K F pv ps->IsK K F kv ks->IsK K F (pv.foldl (λl p=>Vu l p.1 p.2) kv) (ps.foldl (λl p=>Zw l p.1 p.2) ks)
 | _,_,_,_,.nil,h=>h
 | _,_,_,_,.cons i t,h=>by rw [bY,bY];exact Uw t (h.put i)
def qhJ (p:Key×V) (q:Key×iG×iG):Prop:=p.1=q.1/\RelV p.2 q.2.2
theorem Zx:∀ {pv:List (Key×V)} {tr:List (Key×iG×iG)} {kv:List (Key×V)} {vs:List (Key×iG)},lK qhJ pv tr->KV kv vs->KV (pv.foldl (λl p=>Vu l p.1 p.2) kv) (tr.foldl (λl p=>stored l p.1 p.2.2) vs)
 | _,_,_,_,.nil,h=>h
 | _,_,_,_,.cons r t,h=>by rw [bY,bY];refine Zx t ?_;rw [r.1];exact h.put _ r.2
theorem Ux:∀ {pv:List (Key×V)} {kv:List (Key×V)},(pv.foldl (λl p=>Vu l p.1 p.2) kv).length<=kv.length+pv.length
 | [],kv=>aG _
 | p::pv,kv=>by have h1:=@Ux pv (Vu kv p.1 p.2);have h2:=VG kv p.1 p.2;rw [bY,ac];omega
variable {X:Cx} {pins:List (Addr×Obj)} {σ:St} {u:iG} {vs:List V}
section
theorem gX {k:Key} (i:Is C.K F v d) (r:RelV v u) (e:qaj d=iD k):gG k u=true:=by
 cases d with
 | int z=>cases i; cases e; obtain ⟨t,rfl⟩:=r; exact JL z t
 | str z=>cases i; cases e; obtain ⟨t,rfl⟩:=r; exact JM z t
 | _=>cases e
theorem Uy (l:C.K=X.K) (I:Inv X pins σ H s) (f:Same F H):∀ {vs:List V} {us:List iG} {ds:List D} {ps:List (Key×D)},IsL C.K F vs ds->Vals vs us->uR ds=iD ps ->∃ (pv:List (Key×V)) (tr:List (Key×iG×iG)),IsK C.K F pv ps/\lK qhJ pv tr/\tr.length=us.length/\pv.length=us.length/\∀ (j:Nat) (p:Key×iG×iG),tr[j]?=iD p->∃ v,us[j]?=iD v/\gG p.1 p.2.1=iI/\Zv s.heap v p.2.1 p.2.2
 | _,_,_,_,.nil,.nil,e=>by cases e; exact ⟨[],[],.nil,.nil,rfl,rfl,λj p e=>by simp at e⟩
 | _,_,_,_,.cons (d:=d) (ds:=ds) i t,.cons (b:=u) r rs,e=>by
  unfold uR at e;cases q:qa7 d with
  | none=>rw [q] at e; cases e
  | some kd=>
   cases c:uR ds with
   | none=>rw [q,c] at e; cases e
   | some rest=>
    rw [q,c] at e;cases e;obtain ⟨pv,tr,h1,h2,y,h,x⟩:=Uy l I f t rs c;unfold qa7 at q;split at q
    ·rename_i dk z;obtain ⟨k,g,rfl⟩:=bQ.mp q;cases i with
     | @tup a xs _ hq il=>
      cases il with
      | @cons xk _ xr _ ik il2=>
       cases il2 with
       | @cons xv _ xr2 _ iv il3=>
        cases il3;cases r;obtain ⟨its,rv,⟨o,m,w,n,hd⟩,_⟩:=I.tuple (show SqT X.K H a [xk,xv] by rw [<-l]; exact je f hq);cases rv with
        | @cons _ uk _ _ rk rv2=>
         cases rv2 with
         | @cons _ uv _ _ rv3 rv4=>
          cases rv4;refine ⟨(k,xv)::pv,(k,uk,uv)::tr,.cons iv h1,.cons ⟨rfl,rv3⟩ h2,by simp [y],by simp [h],λj p e=>?_⟩;cases j with
          | zero=>simp at e;subst e;exact ⟨_,rfl,gX ik rk g,a,o,n,rfl,m,w,hd⟩
          | succ j=>simpa using x j p (by simpa using e)
    ·cases q
theorem qci (I:Inv X pins σ H s):∀ {k:SK},SqK X.K H a k vs->∃ its o n,Vals vs its/\s.heap.get? a=iD o/\o.cls=.type k.cl/\o.dict=iF/\o.data=.seq its.toArray n/\vs.length<=sizeLine
 | .l,h=>let ⟨its,rv,⟨o,n,m,c,b,hd⟩,z⟩:=I.list h; ⟨its,o,n,rv,m,c,b,hd,z⟩
 | .t,h=>by obtain ⟨its,rv,⟨o,m,c,n,hd⟩,z⟩:=I.tuple h;obtain ⟨o2,d,b⟩:=I.tupleN h;rw [m] at d; cases d;exact ⟨its,o,n,rv,m,c,b,hd,z⟩
theorem qa8 (m:C.K=X.K) (A:X.calm=iI):Kh X C .fr (.type "dict") qfp:=by
  intro pins s σ H xs us Q I r h;obtain ⟨x,F,dx,rfl,d,w,po⟩:=h;unfold qfp at po;cases e:yu dx with
  | bad=>rw [e] at po; exact po.elim
  | exc c o=>cases dx <;> cases e
  | ok ds=>
   rw [e] at po;have po:PoV C .fr F H (match uR ds with | some ps=>.ok (.dct (ps.foldl (λl p=>Zw l p.1 p.2) [])) | none=>.bad) Q:=po;cases q:uR ds with
   | none=>simp only [q] at po; exact po.elim
   | some ps=>
    simp only [q] at po;obtain ⟨a,sk,vs,rfl,hq,t⟩:=qch d w e;obtain ⟨u,rfl,y⟩:=QD r;cases y;rw [m] at hq;obtain ⟨its,o,n,rv,z,i,f,hd,L⟩:=qci I hq;obtain ⟨pv,tr,h1,h2,G,E,D⟩:=Uy m I d t rv q;have k:=rv.length;refine zL (ps:=tr) (I.ok.hd A) z i f hd (by simp [G]) (λj p e=>?_) (by simp; omega) λh' tk g kp=>?_;· obtain ⟨v,e1,J⟩:=D j p e;exact ⟨v,by simpa using e1,J⟩
    · have hp:H s.heap.objs.size=none:=I.hok.fresh (aG _);obtain ⟨s2,c2,B⟩:=yc (u:=.dK (pv.foldl (λl p=>Vu l p.1 p.2) [])) d hp;have hl:(pv.foldl (λl p=>Vu l p.1 p.2) ([]:List (Key×V))).length<=sizeLine:=by have:=@Ux pv [];simp at this;omega
      have b:(s.heap.objs.size == sysModules)=false:=beq_eq_false_iff_ne.mpr (dH I.big);refine ⟨.ref s.heap.objs.size,_,I.laid (o:=.dK (pv.foldl (λl p=>Vu l p.1 p.2) [])) (t':=tk) kp (aG _) (qeZ hl b (Zx h2 .nil) g),rfl,po _ F _ s2 c2 ⟨_,rfl,hp,B,_,qm,Uw h1 .nil⟩⟩
theorem VR (l:C.K=X.K) (d:X.calm=iI):Kh X C .fr (.type "dict") gJ:=by
 intro pins s σ H xs us Q I r h;obtain ⟨x,F,dx,rfl,q,t,po⟩:=h;cases dx <;> try exact po.elim
 exact qa8 l d pins s σ H _ us Q I r ⟨x,F,_,rfl,q,t,po⟩
noncomputable def qfq (kvs:List (Key×D)) (k:Key):Bool:=kvs.any λp=>decide (p.1=k)
noncomputable def inA:D->D->Out D
 | x,.dct kvs=>match qaj x with
  | some k=>.ok (.bl (qfq kvs k))
  | none=>.bad
 | x,y=>qgm x y
noncomputable def Uz:D->D->Out D
 | x,.dct kvs=>match qaj x with
  | some k=>.ok (.bl (!qfq kvs k))
  | none=>.bad
 | x,y=>JY x y
theorem UA {ks:List (Key×D)} {k:Key} (h:IsK K F kv ks):(WY kv k).isSome=qfq ks k:=by rw [<-WZ,h.any]; rfl
theorem qhK {k:Key} (h:TopIs C.K F H v d) (e:qaj d=iD k):v=kV k:=by
 cases d with
 | int z=>cases e; exact h.int
 | str z=>cases e; exact h.str.1
 | _=>cases e
theorem qfr (l:C.K=X.K) (f:X.A.units+64 < cLine):OpD X C .sh (compareOp .In) inA:=by
 intro pins s σ H x y v u Q I r c h;obtain ⟨F,dx,d,b,t,ty,po⟩:=h;by_cases hd:∃ kvs,d=.dct kvs
 ·obtain ⟨kvs,rfl⟩:=hd;cases q:qaj dx with
  | none=>unfold inA at po; simp only [q] at po; exact po.elim
  | some k=>
   unfold inA at po;simp only [q] at po;obtain ⟨a,kv,rfl,g,i⟩:=ty.dct b;cases c;have ex:=qhK t q;subst ex;refine qip (by omega) I (DGet.k (k:=k) g) r λs' j=>⟨.bl _,H,j,rfl,?_⟩
   rw [UA i];exact po _ F H b .refl (.bl _)
 ·have e:inA dx d=qgm dx d:=by cases d <;> first | rfl | exact absurd ⟨_,rfl⟩ hd
  rw [e] at po;exact qg2 l f pins s σ H x y v u Q I r c ⟨F,dx,d,b,t,ty,po⟩
theorem yF (l:C.K=X.K) (f:X.A.units+64 < cLine):OpD X C .sh (compareOp .NotIn) Uz:=by
 intro pins s σ H x y v u Q I r c h;obtain ⟨F,dx,d,b,t,ty,po⟩:=h;by_cases hd:∃ kvs,d=.dct kvs
 ·obtain ⟨kvs,rfl⟩:=hd;cases q:qaj dx with
  | none=>unfold Uz at po; simp only [q] at po; exact po.elim
  | some k=>
   unfold Uz at po;simp only [q] at po;obtain ⟨a,kv,rfl,g,i⟩:=ty.dct b;cases c;have ex:=qhK t q;subst ex;refine qc4 (by omega) I (DGet.k (k:=k) g) r λs' j=>⟨.bl _,H,j,rfl,?_⟩
   rw [UA i];exact po _ F H b .refl (.bl _)
 ·have e:Uz dx d=JY dx d:=by cases d <;> first | rfl | exact absurd ⟨_,rfl⟩ hd
  rw [e] at po;exact qaL l f pins s σ H x y v u Q I r c ⟨F,dx,d,b,t,ty,po⟩
end
theorem qdt (t:iV) (es:Array (Int×iG)) (h:Int) (x:iG):(layNew t es h x).2.1.led=t.led:=by
 unfold layNew;cases t.freeSlot h with
 | none=>rfl
 | some p=>obtain ⟨sl,wd⟩:=p;show (SetTable.orStandIn (t.put sl).1 _).led=t.led;unfold SetTable.orStandIn;split <;> rfl
theorem qdu {m f v:Nat} {l p:Bool} {c:Array Int} {t:iV} {o:Array Nat} (h:hZ m f v l p c=iD (t,o)):t.led=l/\t.plain=p:=by
 unfold hZ at h;cases e:SetTable.layClean m c with
 | none=>rw [e] at h;cases h
 | some ow=>rw [e] at h;have h2:=congrArg Prod.fst (aU.inj h);subst h2;exact ⟨rfl,rfl⟩
theorem VS (t:iV) (es:Array (Int×iG)) (n:Nat):(relayAll t es n).2.1.led=t.led/\(t.plain=iH->(relayAll t es n).2.1.plain=iH):=by
 unfold relayAll;cases e:t.relaid (es.map (·.1)) n with
 | none=>exact ⟨rfl,λ_=>rfl⟩
 | some q=>
  obtain ⟨t',o⟩:=q;have k:=qdu (show hZ _ _ _ _ _ _=iD (t',o) from e);dsimp only;split;·exact ⟨k.1,λz=>k.2.trans z⟩
  ·exact ⟨rfl,λ_=>rfl⟩
variable {κ:Type}
noncomputable def yf [DecidableEq κ] (ks:List κ) (x:κ):List κ:=if x∈ks then ks else ks++[x]
noncomputable def ue (ks:List Str) (x:Str):List Str:=if x∈ks then ks else ks++[x]
noncomputable def kB (es:Array (Int×iG)) (ep:Nat) (t:iV):Obj:={ cls:=.type "set",dict:=iF,data:=.set es ep t,slots:=#[] }
structure KP (κ:Type) [DecidableEq κ] where
 kd:∀ (p:iL) (w:iM),PySem.KeyKind p w κ
 of:iG->κ
 pb:Bool
 ofi:∀ {p:iL} {w:iM} {x:κ} {v:iG},(kd p w).is x v=iI->of v=x
 sc:∀ {p:iL} {w:iM} {x:κ} {v:iG},(kd p w).is x v=iI->v.scannable=iI
 pl:∀ {p:iL} {w:iM} {x:κ} {v:iG},(kd p w).is x v=iI->pb=iI->plainKind v=iH
noncomputable def KpS:KP Str where
 kd:=PySem.strKind
 of:=strOf
 pb:=iI
 ofi:=λh=>let ⟨_,e⟩:=cV h; by rw [e]; rfl
 sc:=λh=>let ⟨_,e⟩:=cV h; by rw [e]; rfl
 pl:=λh _=>let ⟨_,e⟩:=cV h; by rw [e]; rfl
structure SetG {κ:Type} [DecidableEq κ] (T:KP κ) (prog:iL) (w:iM) (es:Array (Int×iG)) (t:iV) (ks:List κ):Prop where
 el:ElemsOf (T.kd prog w) es.toList
 perm:(es.toList.map λe=>T.of e.2).Perm ks
 nd:ks.Nodup
 bd:es.size < scanBound
 fits:t.fits es.size=iI
 led:t.led=!(w.params.followText "set-order")
 plain:T.pb=iI->ks≠[]->t.plain=iH
def SetK {κ:Type} [DecidableEq κ] (T:KP κ) (prog:iL) (w:iM) (h:Heap) (a:Addr) (ks:List κ):Prop:=∃ es ep t,h.get? a=iD (kB es ep t)/\SetG T prog w es t ks
variable {es:Array (Int×iG)} {ep:Nat}
section
theorem qfs {l:List (Int×iG)} (h:ElemsOf (PySem.strKind prog w) l) {e:Int×iG} (g:e∈l):∃ x t,e.2=.str x t:=by obtain ⟨⟨k,b,_⟩,_⟩:=h e g;obtain ⟨t,a⟩:=cV b;exact ⟨k,t,a⟩
variable [DecidableEq κ] {T:KP κ}
theorem SetG.mem {t:iV} {ks:List κ} (h:SetG T prog w es t ks) {x:κ}:x∈ks↔∃ e∈es.toList,(T.kd prog w).is x e.2=true:=by
 rw [<-h.perm.mem_iff,aF];constructor;·rintro ⟨e,g,z⟩;obtain ⟨⟨k,a,_⟩,_⟩:=h.el e g;rw [T.ofi a] at z;exact ⟨e,g,z ▸ a⟩
 ·rintro ⟨e,g,z⟩;exact ⟨e,g,T.ofi z⟩
theorem SetG.size {t:iV} {ks:List κ} (h:SetG T prog w es t ks):es.size=ks.length:=by have e:=h.perm.length_eq;simpa using e
theorem qcj {es':Array (Int×iG)} {t t':iV} (m:h.get? a=iD (kB es ep t)):(h.update a (ia es' t')).get? a=iD (kB es' (ep+1) t'):=by have e:=bt (ia es' t') m (by rw [putSet_of (o:=kB es ep t) es' t' rfl]; rfl);rw [putSet_of (o:=kB es ep t) es' t' rfl] at e;exact e
theorem SetG.more {e:Array (Int×iG)} {t f:iV} {ks:List κ} {x:κ} {v:iG} (h:SetG T prog w es t ks) (c:(T.kd prog w).is x v=iI) (nx:x∉ks) (hr:ks.length+1 < scanBound)
  (hp:e.toList.Perm (es.toList++[((T.kd prog w).hash x,v)])) (g:f.fits e.size=iI) (hl:f.led=t.led) (hq:T.pb=iI->f.plain=iH):SetG T prog w e f (yf ks x):=by
 have ex:yf ks x=ks++[x]:=if_neg nx;have d:e.size=ks.length+1:=by rw [<-cC,hp.length_eq,ap,cC,h.size];rfl
 rw [ex];refine ⟨(h.el.push c (T.sc c)).perm hp,?_,?_,?_,g,hl.trans h.led,λb _=>hq b⟩;·refine (hp.map _).trans ?_;rw [fy,List.map_singleton,T.ofi c];exact h.perm.append (cG _)
 ·exact fJ.mpr ⟨h.nd,by simp,λa i b hb=>by rw [aK.mp hb]; exact λz=>nx (z ▸ i)⟩
 ·rw [d];exact hr
theorem qdv {ks:List κ} {x:κ} {v:iG} {Q:Bool->iJ->Prop} (m:(T.kd prog w).is x v=iI) (S:SetK T prog w s.heap a ks) (hr:ks.length+1 < scanBound)
  (h:∀ h' b,bM a s.heap h'->SetK T prog w h' a (yf ks x)->Q b { s with heap:=h' }):wpAny (model prog w) A (setAddHashed a v ((T.kd prog w).hash x)) Q E s:=by
 obtain ⟨es,ep,t,o,d⟩:=S;unfold setAddHashed setAddHashedIn;refine iX (iE (iY o rfl d.fits ?_));dsimp only;rw [byScan_of (T.sc m) d.bd d.el,if_pos rfl];unfold setAddByScan;refine iE (iE (j8 (iE (wpAny_setScan_of m o rfl d.fits d.el ?_))));cases hq:es.toList.findIdx? (λe=>(T.kd prog w).is x e.2) with
 | some j=>obtain ⟨K,hp,_⟩:=bJ.mp hq;have hx:x∈ks:=d.mem.mpr ⟨_,dI K,hp⟩;have q:=h s.heap iH (Heap.SameBut.refl a s.heap) ⟨es,ep,t,o,by rw [show yf ks x=ks from if_pos hx]; exact d⟩;dsimp only;exact iK (iK q)
 | none=>
  have hx:x∉ks:=λz=>by obtain ⟨e,M,q⟩:=d.mem.mp z;have:=List.findIdx?_eq_none_iff.mp hq e M;rw [q] at this;cases this
  dsimp only;have hp:=layNew_perm t es ((T.kd prog w).hash x) v;have n:=layNew_fits t es ((T.kd prog w).hash x) v;have hl:=qdt t es ((T.kd prog w).hash x) v;generalize layNew t es ((T.kd prog w).hash x) v=L at hp n hl ⊢;obtain ⟨c,u,wd,O⟩:=L;dsimp only at hp n hl ⊢;rw [Array.toList_push] at hp;have l:∀ f:iV,f.fits c.size=iI->f.led=t.led->(T.pb=iI->f.plain=iH)->wpAny (model prog w) A (do
    storeSet a c f
    if (!wd&&f.tooFull)=iI then do
      (match (relayAll f c (c7 c.size)).2.2 with | true=>rule "set.scan.the-table-gave-way" | false=>pure ())
      storeSet a (relayAll f c (c7 c.size)).1 (relayAll f c (c7 c.size)).2.1
      pure (iD iI)
     else pure (iD iI)) (λr s'=>∃ h',s'={ s with heap:=h' }/\r=iD iI/\bM a s.heap h'/\SetK T prog w h' a (yf ks x)) E s:=by
   intro f f2 I p2;have d2:=d.more m hx hr hp f2 I p2;refine iE (wpAny_storeSet_of o rfl ?_ (lu d2.bd));have i:=qcj (es':=c) (t':=f) o;have y:=bw s.heap a (ia c f);split
   ·have C:=relayAll_perm f c (c7 c.size);have D:=relayAll_fits f c (c7 c.size);have B:=VS f c (c7 c.size);generalize relayAll f c (c7 c.size)=R at C D B ⊢;obtain ⟨p,H,g2⟩:=R;dsimp only at C D B ⊢;have J:=d.more m hx hr (C.trans hp) D (B.1.trans I) (λb=>B.2 (p2 b));refine iE ?_;have go:wpAny (model prog w) A (storeSet a p H >>= λ_=>pure (iD iI)) (λr s'=>∃ h',s'={ s with heap:=h' }/\r=iD iI/\bM a s.heap h'/\SetK T prog w h' a (yf ks x)) E { s with heap:=s.heap.update a (ia c f) }:=
     iE (wpAny_storeSet_of i rfl (iK ⟨_,rfl,rfl,y.trans (bw _ a _),p,_,H,qcj i,J⟩) (lu J.bd))
    cases g2;·exact iK go
    ·exact j8 go
   ·exact iK ⟨_,rfl,rfl,y,c,_,f,i,d2⟩
  have fin:∀ (r:Option Bool) (s':iJ),(∃ h',s'={ s with heap:=h' }/\r=iD iI/\bM a s.heap h'/\SetK T prog w h' a (yf ks x)) ->wpAny (model prog w) A (match r with | some k=>pure k | none=>setAddHashedIn a v ((T.kd prog w).hash x) 99999) Q E s':=by rintro r s' ⟨h',rfl,rfl,y,S⟩;exact iK (h h' iI y S)
  have N:∀ (b:Bool) {g:iJ} {G:Unit->iJ->Prop},G () g->wpAny (model prog w) A (match b with | true=>rule "set.scan.the-table-gave-way" | false=>pure ()) G E g:=λb g G q=>by
   cases b;·exact iK q
   ·exact j8 q
  refine iE (N _ ?_);cases e1:u.plain with
  | true=>rw [if_pos rfl,hashByValue_scannable 8 (T.sc m)];refine iE (iK ?_);exact i8 (l (if plainKind v=iI then u else { u with plain:=iH }) (by split; exact n; exact SetTable.fits_plain_off n) (by split <;> exact hl) (λb=>by rw [T.pl m b]; rfl)) fin λ_ _ z=>z
  | false=>rw [if_neg (by simp)];refine iE (iK ?_);exact i8 (l u n hl λ_=>e1) fin λ_ _ z=>z
end
theorem UB [DecidableEq κ] (ks:List κ) (x:κ):(yf ks x).length<=ks.length+1:=by
 unfold yf;split;·omega
 ·rw [ap];exact aG _
theorem uj [DecidableEq κ]:∀ (l ks:List κ),(l.foldl yf ks).length<=ks.length+l.length
 | [],ks=>aG _
 | x::l,ks=>by have h1:=uj l (yf ks x);have h2:=UB ks x;rw [bY,ac];omega
theorem UC:(yf:List Str->Str->List Str)=ue:=by funext ks x;unfold yf ue;congr
theorem zM (l ks:List Str):(l.foldl ue ks).length<=ks.length+l.length:=by rw [<-UC];exact uj l ks
theorem SetK.at [DecidableEq κ] {T:KP κ} {ks:List κ} (S:SetK T prog w h a ks) (k:∀ o,h.get? a=iD o->h'.get? a=iD o):SetK T prog w h' a ks:=
 let ⟨es,ep,t,m,d⟩:=S; ⟨es,ep,t,k _ m,d⟩
section
variable [DecidableEq κ] {T:KP κ} {R:lL->iJ->Prop} {I:Addr} {fp wr:List Addr} {P:Nat->iG->Prop} {St:Nat->iJ->Prop}
theorem qa9 {G:Array lG->Array lG->Prop} (W:WalksS prog w A.in1 I fp wr G n P St) (S:Addr) (g:S∉fp) (ss:List κ) (J:ss.length=n) (H:∀ i v,P i v->∃ x,ss[i]?=iD x/\(T.kd prog w).is x v=iI) (hb:n+1 < scanBound):∀ (k i:Nat) (s:iJ),n - i=k->i<=n->St i s->SetK T prog w s.heap S ((ss.take i).foldl yf []) ->(∀ s',Moved (S::wr) G s s'->SetK T prog w s'.heap S (ss.foldl yf [])->R (.ok (.ret .none)) s')->codeAny (model prog w) A (.builtin "set.update.loop" ⟨[.ref S,.ref I],[]⟩) R s:=by
 have D:S∉wr:=λh=>g (W.sub _ h);have up:∀ b∈wr,b∈S::wr:=λb hb=>ai _ hb;intro k
 induction k with
 | zero=>
  intro i s p hi c q B;have u:i=n:=by omega
  subst u;refine iZ F.entry_set_update_loop ?_;rw [cg eh _]; show wpAny _ A.in1 (pyNext (.ref I) >>= _) _ _ s;refine iE (W.done s _ _ c λs' f=>iK (B s' (f.mono up) ?_));rw [List.take_of_length_le (fB J)] at q;exact q.at λo e=>f.heap S o D e
 | succ k E=>
  intro i s p hi c q B;have t:i < n:=by omega
  refine iZ F.entry_set_update_loop ?_;rw [cg eh _]; show wpAny _ A.in1 (pyNext (.ref I) >>= _) _ _ s;refine iE (W.item i s _ _ t c λv s' K a f=>?_);obtain ⟨x,hx,p⟩:=H i v K;have y:SetK T prog w s'.heap S ((ss.take i).foldl yf []):=q.at λo e=>f.heap S o D e;show wpAny _ A.in1 (holding [v] (setAdd S v) >>= _) _ _ s';refine iE (iX ?_);unfold setAdd;refine iX (iE ((T.kd prog w).pyHash p ?_));have m:((ss.take i).foldl yf []).length+1 < scanBound:=by have h1:=uj (ss.take i) [];rw [ff,am] at h1;omega
  refine qdv (s:={ s' with toks:=s'.toks+1 }) p y m λh' b C j=>?_;have L:yf ((ss.take i).foldl yf []) x=(ss.take (i+1)).foldl yf []:=by rw [List.take_add_one,hx,List.foldl_append];rfl
  rw [L] at j;refine iK ⟨lp eh _,E (i+1) _ (by omega) t (W.frame _ s' _ _ a (iu _) λb hb o e=>?_) j λr d l=>?_⟩;·rw [C.2 b λz:b=S=>g (z ▸ hb)];exact e
  ·refine B r (Moved.trans W.gtrans ((f.mono up).then_heap (iu _) λb o hb e=>?_) d) l;rw [C.2 b λz:b=S=>hb (z ▸ ay)];exact e
end
section
variable [DecidableEq κ] {T:KP κ}
abbrev qft (w:iM):Obj:=kB #[] 0 (.fresh 0 0 (!(w.params.followText "set-order")))
theorem Zy (e:h.get? a=iD (qft w)):SetK T prog w h a []:=
 ⟨_,_,_,e,⟨λe g=>by simp at g,by simp,bI,by decide,by rfl,rfl,λ_ z=>absurd rfl z⟩⟩
theorem qdw (a:iG) {Q₁:iG->iJ->Prop} (h:Q₁ (.ref s.heap.objs.size) { s with heap:=s.heap.push (qft w) }):codeAny (model prog w) A (.call (.builtin "set.__new__") ⟨[.type "set",a],[]⟩) (wants Q₁ E) s:=by
 refine codeAny_of_tree ?_; show wpAny _ A.in1 (do checkBuiltinCall "set.__new__" ⟨[.type "set",a],[]⟩; again (.builtin "set.__new__" ⟨[.type "set",a],[]⟩)) _ _ s;refine iE (lH (PySem.F.newCall_set_1 a) (iK ⟨lp PySem.F.plain_set_new _,iZ PySem.F.entry_set_new ?_⟩)); rw [cg PySem.F.plain_set_new _];unfold Builtin.«set.__new__» Builtin.Frozenset.newClass; have b:=sub_set_self; obtain ⟨hp,g,d,tk,os⟩:=s; dsimp only; wp_walk
 refine iW (iK ?_); dsimp only; simp only [newObj];exact iE (wpAny_alloc (iK (iK h)))
theorem VT:isSubtype (.type "tuple") (.type "set")=pure false:=by rw [lv]; kernel_rfl
theorem gK:isSubtype (.type "tuple") (.type "frozenset")=pure false:=by rw [lv]; kernel_rfl
theorem qba:∀ sk:SK,isSubtype (.type sk.cl) (.type "set")=pure iH
 | .l=>PySem.F.sub_list_set
 | .t=>VT
theorem VU:∀ sk:SK,isSubtype (.type sk.cl) (.type "frozenset")=pure iH
 | .l=>PySem.F.sub_list_frozenset
 | .t=>gK
theorem qfu (b:A.handled=iF) (sk:SK) (it l:Addr) (e:l≠it) (items:Array iG):Walks prog w A it [it,l] [it] items.size (λi v=>items[i]?=iD v) (λi h=>ItK h it l sk i/\SeqK h l sk items):=by
 cases sk with
 | l=>exact Walks.list b it l e items
 | t=>exact Walks.tuple b it l e items
theorem SeqK.ty:∀ {sk:SK},SeqK s.heap a sk xs->s.TypeIs (.ref a) sk.cl
 | .l,⟨o,e,c,_⟩=>⟨o,e,c⟩
 | .t,⟨o,e,c,_⟩=>⟨o,e,c⟩
theorem qis {S:Addr} {ss:List κ} {Q:Unit->iJ->Prop} (q:A.handled=iF) (j:SetK T prog w s.heap S []) (hl:SeqK s.heap l sk items) (p:ss.length=items.size) (hi:∀ (i:Nat) (v:iG),items[i]?=iD v->∃ x,ss[i]?=iD x/\(T.kd prog w).is x v=iI) (hb:items.size+1 < scanBound) (g:l≠S)
  (h:∀ h' tk,SetK T prog w h' S (ss.foldl yf [])->(∀ b o,b≠S->s.heap.get? b=iD o->h'.get? b=iD o)->Q () { s with heap:=h',toks:=tk }) :
  wpAny (model prog w) A (cB "set.__init__" S (.ref l)) Q E s:=by
 have hT:=hl.ty;unfold cB;refine iE (m:=Builtin.Frozenset.isAnySet _) ?_;unfold Builtin.Frozenset.isAnySet;refine iE (lf hT (qba sk) ?_);refine lf hT (VU sk) ?_;rw [if_neg (by decide)];refine iE (ll hT ?_);rw [if_neg (by cases sk <;> decide)];refine iE (qa5 hl ?_);have k:s.heap.objs.size≠S:=λz=>by obtain ⟨es,ep,t,n,_⟩:=j;exact cD _ (z ▸ aE n)
 have d:l≠s.heap.objs.size:=aL hl.lt;refine iE (wpAny_runValue (qa9 ((qfu (A:=A.in1) q sk _ l d items).toS) S ?_ ss p hi hb items.size 0 _ (by omega) (bA _) ⟨.of ⟨_,aq _ rfl,rfl,rfl⟩,hl.at λo e=>aa _ e⟩ ?_ ?_))
 ·intro z;rcases ah.mp z with z | z;·exact k z.symm
  ·exact g (aK.mp z).symm
 ·exact j.at λo e=>aa _ e
 ·intro s' c y;obtain ⟨h',g',d',f,a⟩:=s';have u:g'=s.gens:=c.gens;have B:d'=s.drawn:=c.drawn;have r:a=s.os:=c.os;subst u B r;refine iK (h h' f y λb o hb e=>c.heap b o ?_ (aa _ e));intro z;rcases ah.mp z with z | z;·exact hb z
  ·rw [aK.mp z] at e;exact cD _ (aE e)
set_option maxHeartbeats 3200000 in
theorem Zz {l:Addr} {ks:List κ} {Q:iG->iJ->Prop}
  (p:∀ (A1:iO) (K:Unit->iJ->Prop) (B:iG->iJ->Prop),A1.handled=A.handled->(∀ h' tk,SetK T prog w h' s.heap.objs.size ks->(∀ b o,s.heap.get? b=iD o->h'.get? b=iD o)->K () { s with heap:=h',toks:=tk }) ->wpAny (model prog w) A1 (cB "set.__init__" s.heap.objs.size (.ref l)) K B { s with heap:=s.heap.push (qft w) })
  (h:∀ h' tk,SetK T prog w h' s.heap.objs.size ks->(∀ b o,s.heap.get? b=iD o->h'.get? b=iD o)->Q (.ref s.heap.objs.size) { s with heap:=h',toks:=tk }) :
  wpAny (model prog w) A (call (.type "set") [.ref l]) Q E s:=by
 have i:∀ {Q₁:iG->iJ->Prop},Q₁ (.ref s.heap.objs.size) { s with heap:=s.heap.push (qft w) }->codeAny (model prog w) A.in1 (.call (.builtin "set.__new__") ⟨[.type "set",.ref l],[]⟩) (wants Q₁ E) s:=λh=>qdw (.ref l) h;unfold qft kB at i p;generalize (!(w.params.followText "set-order"))=led at i p;obtain ⟨c,tl,q⟩:=bZ.mro;have k:=bZ.made;have n:=bZ.sub;refine lM (codeAny_of_tree ?_); show wpAny _ _ (callAny (.type "set") _) _ _ _;refine iK ⟨Code.quiet_builtin _ (by decide +kernel),iZ PySem.F.entry_type_call ?_⟩; rw [Around.under_plain (weight_type_call_type "set" [.ref l] []) rfl];have h1:=bZ.notType;have h2:=bZ.canCreate;have v:=PySem.F.typeCall_set_1 (.ref l);repeat (any_goals (first | assumption | wp_step))
 refine lj (i (Q₁:=λobj f=>obj=.ref s.heap.objs.size/\f={ s with heap:=s.heap.push { cls:=.type "set",dict:=iF,data:=.set #[] 0 (.fresh 0 0 led) } }) ⟨rfl,rfl⟩) λr f hr=>?_;cases r with
 | error e=>exact hr
 | ok fl=>
  cases fl with
  | ret obj=>
   obtain ⟨rfl,rfl⟩:=hr;have S:(s.heap.push { cls:=.type "set",dict:=iF,data:=.set #[] 0 (.fresh 0 0 led) }).get? s.heap.objs.size=iD { cls:=.type "set",dict:=iF,data:=.set #[] 0 (.fresh 0 0 led) }:=aq _ rfl;have hT:fN { s with heap:=s.heap.push { cls:=.type "set",dict:=iF,data:=.set #[] 0 (.fresh 0 0 led) } } (.ref s.heap.objs.size) "set":=⟨_,S,rfl⟩
   have t:=bZ.init.lookup;have x:=bZ.init.bind (.ref s.heap.objs.size);repeat (any_goals (first | assumption | wp_step))
   refine lj (codeAny_call_builtin (R:=wants (λr d=>r=.none/\∃ h' tk,d={ s with heap:=h',toks:=tk }/\SetK T prog w h' s.heap.objs.size ks/\(∀ b o,s.heap.get? b=iD o->h'.get? b=iD o)) E) bZ.init.plain PySem.F.entry_set_init (check_set_init_1 hT ?_)) λj d a=>?_
   ·unfold Builtin.«set.__init__» noKeywords;generalize z:cB=U;wp_walk
    subst z;refine p _ _ _ rfl λh' tk y u=>?_;exact iK ⟨rfl,h',tk,rfl,y,u⟩
   ·cases j with
    | error e=>exact a
    | ok g=>
     cases g with
     | ret r=>
      obtain ⟨rfl,h',tk,rfl,y,m⟩:=a;repeat (any_goals (first | assumption | wp_step))
      exact h _ _ y m
     | _=>exact a.elim
  | _=>exact hr.elim
end
theorem yX {α:Type}:∀ {xs:List α} {i:Nat} (h:i < xs.length),(xs[i]::xs.eraseIdx i).Perm xs
 | [],_,h=>absurd h (Nat.not_lt_zero _)
 | x::xs,0,h=>cG _
 | x::xs,i+1,h=>(List.Perm.swap _ _ _).trans ((yX (xs:=xs) (i:=i) (Nat.lt_of_succ_lt_succ h)).cons x)
variable {M:Model}
theorem YL {c:Source} {Q:Nat->iJ->Prop} (a:n≠0) (h:∀ i d',i < n->Q i { s with drawn:=d' }):wpAny M A (choose c n) Q E s:=
 λ_ _ _=>⟨a,h _ _ (Nat.mod_lt _ (Nat.pos_of_ne_zero a))⟩
variable {α:Type}
theorem ZA:∀ (n:Nat) (xs:List α) (s:iJ) {Q:List α->iJ->Prop},n=xs.length->(∀ ys d',ys.Perm xs->Q ys { s with drawn:=d' })->wpAny M A (drawOrder n xs) Q E s
 | 0,xs,s,Q,hn,h=>by
  cases xs with
  | nil=>exact iK (h [] s.drawn (cG _))
  | cons x l=>cases hn
 | n+1,[],s,Q,hn,h=>by cases hn
 | n+1,x::l,s,Q,hn,h=>by show wpAny M A (choose .order (x::l).length >>= _) Q E s;refine iE (YL (by simp) λi d' hi=>?_);have e:(x::l)[i]?=iD (x::l)[i]:=aM hi;rw [e];refine iE (ZA n _ _ (by rw [List.length_eraseIdx_of_lt hi]; simp only [ac] at hn ⊢; omega) λys d2 hp=>iK (h _ d2 ?_));exact (hp.cons _).trans (yX hi)
theorem ZB (next:Nat->Nat):∀ (f k:Nat) (left:List α) (out:Array α),f=left.length->(pickOrder.go next f k left out).toList.Perm (out.toList++left)
 | 0,k,left,out,hf=>by
  cases left with
  | nil=>rw [bj];exact cG _
  | cons x l=>cases hf
 | f+1,k,left,out,hf=>by have t:next k % left.length < left.length:=Nat.mod_lt _ (by omega);have e:left[next k % left.length]?=iD left[next k % left.length]:=aM t;unfold pickOrder.go;rw [e];refine (ZB next f (k+1) _ _ (by rw [List.length_eraseIdx_of_lt t]; omega)).trans ?_;rw [Array.toList_push,dA];exact List.Perm.append_left _ (yX t)
theorem zN (next:Nat->Nat) (xs:Array α):(pickOrder next xs).toList.Perm xs.toList:=by unfold pickOrder;exact ZB next _ _ _ _ (by simp)
noncomputable def ul (first:iG) (i:Nat) (a:Addr) (n ep:Nat):Obj:={ cls:=.type "set_iterator",data:=.fields #[first,rawInt i,.ref a,rawInt n,rawInt ep] }
theorem slot_si_next:Slot "set_iterator" "__next__" "set_iterator.__next__":=
 .of (owner := "set_iterator") (n := "__next__") (by rw [lx,li]; kernel_rfl) (by decide +kernel) (by decide +kernel) (by decide +kernel) (by first | exact .inl (by decide +kernel) | exact .inr (by decide +kernel)) (by rw [lv]; kernel_rfl)
theorem xC:Slot "set_iterator" "__iter__" "set_iterator.__iter__":=
 .of (owner := "set_iterator") (n := "__iter__") (by rw [lx,li]; kernel_rfl) (by decide +kernel) (by decide +kernel) (by decide +kernel) (by first | exact .inl (by decide +kernel) | exact .inr (by decide +kernel)) (by rw [lv]; kernel_rfl)
theorem vS (a:iG):argsOk "set_iterator.__next__" ⟨[a],[]⟩:=by unfold argsOk; kernel_rfl
theorem KA (a:iG):argsOk "set_iterator.__iter__" ⟨[a],[]⟩:=by unfold argsOk; kernel_rfl
theorem vn:entryFor table "set_iterator.__next__"=iD Builtin.«set_iterator.__next__»:=entryFor_of_tree (by kernel_rfl)
theorem QW:entryFor table "set_iterator.__iter__"=iD Builtin.«dict_keyiterator.__iter__»:=entryFor_alias (id' := "dict_keyiterator.__iter__") (by kernel_rfl) rfl (by decide +kernel) (by kernel_rfl)
theorem KB:entryFor table "set.__iter__"=iD Builtin.«frozenset.__iter__»:=entryFor_alias (id' := "frozenset.__iter__") (by kernel_rfl) rfl (by decide +kernel) (by kernel_rfl)
variable {ks:List Str} {p:Addr} {b:Bool} {ps:List Nat}
section
theorem vG (hb:w.params.followText "set-order"=b):({ program:=(model prog w).prog,params:=(model prog w).w.params }:Setting).params.followText "set-order"=b:=hb
theorem KC {sl nx:Nat} {t:iV} {x:iG} {Q:Option iG->iJ->Prop} (hi:s.heap.get? it=iD (ul (rawInt sl) i a n ep)) (b:s.heap.get? a=iD (kB es ep t)) (f:t.fits es.size=iI) (z:es.size=n)
  (h:∀ (A1:iO) (K:Option (iG×Nat)->iJ->Prop) (R:iG->iJ->Prop),K (iD (x,nx)) s->wpAny (model prog w) A1 (setNext a sl i ep) K R s)
  (c:∀ h',h'.get? it=iD (ul (rawInt nx) (i+1) a n ep)->bM it s.heap h'->Q (iD x) { s with heap:=h' }):wpAny (model prog w) A (pyNext (.ref it)) Q E s:=by
 have hT:s.TypeIs (.ref it) "set_iterator":=⟨_,hi,rfl⟩
 unfold pyNext;refine iE (j3 (iP (name:=au "__next__") hT slot_si_next (iQ slot_si_next hT vn ?_ (vS _))));show wpAny _ _ (fieldsOf (.ref it) >>= _) _ _ s;refine iE (lA hi rfl ?_);show wpAny _ _ (setEntries a >>= _) _ _ s;refine iE (lc b rfl f ?_);rw [if_neg (by rw [z]; simp)];show wpAny _ _ (setNext a sl i ep >>= _) _ _ s;refine iE (h _ _ _ ?_);show wpAny _ _ (setField (.ref it) 0 (rawInt nx) >>= _) _ _ s;refine iE (j4 hi rfl (by simp) ?_);have h1:(s.heap.update it (Obj.mapFields (·.setIfInBounds 0 (rawInt nx)))).get? it=iD (ul (rawInt nx) i a n ep):=bt _ hi rfl;refine iE (j4 h1 rfl (by simp) (iK ⟨x,rfl,iK (c _ ?_ ((bw ..).trans (bw ..)))⟩));exact bt _ h1 rfl
theorem KG {sl:Nat} {t:iV} {Q:Option iG->iJ->Prop} (h:A.handled=iF) (hi:s.heap.get? it=iD (ul (rawInt sl) i a n ep)) (d:s.heap.get? a=iD (kB es ep t)) (f:t.fits es.size=iI) (z:es.size=n)
  (c:∀ (A1:iO) (K:Option (iG×Nat)->iJ->Prop) (R:iG->iJ->Prop),K iF s->wpAny (model prog w) A1 (setNext a sl i ep) K R s)
  (e:∀ h',g6 it s.heap h'->Q iF { s with heap:=h' }):wpAny (model prog w) A (pyNext (.ref it)) Q E s:=by
 have hT:s.TypeIs (.ref it) "set_iterator":=⟨_,hi,rfl⟩
 unfold pyNext;refine iE (j3 (iP (name:=au "__next__") hT slot_si_next (iQ slot_si_next hT vn ?_ (vS _))));show wpAny _ _ (fieldsOf (.ref it) >>= _) _ _ s;refine iE (lA hi rfl ?_);show wpAny _ _ (setEntries a >>= _) _ _ s;refine iE (lc d rfl f ?_);rw [if_neg (by rw [z]; simp)];show wpAny _ _ (setNext a sl i ep >>= _) _ _ s;refine iE (c _ _ _ ?_);show wpAny _ _ (setField (.ref it) 2 bT >>= _) _ _ s;refine iE (j4 hi rfl (by simp) ?_); show wpAny _ _ (newExc (.type "StopIteration") [] >>= _) _ _ _;refine iE ?_; simp only [newExc,newTuple]; refine iE (iN ?_ (by size_fits));refine iE (m:=firstArgMember _ _) (lH (a:=bT) (by first | rfl | (simp only [firstArgMember]; rfl)) ?_); refine iN ?_ (by size_fits); simp only [raiseNew];refine iE (wpAny_handled ?_); first | rw [show A.in1.handled=iF from h] | rw [h]
 refine iE (iK (wpAny_throw ?_)); refine iE (lf (T := "StopIteration") (b:=iI) ⟨_,aq _ rfl,rfl⟩ isSubtype_stop ?_);exact iK (e _ (((bw ..).extBut.push _).push _))
theorem YM {pl m:Nat} {t:iV} {hx:Int} {x:iG} {ps:Array iG} {Q:Option iG->iJ->Prop} (hi:s.heap.get? it=iD (ul (.ref p) i a n ep)) (f:s.heap.get? a=iD (kB es ep t)) (h:t.fits es.size=iI) (z:es.size=n)
  (hp:s.heap.get? p=iD { cls:=.type "tuple",data:=.seq ps m }) (l:ps[i]?=iD (rawInt pl)) (hx:es[pl]?=iD (hx,x))
  (c:∀ h',h'.get? it=iD (ul (.ref p) (i+1) a n ep)->bM it s.heap h'->Q (iD x) { s with heap:=h' }):wpAny (model prog w) A (pyNext (.ref it)) Q E s:=by
 have hT:s.TypeIs (.ref it) "set_iterator":=⟨_,hi,rfl⟩
 unfold pyNext;refine iE (j3 (iP (name:=au "__next__") hT slot_si_next (iQ slot_si_next hT vn ?_ (vS _))));show wpAny _ _ (fieldsOf (.ref it) >>= _) _ _ s;refine iE (lA hi rfl ?_);show wpAny _ _ (setEntries a >>= _) _ _ s;refine iE (lc f rfl h ?_);rw [if_neg (by rw [z]; simp)];show wpAny _ _ (seqItems? (.ref p) >>= _) _ _ s;refine iE (iT hp rfl ?_);dsimp only;rw [show ps[Int.toNat (i:Int)]?=iD (rawInt pl) from l];show wpAny _ _ (setNextDrawn a pl ep >>= _) _ _ s;refine iE ?_;unfold setNextDrawn;refine iE (iY f rfl h ?_);dsimp only;rw [if_neg (by simp),hx];refine iK ?_;show wpAny _ _ (setField (.ref it) 1 (rawInt (i+1)) >>= _) _ _ s;refine iE (j4 hi rfl (by simp) (iK ⟨x,rfl,iK (c _ ?_ (bw ..))⟩));exact bt _ hi rfl
theorem ZC {m:Nat} {t:iV} {ps:Array iG} {Q:Option iG->iJ->Prop} (h:A.handled=iF) (hi:s.heap.get? it=iD (ul (.ref p) i a n ep)) (c:s.heap.get? a=iD (kB es ep t)) (f:t.fits es.size=iI) (z:es.size=n)
  (hp:s.heap.get? p=iD { cls:=.type "tuple",data:=.seq ps m }) (l:ps[i]?=iF)
  (d:∀ h',g6 it s.heap h'->Q iF { s with heap:=h' }):wpAny (model prog w) A (pyNext (.ref it)) Q E s:=by
 have hT:s.TypeIs (.ref it) "set_iterator":=⟨_,hi,rfl⟩
 unfold pyNext;refine iE (j3 (iP (name:=au "__next__") hT slot_si_next (iQ slot_si_next hT vn ?_ (vS _))));show wpAny _ _ (fieldsOf (.ref it) >>= _) _ _ s;refine iE (lA hi rfl ?_);show wpAny _ _ (setEntries a >>= _) _ _ s;refine iE (lc c rfl f ?_);rw [if_neg (by rw [z]; simp)];show wpAny _ _ (seqItems? (.ref p) >>= _) _ _ s;refine iE (iT hp rfl ?_);dsimp only;rw [show ps[Int.toNat (i:Int)]?=iF from l];show wpAny _ _ (setField (.ref it) 0 (rawInt 0) >>= _) _ _ s;refine iE (j4 hi rfl (by simp) ?_);have h1:(s.heap.update it (Obj.mapFields (·.setIfInBounds 0 (rawInt 0)))).get? it=iD (ul (rawInt 0) i a n ep):=bt _ hi rfl;refine iE (j4 h1 rfl (by simp) ?_); show wpAny _ _ (newExc (.type "StopIteration") [] >>= _) _ _ _;refine iE ?_; simp only [newExc,newTuple]; refine iE (iN ?_ (by size_fits));refine iE (m:=firstArgMember _ _) (lH (a:=bT) (by first | rfl | (simp only [firstArgMember]; rfl)) ?_); refine iN ?_ (by size_fits); simp only [raiseNew];refine iE (wpAny_handled ?_); first | rw [show A.in1.handled=iF from h] | rw [h]
 refine iE (iK (wpAny_throw ?_)); refine iE (lf (T := "StopIteration") (b:=iI) ⟨_,aq _ rfl,rfl⟩ isSubtype_stop ?_);exact iK (d _ (((((bw ..).trans (bw ..))).extBut.push _).push _))
theorem zO {Q:iG->iJ->Prop} (hi:s.heap.get? it=iD o) (d:o.cls=.type "set_iterator") (h:Q (.ref it) s):wpAny (model prog w) A (pyIter (.ref it)) Q E s:=by
 have hT:s.TypeIs (.ref it) "set_iterator":=⟨_,hi,d⟩
 refine wpAny_pyIter_slot hT xC (iQ xC hT QW ?_ (KA _)); show wpAny _ _ (ret (.ref it)) _ _ s;exact iK ⟨_,rfl, "set_iterator",_,hT,slot_si_next.lookup,h⟩
theorem ZD {ep:Nat} {t:iV} (p:A.handled=iF) (hb:w.params.followText "set-order"=iI) (f:t.fits es.size=iI) (d:a≠it):Walks prog w A it [it,a] [it] es.size (λi v=>((pickOrder (w.params.setOrder a ep) es).toList.map (·.2))[i]?=iD v) (λi h=>h.get? it=iD (ul (rawInt 0) i a es.size ep)/\h.get? a=iD (kB es ep t)) where
 sub:=λb hb=>by simp at hb; simp [hb]
 frame:=λ_ _ _ st l=>⟨l it (by simp) _ st.1,l a (by simp) _ st.2⟩
 item:=λi s Q E hi st c=>by
  have n:(pickOrder (w.params.setOrder a ep) es).size=es.size:=by have:=(zN (w.params.setOrder a ep) es).length_eq;simpa using this
  have g:i < (pickOrder (w.params.setOrder a ep) es).size:=by omega
  obtain ⟨e,he⟩:∃ e,(pickOrder (w.params.setOrder a ep) es)[i]?=iD e:=⟨_,bD g⟩
  refine KC (x:=e.2) (nx:=0) st.1 st.2 f rfl (λA1 K R q=>?_) λh' j k=>c e.2 h' s.toks ?_ ⟨j,?_⟩ λb o y r=>?_;·unfold setNext;refine iE (iY st.2 rfl f ?_);dsimp only;refine iE (m:=setsByText) (iE (iW (iK ?_)));rw [vG hb,if_pos rfl,if_neg (by simp)];refine iE ?_;unfold setWalk;refine iE (iY st.2 rfl f ?_);dsimp only;refine iE (m:=setsByText) (iE (iW (iK ?_)));rw [vG hb,if_pos rfl];refine iE (iW (iK ?_));refine iK ?_;rw [show (pickOrder ((⟨(model prog w).prog,(model prog w).w.params⟩:Setting).params.setOrder a ep) es)[i]?=iD e from he];exact q
  ·rw [aJ,cI,he];rfl
  ·rw [k.2 a d];exact st.2
  ·rw [k.2 b (λz=>y (by simp [z]))];exact r
 done:=λs Q E st c=>by
  have n:(pickOrder (w.params.setOrder a ep) es).size=es.size:=by have:=(zN (w.params.setOrder a ep) es).length_eq;simpa using this
  refine KG p st.1 st.2 f rfl (λA1 K R q=>?_) λh' B=>c h' s.toks λb o y r=>B b o (λz=>y (by simp [z])) r;unfold setNext;refine iE (iY st.2 rfl f ?_);dsimp only;refine iE (m:=setsByText) (iE (iW (iK ?_)));rw [vG hb,if_pos rfl,if_neg (by simp)];refine iE ?_;unfold setWalk;refine iE (iY st.2 rfl f ?_);dsimp only;refine iE (m:=setsByText) (iE (iW (iK ?_)));rw [vG hb,if_pos rfl];refine iE (iW (iK ?_));refine iK ?_;rw [show (pickOrder ((⟨(model prog w).prog,(model prog w).w.params⟩:Setting).params.setOrder a ep) es)[es.size]?=iF from da (fB n)];exact q
 self:=λi s Q E st c=>zO st.1 rfl c
noncomputable def yg (t:iV) (i:Nat):Nat:=if i=0 then 0 else t.place.getD 0 0+1
theorem KH (j k:Nat):bz #[j] k=if j < k then 1 else 0:=by unfold bz;show bz.go #[j] k 1 0 1=_;unfold bz.go;rw [if_pos (by omega)];show (if (#[j]:Array Nat).getD 0 k < k then bz.go #[j] k 0 1 1 else bz.go #[j] k 0 0 0)=_;show (if j < k then bz.go #[j] k 0 1 1 else bz.go #[j] k 0 0 0)=_;split <;> rfl
theorem UD {t:iV} {Q:Option (iG×Nat)->iJ->Prop} (hb:w.params.followText "set-order"=iH) (f:t.fits es.size=iI) (hl:t.led=iI) (c:es.size<=1) (g:s.heap.get? a=iD (kB es ep t)) (hi:i<=es.size)
  (q:Q (match es[i]? with | some e=>iD (e.2,yg t (i+1)) | none=>iF) s):wpAny (model prog w) A (setNext a (yg t i) i ep) Q E s:=by
 have h:t.place.size=es.size:=by have:=f;simp only [SetTable.fits,aZ,beq_iff_eq] at this;exact this.1
 unfold setNext;refine iE (iY g rfl f ?_);dsimp only;refine iE (m:=setsByText) (iE (iW (iK ?_)));rw [vG hb,if_neg (by simp)];show wpAny _ _ (if (!t.plain&&decide (es.size > 1))=iI then _ else _) _ _ _;rw [if_neg (by simp; intro _; omega)];refine iE ?_;show wpAny _ _ (if (!t.led&&!es.isEmpty)=iI then _ else _) _ _ _;rw [hl,if_neg (by simp)];refine iK (iK ?_);have e:(match es[bz t.place (yg t i)]?,t.place[bz t.place (yg t i)]? with | some (_,x),iD j=>iD (x,j+1) | _,_=>iF)=(match es[i]? with | some e=>iD (e.2,yg t (i+1)) | none=>iF:Option (iG×Nat)):=by
  obtain ⟨l⟩:=es;obtain ⟨k,⟨pl⟩,u,fi,le,mo,pn⟩:=t;cases l with
  | nil=>simp
  | cons d l=>
   cases l with
   | cons _ _=>exact absurd c (by simp)
   | nil=>
    cases pl with
    | nil=>exact absurd h (by simp)
    | cons j pl=>
     cases pl with
     | cons _ _=>exact absurd h (by simp)
     | nil=>
      have b:i=0\/i=1:=by simp at hi; omega
      rcases b with rfl | rfl;·show (match (#[d]:Array (Int×iG))[bz #[j] 0]?,(#[j]:Array Nat)[bz #[j] 0]? with | some (_,x),iD j=>iD (x,j+1) | _,_=>iF)=iD (d.2,j+1);rw [KH,if_neg (by omega)];rfl
      ·show (match (#[d]:Array (Int×iG))[bz #[j] (j+1)]?,(#[j]:Array Nat)[bz #[j] (j+1)]? with | some (_,x),iD j=>iD (x,j+1) | _,_=>iF)=iF;rw [KH,if_pos (by omega)];rfl
 exact Eq.mp (congrArg (λz=>Q z s) e.symm) q
theorem qbb {ep:Nat} {t:iV} (m:A.handled=iF) (hb:w.params.followText "set-order"=iH) (f:t.fits es.size=iI) (hl:t.led=iI) (j:es.size<=1) (e:a≠it):Walks prog w A it [it,a] [it] es.size (λi v=>(es.toList.map (·.2))[i]?=iD v) (λi h=>h.get? it=iD (ul (rawInt (yg t i)) i a es.size ep)/\h.get? a=iD (kB es ep t)) where
 sub:=λb hb=>by simp at hb; simp [hb]
 frame:=λ_ _ _ st k=>⟨k it (by simp) _ st.1,k a (by simp) _ st.2⟩
 item:=λi s Q E hi st c=>by
  have l:es[i]?=iD es[i]:=bD hi;refine KC (x:=es[i].2) (nx:=yg t (i+1)) st.1 st.2 f rfl (λA1 K R q=>UD hb f hl j st.2 (cN hi) (by rw [l]; exact q)) λh' d g=>c es[i].2 h' s.toks ?_ ⟨d,?_⟩ λb o y r=>?_;·rw [aJ,cI,l];rfl
  ·rw [g.2 a e];exact st.2
  ·rw [g.2 b (λz=>y (by simp [z]))];exact r
 done:=λs Q E st c=>KG m st.1 st.2 f rfl (λA1 K R q=>UD hb f hl j st.2 (aG _) (by rw [da (aG _)]; exact q)) λh' B=>c h' s.toks λb o y r=>B b o (λz=>y (by simp [z])) r
 self:=λi s Q E st c=>zO st.1 rfl c
noncomputable def qfv (es:Array (Int×iG)) (ps:List Nat):List iG:=ps.map λk=>(es[k]?.map (·.2)).getD .none
theorem ZE (h:ps.Perm (bE es.size)):(qfv es ps).Perm (es.toList.map (·.2)):=by
 have e:qfv es (bE es.size)=es.toList.map (·.2):=by
  apply List.ext_getElem?;intro i;unfold qfv;rw [aJ,aJ,show es.toList[i]?=es[i]? from cI];by_cases hi:i < es.size;·rw [List.getElem?_range hi,bD hi];simp [hi]
  ·rw [cJ (by rw [cQ]; omega),da (by omega)];rfl
 rw [<-e];exact h.map _
theorem YN {ep m:Nat} {t:iV} (u:A.handled=iF) (g:t.fits es.size=iI) (hp:ps.Perm (bE es.size)) (d:a≠it) (e:p≠it):Walks prog w A it [it,a,p] [it] es.size (λi v=>(qfv es ps)[i]?=iD v) (λi h=>h.get? it=iD (ul (.ref p) i a es.size ep)/\h.get? a=iD (kB es ep t)/\h.get? p=iD { cls:=.type "tuple",data:=.seq (ps.map λ(i:Nat)=>rawInt i).toArray m }) where
 sub:=λb hb=>by simp at hb; simp [hb]
 frame:=λ_ _ _ st k=>⟨k it (by simp) _ st.1,k a (by simp) _ st.2.1,k p (by simp) _ st.2.2⟩
 item:=λi s Q E hi st c=>by
  have n:ps.length=es.size:=by rw [hp.length_eq,cQ]
  have l:i < ps.length:=by omega
  have k:ps[i] < es.size:=cY.mp (hp.mem_iff.mp (dI l));have j:es[ps[i]]?=iD es[ps[i]]:=bD k;refine YM (x:=es[ps[i]].2) (hx:=es[ps[i]].1) (pl:=ps[i]) st.1 st.2.1 g rfl st.2.2 ?_ j λh' f q=>c es[ps[i]].2 h' s.toks ?_ ⟨f,?_,?_⟩ λb o y r=>?_;·rw [eZ,aJ,aM l];rfl
  ·unfold qfv;rw [aJ,aM l];simp [j]
  ·rw [q.2 a d];exact st.2.1
  ·rw [q.2 p e];exact st.2.2
  ·rw [q.2 b (λz=>y (by simp [z]))];exact r
 done:=λs Q E st c=>by
  have n:ps.length=es.size:=by rw [hp.length_eq,cQ]
  refine ZC u st.1 st.2.1 g rfl st.2.2 ?_ λh' B=>c h' s.toks λb o y r=>B b o (λz=>y (by simp [z])) r;rw [eZ,cJ (by simp; omega)]
 self:=λi s Q E st c=>zO st.1 rfl c
theorem qbc {t:iV} {A1:iO} {Q:iG->iJ->Prop} (n:A1.handled=iF) (f:s.heap.get? a=iD (kB es ep t)) (d:SetG KpS prog w es t ks)
  (q:∀ (it:Addr) (h':Heap) (r:Drawn) (ord:List iG) (fp:List Addr) (St:Nat->Heap->Prop),(∀ b o,s.heap.get? b=iD o->h'.get? b=iD o)->ord.Perm (es.toList.map (·.2))->Walks prog w A1 it fp [it] es.size (λi v=>ord[i]?=iD v) St->St 0 h' ->(∀ b∈fp,b=a\/s.heap.objs.size<=b)->s.heap.objs.size<=it->Q (.ref it) { s with heap:=h',drawn:=r }):wpAny (model prog w) A (pyIter (.ref a)) Q E s:=by
 have hT:s.TypeIs (.ref a) "set":=⟨_,f,rfl⟩
 have c:a < s.heap.objs.size:=aE f;refine wpAny_pyIter_slot hT PySem.F.slot_set_iter (iQ PySem.F.slot_set_iter hT KB ?_ (PySem.F.args_set_iter_1 _));show wpAny _ _ (Builtin.Frozenset.sizeOf a >>= _) _ _ s;refine iE (m:=Builtin.Frozenset.sizeOf a) (iE (lc f rfl d.fits (iK ?_)));refine iE (m:=setDrawn a) ?_;unfold setDrawn;refine iE (iY f rfl d.fits ?_);dsimp only;refine iE (m:=setsByText) (iE (iW (iK ?_)));refine iK ?_;cases hb:w.params.followText "set-order" with
 | true=>
  rw [vG hb,if_neg (by simp)];refine iE (iK ?_);refine iE (m:=setEpoch a) (wpAny_setEpoch_of f rfl d.fits ?_);refine iE (iN (iK ⟨_,rfl, "set_iterator",_,⟨_,aq _ rfl,rfl⟩,slot_si_next.lookup,?_⟩));refine q _ _ s.drawn _ _ _ (λb o e=>aa _ e) ((zN (w.params.setOrder a ep) es).map _) (ZD n hb d.fits (aL c)) ⟨aq _ rfl,aa _ f⟩ ?_ (aG _);intro b hb;rcases ah.mp hb with z | z;·exact .inr (z ▸ aG _)
  ·exact .inl (aK.mp z)
 | false=>
  have j:t.led=true:=by rw [d.led,hb]; rfl
  rw [vG hb];show wpAny _ _ (if (!false&&(!t.plain&&decide (es.size > 1)))=iI then _ else _) _ _ _;by_cases u:es.size<=1
  ·rw [if_neg (by simp; intro _; omega)];refine iE (iK ?_);refine iE (m:=setEpoch a) (wpAny_setEpoch_of f rfl d.fits ?_);refine iE (iN (iK ⟨_,rfl, "set_iterator",_,⟨_,aq _ rfl,rfl⟩,slot_si_next.lookup,?_⟩));refine q _ _ s.drawn _ _ _ (λb o e=>aa _ e) (cG _) (qbb n hb d.fits j u (aL c)) ⟨aq _ rfl,aa _ f⟩ ?_ (aG _);intro b hb;rcases ah.mp hb with z | z;·exact .inr (z ▸ aG _)
   ·exact .inl (aK.mp z)
  ·have l:t.plain=false:=d.plain rfl λz=>by have x:=d.size;rw [z,am] at x;omega
   rw [if_pos (by rw [l]; simp; omega)];refine iE (ZA es.size (bE es.size) s (by simp) λps r hp=>?_);have g:ps.length=es.size:=by rw [hp.length_eq,cQ]
   have k:(ps.map λ(i:Nat)=>rawInt i).length<=sizeLine:=by rw [aH,g]; exact lu d.bd
   refine iE (wpAny_newTuple ?_ k);refine iE (m:=setEpoch a) (wpAny_setEpoch_of (aa _ f) rfl d.fits ?_);refine iE (iN (iK ⟨_,rfl, "set_iterator",_,⟨_,aq _ rfl,rfl⟩,slot_si_next.lookup,?_⟩));have h:s.heap.objs.size < (s.heap.push ({ cls:=.type "tuple",data:=.seq (ps.map λ(i:Nat)=>rawInt i).toArray }:Obj)).objs.size:=by rw [bH]; exact fP _
   refine q _ _ r _ _ _ (λb o e=>aa _ (aa _ e)) (ZE hp) (YN (p:=s.heap.objs.size) n d.fits hp (aL (eJ c h)) (aL h)) ⟨aq _ rfl,aa _ (aa _ f),aa _ (aq _ rfl)⟩ ?_ (cN h);intro b hb;rcases ah.mp hb with z | z;·exact .inr (z ▸ cN h)
   ·rcases ah.mp z with z | z;·exact .inl z
    ·exact .inr (fB (aK.mp z).symm)
end
section
theorem qbd {ord:List iG} {acc:Array iG} (hl:ord.length=n) (h:ItemsOf (λi v=>ord[i]?=iD v) acc n):acc.toList=ord:=by
 apply List.ext_getElem?;intro i;rw [show acc.toList[i]?=acc[i]? from cI];by_cases hi:i < acc.size;·rw [bD hi];exact (h.2 i _ (bD hi)).symm
 ·rw [da (by omega),cJ (by have:=h.1; omega)]
theorem VV {t:iV} {Q:List iG->iJ->Prop} (L:A.handled=iF) (I:s.heap.get? a=iD (kB es ep t)) (d:SetG KpS prog w es t ks)
  (N:∀ h' x tk ord,(∀ b o,s.heap.get? b=iD o->h'.get? b=iD o)->ord.Perm (es.toList.map (·.2))->Q ord { s with heap:=h',drawn:=x,toks:=tk }):wpAny (model prog w) A (collect (.ref a)) Q E s:=by
 have n:a < s.heap.objs.size:=aE I;unfold collect;refine iE (wpAny_runValue (iZ PySem.F.entry_proto_collect ?_)); rw [cg PySem.F.plain_proto_collect _];show wpAny _ A.in1 (newList [] >>= λl=>again (.builtin "list.__iadd__" ⟨[l,.ref a],[]⟩)) _ _ s; refine iE (iN ?_);refine iK ⟨lp PySem.F.plain_list_iadd _,iZ PySem.F.entry_list_iadd ?_⟩; rw [cg PySem.F.plain_list_iadd _];have f:(s.heap.push { cls:=.type "list",data:=.seq ([]:List iG).toArray }).get? a=iD (kB es ep t):=aa _ I;have hT:fN { s with heap:=s.heap.push { cls:=.type "list",data:=.seq ([]:List iG).toArray } } (.ref a) "set":=⟨_,f,rfl⟩
 show wpAny _ A.in1 (Builtin.List.listExtendWith (.ref s.heap.objs.size) (.ref a) (.ref s.heap.objs.size)) _ _ _; unfold Builtin.List.listExtendWith;refine iE (ll hT ?_);have h1:Builtin.List.listSameRef (.ref s.heap.objs.size) (.ref a)=false:=by simp [Builtin.List.listSameRef,dH n]
 rw [if_neg (by rw [h1]; decide)];refine iE (qbc (A1:=A.in1) L f d λit h2 x ord fp St k2 hp W C M hit=>?_);have u:h2.get? s.heap.objs.size=iD { cls:=.type "list",data:=.seq ([]:List iG).toArray }:=k2 _ _ (aq _ rfl);have D:h2.get? a=iD (kB es ep t):=k2 _ _ f;refine iE (iX ?_);unfold Builtin.List.listLengthHint;have g:fN { s with heap:=h2,drawn:=x } (.ref a) "set":=⟨_,D,rfl⟩
 refine iE (wpAny_specialOf g PySem.F.slot_set_len.lookup ?_)
 (generalize c:("set.__len__":String)=id0; (fail_if_success (clear c id0)); wp_delta; rw [show splitId id0=iD ("set", "__len__") from by subst c; decide +kernel]; subst c)
 refine iE (lf (b:=iI) g (by rw [lv]; kernel_rfl) ?_);refine iE (m:=typeOf (.ref a)) (ll g ?_);refine iK ?_;show wpAny _ A.in1 (rule "list.extend.makes-room" >>= λ_=>Builtin.List.listTouch (.ref s.heap.objs.size) >>= λ_=>again (.builtin "list.extend.loop" ⟨[.ref s.heap.objs.size,.ref it,.ref s.heap.objs.size],[]⟩)) _ _ _;refine iE (j8 (iE ?_)); show wpAny _ A.in1 (updateSeq s.heap.objs.size (·.push .none) >>= λ_=>updateSeq s.heap.objs.size (·.pop)) _ _ _;refine iE (wpAny_updateSeq u rfl ?_); have h:=bt (dF (·.push bT)) u rfl;refine wpAny_updateSeq h rfl ?_; have i:=bt (dF (·.pop)) h rfl;have k:(s.heap.push ({ cls:=.type "list",data:=.seq ([]:List iG).toArray }:Obj)).objs.size=s.heap.objs.size+1:=bH ..;have j:∀ b o,b≠s.heap.objs.size->h2.get? b=iD o->((h2.update s.heap.objs.size (dF (·.push bT))).update s.heap.objs.size (dF (·.pop))).get? b=iD o:=λb o hb e=>(c9 _ _ (be hb)).trans ((c9 _ _ (be hb)).trans e);have H:s.heap.objs.size∉fp:=λz=>by
  rcases M _ z with q | q;·exact dH n q
  ·exact Nat.not_succ_le_self _ (k ▸ q)
 have p:ord.length=es.size:=by rw [hp.length_eq];simp
 refine iK ⟨lp PySem.F.plain_extend_loop _,codeAny_extend_loopS W.toS (lu d.bd) _ H _ es.size 0 _ _ _ rfl (bA _) (W.frame 0 h2 _ C λb hb o e=>j b o (λz=>H (z ▸ hb)) e) i (ItemsOf.nil _) λs' K T v G r=>?_⟩;show wpAny _ A (load s.heap.objs.size >>= _) _ _ s';refine iE (wpAny_load G (iK ?_));rw [qbd p r];obtain ⟨h',g',d',y,B⟩:=s';have P:g'=s.gens:=v.gens;have R:d'=x:=v.drawn;have O:B=s.os:=v.os;subst P R O;refine N h' d' y ord (λb o e=>?_) hp;have hb:=aE e;refine v.heap b o (λz=>?_) (j b o (aL hb) (k2 b o (aa _ e)));rcases ah.mp z with z | z;·exact aL hb z
 ·have J:s.heap.objs.size+1<=it:=k ▸ hit;rw [<-aK.mp z] at J;exact cD _ (eJ hb J)
theorem YO {Q:iG->iJ->Prop} (p:A.handled=iF) (S:SetK KpS prog w s.heap a ks) (j:ks.length < 64)
  (u:∀ (h1 h':Heap) r tk vs e ss,(∀ b o,s.heap.get? b=iD o->h1.get? b=iD o)->(∀ b o,h1.get? b=iD o->h'.get? b=iD o)->h'.get? h1.objs.size=iD (seqObj "list" vs e)->StrsAre vs.toList ss->ss.Perm ks->sortedS ss=iI->Q (.ref h1.objs.size) { s with heap:=h',drawn:=r,toks:=tk }) :
  wpAny (model prog w) A (call (.builtin "sorted") [.ref a]) Q E s:=by
 obtain ⟨es,ep,t,q,d⟩:=S;refine Calls.call_function_entry kind_sorted plain_sorted entry_sorted (args_sorted1 _) ?_; unfold Builtin.«sorted»;refine iE (m:=checkCount "sorted" 1 1 _) (iK ?_);refine iE (VV (by exact p) q d λh1 r tk ord k1 hp=>?_);have c:StrsAre ord (ord.map strOf):=strsAre_map ord λv l=>by obtain ⟨e,i,rfl⟩:=aF.mp (hp.mem_iff.mp l);exact qfs d.el i
 have h:(ord.map strOf).Perm ks:=(hp.map strOf).trans (by rw [fS]; exact d.perm);have n:ord.length=ks.length:=by have:=h.length_eq;rwa [aH] at this
 refine iE (wpAny_newList ?_ (by rw [n,iR]; omega));have Y:(h1.push (seqObj "list" ord.toArray 0)).get? h1.objs.size=iD (seqObj "list" ord.toArray 0):=aq _ rfl;refine iE (iX (iQ slot_list_sort (s:={ s with heap:=h1.push (seqObj "list" ord.toArray 0),drawn:=r,toks:=tk }) ⟨_,Y,rfl⟩ entry_list_sort (list_sort_treeK strKind_oneLt Y c.keysOf (λv₁ k rest e=>keyKind_strs (by rw [<-e]; exact c)) (by rw [n]; exact j) λf z x=>⟨_,rfl,?_⟩) (args_list_sort _)));obtain ⟨g,b1,b2,y⟩:=sorted_out_str c z x;obtain ⟨e,i⟩:=sortedHeap_at (out:=(arrOf f).map (·.2)) Y;refine iK ⟨_,rfl,u h1 _ r tk _ e g k1 (λb o B=>?_) i b1 (b2.trans h) y⟩;have hb:=aE B;rw [sortedHeap_old (aL hb) (by rw [bH]; exact eU hb)];exact aa _ B
end
section
theorem KI {x:iG} {Q:iG->iJ->Prop} (hit:s.heap.IsTupleIter it l i) (hl:s.heap.IsTuple l items) (hx:items[i]?=iD x)
  (c:∀ h',h'.IsTupleIter it l (i+1)->bM it s.heap h'->Q x { s with heap:=h' }):wpAny (model prog w) A (bo (.ref it)) Q E s:=by
 obtain ⟨o,m,d,hd⟩:=id hit;obtain ⟨ol,h,_,n,a⟩:=hl;unfold bo;refine iE (iP (name:=au "__next__") hit.typeIs ck (iQ ck hit.typeIs PySem.F.entry_tuple_iterator_next ?_ (PySem.F.args_tuple_iterator_next_1 _))); show wpAny _ _ (field (.ref it) 0 >>= _) _ _ s;refine iE (iS m hd (x:=.ref l) rfl ?_); show wpAny _ _ (if (br l == bT)=iI then _ else _) _ _ s;rw [if_neg (show ¬((br l == bT)=iI) from cu)]; show wpAny _ _ (field (.ref it) 1 >>= _) _ _ s;refine iE (iS m hd (x:=.int i 0) rfl ?_); show wpAny _ _ (seqItems? (.ref l) >>= _) _ _ s;refine iE (iT h a ?_); simp only [Int.toNat_natCast,hx];refine iE (j4 m hd (by simp) (iK ⟨x,rfl,iK (c _ ?_ (bw ..))⟩)); exact ⟨_,bt _ m (Obj.isFreed_of_fields (Obj.data_mapFields hd _)),(Obj.cls_mapFields ..).trans d,by rw [Obj.data_mapFields hd]; simp [rawInt]⟩
theorem xQ {Q:iG->iJ->Prop} (d:A.handled=iF) (hit:s.heap.IsTupleIter it l i) (hl:s.heap.IsTuple l items) (hx:items[i]?=iF)
  (j:∀ h' e,g6 it s.heap h'->(∃ o,h'.get? e=iD o/\o.cls=.type "StopIteration")->E (.ref e) { s with heap:=h' }):wpAny (model prog w) A (bo (.ref it)) Q E s:=by
 obtain ⟨o,b,f,hd⟩:=id hit;obtain ⟨ol,h,_,n,c⟩:=hl;unfold bo;refine iE (iP (name:=au "__next__") hit.typeIs ck (iQ ck hit.typeIs PySem.F.entry_tuple_iterator_next ?_ (PySem.F.args_tuple_iterator_next_1 _))); show wpAny _ _ (field (.ref it) 0 >>= _) _ _ s;refine iE (iS b hd (x:=.ref l) rfl ?_); show wpAny _ _ (if (br l == bT)=iI then _ else _) _ _ s;rw [if_neg (show ¬((br l == bT)=iI) from cu)]; show wpAny _ _ (field (.ref it) 1 >>= _) _ _ s;refine iE (iS b hd (x:=.int i 0) rfl ?_); show wpAny _ _ (seqItems? (.ref l) >>= _) _ _ s;refine iE (iT h c ?_); simp only [Int.toNat_natCast,hx];refine iE (j8 (iE (j4 b hd (by simp) ?_))); show wpAny _ _ (newExc (.type "StopIteration") [] >>= _) _ _ _;refine iE ?_; simp only [newExc,newTuple]; refine iE (iN ?_ (by size_fits));refine iE (m:=firstArgMember _ _) (lH (a:=bT) (by first | rfl | (simp only [firstArgMember]; rfl)) ?_); refine iN ?_ (by size_fits); simp only [raiseNew];refine iE (wpAny_handled ?_); first | rw [show A.in1.handled=iF from d] | rw [d]
 refine iE (iK (wpAny_throw ?_)); exact j _ _ (((bw ..).extBut.push _).push _) ⟨_,aq _ rfl,rfl⟩
theorem VW (f:A.handled=iF) (it l:Addr) (d:l≠it) (items:Array iG):Draws prog w A it [it,l] items.size (λi v=>items[i]?=iD v) (λi h=>h.IsTupleIter it l i/\h.IsTuple l items) where
 live:=λ_ _ st=>let ⟨o,m,_⟩:=st.1; ⟨o,m⟩
 frame:=λ_ _ _ st k=>⟨st.1.at λo e=>k it (by simp) o e,let ⟨o,e,c⟩:=st.2; ⟨o,k l (by simp) o e,c⟩⟩
 item:=λi s Q E hi st g=>by refine KI st.1 st.2 (x:=items[i]) (by simp [hi]) λh' b a=>g _ h' s.toks (by simp [hi]) ⟨b,?_⟩ a;obtain ⟨o,e,c⟩:=st.2;exact ⟨o,(a.2 l d).trans e,c⟩
 done:=λs Q E st j=>xQ f st.1 st.2 (by simp) j
structure Apart2 (z TI TO i1 i2:Addr) (fp1 fp2:List Addr):Prop where
 TIz:TI≠z
 TOz:TO≠z
 i1z:i1≠z
 i2z:i2≠z
 TITO:TI≠TO
 TIi1:TI≠i1
 TIi2:TI≠i2
 TOi1:TO≠i1
 TOi2:TO≠i2
 i12:i1≠i2
 z1:z∉fp1
 z2:z∉fp2
 o1:TO∉fp1
 o2:TO∉fp2
 a12:i1∉fp2
 a21:i2∉fp1
variable {z TI TO i1 i2:Addr} {fp1 fp2:List Addr} {n1 n2:Nat} {P1 P2:Nat->iG->Prop} {S1 S2:Nat->Heap->Prop} {a b:iG}
theorem qbe {Q:iG->iJ->Prop} (D:Apart2 z TI TO i1 i2 fp1 fp2) (D1:Draws prog w A i1 fp1 n1 P1 S1) (D2:Draws prog w A i2 fp2 n2 P2 S2)
  (W:lB s.heap z TI TO .none) (F:lb s.heap TI (.ref i1) (.ref i2)) (Z:lb s.heap TO a b) (h1:S1 i s.heap) (h2:S2 i s.heap) (l1:i < n1) (l2:i < n2)
  (hQ:∀ x y h' tk,P1 i x->P2 i y->lB h' z TI TO (rawInt s.heap.objs.size)->lb h' TO x y->S1 (i+1) h'->S2 (i+1) h'->lb h' s.heap.objs.size x y ->(∀ c o,c≠z->c≠TO->c≠i1->c≠i2->s.heap.get? c=iD o->h'.get? c=iD o)->Q (.ref s.heap.objs.size) { s with heap:=h',toks:=tk }) :
  wpAny (model prog w) A (Builtin.«zip.__next__» ⟨[.ref z],[]⟩) (λfin s'=>∃ v,fin=.done (.ret v)/\Q v s') E s:=by
 show wpAny _ _ (field (.ref z) 2 >>= _) _ _ _; refine iE (iS W rfl (x:=.bool iH) rfl ?_);show wpAny _ _ (field (.ref z) 3 >>= _) _ _ _; refine iE (iS W rfl (x:=.ref TI) rfl ?_); refine iE (iT F rfl ?_);show wpAny _ _ (bW (.ref z) >>= _) _ _ _; refine iE ?_; unfold bW;refine iE (iS W rfl (x:=.none) rfl (iK ?_)); simp only [if_true];refine iE (j8 ?_); refine iE (iS W rfl (x:=.ref TO) rfl ?_);refine iE (j5 W (by simp) λh₁ r l=>?_); replace r:lB h₁ z TI TO .ellipsis:=r;refine iE ?_; simp only [List.zipIdx_cons,List.zipIdx_nil,fX,f9];refine iE (iE (lD ?_)); show wpAny _ _ (bo (.ref i1) >>= _) _ _ _;refine iE (D1.item i _ _ _ l1 (D1.frame _ _ _ h1 λc C o e=>l.extBut _ _ (λq=>D.z1 (q ▸ C)) e) λx V Y hx N k=>iK ?_);have B:lb V TO a b:=(k.2 _ D.TOi1).trans (l.extBut _ _ D.TOz Z);refine iE (iT B rfl ?_); refine iE (wpAny_updateSeq_pair B λU n j=>?_);replace n:lb U TO x b:=n; refine iE (wpAny_letGo (iK ?_));refine iE (iE (lD ?_)); show wpAny _ _ (bo (.ref i2) >>= _) _ _ _;refine iE (D2.item i _ _ _ l2 (D2.frame _ _ _ h2 λc C o e=>(j.extBut _ _ (λq=>D.o2 (q ▸ C)) ((k.2 _ (λq=>D.a12 (q ▸ C))).trans (l.extBut _ _ (λq=>D.z2 (q ▸ C)) e)))) λy T L hy M g=>iK ?_);have u:lb T TO x b:=(g.2 _ D.TOi2).trans n;refine iE (iT u rfl ?_); refine iE (wpAny_updateSeq_pair u λh d f=>?_);replace d:lb h TO x y:=d; refine iE (wpAny_letGo (iK (iK ?_)));refine iE (iT d rfl ?_); refine iE (wpAny_newTuple ?_);have X:h.objs.size=s.heap.objs.size:=by rw [f.1,g.1,j.1,k.1,l.1]
 have G:lB h z TI TO .ellipsis:=f.extBut _ _ D.TOz.symm ((g.2 _ D.i2z.symm).trans (j.extBut _ _ D.TOz.symm ((k.2 _ D.i1z.symm).trans r)));have P:∀ c o,c≠z->c≠TO->c≠i1->c≠i2->s.heap.get? c=iD o->h.get? c=iD o:=λc o R c2 c3 c4 e=>f.extBut _ _ c2 ((g.2 _ c4).trans (j.extBut _ _ c2 ((k.2 _ c3).trans (l.extBut _ _ R e))));have K:z < h.objs.size:=aE G;show wpAny _ _ (Builtin.SmallTypes.ownedTupleHandOut (.ref z) (.ref h.objs.size) >>= _) _ _ _; refine iE ?_; unfold Builtin.SmallTypes.ownedTupleHandOut;have O:lB (h.push { cls:=.type "tuple",data:=.seq #[x,y] }) z TI TO .ellipsis:=aa _ G;refine iE (j5 O (by simp) λS p I=>?_); replace p:lB S z TI TO (rawInt h.objs.size):=p;refine j5 p (by simp) λt m H=>?_; replace m:lB t z TI TO (rawInt h.objs.size):=m;have up:∀ c o,c≠z->h.get? c=iD o->t.get? c=iD o:=λc o R e=>H.extBut _ _ R (I.extBut _ _ R (aa _ e));have J:lb t h.objs.size x y:=H.extBut _ _ (dH K) (I.extBut _ _ (dH K) (aq _ rfl));rw [X] at m J;refine iK ⟨_,rfl,?_⟩;show Q (.ref h.objs.size) _;rw [X];refine hQ x y t L hx hy m (up _ _ D.TOz d) (D1.frame _ _ _ N λc C o e=>up _ _ (λq=>D.z1 (q ▸ C)) (f.extBut _ _ (λq=>D.o1 (q ▸ C)) ((g.2 _ (λq=>D.a21 (q ▸ C))).trans (j.extBut _ _ (λq=>D.o1 (q ▸ C)) e))))
  (D2.frame _ _ _ M λc C o e=>up _ _ (λq=>D.z2 (q ▸ C)) (f.extBut _ _ (λq=>D.o2 (q ▸ C)) e)) J λc o R c2 c3 c4 e=>up c o R (P c o R c2 c3 c4 e)
theorem qdx {Q:Fin->iJ->Prop} (D:Apart2 z TI TO i1 i2 fp1 fp2) (M:Draws prog w A i1 fp1 n1 P1 S1) (R:Draws prog w A i2 fp2 n2 P2 S2)
  (y:lB s.heap z TI TO .none) (F:lb s.heap TI (.ref i1) (.ref i2)) (Z:lb s.heap TO a b) (h1:S1 i s.heap) (h2:S2 i s.heap) (C:i=n1\/(i < n1/\i=n2))
  (P:∀ h' tk e,(∀ c o,c≠z->c≠TO->c≠i1->c≠i2->s.heap.get? c=iD o->h'.get? c=iD o)->(∃ o,h'.get? e=iD o/\o.cls=.type "StopIteration")->E (.ref e) { s with heap:=h',toks:=tk }) :
  wpAny (model prog w) A (Builtin.«zip.__next__» ⟨[.ref z],[]⟩) Q E s:=by
 show wpAny _ _ (field (.ref z) 2 >>= _) _ _ _; refine iE (iS y rfl (x:=.bool iH) rfl ?_);show wpAny _ _ (field (.ref z) 3 >>= _) _ _ _; refine iE (iS y rfl (x:=.ref TI) rfl ?_); refine iE (iT F rfl ?_);show wpAny _ _ (bW (.ref z) >>= _) _ _ _; refine iE ?_; unfold bW;refine iE (iS y rfl (x:=.none) rfl (iK ?_)); simp only [if_true];refine iE (j8 ?_); refine iE (iS y rfl (x:=.ref TO) rfl ?_);refine iE (j5 y (by simp) λh₁ r l=>?_); replace r:lB h₁ z TI TO .ellipsis:=r;refine iE ?_; simp only [List.zipIdx_cons,List.zipIdx_nil,fX,f9];refine iE (iE (lD ?_)); show wpAny _ _ (bo (.ref i1) >>= _) _ _ _;have f1:S1 i h₁:=M.frame _ _ _ h1 λc G o e=>l.extBut _ _ (λq=>D.z1 (q ▸ G)) e;rcases C with rfl | ⟨hlt,rfl⟩
 ·refine iE (M.done _ _ _ f1 λd e k K=>?_);obtain ⟨J,h,O⟩:=K;have g:lB d z TI TO .ellipsis:=k _ _ D.i1z.symm r;have t:e≠z:=λx=>by subst x; rw [g] at h; cases h; simp at O
  exact j5 g (by simp) λp _ j=>P p s.toks e (λc o H _ L _ x=>j.extBut _ _ H (k _ _ L (l.extBut _ _ H x))) ⟨J,j.extBut _ _ t h,O⟩
 ·refine iE (M.item i _ _ _ hlt f1 λx d Y hx N k=>iK ?_);have B:lb d TO a b:=(k.2 _ D.TOi1).trans (l.extBut _ _ D.TOz Z);refine iE (iT B rfl ?_); refine iE (wpAny_updateSeq_pair B λp I j=>?_);refine iE (wpAny_letGo (iK ?_)); refine iE (iE (lD ?_)); show wpAny _ _ (bo (.ref i2) >>= _) _ _ _;refine iE (R.done _ _ _ (R.frame _ _ _ h2 λc G o e=>(j.extBut _ _ (λq=>D.o2 (q ▸ G)) ((k.2 _ (λq=>D.a12 (q ▸ G))).trans (l.extBut _ _ (λq=>D.z2 (q ▸ G)) e)))) λv e n K=>?_);obtain ⟨J,h,O⟩:=K;have f:lB v z TI TO .ellipsis:=n _ _ D.i2z.symm (j.extBut _ _ D.TOz.symm ((k.2 _ D.i1z.symm).trans r));have t:e≠z:=λx=>by subst x; rw [f] at h; cases h; simp at O
  exact j5 f (by simp) λu _ m=>P u Y e (λc o H c2 L S x=>m.extBut _ _ H (n _ _ S (j.extBut _ _ c2 ((k.2 _ L).trans (l.extBut _ _ H x))))) ⟨J,m.extBut _ _ t h,O⟩
theorem VX {Q:Option iG->iJ->Prop} (D:Apart2 z TI TO i1 i2 fp1 fp2) (M:Draws prog w A.in1 i1 fp1 n1 P1 S1) (R:Draws prog w A.in1 i2 fp2 n2 P2 S2)
  (d:lB s.heap z TI TO .none) (h:lb s.heap TI (.ref i1) (.ref i2)) (Z:lb s.heap TO a b) (h1:S1 i s.heap) (h2:S2 i s.heap) (e:i < n1) (l:i < n2)
  (f:∀ x y h' tk,P1 i x->P2 i y->lB h' z TI TO (rawInt s.heap.objs.size)->lb h' TO x y->S1 (i+1) h'->S2 (i+1) h'->lb h' s.heap.objs.size x y ->(∀ c o,c≠z->c≠TO->c≠i1->c≠i2->s.heap.get? c=iD o->h'.get? c=iD o)->Q (iD (.ref s.heap.objs.size)) { s with heap:=h',toks:=tk }):wpAny (model prog w) A (pyNext (.ref z)) Q E s:=by
 have hT:s.TypeIs (.ref z) "zip":=⟨_,d,rfl⟩
 unfold pyNext;exact iE (j3 (iP (name:=au "__next__") hT dm (iQ dm hT PySem.F.entry_zip_next
  (qbe D M R d h Z h1 h2 e l λx y h' tk r q p n m g k j=>iK (f x y h' tk r q p n m g k j)) (PySem.F.args_zip_next_1 _))))
theorem YQ {Q:Option iG->iJ->Prop} (D:Apart2 z TI TO i1 i2 fp1 fp2) (M:Draws prog w A.in1 i1 fp1 n1 P1 S1) (R:Draws prog w A.in1 i2 fp2 n2 P2 S2)
  (d:lB s.heap z TI TO .none) (h:lb s.heap TI (.ref i1) (.ref i2)) (Z:lb s.heap TO a b) (h1:S1 i s.heap) (h2:S2 i s.heap) (C:i=n1\/(i < n1/\i=n2))
  (j:∀ h' tk,(∀ c o,c≠z->c≠TO->c≠i1->c≠i2->s.heap.get? c=iD o->h'.get? c=iD o)->Q iF { s with heap:=h',toks:=tk }):wpAny (model prog w) A (pyNext (.ref z)) Q E s:=by
 have hT:s.TypeIs (.ref z) "zip":=⟨_,d,rfl⟩
 unfold pyNext;refine iE (j3 (iP (name:=au "__next__") hT dm (iQ dm hT PySem.F.entry_zip_next (qdx D M R d h Z h1 h2 C λh' tk e k g=>?_) (PySem.F.args_zip_next_1 _))));obtain ⟨o,m,f⟩:=g;refine iE (lf (T := "StopIteration") (b:=iI) ⟨o,m,f⟩ isSubtype_stop ?_);exact iK (j _ _ k)
end
section
theorem UE (b:A.handled=iF) (k:SK) (it l:Addr) (e:l≠it) (items:Array iG):Draws prog w A it [it,l] items.size (λi v=>items[i]?=iD v) (λi h=>ItK h it l k i/\SeqK h l k items):=by
 cases k with
 | l=>exact Draws.list b it l e items
 | t=>exact VW b it l e items
end
abbrev zH1 (k1:SK) (h:Heap) (i:Addr):Heap:=h.push { cls:=.type k1.itc,data:=.fields #[.ref i,.int 0 0] }
abbrev zH2 (k1 k2:SK) (h:Heap) (i l:Addr):Heap:=(zH1 k1 h i).push { cls:=.type k2.itc,data:=.fields #[.ref l,.int 0 0] }
abbrev zH3 (k1 k2:SK) (h:Heap) (i l:Addr):Heap:=(zH2 k1 k2 h i l).push { cls:=.type "tuple",data:=.seq #[.ref h.objs.size,.ref (zH1 k1 h i).objs.size] }
abbrev zH4 (k1 k2:SK) (h:Heap) (i l:Addr):Heap:=(zH3 k1 k2 h i l).push { cls:=.type "tuple",data:=.seq #[.none,.none] }
abbrev zH5 (k1 k2:SK) (h:Heap) (i l:Addr):Heap:=(zH4 k1 k2 h i l).push { cls:=.type "zip",data:=.fields #[.none,.bool iH,.bool iH,.ref (zH2 k1 k2 h i l).objs.size,.ref (zH3 k1 k2 h i l).objs.size] }
theorem ZF (k1 k2:SK) (i l:Addr) (xs ys:Array iG):Meets (Builtin.«zip.__new__» ⟨[.type "zip",.ref i,.ref l],[]⟩) (λ_ R s=>SeqK s.heap i k1 xs/\SeqK s.heap l k2 ys/\R (.ok (.ret (.ref (zH4 k1 k2 s.heap i l).objs.size))) { s with heap:=zH5 k1 k2 s.heap i l }):=
 .of_wp λprog w A R s h=>by
  obtain ⟨hp,g,d,tk,os⟩:=s; obtain ⟨t,j,h⟩:=h;have c:=sub_zip;have b:SeqK (Shared.heap ⟨hp,g,d,tk,os⟩) i k1 xs:=t;have a:SeqK (Shared.heap ⟨hp.push { cls:=.type k1.itc,data:=.fields #[.ref i,.int 0 0] },g,d,tk,os⟩) l k2 ys:=SeqK.at j λo e=>aa _ e;wp_walk using qa5 b,qa5 a
  exact ⟨_,rfl,h⟩
section
theorem ZG {k1 k2:SK} {i l:Addr} {ys:Array iG} {Q:iG->iJ->Prop} (t:SeqK s.heap i k1 xs) (j:SeqK s.heap l k2 ys)
  (h:∀ h',lB h' (s.heap.objs.size+4) (s.heap.objs.size+2) (s.heap.objs.size+3) .none->lb h' (s.heap.objs.size+2) (.ref s.heap.objs.size) (.ref (s.heap.objs.size+1)) ->lb h' (s.heap.objs.size+3) .none .none->ItK h' s.heap.objs.size i k1 0->ItK h' (s.heap.objs.size+1) l k2 0->(∀ c o,s.heap.get? c=iD o->h'.get? c=iD o)->Q (.ref (s.heap.objs.size+4)) { s with heap:=h' }) :
  wpAny (model prog w) A (call (.type "zip") [.ref i,.ref l]) Q E s:=by
 refine callType_new PySem.F.called_zip (by decide) (PySem.F.typeCall_zip_2 _ _) (PySem.F.newCall_zip_2 _ _) (λobj=>PySem.F.args_object_init_3 obj _ _) PySem.F.entry_zip_new (ZF k1 k2 i l xs ys) ⟨t,j,?_⟩;have z1:(zH1 k1 s.heap i).objs.size=s.heap.objs.size+1:=bH ..;have z2:(zH2 k1 k2 s.heap i l).objs.size=s.heap.objs.size+2:=by rw [bH,z1]
 have z:(zH3 k1 k2 s.heap i l).objs.size=s.heap.objs.size+3:=by rw [bH,z2]
 have a:(zH4 k1 k2 s.heap i l).objs.size=s.heap.objs.size+4:=by rw [bH,z]
 have g:(zH5 k1 k2 s.heap i l).get? (zH4 k1 k2 s.heap i l).objs.size=iD _:=aq _ rfl;have B:(zH5 k1 k2 s.heap i l).get? (zH3 k1 k2 s.heap i l).objs.size=iD _:=aa _ (aq _ rfl);have g3:(zH5 k1 k2 s.heap i l).get? (zH2 k1 k2 s.heap i l).objs.size=iD _:=aa _ (aa _ (aq _ rfl));have g2:(zH5 k1 k2 s.heap i l).get? (zH1 k1 s.heap i).objs.size=iD _:=aa _ (aa _ (aa _ (aq _ rfl)));have g1:(zH5 k1 k2 s.heap i l).get? s.heap.objs.size=iD _:=aa _ (aa _ (aa _ (aa _ (aq _ rfl))));show _/\_;rw [z2,z,a] at g;rw [z1,z2] at g3;rw [z] at B;rw [z1] at g2;rw [a];exact ⟨⟨_,g,rfl⟩,h _ g g3 B (.of ⟨_,g1,rfl,rfl⟩) (.of ⟨_,g2,rfl,rfl⟩) λc o x=>aa _ (aa _ (aa _ (aa _ (aa _ x))))⟩
end
variable {t':Nat}
section
theorem ZH {ch:List Addr} (I:Inv X pins σ H s) (k:∀ b o,b∉ch->s.heap.get? b=iD o->h'.get? b=iD o) (h:∀ b∈ch,Vt X pins H b):Inv X pins σ H { s with heap:=h',toks:=t' }:=by
 have t:∀ b u,H b=iD u->b∉ch:=λb u e z=>by rw [(h b z).1] at e;cases e
 refine I.step (g':=s.gens) (d':=s.drawn) (ch:=ch) (λb hb=>?_) (λb o _ _ d e _=>k b o d e) (λb o _ _ d e _=>⟨o.slots,k b o d e⟩) (λ_ _ _ _ n=>n) (λb o d e=>⟨o,k b o d e⟩) (λ_ _ e=>e) (λ_ _ _ e=>e) (λb ps e=>⟨#[],by rw [e]; simp⟩) (λm f=>?_) (λb u e=>?_) I.bare;·obtain ⟨f0,f1,f2,g,f4,f5⟩:=h b hb;exact ⟨g,f1,f4,f5⟩
 ·obtain ⟨o,es,ep,a,r⟩:=f;exact ⟨o,es,ep,k _ o (λz=>(h _ z).2.1 rfl) a,r⟩
 ·refine (I.hok b u e).stay (λc v d q=>k c v ?_ q) (λ_ q=>q) λ_ _ q=>q;rcases d with z | z
  ·rw [z];exact t b u e
  ·exact t c _ z
theorem qit {d':Drawn} (I:Inv X pins σ H s) (k:∀ b u,s.heap.get? b=iD u->h'.get? b=iD u):Inv X pins σ H { s with heap:=h',drawn:=d',toks:=t' }:=by refine I.step (g':=s.gens) (d':=d') (ch:=[]) (λ_ z=>nomatch z) (λb o _ _ _ e _=>k b o e) (λb o _ _ _ e _=>⟨o.slots,k b o e⟩) (λ_ _ _ _ n=>n) (λb o _ e=>⟨o,k b o e⟩) (λ_ _ e=>e) (λ_ _ _ e=>e) (λb ps e=>⟨#[],by rw [e]; simp⟩) (λm c=>?_) (I.hok.kept k) I.bare;obtain ⟨o,es,ep,h,r⟩:=c;exact ⟨o,es,ep,k _ o h,r⟩
theorem yY {xs:List V} (I:Inv X pins σ H s):∀ {k:SK},SqK X.K H a k xs->∃ its:List iG,Vals xs its/\SeqK s.heap a k its.toArray
 | .l,h=>let ⟨its,r,p,_⟩:=I.list h; ⟨its,r,p.isList⟩
 | .t,h=>let ⟨its,r,p,_⟩:=I.tuple h; ⟨its,r,p⟩
end
noncomputable def Itz (K:Frag) (a o:Addr) (k1 k2:SK) (xs ys:List V):It:=
 ⟨λi H=>i < xs.length/\i < ys.length/\SqK K H a k1 xs/\SqK K H o k2 ys,λi H v H'=>∃ x y p,xs[i]?=iD x/\ys[i]?=iD y/\H p=iF/\v=.ref p/\H'=upd H p (.tup [x,y]),λi H=>(xs.length<=i\/ys.length<=i)/\SqK K H a k1 xs/\SqK K H o k2 ys⟩
variable {us:List iG}
theorem KJ {xs:List V} (r:Vals xs us) (h:us[i]?=iD u):∃ x,xs[i]?=iD x/\RelV x u:=by
 have hi:i < us.length:=(aA.mp h).1;have hx:i < xs.length:=by rw [r.length]; exact hi
 obtain ⟨a,h1,h2⟩:=r.get (aM hx);rw [h] at h1;cases h1;exact ⟨xs[i],aM hx,h2⟩
theorem KK (b p o:Nat) (h1:p < b) (h2:o < b):Apart2 (b+4) (b+2) (b+3) b (b+1) [b,p] [b+1,o]:=by have ne:∀ x y:Nat,x≠y->x≠y:=λ_ _ h=>h;have n:∀ x a c:Nat,x≠a->x≠c->x∉[a,c]:=λx a c n1 n2 h=>(ah.mp h).elim n1 λh=>n2 (aK.mp h);exact ⟨ne _ _ (by omega),ne _ _ (by omega),ne _ _ (by omega),ne _ _ (by omega),ne _ _ (by omega),ne _ _ (by omega),ne _ _ (by omega),ne _ _ (by omega),ne _ _ (by omega),ne _ _ (by omega),n _ _ _ (by omega) (by omega),n _ _ _ (by omega) (by omega),n _ _ _ (by omega) (by omega),n _ _ _ (by omega) (by omega),n _ _ _ (by omega) (by omega),n _ _ _ (by omega) (by omega)⟩
theorem qbf {P:iL} {w:iM} {K:Frag} {M:List Expr} {x1} {pos:Pos} {k1 k2:SK} (b C B:Nat) (xs ys:List V) (h1:C < b) (h2:B < b):Turn P w K (.Tuple M x1 pos) (Itz K C B k1 k2 xs ys) [b+4,b+2,b+3,b,b+1] (b+4)
   (λi h=>lB h (b+4) (b+2) (b+3) .none/\lb h (b+2) (.ref b) (.ref (b+1))/\(∃ a c,lb h (b+3) a c)/\ItK h b C k1 i/\ItK h (b+1) B k2 i/\i<=xs.length/\i<=ys.length) where
 mem:=by simp
 obj:=λi h st c f=>by
  obtain ⟨q,hi,⟨a,c',T⟩,r,t,_⟩:=st;simp only [ah,bi,or_false] at f;rcases f with rfl | rfl | rfl | rfl | rfl;·exact ⟨_,q,λv z=>by cases z⟩
  ·exact ⟨_,hi,λv z=>by cases z⟩
  ·exact ⟨_,T,λv z=>by cases z⟩
  ·obtain ⟨o,e,_,d⟩:=r.obj;exact ⟨o,e,λv z=>by rw [d] at z; cases z⟩
  ·obtain ⟨o,e,_,d⟩:=t.obj;exact ⟨o,e,λv z=>by rw [d] at z; cases z⟩
 keep:=λi h h' st k=>by
  obtain ⟨q,hi,⟨a,c',T⟩,r,t,n⟩:=st;refine ⟨k _ (by simp) _ q,k _ (by simp) _ hi,⟨a,c',k _ (by simp) _ T⟩,?_,?_,n⟩;·obtain ⟨o,e,c,d⟩:=r.obj;exact .of ⟨o,k _ (by simp) _ e,c,d⟩
  ·obtain ⟨o,e,c,d⟩:=t.obj;exact .of ⟨o,k _ (by simp) _ e,c,d⟩
 item:=by
  intro X U hw W f i pins s σ H E I L st hg;subst U hw W;obtain ⟨q,F,⟨oa,ob,Z⟩,r,t,n1,n2⟩:=st;obtain ⟨S,l2,Q,O⟩:=hg;obtain ⟨p,r1,p1⟩:=yY I Q;obtain ⟨l,r2,p2⟩:=yY I O;have e1:p.toArray.size=xs.length:=by rw [aw,r1.length]
  have Y:l.toArray.size=ys.length:=by rw [aw,r2.length]
  have D:=KK b C B h1 h2;have J:X.A.in1.handled=none:=I.ok.hd f;refine VX (A:=X.A) D (UE (prog:=X.prog) (w:=X.w) (A:=X.A.in1) J k1 b C (aL h1) p.toArray) (UE (prog:=X.prog) (w:=X.w) (A:=X.A.in1) J k2 (b+1) B (aL (eU h2)) l.toArray) q F Z ⟨r,p1⟩ ⟨t,p2⟩ (by rw [e1]; exact S) (by rw [Y]; exact l2) λu v h' tk hu hv z' N s1 s2 tp kp=>?_;refine ⟨_,rfl,wpAny_letOwnedTupleGo_zip z' λhq z2 j=>?_⟩;obtain ⟨x,hx,rx⟩:=KJ r1 (by simpa using hu);obtain ⟨y,hy,ry⟩:=KJ r2 (by simpa using hv);have hT:H s.heap.objs.size=none:=I.hok.fresh (aG _);have R:b+4 < s.heap.objs.size:=aE q;have fT:∀ c∈[b+4,b+2,b+3,b,b+1],c≠s.heap.objs.size:=λc f=>by simp only [ah,bi,or_false] at f;have G:b+4 < s.heap.objs.size:=R;generalize s.heap.objs.size=m at G;intro z;omega
  have I1:Inv X pins σ (upd H s.heap.objs.size (.tup [x,y])) { s with heap:=s.heap.push { cls:=.type "tuple",data:=.seq #[u,v] } }:=
   I.laid (t':=s.toks) (λ_ _ e=>aa _ e) (aG _) ⟨⟨by simp only [ac,am]; rw [iR]; decide,_,aq _ rfl,rfl⟩,[u,v],.cons rx (.cons ry .nil),⟨_,aq _ rfl,rfl,_,rfl⟩⟩
  have I2:Inv X pins σ (upd H s.heap.objs.size (.tup [x,y])) { s with heap:=hq,toks:=tk }:=by
   refine ZH (s:={ s with heap:=s.heap.push { cls:=.type "tuple",data:=.seq #[u,v] } }) (ch:=[b+4,b+2,b+3,b,b+1]) I1 (λc o g e=>?_) λc f=>⟨by rw [qt (fT c f)]; exact (L c f).1,(L c f).2⟩
   simp only [ah,bi,or_false,not_or] at g;rw [j.2 c g.1];by_cases ec:c=s.heap.objs.size;·subst ec;have e3:(s.heap.push ({ cls:=.type "tuple",data:=.seq #[u,v] }:Obj)).get? s.heap.objs.size=iD { cls:=.type "tuple",data:=.seq #[u,v] }:=aq _ rfl;rw [show (s.heap.push ({ cls:=.type "tuple",data:=.seq #[u,v] }:Obj)).get? s.heap.objs.size=iD o from e] at e3;rw [e3];exact tp
   ·have e4:s.heap.get? c=iD o:=by have:=e;rwa [show (s.heap.push ({ cls:=.type "tuple",data:=.seq #[u,v] }:Obj)).get? c=s.heap.get? c from Heap.get?_push_ne _ _ _ ec] at this
    exact kp c o g.1 g.2.2.1 g.2.2.2.1 g.2.2.2.2 e4
  refine ⟨.ref s.heap.objs.size,_,I2,rfl,⟨x,y,_,hx,hy,hT,rfl,rfl⟩,⟨z2,?_,⟨u,v,?_⟩,?_,?_,S,l2⟩,λc f=>by rw [qt (fT c f)]; exact (L c f).1⟩;·exact (j.2 _ D.TIz).trans (kp _ _ D.TIz D.TITO D.TIi1 D.TIi2 F)
  ·exact (j.2 _ D.TOz).trans N
  ·obtain ⟨o,e,c,d⟩:=s1.1.obj;exact .of ⟨o,(j.2 _ D.i1z).trans e,c,d⟩
  ·obtain ⟨o,e,c,d⟩:=s2.1.obj;exact .of ⟨o,(j.2 _ D.i2z).trans e,c,d⟩
 done:=by
  intro X U hw W f i pins s σ H E I L st hg;subst U hw W;obtain ⟨q,F,⟨oa,ob,Z⟩,r,t,n1,n2⟩:=st;obtain ⟨S,Q,O⟩:=hg;obtain ⟨p,r1,p1⟩:=yY I Q;obtain ⟨l,r2,p2⟩:=yY I O;have e1:p.toArray.size=xs.length:=by rw [aw,r1.length]
  have Y:l.toArray.size=ys.length:=by rw [aw,r2.length]
  have D:=KK b C B h1 h2;have J:X.A.in1.handled=none:=I.ok.hd f;refine YQ (A:=X.A) D (UE (prog:=X.prog) (w:=X.w) (A:=X.A.in1) J k1 b C (aL h1) p.toArray) (UE (prog:=X.prog) (w:=X.w) (A:=X.A.in1) J k2 (b+1) B (aL (eU h2)) l.toArray) q F Z ⟨r,p1⟩ ⟨t,p2⟩ (by rw [e1,Y]; omega) λh' tk kp=>⟨rfl,ZH (ch:=[b+4,b+2,b+3,b,b+1]) I (λc o g e=>?_) L⟩
  simp only [ah,bi,or_false,not_or] at g;exact kp c o g.1 g.2.2.1 g.2.2.2.1 g.2.2.2.2 e
 self:=λ_ _ _ _ _ st h=>wpAny_pyIter_zip st.1 h
theorem ZI:bootBuiltins "zip"=iD (.type "zip"):=by decide +kernel
variable {own:List Nat} {fa:Sl->Out (D×Sl)} {ma:Mo} {pos:Pos}
section
variable {a c:Expr} {fb:Sl->Out (D×Sl)} {mb:Mo}
theorem qfw {ta:TA} {p tpos:Pos} {M:List Expr} {x1} (hg:Gl X "zip") (l:X.mg "zip"=iF) (n:PA X [a,c] ta) (k:starEach [a,c] X.env=[(iH,eval a X.env),(iH,eval c X.env)]) (e:starEach [c] X.env=[(iH,eval c X.env)]):PI X (.Tuple M x1 tpos) (.Call (.Name "zip" p) [a,c] [] pos) (λσ H R=>ta σ H λvs H1=>∃ d o k1 k2 xs ys,vs=[.ref d,.ref o]/\SqK X.K H1 d k1 xs/\SqK X.K H1 o k2 ys/\R (Itz X.K d o k1 k2 xs ys) H1):=by
 refine ⟨?_⟩;intro pins s σ H R I h;refine Call_ (JO I hg l ZI (dq (thn (n pos pins s σ H _ I h) λus s1 ⟨vs,H1,f,r1,i⟩=>?_) (by rw [k,e]) (by rw [e]; rfl)));obtain ⟨d,o,k1,k2,xs,ys,rfl,m,w,q⟩:=i;obtain ⟨y,x,rfl,e1,r⟩:=Xv r1;cases e1;cases r;obtain ⟨j,u,p1⟩:=yY f m;obtain ⟨P,v,p2⟩:=yY f w;refine ZG p1 p2 λh' z F Z g t kp=>?_;refine wpAny_pyIter_zip z ?_;refine ⟨s1.heap.objs.size+4,_,_,Itz X.K d o k1 k2 xs ys,H1,rfl,f.kept (t':=s1.toks) kp,qbf s1.heap.objs.size d o xs ys p1.lt p2.lt,⟨z,F,⟨_,_,Z⟩,g,t,bA _,bA _⟩,λb hb=>?_,q⟩;have U:s1.heap.objs.size<=b:=by
  simp only [ah,bi,or_false] at hb;rcases hb with rfl | rfl | rfl | rfl | rfl;·exact fg _ _
  ·exact fg _ _
  ·exact fg _ _
  ·exact aG _
  ·exact fg _ _
 exact f.fpOk U (f.hok.fresh U)
theorem PoI.bindA {as:List AK} {o:Out (List D×Sl)} {k:List D×Sl->Out (List D×Sl)} {R:It->Hp->Prop} {Q:List V->Hp->Prop} (hp:PoI C own σ F H (o.bind k) R)
  (h:∀ vs F1 H1 ds ρ1,Rep C.K own F1 H1 σ ρ1->Chg (OA own σ) F H F1 H1->ArgV C.K H F1 H1 σ as vs ds->PoI C own σ F H (k (ds,ρ1)) R->Q vs H1):PoA C own as σ F H o Q:=by
 cases o with
 | ok p=>obtain ⟨ds,ρ1⟩:=p;exact λvs F1 H1 a c v=>h vs F1 H1 ds ρ1 a c v hp
 | exc e=>exact hp
 | bad=>exact hp.elim
noncomputable def qck (xs ys:List D):List D:=List.zipWith (λx y=>.tup [x,y]) xs ys
noncomputable def qg8 (fr:Sl->Out (List D×Sl)):Sl->Out (List D×Sl):=λρ=>(fr ρ).bind λp=>match p.1 with
 | [x,y]=>(yu x).bind λxs=>(yu y).bind λys=>.ok (qck xs ys,p.2)
 | _=>.bad
theorem qcl (h:Is K F v d) (e:yu d=.ok ds):∃ a k xs,v=.ref a/\(∀ H,Same F H->SqK K H a k xs)/\IsL K F xs ds:=by
 cases h with
 | @lst a xs ds' p t=>cases e;exact ⟨_,.l,_,rfl,λH s=>s.seq p,t⟩
 | @tup a xs ds' p t=>cases e;exact ⟨_,.t,_,rfl,λH s=>je s p,t⟩
 | _=>cases e
theorem qfx {a o:Addr} {k1 k2:SK} {xs ys:List V} {es:List D} (p1:∀ H,Same F H->SqK K H a k1 xs) (p2:∀ H,Same F H->SqK K H o k2 ys) (f:IsL K F xs ds) (t:IsL K F ys es):ItIs K F (Itz K a o k1 k2 xs ys) (qck ds es) where
 go:=λi H hi s=>by unfold qck at hi;rw [List.length_zipWith] at hi;exact ⟨by rw [f.length]; omega,by rw [t.length]; omega,p1 H s,p2 H s⟩
 yld:=λi Fi H v H' d e s1 s2 y=>by
  obtain ⟨x,y,p,hx,k,n,rfl,rfl⟩:=y;obtain ⟨d1,e1,i1⟩:=f.get hx;obtain ⟨d2,c,i2⟩:=t.get k;have b:d=.tup [d1,d2]:=by unfold qck at e;rw [List.getElem?_zipWith,e1,c] at e;exact (aU.inj e).symm
  subst b;obtain ⟨g1,g2⟩:=wH (u:=.tup [x,y]) s2 n;exact ⟨_,g2,g1,.tup (.of qm) (.cons ((i1.mono s1).mono g2.grow) (.cons ((i2.mono s1).mono g2.grow) .nil))⟩
 stop:=λi H hi s=>by unfold qck at hi;rw [List.length_zipWith] at hi;exact ⟨by rw [f.length,t.length]; omega,p1 H s,p2 H s⟩
theorem qdy {p tpos:Pos} {M:List Expr} {x1} (l:C.K=X.K) (hg:Gl X "zip") (m:X.mg "zip"=iF) (j:PE X a (tE C own ma fa)) (hb:PE X c (tE C own mb fb)) (h1:ma≠.any:=by decide) (h2:mb≠.any:=by decide) (s:starEach [a,c] X.env=[(iH,eval a X.env),(iH,eval c X.env)]:=by exact qaG rfl rfl) (b:starEach [c] X.env=[(iH,eval c X.env)]:=by exact qO rfl):PI X (.Tuple M x1 tpos) (.Call (.Name "zip" p) [a,c] [] pos) (tIt C own (qg8 (qe fa (qe fb qF)))):=by
 refine qdg (qfw hg m (qc j (qc hb ql h2 (by rw [b]; rfl)) h1 (by rw [s,b])) s b) λσ H R ⟨F,ρ,g,h⟩=>⟨F,ρ,g,PoI.bindA h λvs F1 H1 ds ρ1 r k n h1=>?_⟩
 have i:=ArgV.isL (by decide) n;cases i with
 | nil=>exact h1.elim
 | @cons v d vs ds i1 i=>
  cases i with
  | nil=>exact h1.elim
  | @cons v2 d2 vs ds i2 i=>
   cases i with
   | cons=>exact h1.elim
   | nil=>
    have h1:PoI C own σ F H ((yu d).bind λxs=>(yu d2).bind λys=>.ok (qck xs ys,ρ1)) R:=h1;cases e1:yu d with
    | bad=>rw [e1] at h1; exact h1.elim
    | exc c=>cases d <;> cases e1
    | ok xs=>
     cases e:yu d2 with
     | bad=>rw [e1,e] at h1; exact h1.elim
     | exc c=>cases d2 <;> cases e
     | ok ys=>rw [e1,e] at h1;obtain ⟨q,k1,ws,rfl,p1,f⟩:=qcl i1 e1;obtain ⟨o,k2,w,rfl,p2,t⟩:=qcl i2 e;refine ⟨q,o,k1,k2,ws,w,rfl,l ▸ p1 H1 r.sub,l ▸ p2 H1 r.sub,?_⟩;rw [<-l];exact h1 _ F1 H1 r k (qfx p1 p2 f t)
end
def leS (x y:Str):Prop:=¬y.cps.toList < x.cps.toList
noncomputable def qem (x:Str):List Str->List Str
 | []=>[x]
 | y::l=>if vN y x=iI then y::qem x l else x::y::l
noncomputable def kL:List Str->List Str
 | []=>[]
 | x::l=>qem x (kL l)
variable {y:Str}
theorem zQ {z:Str} (a:leS x y) (b:leS y z):leS x z:=List.le_trans (α:=Nat) a b
theorem ZJ (x y:Str):leS x y\/leS y x:=List.le_total (α:=Nat) x.cps.toList y.cps.toList
theorem QX (a:leS x y) (b:leS y x):x=y:=by have e:=List.le_antisymm (α:=Nat) (as:=x.cps.toList) (bs:=y.cps.toList) a b;obtain ⟨⟨l⟩⟩:=x;obtain ⟨⟨m⟩⟩:=y;simp at e;rw [e]
theorem strLt_false:vN y x=iH↔leS x y:=by unfold vN leS;exact decide_eq_false_iff_not
theorem zR (x:Str):∀ l,(qem x l).Perm (x::l)
 | []=>cG _
 | y::l=>by
  unfold qem;split;·exact ((zR x l).cons y).trans (List.Perm.swap _ _ _)
  ·exact cG _
theorem qR:∀ l,(kL l).Perm l
 | []=>cG _
 | x::l=>(zR x _).trans ((qR l).cons x)
theorem zS (x:Str):∀ l,l.Pairwise leS->(qem x l).Pairwise leS
 | [],_=>ei _ _
 | y::l,h=>by
  have d:=bG.mp h;unfold qem;split
  ·rename_i t;have c:leS y x:=by
    rcases ZJ y x with q | q;·exact q
    ·rw [<-strLt_false] at q;rw [q] at t;cases t
   refine bG.mpr ⟨λz a=>?_,zS x l d.2⟩;rcases ah.mp ((zR x l).mem_iff.mp a) with rfl | a;·exact c
   ·exact d.1 z a
  ·rename_i t;have b:leS x y:=strLt_false.mp (by cases e:vN y x with | true=>exact absurd e t | false=>rfl);refine bG.mpr ⟨λz a=>?_,h⟩;rcases ah.mp a with rfl | a;·exact b
   ·exact zQ b (d.1 z a)
theorem jq:∀ l,(kL l).Pairwise leS
 | []=>dw
 | x::l=>zS x _ (jq l)
theorem um:∀ {l m:List Str},l.Perm m->l.Pairwise leS->m.Pairwise leS->l=m
 | [],m,p,_,_=>p.nil_eq
 | x::l,[],p,_,_=>absurd p.length_eq (by simp)
 | x::l,y::m,p,hl,hm=>by
  have a:=bG.mp hl;have b:=bG.mp hm;have c:x=y:=by
   have h1:y∈x::l:=p.mem_iff.mpr (ay ..);have h2:x∈y::m:=p.mem_iff.mp (ay ..);rcases ah.mp h1 with e | e;·exact e.symm
   ·rcases ah.mp h2 with d | d;·exact d
    ·exact QX (a.1 y e) (b.1 x d)
  subst c;rw [um p.cons_inv a.2 b.2]
theorem Qn:∀ (x:Str) (l:List Str),risingS x l=iI->(x::l).Pairwise leS
 | x,[],_=>ei _ _
 | x,y::l,h=>by
  have h:(!ltCps y.cps.toList x.cps.toList&&risingS y l)=true:=h;rw [aZ] at h;have j:=Qn y l h.2;have b:leS x y:=by have h1:=h.1;rw [ltCps_eq] at h1;unfold leS;simpa using h1
  refine bG.mpr ⟨λz a=>?_,j⟩;rcases ah.mp a with rfl | a;·exact b
  ·exact zQ b ((bG.mp j).1 z a)
theorem VY:∀ (l:List Str),sortedS l=iI->l.Pairwise leS
 | [],_=>dw
 | x::l,h=>Qn x l h
variable {ss:List Str}
theorem ZK (p:ss.Perm ks) (h:sortedS ss=iI):ss=kL ks:=um (p.trans (qR ks).symm) (VY ss h) (jq ks)
noncomputable def xR:List D->Option (List Str)
 | []=>iD []
 | .str x::l=>(xR l).map (x::·)
 | _::_=>iF
noncomputable def uo:D->Option (List Str)
 | .lst ds=>xR ds
 | .tup ds=>xR ds
 | _=>iF
noncomputable def qen [DecidableEq κ] (T:KP κ) (P:iL) (w:iM) (p:Addr) (ks:List κ):HO:=.ext λh=>SetK T P w h p ks
theorem qdz [DecidableEq κ] {T:KP κ} {ks:List κ} (x:SetK T P w h p ks):ObjOk P w H h p (qen T P w p ks):=
 ⟨x,let ⟨_,_,_,e,_⟩:=x; ⟨_,e⟩,λ_ _ a k=>a.at k⟩
structure KD {κ:Type} [DecidableEq κ] (T:KP κ) where
 sqd:D->Option (List κ)
 ok:κ->Prop
 get:∀ {K:Frag} {F:Hp} {dx:D} {ss:List κ},sqd dx=iD ss->∃ ds,yu dx=.ok ds/\∀ {vs:List V} {us:List iG},IsL K F vs ds->Vals vs us->us.length=ss.length/\(∀ (i:Nat) (v:iG),us[i]?=iD v->∃ x,ss[i]?=iD x/\∀ p w,(T.kd p w).is x v=iI)/\∀ x∈ss,ok x
theorem VZ:∀ {vs:List V} {us:List iG} {ds:List D} {ss:List Str},IsL K F vs ds->Vals vs us->xR ds=iD ss->StrsAre us ss/\∀ x∈ss,x.length<=sizeLine
 | [],[],[],ss,_,_,e=>by cases e; exact ⟨.nil,λx h=>by cases h⟩
 | v::vs,u::us,d::ds,ss,.cons i il,.cons r rl,e=>by
  cases d with
  | str x=>
   cases q:xR ds with
   | none=>have e:(xR ds).map (x::·)=iD ss:=e;rw [q] at e;cases e
   | some sl=>
    have e:(xR ds).map (x::·)=iD ss:=e;rw [q] at e;cases e;cases i with
    | str z=>
     obtain ⟨t,rfl⟩:=r;have j:=VZ il rl q;refine ⟨.cons x t j.1,λy k=>?_⟩;rcases ah.mp k with rfl | k;·exact z
     ·exact j.2 y k
  | _=>cases e
variable {f:Sl->Out (D×Sl)}
section
variable {e:Expr}
theorem KL:∀ (l ks:List Str) {x:Str},x∈l.foldl ue ks->x∈ks\/x∈l
 | [],ks,x,h=>.inl h
 | y::l,ks,x,h=>by
  rcases KL l (ue ks y) h with q | q
  ·unfold ue at q;split at q;·exact .inl q
   ·rcases ba.mp q with q | q;·exact .inl q
    ·exact .inr (by rw [aK.mp q]; exact ay ..)
  ·exact .inr (ai _ q)
theorem UF (e:xR ds=iD ss) (l:IsL K F vs ds) (rv:Vals vs us):us.length=ss.length/\(∀ (i:Nat) (v:iG),us[i]?=iD v->∃ x,ss[i]?=iD x/\∀ p w,(KpS.kd p w).is x v=iI)/\∀ x∈ss,x.length<=sizeLine:=by obtain ⟨st,k⟩:=VZ l rv e;refine ⟨st.length,λi v h=>?_,k⟩;obtain ⟨y,t,e1,a⟩:=st.item i v h;refine ⟨y,a,λp w=>?_⟩;rw [e1];show fK y (.str y t)=iI;simp [fK]
noncomputable def KdS:KD KpS where
 sqd:=uo
 ok:=λy=>y.length<=sizeLine
 get:=λ{K F dx ss} e=>by
  cases dx with
  | lst ds=>exact ⟨ds,rfl,UF e⟩
  | tup ds=>exact ⟨ds,rfl,UF e⟩
  | _=>cases e
theorem qcm [DecidableEq κ] {T:KP κ} (U:KD T) (D:C.K=X.K) (A:X.calm=iI):ya X (.type "set") (λxs H Q=>∃ x F dx ss,xs=[x]/\Same F H/\TopIs C.K F H x dx/\U.sqd dx=iD ss/\ss.length < 4000/\((∀ y∈ss,U.ok y)->∀ p,H p=iF->Q (.ref p) (upd H p (qen T X.prog X.w p (ss.foldl yf []))))):=by
 intro pins s σ H xs us Q I r h;obtain ⟨x,F,dx,ss,rfl,f,t,es,hl,q⟩:=h;obtain ⟨u,rfl,g⟩:=QD r;obtain ⟨ds,e,hg⟩:=U.get (K:=C.K) (F:=F) es;obtain ⟨a,sk,vs,rfl,hq,l⟩:=qch f t e;cases g;rw [D] at hq;obtain ⟨its,o,n,rv,m,c,z,hd,E⟩:=qci I hq;obtain ⟨d,hi,j⟩:=hg l rv;refine Zz (T:=T) (λA1 G R hA k=>?_) λh' tk S kp=>⟨.ref s.heap.objs.size,_,I.laid (t':=tk) kp (aG _) (qdz S),rfl,q j _ (I.hok.fresh (aG _))⟩
 exact qis (sk:=sk) (items:=its.toArray) (hA.trans (I.ok.hd A)) (Zy (aq _ rfl)) (.of (aa _ m) hd c) (by simp [d]) (λi v e=>(hi i v (by simpa using e)).imp λx h=>⟨h.1,h.2 _ _⟩) (by rw [aw,d]; unfold scanBound; omega) (aL (aE m)) λh' tk S kp=>k h' tk S λb o B=>kp b o (aL (aE B)) (aa _ B)
theorem KM:∀ {us:List iG} {ss:List Str},StrsAre us ss->Vals (ss.map V.str) us
 | _,_,.nil=>.nil
 | _,_,.cons y t h=>.cons ⟨t,rfl⟩ (KM h)
theorem ZL (c:X.calm=iI):ya X (.builtin "sorted") (λxs H Q=>∃ a ks,xs=[.ref a]/\H a=iD (qen KpS X.prog X.w a ks)/\ks.length < 64/\∀ p,H p=iF->Q (.ref p) (upd H p (.lst ((kL ks).map V.str)))):=by
 intro pins s σ H xs us Q I r h;obtain ⟨a,ks,rfl,f,j,q⟩:=h;obtain ⟨u,rfl,b⟩:=QD r;cases b;have S:SetK KpS X.prog X.w s.heap a ks:=(I.hok a _ f).1;refine YO (I.ok.hd c) S j λh1 h' g tk vs e ss k1 k2 hp st pm so=>?_;rw [ZK pm so] at st;have d:Inv X pins σ H { s with heap:=h1,drawn:=g,toks:=tk }:=qit I k1;have z:(kL ks).length<=sizeLine:=by rw [(qR ks).length_eq,iR];omega
 refine ⟨.ref h1.objs.size,_,d.laid (t':=tk) (o:=.lst ((kL ks).map V.str)) k2 (aG _) ⟨by rw [aH]; exact z,vs.toList,e,KM st,by simpa [seqObj] using hp⟩,rfl,q _ (d.hok.fresh (aG _))⟩
theorem qdA [DecidableEq κ] {T:KP κ}:ya X (.builtin "len") (λxs H Q=>∃ a ks,xs=[.ref a]/\H a=iD (qen T X.prog X.w a ks)/\Q (.int ks.length) H):=by intro pins s σ H xs us Q I r h;obtain ⟨a,ks,rfl,f,q⟩:=h;obtain ⟨u,rfl,b⟩:=QD r;cases b;obtain ⟨es,ep,t,m,d⟩:SetK T X.prog X.w s.heap a ks:=(I.hok a _ f).1;have hb:=d.bd;refine call_len_set m ⟨rfl,rfl,rfl⟩ rfl d.fits (by unfold scanBound at hb; omega) ?_;exact ⟨.int ks.length,H,I.tok _,⟨_,by rw [d.size]⟩,q⟩
theorem Wa {m:Mo} {Q R:VK} (h:tE C own m f σ H Q) (i:∀ v H1,Q v H1->R v H1):tE C own m f σ H R:=by
 obtain ⟨F,ρ,r,po⟩:=h;refine ⟨F,ρ,r,?_⟩;cases q:f ρ with
 | ok p=>rw [q] at po;obtain ⟨d,ρ1⟩:=p;exact λv F1 H1 a b c=>i _ _ (po v F1 H1 a b c)
 | exc c ρ1=>rw [q] at po;exact po
 | bad=>rw [q] at po;exact po.elim
noncomputable def kC (d:D):Out D:=match uo d with
 | some ss=>if ss.length < 64 then .ok (.lst ((kL (ss.foldl ue [])).map D.str)) else .bad
 | none=>.bad
noncomputable def zT (d:D):Out D:=match uo d with
 | some ss=>if ss.length < 4000 then .ok (.int (ss.foldl ue []).length) else .bad
 | none=>.bad
theorem UG:∀ {ss:List Str},(∀ x∈ss,x.length<=sizeLine)->IsL K F (ss.map V.str) (ss.map D.str)
 | [],_=>.nil
 | x::l,h=>.cons (.str (h x (ay ..))) (UG λy k=>h y (ai _ k))
theorem uG {p p2 a:Pos} (A:C.K=X.K) (k:X.calm=iI) (hg:Gl X "sorted") (o:X.mg "sorted"=iF) (v:bootBuiltins "sorted"=iD (.builtin "sorted")) (g:Gl X "set") (f:X.mg "set"=iF) (d:bootBuiltins "set"=iD (.type "set")) (r:PE X e (tE C own ma fa))
  (i:starEach [e] X.env=[(iH,eval e X.env)]:=by exact qO rfl) (c:starEach [.Call (.Name "set" p2) [e] [] a] X.env=[(iH,eval (.Call (.Name "set" p2) [e] [] a) X.env)]:=by exact qO rfl) :
  PE X (.Call (.Name "sorted" p) [.Call (.Name "set" p2) [e] [] a] [] pos) (tE C own .fr (d1 kC fa)):=by
 refine jh (wE (ZL k) hg o v (qT (zu (qcm KdS A k) g f d (qT r jU i) (by decide) (by decide) (by rw [i]; rfl) rfl) jU c) (by decide) (by decide) (by rw [c]; rfl) rfl) λσ H Q h=>?_;refine Wa (QK (ma:=ma) h) λx H1 ⟨E,F,dx,ex,s,m,po⟩=>?_;cases ex;unfold kC at po;cases es:uo dx with
 | none=>rw [es] at po;exact po.elim
 | some ss=>
  rw [es] at po;by_cases hl:ss.length < 64
  ·have po:PoV C .fr F H1 (if ss.length < 64 then .ok (.lst ((kL (ss.foldl ue [])).map D.str)) else .bad) Q:=po;rw [if_pos hl,<-UC] at po;refine ⟨x,F,dx,ss,rfl,s,m,es,by omega,λn q hq=>⟨q,_,rfl,qm,?_,λl j=>?_⟩⟩;·have:=uj ss [];rw [am] at this;omega
   ·obtain ⟨s1,B,f1⟩:=yc (u:=qen KpS X.prog X.w q (ss.foldl yf [])) s hq;obtain ⟨s2,c2,f2⟩:=yc (u:=.lst ((kL (ss.foldl yf [])).map V.str)) s1 j;have t:H1 l=none:=by
     by_cases z:l=q;·rw [z] at j;rw [qm] at j;cases j
     ·rwa [qt z] at j
    refine po _ _ _ s2 (B.trans' c2) ⟨l,rfl,t,f2,_,qm,UG λy b=>n y ?_⟩;rw [UC] at b;rcases KL ss [] ((qR _).mem_iff.mp b) with z | z;·cases z
    ·exact z
  ·have po:PoV C .fr F H1 (if ss.length < 64 then .ok (.lst ((kL (ss.foldl ue [])).map D.str)) else .bad) Q:=po;rw [if_neg hl] at po;exact po.elim
noncomputable def qeo [DecidableEq κ] {T:KP κ} (U:KD T) (add:List κ->κ->List κ) (d:D):Out D:=match U.sqd d with
 | some ss=>if ss.length < 4000 then .ok (.int (ss.foldl add []).length) else .bad
 | none=>.bad
theorem Qo [DecidableEq κ] {T:KP κ} (U:KD T) {p p2 a:Pos} (l:C.K=X.K) (i:X.calm=iI) (hg:Gl X "len") (m:X.mg "len"=iF) (v:bootBuiltins "len"=iD (.builtin "len")) (g:Gl X "set") (f:X.mg "set"=iF) (d:bootBuiltins "set"=iD (.type "set")) (j:PE X e (tE C own ma fa))
  (b:starEach [e] X.env=[(iH,eval e X.env)]:=by exact qO rfl) (c:starEach [.Call (.Name "set" p2) [e] [] a] X.env=[(iH,eval (.Call (.Name "set" p2) [e] [] a) X.env)]:=by exact qO rfl) :
  PE X (.Call (.Name "len" p) [.Call (.Name "set" p2) [e] [] a] [] pos) (tE C own .sh (d1 (qeo U yf) fa)):=by
 refine jh (wE (qdA (T:=T)) hg m v (qT (zu (qcm U l i) g f d (qT j jU b) (by decide) (by decide) (by rw [b]; rfl) rfl) jU c) (by decide) (by decide) (by rw [c]; rfl) rfl) λσ H Q h=>?_;refine Wa (QK (ma:=ma) h) λx H1 ⟨n,F,dx,ex,s,t,po⟩=>?_;cases ex;unfold qeo at po;cases es:U.sqd dx with
 | none=>rw [es] at po;exact po.elim
 | some ss=>
  rw [es] at po;have po:PoV C .sh F H1 (if ss.length < 4000 then .ok (.int (ss.foldl yf []).length) else .bad) Q:=po;by_cases hl:ss.length < 4000;·rw [if_pos hl] at po;refine ⟨x,F,dx,ss,rfl,s,t,es,hl,λy q hq=>⟨q,_,rfl,qm,?_⟩⟩;obtain ⟨s1,k,f1⟩:=yc (u:=qen T X.prog X.w q (ss.foldl yf [])) s hq;exact po _ _ _ s1 k (.int _)
  ·rw [if_neg hl] at po;exact po.elim
theorem ZM {p p2 a:Pos} (l:C.K=X.K) (i:X.calm=iI) (hg:Gl X "len") (m:X.mg "len"=iF) (v:bootBuiltins "len"=iD (.builtin "len")) (g:Gl X "set") (f:X.mg "set"=iF) (h:bootBuiltins "set"=iD (.type "set")) (j:PE X e (tE C own ma fa))
  (b:starEach [e] X.env=[(iH,eval e X.env)]:=by exact qO rfl) (c:starEach [.Call (.Name "set" p2) [e] [] a] X.env=[(iH,eval (.Call (.Name "set" p2) [e] [] a) X.env)]:=by exact qO rfl) :
  PE X (.Call (.Name "len" p) [.Call (.Name "set" p2) [e] [] a] [] pos) (tE C own .sh (d1 zT fa)):=by
 rw [show zT=qeo KdS yf by rw [UC];funext d;have q:KdS.sqd d=uo d:=rfl;unfold zT qeo;rw [q];cases uo d <;> rfl];exact Qo KdS l i hg m v g f h j b c
end
variable {β:Type}
@[simp] theorem qE {a:α} {k:α->Out β}:(Out.ok a).bind k=k a:=rfl
@[simp] theorem qhL {c:Str} {o:Sl} {k:α->Out β}:(Out.exc c o:Out α).bind k=.exc c o:=rfl
@[simp] theorem qhM {k:α->Out β}:(Out.bad:Out α).bind k=.bad:=rfl
@[simp] theorem qY {a:α}:(Out.ok a).plain=.ok a:=rfl
@[simp] theorem qhN:(Out.bad:Out α).plain=.bad:=rfl
variable {c:Prop}
@[simp] theorem qhO [Decidable c] {a b:Out α} {k:α->Out β}:(if c then a else b).bind k=if c then a.bind k else b.bind k:=by split <;> rfl
@[simp] theorem qhP [Decidable c] {a b:Out α}:(if c then a else b).plain=if c then a.plain else b.plain:=by split <;> rfl
noncomputable def ZN (d:D) (A B:Out α):Out α:=match d with
 | .bl b=>if b=iI then A else B
 | _=>.bad
@[simp] theorem qgu {A B:Out α}:ZN (.bl b) A B=if b=iI then A else B:=rfl
noncomputable def yR (p:D×Sl):Out (Bool×Sl):=match p.1 with
 | .bl b=>.ok (b,p.2)
 | _=>.bad
variable {ρ:Sl}
@[simp] theorem qg9:yR (.bl b,ρ)=.ok (b,ρ):=rfl
noncomputable def Xh (ms:List PM):Out (Fl×Sl)->Out (D×List D)
 | .ok (.nx,ρ)=>.ok (.non,qB ρ 0 ms)
 | .ok (.rt d,ρ)=>.ok (d,qB ρ 0 ms)
 | .ok _=>.bad
 | .exc c ρ=>.exc c ((qB ρ 0 ms).map iD)
 | .bad=>.bad
variable {ms:List PM}
theorem runD_ap {f:Sl->Out (Fl×Sl)}:vf N ms f ds=Xh ms (f (qv N ds)):=by unfold vf Xh;rfl
@[simp] theorem qhQ:Xh ms (.ok (.rt d,ρ))=.ok (d,qB ρ 0 ms):=rfl
@[simp] theorem qhR:Xh ms (.ok (.nx,ρ))=.ok (.non,qB ρ 0 ms):=rfl
@[simp] theorem qha {c:Str}:Xh ms (.exc c ρ)=.exc c ((qB ρ 0 ms).map iD):=rfl
@[simp] theorem qhb [Decidable c] {a b:Out (Fl×Sl)}:Xh ms (if c then a else b)=if c then Xh ms a else Xh ms b:=by split <;> rfl
noncomputable def KN (as:List AK) (ρ:Sl):Out (D×List D)->Out (D×Sl)
 | .ok q=>.ok (q.1,jK as q.2 ρ)
 | .exc c o=>.exc c (jK as (o.map (·.getD .non)) ρ)
 | .bad=>.bad
variable {as:List AK}
@[simp] theorem kS {q:D×List D}:KN as ρ (.ok q)=.ok (q.1,jK as q.2 ρ):=rfl
@[simp] theorem qfy {c:Str} {o:Sl}:KN as ρ (.exc c o)=.exc c (jK as (o.map (·.getD .non)) ρ):=rfl
@[simp] theorem qfz [Decidable c] {a b:Out (D×List D)}:KN as ρ (if c then a else b)=if c then KN as ρ a else KN as ρ b:=by split <;> rfl
variable {ρ:Sl}
@[simp] theorem qy:qg i ρ=match ρ[i]? with | some (iD d)=>.ok (d,ρ) | _=>.bad:=rfl
@[simp] theorem kY:dC d ρ=.ok (d,ρ):=rfl
variable {gg:D->Sl->Out Sl}
section
variable {g g':D->D->Out D} {g1:D->Out D} {fb fc:Sl->Out (D×Sl)} {ft fu:Sl->Out (Bool×Sl)} {fr:Sl->Out (List D×Sl)} {fs ft1:Sl->Out (Fl×Sl)} {fi:Sl->Out (List D×Sl)} {G:List D->Out (D×List D)}
@[simp] theorem kM:d1 g1 fa ρ=(fa ρ).bind λp=>(g1 p.1).plain.bind λd=>.ok (d,p.2):=rfl
@[simp] theorem jx:d2 g fa fb ρ=(fa ρ).bind λp=>(fb p.2).bind λq=>(g p.1 q.1).plain.bind λd=>.ok (d,q.2):=rfl
@[simp] theorem qhc:Qc f ρ=(f ρ).bind λp=>(uO p.1).bind λb=>.ok (b,p.2):=rfl
@[simp] theorem qK:qP f ρ=(f ρ).bind yR:=rfl
@[simp] theorem qhd:JI ft ρ=(ft ρ).bind λp=>.ok (!p.1,p.2):=rfl
@[simp] theorem qgv:qg6 f ρ=(qP f ρ).bind λp=>.ok (.bl (!p.1),p.2):=rfl
@[simp] theorem qhe:qgn ft fu ρ=(ft ρ).bind λp=>if p.1=iI then fu p.2 else .ok (iH,p.2):=rfl
@[simp] theorem ZO:dOr ft fu ρ=(ft ρ).bind λp=>if p.1=iI then .ok (iI,p.2) else fu p.2:=rfl
@[simp] theorem qbg:JZ fa fb ρ=(fa ρ).bind λp=>ZN p.1 (fb p.2) (.ok (.bl iH,p.2)):=by
 unfold JZ;cases fa ρ with
 | ok p=>
  obtain ⟨d,r⟩:=p;cases d <;> try rfl
  rename_i b;cases b <;> rfl
 | exc c o=>rfl
 | bad=>rfl
@[simp] theorem qhf:qhE fa fb ρ=(fa ρ).bind λp=>ZN p.1 (.ok (.bl iI,p.2)) (fb p.2):=by
 unfold qhE;cases fa ρ with
 | ok p=>
  obtain ⟨d,r⟩:=p;cases d <;> try rfl
  rename_i b;cases b <;> rfl
 | exc c o=>rfl
 | bad=>rfl
@[simp] theorem uS:dIf ft fa fb ρ=(ft ρ).bind λp=>if p.1=iI then fa p.2 else fb p.2:=rfl
@[simp] theorem qfA:yq g g' fa fb fc ρ=(fa ρ).bind λp=>(fb p.2).bind λq=>(g p.1 q.1).plain.bind λz=>ZN z ((fc q.2).bind λr=>(g' q.1 r.1).plain.bind λd=>.ok (d,r.2)) (.ok (.bl iH,q.2)):=by
 unfold yq;congr 1;funext p;congr 1;funext q;congr 1;funext z;cases z <;> try rfl
 rename_i b;cases b <;> rfl
@[simp] theorem qM:qF ρ=.ok ([],ρ):=rfl
@[simp] theorem qG:qe fa fr ρ=(fa ρ).bind λp=>(fr p.2).bind λq=>.ok (p.1::q.1,q.2):=rfl
@[simp] theorem yG:jR fr ρ=(fr ρ).bind λq=>.ok (D.non::q.1,q.2):=rfl
@[simp] theorem jG:wG fr ρ=(fr ρ).bind λp=>if p.1.length<=sizeLine then .ok (.tup p.1,p.2) else .bad:=rfl
@[simp] theorem zU:yU fr ρ=(fr ρ).bind λp=>if p.1.length<=sizeLine then .ok (.lst p.1,p.2) else .bad:=rfl
@[simp] theorem wL:kn ρ=.ok (.nx,ρ):=rfl
@[simp] theorem wg:jf fs ft1 ρ=(fs ρ).bind λp=>match p.1 with | .nx=>ft1 p.2 | _=>.ok p:=by
 show _=_;unfold jf;cases fs ρ with
 | ok p=>obtain ⟨fl,r⟩:=p; cases fl <;> rfl
 | exc c o=>rfl
 | bad=>rfl
@[simp] theorem vg:sIf ft fs ft1 ρ=(ft ρ).bind λp=>if p.1=iI then fs p.2 else ft1 p.2:=rfl
@[simp] theorem UH:uP f ρ=(f ρ).bind λp=>.ok (.nx,p.2):=rfl
@[simp] theorem jw:kr f ρ=(f ρ).bind λp=>.ok (.rt p.1,p.2):=rfl
@[simp] theorem jH:ku i f ρ=(f ρ).bind λp=>if i < p.2.length then .ok (.nx,p.2.set i (iD p.1)) else .bad:=rfl
@[simp] theorem ka:qC as G fr ρ=(fr ρ).bind λp=>match qH as p.1 p.2 with | some ds=>KN as p.2 (G ds) | none=>.bad:=rfl
@[simp] theorem qhg:qiq f ρ=(f ρ).bind λp=>(yu p.1).bind λds=>.ok (ds,p.2):=rfl
@[simp] theorem Wb:wo f ρ=(f ρ).bind λp=>(kI p.1).bind λds=>.ok (ds,p.2):=rfl
@[simp] theorem qfB:gNm i d ρ=if i < ρ.length then .ok (ρ.set i (iD d)) else .bad:=rfl
@[simp] theorem ZP:qdh fi gg fs ρ=(fi ρ).bind λp=>zd gg fs p.1 p.2:=rfl
@[simp] theorem ZQ:qcd f gg ρ=(f ρ).bind λp=>match gg p.1 p.2 with | .ok ρ'=>.ok (.nx,ρ') | _=>.bad:=rfl
@[simp] theorem qhh {gg:List D->D->Out (List D)}:Uq i gg f ρ=if zF ρ[i]?=iI then (f ρ).bind λp=>(match p.2[i]? with | some (iD (.lst xs))=>(match gg xs p.1 with | .ok ys=>.ok (.non,p.2.set i (iD (.lst ys))) | _=>.bad) | _=>.bad) else .bad:=rfl
@[simp] theorem qhS:ftT ρ=.ok (iI,ρ):=rfl
end
end L2.D2
namespace L2.D2
open PySem PySem.Spec PyProof.Rows
def qej (i j:Int):Prop:=(0<=j/\j<=64)/\-4611686018427387904 < i/\i < 4611686018427387904
instance:∀ i j,Decidable (qej i j):=λi j=>inferInstanceAs (Decidable (_/\_))
variable {X:Cx} {C:Ct}
section
theorem qb6:OpR X (binaryOp .Pow) (rI qej λi j=>.int (i ^ j.toNat)):=opI λi j _ _ _ _ _ d q=>by obtain ⟨⟨a,h1⟩,h2,h⟩:=d;exact pow_int_small a (by omega) (by omega) q
noncomputable def qhi:D->D->Out D:=Qa λi j=>if qej i j then .ok (.int (i ^ j.toNat)) else .bad
theorem qfC:OpD X C .sh (binaryOp .Pow) qhi:=XO qb6 λ_ _ _=>.int _
end
noncomputable def ZR (sep:Str):D->Out D
 | .lst ds=>match xR ds with
  | some ss=>if (ss.map (·.length)).sum+ss.length * sep.length<=16777216/\(fR sep ss).length<=sizeLine then .ok (.str (fR sep ss)) else .bad
  | none=>.bad
 | _=>.bad
variable {own:List Nat} {m:Mo}
section
variable {e:Expr} {fe:Sl->Out (D×Sl)} {apos cpos:Pos} {sep:Str}
theorem qdB:MtR X "str.join" (λx vs H Q=>∃ (sep:Str) (a:Addr) (xs:List V) (ss:List Str),x=.str sep/\vs=[.ref a]/\SqL X.K H a xs/\(∀ us,Vals xs us->StrsAre us ss)/\(ss.map (·.length)).sum+ss.length * sep.length<=16777216/\Q (.str (fR sep ss)) H):=by intro pins s σ H x vs v us Q I d rv h;obtain ⟨sep,a,xs,ss,rfl,rfl,hq,hb,z,q⟩:=h;obtain ⟨t,rfl⟩:=d;obtain ⟨u,rfl,c⟩:=rv.one;cases c;obtain ⟨its,r,pl,_⟩:=I.list hq;obtain ⟨o,n,m,e,hd,b⟩:=pl;exact join_list ⟨o,m,e,n,b⟩ (by simpa using hb its r) z λt' k=>⟨.str (fR sep ss),H,I.tok _,⟨_,rfl⟩,q⟩
theorem qdC {l c2} (A:C.K=X.K) (y:PE X e (tE C own m fe))
  (f:attributeBase (.Constant (.str sep) l c2) "join" X.env (eval (.Constant (.str sep) l c2) X.env)=eval (.Constant (.str sep) l c2) X.env:=by rfl)
  (w:((backTo cpos (starEach [e] X.env)).all (λx=>!x.1)&&(backToKw cpos (keywordEach [] X.env)).all (λx=>x.1.isSome)
   && decide ([e].length+([]:List i5).length+(if ([]:List i5).isEmpty then 0 else 1) < 30))=true:=by exact vP rfl)
  (b:(apos.endLine == cpos.line)=true:=by rfl) (n:starEach [e] X.env=[(iH,eval e X.env)]:=by exact qO rfl) :
  PE X (.Call (.Attribute (.Constant (.str sep) l c2) "join" apos) [e] [] cpos) (tE C own .sh (d1 (ZR sep) fe)):=by
 refine jh (VE PySem.F.plainAttrs_str PySem.F.slot_str_join PySem.F.type_str_join qdB qb2 (qT y jU n) f w b n rfl) λσ H Q h=>?_;refine ⟨rfl,?_⟩;obtain ⟨F,ρ,u,h⟩:=JW (ma:=m) h;refine ⟨F,ρ,u,?_⟩;cases q:fe ρ with
 | ok p=>
  rw [q] at h;obtain ⟨d,ρ1⟩:=p;intro v F1 H1 g l j;obtain ⟨B,dx,s,o,po⟩:=h v F1 H1 g l j;cases dx <;> try exact po.elim
  rename_i ds;unfold ZR at po;cases i:xR ds with
  | none=>simp only [i] at po; exact po.elim
  | some ss=>
   simp only [i] at po;by_cases z:(ss.map (·.length)).sum+ss.length * sep.length<=16777216/\(fR sep ss).length<=sizeLine
   ·rw [if_pos z] at po;obtain ⟨a,vs,rfl,hq,t⟩:=o.lst s;have k:SqL X.K H1 a vs:=by rw [<-A]; exact hq
    exact ⟨sep,a,vs,ss,rfl,rfl,k,λus r=>(VZ t r i).1,z.1,po _ B H1 s .refl (.str z.2)⟩
   ·rw [if_neg z] at po;exact po.elim
 | exc c=>rw [q] at h; exact h
 | bad=>rw [q] at h; exact h.elim
end
noncomputable def dM (k:D->Bool) (g:D->D->Out D) (fo fa:Sl->Out (D×Sl)):Sl->Out (D×Sl):=λρ=>(fo ρ).bind λp=>if k p.1 then (fa p.2).bind λq=>(g p.1 q.1).plain.bind λd=>.ok (d,q.2) else .bad
variable {σ:St} {F H:Hp} {Q:VK} {g:D->D->Out D}
section
variable {a b:Expr} {fa fb:Sl->Out (D×Sl)} {ma mb:Mo} {pos:Pos}
theorem Po.imp {r:Out (D×Sl)} {R:VK} (h:Po C own m σ F H r Q) (i:∀ v H',Q v H'->R v H'):Po C own m σ F H r R:=by
 cases r with
 | ok p=>exact λv F' H' a c mo=>i v H' (h v F' H' a c mo)
 | exc x=>exact h
 | bad=>exact h.elim
theorem ZS {k:D->Bool} (f:ma≠.any) (h:tE C own m (dM k g fa fb) σ H Q):tE C own ma fa σ H λx H1=>(∃ F dx,Same F H1/\TopIs C.K F H1 x dx/\k dx=iI)/\tE C own mb fb σ H1 λy H2=>∃ F dx j,Same F H2/\TopIs C.K F H2 x dx/\TopIs C.K F H2 y j/\PoV C m F H2 (g dx j) Q:=by
 obtain ⟨F,ρ,p,h⟩:=h;refine ⟨F,ρ,p,Po.bind h λv F1 H1 d ρ1 a o c h1=>?_⟩;cases i:k d with
 | false=>simp only [i] at h1; exact h1.elim
 | true=>simp only [i,if_true] at h1;exact ⟨⟨F1,d,a.sub,c.top,i⟩,F1,ρ1,a,Po.bind h1 λw n H2 e l r c2 b h2=>⟨n,d,e,r.sub,(c.grow f c2 λx z=>(p.OA_there z).1).top,b.top,PoV.of r h2⟩⟩
def MtD (X:Cx) (C:Ct) (m:Mo) (id:String) (g:D->D->Out D):Prop:=
 MtR X id (λx vs H Q=>∃ y F dx d,vs=[y]/\Same F H/\TopIs C.K F H x dx/\TopIs C.K F H y d/\PoV C m F H (g dx d) Q)
noncomputable def qhj:D->Bool
 | .lst _=>iI
 | _=>iH
theorem qbh {name:Str} {id:String} {apos cpos:Pos} (slot:Slot "list" name id) (d:typeOf (.builtin id)=pure (.type "method_descriptor")) (l:MtD X C m id g) (u:C.K=X.K)
  (o:PE X a (tE C own ma fa)) (hb:PE X b (tE C own mb fb)) (f:ma≠.any:=by decide)
  (c:attributeBase a name X.env (eval a X.env)=eval a X.env:=by rfl)
  (w:((backTo cpos (starEach [b] X.env)).all (λx=>!x.1)&&(backToKw cpos (keywordEach [] X.env)).all (λx=>x.1.isSome)
   && decide ([b].length+([]:List i5).length+(if ([]:List i5).isEmpty then 0 else 1) < 30))=true:=by exact vP rfl)
  (e:(apos.endLine == cpos.line)=true:=by rfl) (s:starEach [b] X.env=[(iH,eval b X.env)]:=by exact qO rfl) :
  PE X (.Call (.Attribute a name apos) [b] [] cpos) (tE C own m (dM qhj g fa fb)):=by
 refine jh (VE bO slot d l o (qT hb jU s) c w e s rfl) λσ H Q h=>?_;obtain ⟨F,ρ,p,h⟩:=ZS (ma:=ma) (mb:=mb) f h;refine ⟨F,ρ,p,Po.imp h λx H1 h1=>?_⟩;obtain ⟨⟨F1,dx,k,i,n⟩,h2⟩:=h1;refine ⟨?_,?_⟩
 ·cases dx <;> try (cases n; done)
  obtain ⟨a,vs,rfl,hq,t⟩:=i.lst k;exact .inl ⟨rfl,vs,by rw [<-u]; exact hq⟩
 ·obtain ⟨v,j,r,h2⟩:=h2;exact ⟨v,j,r,Po.imp h2 λy H2 q=>⟨y,q.choose,q.choose_spec.choose,q.choose_spec.choose_spec.choose,rfl,q.choose_spec.choose_spec.choose_spec⟩⟩
end
theorem Wc {pins:List (Addr×Obj)} {s:iJ} (I:Inv X pins σ H s) (q:Same F H) {n:Nat} {e:D}:∀ {vs:List V} {ds:List D} {us:List iG} {b:Bool},IsL X.K F vs ds->Vals vs us->xO n e ds=iD b ->us.map (YA X F n e)=ds.map λd=>eqN n d e == iD iI
 | _,_,_,b,.nil,.nil,h=>rfl
 | _,_,_,b,.cons i t,.cons r rs,h=>by obtain ⟨a,c,f,g,rfl⟩:=JX h;rw [ax,ax,Wc I q t rs g,XX I q i r f,f];cases a <;> rfl
noncomputable def uT:D->D->Out D
 | .lst ds,e=>match xO 7 e ds with
  | some _=>match (ds.map λd=>eqN 7 d e == iD iI).findIdx? id with
   | some j=>.ok (.int (j:Nat))
   | none=>.bad
  | none=>.bad
 | _,_=>.bad
section
theorem qbi (P:C.K=X.K) (N:X.A.units+64 < cLine):MtD X C .sh "list.index" uT:=by
 intro pins s σ H x vs v us Q I J rv h;obtain ⟨y,F,dx,o,rfl,q,z,ty,po⟩:=h;rw [P] at z ty;obtain ⟨u,rfl,L⟩:=rv.one;unfold uT at po;cases dx <;> try exact po.elim
 rename_i ds;cases e:xO 7 o ds with
 | none=>simp only [e] at po; exact po.elim
 | some b=>
  simp only [e] at po;cases G:(ds.map λd=>eqN 7 d o == iD iI).findIdx? id with
  | none=>simp only [G] at po; exact po.elim
  | some j=>
   simp only [G] at po;obtain ⟨F',g',c,M⟩:=ty.is q;obtain ⟨a,xs,rfl,p,B⟩:=z.lst q;cases J;obtain ⟨its,r,pl,R⟩:=I.list p;obtain ⟨h1,h2⟩:=Qb (A:=X.A) (y:=.non) (a:=a) (u:=.none) I N c M L (B.mono g') r e;have O:=Wc I c (B.mono g') r e;rw [<-O] at G;obtain ⟨⟨cls,dd,data,sl⟩,n,D,E,hd,t⟩:=pl;simp only at E hd t;subst E t;obtain ⟨l,k,i⟩:=bJ.mp G;have f:its.length<=sizeLine:=by have:=r.length; omega
   have g:j < its.length:=by simpa using l
   refine j9 c6 ⟨_,D,rfl⟩ PySem.F.entry_list_index (PySem.F.args_list_index_2 _ _) (SeqAt.list_indexAt a _ n dd sl u (YA X F' 7 o) j (by simpa using g) (by rw [iR] at f; omega) (by simpa using k) λm S h1=>?_) ⟨D,λw hw=>h2 w hw,?_⟩;·have:=i m h1;simpa using this
   ·exact ⟨.int (j:Nat),H,I.tok _,⟨_,rfl⟩,po _ F H q .refl (.int _)⟩
end
theorem UI {xs:List V} {us:List iG} (r:Vals xs us):∀ n:Nat,Vals (ao n xs).flatten (ao n us).flatten
 | 0=>.nil
 | n+1=>by rw [bL,bL,ci,ci];exact r.append (UI r n)
theorem ZT {K:Frag} {vs:List V} {ds:List D} (r:IsL K F vs ds):∀ n:Nat,IsL K F (ao n vs).flatten (ao n ds).flatten
 | 0=>.nil
 | n+1=>by rw [bL,bL,ci,ci];exact r.append (ZT r n)
theorem ZU {α:Type} (l:List α):∀ n:Nat,(ao n l).flatten.length=l.length * n
 | 0=>by simp
 | n+1=>by rw [bL,ci,ap,ZU l n,Nat.mul_succ,Nat.add_comm]
noncomputable def qfD:D->D->Out D
 | .lst ds,.int n=>if (0<=n/\n<=100000)/\ds.length * n.toNat<=1000000 then .ok (.lst (ao n.toNat ds).flatten) else .bad
 | _,_=>.bad
section
theorem qdD (A:C.K=X.K):OpD X C .fr (binaryOp .Mult) qfD:=by
 intro pins s σ H x y v u Q I w l h;obtain ⟨F,dx,B,q,j,ty,po⟩:=h;cases dx <;> try exact po.elim
 cases B <;> try exact po.elim
 rename_i ds n;unfold qfD at po;by_cases z:(0<=n/\n<=100000)/\ds.length * n.toNat<=1000000
 ·simp only [if_pos z] at po;obtain ⟨a,xs,rfl,p,i⟩:=j.lst q;obtain rfl:=ty.int;cases w;obtain ⟨t,rfl⟩:=l;rw [A] at p;obtain ⟨its,r,pl,_⟩:=I.list p;have c:its.length=ds.length:=by rw [<-r.length,i.length]
  obtain ⟨⟨cls,d,data,sl⟩,k,m,g,hd,f⟩:=pl;simp only at g hd f;subst g f;have hq:H s.heap.objs.size=none:=I.hok.fresh (aG _);obtain ⟨s2,c2,f2⟩:=yc (u:=.lst (ao n.toNat xs).flatten) q hq;have hw:(ao n.toNat xs).flatten.length<=sizeLine:=by rw [ZU,i.length,iR]; omega
  refine wpAny_binaryOp_repeat_ref (T := "list") (U := "int") (by decide) ⟨_,m,rfl⟩ (λs'=>typeIs_int s' n t) noFill_list_mul PySem.F.fills_int_mul PySem.F.slot_int_rmul repeat_list PySem.F.slot_int_index.lookup
   (j9 PySem.F.slot_int_rmul (typeIs_int s n t) PySem.F.entry_int_rmul (PySem.F.args_int_rmul_2 _ _) (lm_int_rmul_list_any n t a its.toArray k d sl)
    ⟨m,rfl,⟨_,m,rfl⟩,j9 PySem.F.slot_list_mul ⟨_,m,rfl⟩ PySem.F.entry_list_mul (PySem.F.args_list_mul_2 _ _)
     (lm_list_mul_any a its.toArray k d sl n t (by simp [Builtin.List.listFitsIndex]; omega) (by rw [aw,c]; omega) (by simp [cR,sizeLine]; rw [c]; omega))
     ⟨m,?_⟩⟩)
  refine ⟨.ref s.heap.objs.size,_,I.laid (t':=s.toks) (o:=.lst (ao n.toNat xs).flatten) (λb o e=>aa _ e) (aG _) ⟨hw,(ao n.toNat its).flatten,0,UI r _,?_⟩,rfl,po _ _ _ s2 c2 ⟨_,rfl,hq,f2,_,qm,ZT i _⟩⟩;rw [listMul_foldl_if];exact aq _ rfl
 ·simp only [if_neg z] at po;exact po.elim
end
def qiu (i j:Int):Prop:=(-(2 ^ 62)<=i/\i < 2 ^ 62)/\-(2 ^ 62)<=j/\j < 2 ^ 62
instance:∀ i j,Decidable (qiu i j):=λi j=>inferInstanceAs (Decidable (_/\_))
mutual
def qfE:Nat->Expr->Option D
 | 0,_=>iF
 | n+1,e=>match e with
  | .Constant c _ _=>match c with
   | .none=>iD .non
   | .bool b=>iD (.bl b)
   | .int i=>iD (.int i)
   | .str x=>if x.length<=sizeLine then iD (.str x) else iF
   | _=>iF
  | .UnaryOp .USub (.Constant (.int i) _ _) _=>iD (.int (-i))
  | .List es _=>(qep n es).bind λds=>if ds.length<=sizeLine then iD (.lst ds) else iF
  | .Tuple es _ _=>(qep n es).bind λds=>if ds.length<=sizeLine then iD (.tup ds) else iF
  | _=>iF
def qep:Nat->List Expr->Option (List D)
 | _,[]=>iD []
 | 0,_::_=>iF
 | n+1,e::es=>(qfE n e).bind λd=>(qep n es).bind λds=>iD (d::ds)
end
theorem UJ {α:Type}:∀ l:List α,((l.map λ_=>AK.vl).all λa=>decide (a=.vl))=iI
 | []=>rfl
 | _::l=>by rw [ax,fL,UJ l]; rfl
theorem ZV {n:Nat} {e:Expr} {d:D} (h:qfE n e=iD d):VI e=true:=by
 cases n with
 | zero=>cases h
 | succ n=>cases e <;> first | rfl | (simp [qfE] at h)
section
variable {X:Cx} {C:Ct} {own:List Nat}
mutual
theorem qfF:∀ (n:Nat) {e:Expr} {d:D},qfE n e=iD d->PE X e (tE C own .sh (dC d))
 | 0,_,_,h=>by cases h
 | n+1,e,d,h=>by
  unfold qfE at h;split at h
  ·split at h;·cases h; exact xy
   ·cases h; exact QI
   ·cases h; exact qx
   ·split at h;·rename_i z;cases h;exact jV z
    ·cases h
   ·cases h
  ·cases h;exact jh (Yy Ql qx) λσ H Q h=>h
  ·obtain ⟨ds,h1,h2⟩:=cy.mp h;split at h2
   ·rename_i z;cases h2;have i:yU (λρ=>.ok (ds,ρ))=dC (.lst ds):=by funext ρ;unfold yU dC;rw [Out.oo,if_pos z]
    rw [<-i];exact vi (vd (QY n h1) (UJ _)) (by decide)
   ·cases h2
  ·obtain ⟨ds,h1,h2⟩:=cy.mp h;split at h2
   ·rename_i z;cases h2;have i:wG (λρ=>.ok (ds,ρ))=dC (.tup ds):=by funext ρ;unfold wG dC;rw [Out.oo,if_pos z]
    rw [<-i];exact jA (QY n h1) (UJ _)
   ·cases h2
  ·cases h
theorem QY:∀ (n:Nat) {es:List Expr} {ds:List D},qep n es=iD ds->PA X es (tAr C own (es.map λ_=>.vl) λρ=>.ok (ds,ρ))
 | 0,[],ds,h=>by cases h;exact ql
 | _+1,[],ds,h=>by cases h;exact ql
 | 0,_::_,ds,h=>by cases h
 | n+1,e::es,ds,h=>by unfold qep at h;obtain ⟨d,h1,h⟩:=cy.mp h;obtain ⟨g,h2,h⟩:=cy.mp h;cases h;have i:qe (dC d) (λρ=>.ok (g,ρ))=λρ=>.ok (d::g,ρ):=rfl;rw [<-i];exact qc (qfF n h1) (QY n h2) (by decide) (ja (ZV h1))
end
theorem We {es:List Expr} {ds:List D} {pos:Pos} (n:Nat) (h:qep n es=iD ds):PE X (.List es pos) (tE C own .fr (yU λρ=>.ok (ds,ρ))):=vd (QY n h) (UJ _)
end
noncomputable def txI (i:Int):Str:=toString i
def CTx (i:Int):Prop:=i.natAbs.log2 < 1920/\(txI i).length<=sizeLine
instance:∀ i,Decidable (CTx i):=λi=>inferInstanceAs (Decidable (_/\_))
end L2.D2
namespace PySem
open Builtin Builtin.Str
end PySem
namespace L2.D2
open PySem PySem.Spec PyProof.Rows
def qiv (x y:Str):Prop:=(y.length == 0)=iH/\(Txt.split x y).length<=sizeLine/\∀ z∈Txt.split x y,z.length<=sizeLine
instance:∀ x y,Decidable (qiv x y):=λx y=>inferInstanceAs (Decidable (_/\_))
inductive IntsAre:List iG->List Int->Prop
 | nil:IntsAre [] []
 | cons (y:Int) (t:Tok) {vs:List iG} {ys:List Int} (h:IntsAre vs ys):IntsAre (fD y t::vs) (y::ys)
theorem IntsAre.length:∀ {vs:List iG} {ys:List Int},IntsAre vs ys->vs.length=ys.length
 | _,_,.nil=>rfl
 | _,_,.cons _ _ h=>congrArg (·+1) h.length
theorem IntsAre.item:∀ {vs:List iG} {ys:List Int},IntsAre vs ys->∀ (i:Nat) (v:iG),vs[i]?=iD v->∃ y t,v=fD y t/\ys[i]?=iD y
 | _,_,.nil,i,v,e=>by simp at e
 | _,_,.cons y t h,0,v,e=>by simp at e; subst e; exact ⟨y,t,rfl,rfl⟩
 | _,_,.cons y t h,i+1,v,e=>by obtain ⟨z,t',e1,a⟩:=h.item i v (by simpa using e);exact ⟨z,t',e1,by simpa using a⟩
noncomputable def zOf:iG->Int
 | .int i _=>i
 | _=>0
theorem KO {x:Int} {v:iG} (h:fj x v=iI):∃ t,v=fD x t:=by
 cases v <;> first | (cases h; done) | skip
 rename_i i t;have:i=x:=by simpa [fj] using h
 subst this;exact ⟨t,rfl⟩
noncomputable def Vv (ks:List Int) (x:Int):List Int:=if x∈ks then ks else ks++[x]
theorem ZW:(yf:List Int->Int->List Int)=Vv:=by funext ks x;unfold yf Vv;congr
theorem qbj (ks:List Int) (x:Int):(Vv ks x).length<=ks.length+1:=by rw [<-ZW];exact UB ks x
theorem ZX (l ks:List Int):(l.foldl Vv ks).length<=ks.length+l.length:=by rw [<-ZW];exact uj l ks
noncomputable def KpZ:KP Int where
 kd:=PySem.intKind
 of:=zOf
 pb:=iH
 ofi:=λh=>let ⟨_,e⟩:=KO h; by rw [e]; rfl
 sc:=λh=>let ⟨_,e⟩:=KO h; by rw [e]; rfl
 pl:=λ_ h=>by cases h
noncomputable def xS:List D->Option (List Int)
 | []=>iD []
 | .int x::l=>(xS l).map (x::·)
 | _::_=>iF
noncomputable def Qp:D->Option (List Int)
 | .lst ds=>xS ds
 | .tup ds=>xS ds
 | _=>iF
variable {K:Frag} {F:Hp}
theorem ZY:∀ {vs:List V} {us:List iG} {ds:List D} {ss:List Int},IsL K F vs ds->Vals vs us->xS ds=iD ss->IntsAre us ss
 | [],[],[],ss,_,_,e=>by cases e; exact .nil
 | v::vs,u::us,d::ds,ss,.cons i il,.cons r rl,e=>by
  cases d with
  | int x=>
   cases q:xS ds with
   | none=>have e:(xS ds).map (x::·)=iD ss:=e;rw [q] at e;cases e
   | some sl=>have e:(xS ds).map (x::·)=iD ss:=e;rw [q] at e;cases e;cases i;obtain ⟨t,rfl⟩:=r;exact .cons x t (ZY il rl q)
  | _=>cases e
variable {ds:List D} {vs:List V}
theorem UK {ss:List Int} {us:List iG} (e:xS ds=iD ss) (l:IsL K F vs ds) (rv:Vals vs us):us.length=ss.length/\(∀ (i:Nat) (v:iG),us[i]?=iD v->∃ x,ss[i]?=iD x/\∀ p w,(KpZ.kd p w).is x v=iI)/\∀ x∈ss,True:=by have st:=ZY l rv e;refine ⟨st.length,λi v h=>?_,λ_ _=>trivial⟩;obtain ⟨y,t,e1,a⟩:=st.item i v h;refine ⟨y,a,λp w=>?_⟩;rw [e1];show fj y (.int y t)=iI;simp [fj]
noncomputable def KdZ:KD KpZ where
 sqd:=Qp
 ok:=λ_=>True
 get:=λ{K F dx ss} e=>by
  cases dx with
  | lst ds=>exact ⟨ds,rfl,UK e⟩
  | tup ds=>exact ⟨ds,rfl,UK e⟩
  | _=>cases e
noncomputable def kT (d:D):Out D:=match Qp d with
 | some ss=>if ss.length < 4000 then .ok (.int (ss.foldl Vv []).length) else .bad
 | none=>.bad
variable {X:Cx} {C:Ct} {own:List Nat} {e:Expr} {fa:Sl->Out (D×Sl)} {pos:Pos}
section
variable {ma:Mo}
theorem Qq {p p2 a:Pos} (l:C.K=X.K) (i:X.calm=iI) (hg:Gl X "len") (m:X.mg "len"=iF) (v:bootBuiltins "len"=iD (.builtin "len")) (g:Gl X "set") (f:X.mg "set"=iF) (h:bootBuiltins "set"=iD (.type "set")) (j:PE X e (tE C own ma fa))
  (b:starEach [e] X.env=[(iH,eval e X.env)]:=by exact qO rfl) (c:starEach [.Call (.Name "set" p2) [e] [] a] X.env=[(iH,eval (.Call (.Name "set" p2) [e] [] a) X.env)]:=by exact qO rfl) :
  PE X (.Call (.Name "len" p) [.Call (.Name "set" p2) [e] [] a] [] pos) (tE C own .sh (d1 kT fa)):=by
 rw [show kT=qeo KdZ yf by rw [ZW];funext d;have q:KdZ.sqd d=Qp d:=rfl;unfold kT qeo;rw [q];cases Qp d <;> rfl];exact Qo KdZ l i hg m v g f h j b c
end
noncomputable def vO (f:Str) (d:D):List (Str×D)->List (Str×D)
 | []=>[(f,d)]
 | (g,x)::r=>if g=f then (g,d)::r else (g,x)::vO f d r
variable {v:V} {f:Str} {d:D} {H:Hp} {c:Addr}
section
theorem IsF.put (h:Is K F v d):∀ {fv:List (Str×V)} {fs:List (Str×D)},IsF K F fv fs->IsF K F (zo f v fv) (vO f d fs)
 | _,_,.nil=>.cons h .nil
 | _,_,.cons (k:=k) q t=>by
  unfold zo vO;by_cases z:k=f;·rw [if_pos z,if_pos z]; exact .cons h t
  ·rw [if_neg z,if_neg z]; exact .cons q (IsF.put h t)
theorem IsF.get:∀ {fv:List (Str×V)} {fs:List (Str×D)},IsF K F fv fs->fs.lookup f=iD d->∃ v,fv.lookup f=iD v/\Is K F v d
 | _,_,.nil,e=>by cases e
 | _,_,.cons (k:=k) q t,e=>by
  rw [cw] at e ⊢;cases z:f == k with
  | true=>rw [z] at e; cases e; exact ⟨_,rfl,q⟩
  | false=>rw [z] at e; exact IsF.get t e
theorem IsF.non:∀ {fv:List (Str×V)} {fs:List (Str×D)},IsF K F fv fs->fs.lookup f=iF->fv.lookup f=iF
 | _,_,.nil,e=>rfl
 | _,_,.cons (k:=k) q t,e=>by
  rw [cw] at e ⊢;cases z:f == k with
  | true=>rw [z] at e; cases e
  | false=>rw [z] at e; exact IsF.non t e
theorem IsF.length:∀ {fv:List (Str×V)} {fs:List (Str×D)},IsF K F fv fs->fv.length=fs.length
 | _,_,.nil=>rfl
 | _,_,.cons _ t=>congrArg (·+1) t.length
theorem TopIs.ins {fs:List (Str×D)} (s:Same F H) (h:TopIs K F H v (.ins c fs)):∃ a dx fv,v=.ref a/\H a=iD (.ins c dx fv)/\IsF K F fv fs:=by
 rcases h with h | ⟨a,rfl,dx,fv,e,t⟩
 ·cases h with
  | ins e t=>exact ⟨_,_,_,rfl,s _ _ e,t⟩
 ·exact ⟨a,dx,fv,rfl,e,t⟩
end
noncomputable def zV (c:Addr) (f:Str):D->Out D
 | .ins k fs=>if k=c then (match fs.lookup f with | some d=>.ok d | none=>.bad) else .bad
 | _=>.bad
noncomputable def ZZ (c:Addr) (i:Nat) (f:Str) (fe:Sl->Out (D×Sl)):Sl->Out (Fl×Sl):=λρ=>(fe ρ).bind λp=>match p.2[i]? with
 | some (iD (.ins k fs))=>if k=c/\fs.length < 1000 then .ok (.nx,p.2.set i (iD (.ins k (vO f p.1 fs)))) else .bad
 | _=>.bad
variable {x n:Str} {m mo mr:Mo} {o:Expr} {es:List Expr} {fe fo:Sl->Out (D×Sl)} {p1 p2:Pos} {i j:Nat} {ps:List Str} {cv:Str->iG} {G:List D->Out (D×List D)}
section
theorem wZ (o:C.K=X.K) (i:Cls X.K c) (n:NoAttr X.K c f) (g:PE X e (tE C own m fa)) (hb:attributeBase e f X.env (eval e X.env)=eval e X.env:=by rfl):PE X (.Attribute e f pos) (tE C own .sh (d1 (zV c f) fa)):=by
 refine jh (qb8 g hb) λσ H Q h=>Wa (JW (ma:=m) h) λx H1 ⟨F,dx,s,b,po⟩=>?_;cases dx with
 | ins k fs=>
  replace po:PoV C .sh F H1 (if k=c then (match fs.lookup f with | some d=>.ok d | none=>.bad) else .bad) Q:=po;by_cases z:k=c
  ·subst z;rw [if_pos rfl] at po;cases q:fs.lookup f with
   | none=>rw [q] at po; exact po.elim
   | some d=>rw [q] at po;obtain ⟨a,dx,fv,rfl,j,t⟩:=b.ins s;obtain ⟨v,l,is⟩:=t.get q;exact ⟨a,k,dx,fv,v,rfl,j,i,n,l,po v F H1 s .refl is⟩
  ·rw [if_neg z] at po; exact po.elim
 | _=>exact po.elim
theorem Wf (J:C.K=X.K) (G:Cls X.K c) (y:NoAttr X.K c f) (hi:X.N[i]?=iD x) (s:Vis X.env.scope x) (o:i∈own) (E:PE X e (tE C own m fe)) (B:m≠.any:=by decide) (hd:(x == ("__debug__":Str))=false:=by decide) (l:(x == ("__classdict__":Str))=false:=by decide)
  (w:swapsWith e (iD (.Attribute (.Name x p1) f p2)) pos.line X.env=pure false:=by rfl):PS X (.Assign [.Attribute (.Name x p1) f p2] e pos) (tSt C own own (ZZ c i f fe)):=by
 refine Ke (XA (uQ hi s hd l) (vi E B) w) λD σ H ⟨F,ρ,p,h⟩=>⟨F,ρ,p,PoS.bindE h λv F1 H1 d ρ1 r M j h1=>?_⟩
 obtain ⟨A,b⟩:=r.opn i o;obtain ⟨a,e1,L,q⟩:=r.ow i A o b;simp only [b] at h1;cases A with
 | ins k fs=>
  by_cases z:k=c/\fs.length < 1000;·simp only [if_pos z] at h1;obtain ⟨rfl,hl⟩:=z;obtain ⟨dx,fv,I,t⟩:=q;obtain ⟨g,n⟩:=r.write (u:=.ins k dx (zo f v fv)) (d:=.ins k (vO f d fs)) o e1 ⟨dx,_,qm,t.put j⟩;exact ⟨_,e1,a,k,dx,fv,rfl,I,G,y,by rw [t.length]; exact hl,h1 σ F1 _ ⟨g,n,λ_ z=>.inl z,λ_ _=>rfl⟩⟩
  ·simp only [if_neg z] at h1; exact h1.elim
 | _=>exact h1.elim
def KQ (P:iL) (w:iM) (K:Frag) (mg:Str->Option iG) (base:Heap) (cv:Str->iG) (k:Nat) (c:Addr) (x:Str) (ps:List Str) (ms:List PM) (mr:Mo) (G:List D->Out (D×List D)):Prop:=
 ∃ f fd,FnOk P w K mg base (CXk P w) k f fd ps (spD K cv ms mr G)/\Meth K c x f/\Binds K fd ps []
noncomputable def Xi:List AK->Bool
 | []=>iI
 | .vl::l=>Xi l
 | _::_=>iH
theorem qfG {K:Frag} {H0 F F' H H':Hp} {σ:St} (g:Same F F'):∀ {as:List AK} {vs:List V} {ds:List D},Xi as=iI->ArgV K H0 F H σ as vs ds->ArgsIs K F' H' (as.map wn) vs ds/\uf (as.map wn) vs=[]
 | [],[],[],_,_=>⟨trivial,rfl⟩
 | .vl::as,v::vs,d::ds,h,a=>by have j:=qfG (H':=H') g (as:=as) h a.2;exact ⟨⟨a.1.mono g,j.1⟩,j.2⟩
 | [],_::_,_,_,a=>a.elim
 | [],[],_::_,_,a=>a.elim
 | .vl::_,[],_,_,a=>a.elim
 | .vl::_,_::_,[],_,a=>a.elim
 | .sl _::_,_,_,h,_=>by cases h
 | .fr::_,_,_,h,_=>by cases h
noncomputable def KR (c:Addr) (n:Str) (G:List D->Out (D×List D)) (fo:Sl->Out (D×Sl)):Sl->Out (D×Sl):=λρ=>(fo ρ).bind λp=>match p.1 with
 | .ins k fs=>if k=c/\(fs.lookup n).isNone=iI then (match G [.ins k fs] with
  | .ok q=>.ok (q.1,p.2)
  | .exc x _=>.exc x p.2
  | .bad=>.bad) else .bad
 | _=>.bad
theorem UL {k:Nat} {apos:Pos} {pl:Sem Bool} (R:Cls X.K c) (S:KQ X.prog X.w X.K X.mg X.base cv j c n ps [.val] mr G) (hr:Room k X.A) (P:j<=k) (hx:jO (CXk X.prog X.w) X C.E) (O:PE X o (tE C own mo fo)) (p:mo≠.any:=by decide) (B:C.cv=cv:=by rfl) (I:C.K=X.K:=by rfl) (u:∀ i∈C.ox,i∈own:=by exact kq rfl)
  (N:eval (.Call (.Attribute o n apos) [] [] pos) X.env=(do
   let ov <-eval o X.env
   standAt apos.atName
   let (f,first) <-holding [ov] (getMethod ov n pl)
   callWith pos f first (backTo pos (starEach [] X.env)) (backToKw pos (keywordEach [] X.env))):=by rfl):PE X (.Call (.Attribute o n apos) [] [] pos) (tE C own mr (KR c n G fo)):=by
 subst B;obtain ⟨f,fd,F0,M,hb⟩:=S;refine jh (QF (pl:=pl) (vi O p) R M F0 (hr.mono P) hb .nil hx N) λσ H Q ⟨F,ρ,J,h⟩=>⟨F,ρ,J,Po.bind h λv F1 H1 d ρ1 b T m h1=>?_⟩
 have m:Is C.K F1 v d:=m;cases m with
 | @ins a k dx fv fs ea t=>
  replace h1:Po C own mr σ F1 H1 (if k=c/\(fs.lookup n).isNone=iI then (match G [.ins k fs] with | .ok q=>.ok (q.1,ρ1) | .exc x _=>.exc x ρ1 | .bad=>.bad) else .bad) Q:=h1;by_cases z:k=c/\(fs.lookup n).isNone=iI
  ·rw [if_pos z] at h1;obtain ⟨rfl,D⟩:=z;refine ⟨a,dx,fv,rfl,b.sub _ _ ea,t.non (by cases q:fs.lookup n with | none=>rfl | some y=>rw [q] at D; cases D),?_⟩;refine ⟨F1,[.ins k fs],b.sub,⟨by rw [<-I]; exact .ins ea t,trivial⟩,bI,?_⟩;have r:∀ {F' H':Hp},Chg (LA [PM.val] [V.ref a]) F1 H1 F' H'->Chg No F1 H1 F' H':=λe=>e.mono λz l=>by have l:z∈([]:List Addr):=l;cases l
   cases g:G [.ins k fs] with
   | bad=>rw [g] at h1; exact h1.elim
   | exc y o=>rw [g] at h1; exact λF' H' s e _=>h1 F' H' s ((b.grow (r e) s).ioIs u) (r e).ofNo
   | ok L=>rw [g] at h1;obtain ⟨d,outs⟩:=L;exact λv F' H' s e _ mo=>h1 v F' H' (b.grow (r e) s) (r e).ofNo (by rw [I]; exact mo)
  ·rw [if_neg z] at h1; exact h1.elim
 | _=>exact h1.elim
end
variable {own1:List Nat} {σ:St} {ρ:Sl} {a b:Addr} {u:HO}
section
theorem Rep.blind (r:Rep K own F H σ ρ) (h1:∀ j,j∈own1↔j∈own/\j≠i):Rep K own1 F H σ (ρ.set i iF) where
 sub:=r.sub
 len:=by simp [r.len]
 val:=λj d G e=>by
  by_cases q:j=i
  ·subst q;by_cases z:j < ρ.length;·rw [aC z] at e; cases e
   ·rw [cJ (by simpa using z)] at e; cases e
  ·rw [aj (be q)] at e;exact r.val j d (λz=>G ((h1 j).mpr ⟨z,q⟩)) e
 ow:=λj d G e=>by have l:=(h1 j).mp G;rw [aj (be l.2)] at e;exact r.ow j d l.1 e
 opn:=λj G=>by have l:=(h1 j).mp G;rw [aj (be l.2)];exact r.opn j l.1
 dis:=λj k a G h=>r.dis j k a ((h1 j).mp G).1 ((h1 k).mp h).1
theorem Rep.see (r:Rep K own1 F H σ ρ) (h1:∀ j,j∈own1↔j∈own/\j≠i) (hi:i∈own) (f:σ[i]?=iD (iD (V.ref a))) (C:F a=iF) (n:¬OA own1 σ a) (ow:OwnIs K F H a d):Rep K own F H σ (ρ.set i (iD d)):=by
 have hl:i < ρ.length:=by rw [<-r.len]; exact (aA.mp f).1
 refine ⟨r.sub,by simp [r.len],λj d' G e=>?_,λj d' G e=>?_,λj G=>?_,λj k b G l e1 h=>?_⟩;·have q:j≠i:=λz=>G (by rw [z]; exact hi);rw [aj (be q)] at e;exact r.val j d' (λz=>G ((h1 j).mp z).1) e
 ·by_cases q:j=i;·subst q;rw [aC hl] at e;cases e;exact ⟨a,f,C,ow⟩
  ·rw [aj (be q)] at e;exact r.ow j d' ((h1 j).mpr ⟨G,q⟩) e
 ·by_cases q:j=i;·subst q; exact ⟨d,aC hl⟩
  ·rw [aj (be q)];exact r.opn j ((h1 j).mpr ⟨G,q⟩)
 ·by_cases g:j=i
  ·by_cases c:k=i;·rw [g,c]
   ·rw [g,f] at e1;cases e1;exact absurd ⟨k,(h1 k).mpr ⟨l,c⟩,h⟩ n
  ·by_cases c:k=i;·rw [c,f] at h;cases h;exact absurd ⟨j,(h1 j).mpr ⟨G,g⟩,e1⟩ n
   ·exact r.dis j k b ((h1 j).mpr ⟨G,g⟩) ((h1 k).mpr ⟨l,c⟩) e1 h
theorem Rep.off {x:Addr} (r:Rep K own F H σ ρ) (C:F x=iF) (n:¬OA own σ x):Rep K own F (upd H x u) σ ρ where
 sub:=λb o e=>by rw [qt (qD e C)]; exact r.sub b o e
 len:=r.len
 val:=r.val
 ow:=λj d G e=>by obtain ⟨a,h1,h2,i⟩:=r.ow j d G e;exact ⟨a,h1,h2,i.grow (Same.refl _) λo q=>by rw [qt (λz=>n ⟨j,G,by rw [<-z]; exact h1⟩)]; exact q⟩
 opn:=r.opn
 dis:=r.dis
theorem Rep.frz {o:HO} (r:Rep K own F H σ ρ) (hb:H b=iD o) (C:F b=iF) (n:¬OA own σ b):Rep K own (upd F b o) H σ ρ:=by
 have gr:Same F (upd F b o):=λc w e=>by rw [qt (qD e C)]; exact e
 refine ⟨λc w e=>?_,r.len,λj d G e=>?_,λj d G e=>?_,r.opn,r.dis⟩
 ·by_cases q:c=b;·subst q; rw [qm] at e; cases e; exact hb
  ·rw [qt q] at e; exact r.sub c w e
 ·obtain ⟨v,h1,h2⟩:=r.val j d G e;exact ⟨v,h1,h2.mono gr⟩
 ·obtain ⟨a,h1,h2,i⟩:=r.ow j d G e;exact ⟨a,h1,by rw [qt (λz=>n ⟨j,G,by rw [<-z]; exact h1⟩)]; exact h2,i.grow gr λ_ q=>q⟩
theorem Chg.put {A:Addr->Prop} {F H:Hp} (hA:A b):Chg A F H F (upd H b u):=
 ⟨λc o e n=>by rw [qt (λz=>n (by rw [z]; exact hA))]; exact e,λc h=>by
  by_cases q:c=b;·rw [q,qm]; simp
  ·rw [qt q]; exact h,Same.refl _,λ_ h=>.inl h⟩
end
noncomputable def gL (g:D->Sl->Out Sl) (fw fx:Sl->Out (D×Sl)):List D->List D->Sl->Out (List D×Sl)
 | [],ds,ρ=>.ok (ds,ρ)
 | d::l,ds,ρ=>match g d ρ with
  | .ok ρ1=>match fw ρ1 with
   | .ok (w,ρ2)=>match fx ρ2 with
    | .ok (.int k,ρ3)=>match ixN ds.length k with
     | some j=>gL g fw fx l (ds.set j w) ρ3
     | none=>.bad
    | _=>.bad
   | _=>.bad
  | _=>.bad
variable {g:D->Sl->Out Sl} {fw fx:Sl->Out (D×Sl)}
theorem YR {l dE:List D} {ρE:Sl} (h:gL g fw fx (d::l) ds ρ=.ok (dE,ρE)):∃ ρ1 w b k a j,g d ρ=.ok ρ1/\fw ρ1=.ok (w,b)/\fx b=.ok (.int k,a)/\ixN ds.length k=iD j/\gL g fw fx l (ds.set j w) a=.ok (dE,ρE):=by
 unfold gL at h;split at h
 ·rename_i ρ1 e1;split at h
  ·rename_i w b i;split at h
   ·rename_i k a e;split at h;·rename_i j m;exact ⟨ρ1,w,b,k,a,j,e1,i,e,m,h⟩
    ·cases h
   ·cases h
  ·cases h
 ·cases h
noncomputable def ctB (C:Ct):Ct:={ C with ox:=[],oxs:=λ_ h=>by cases h }
structure FillW (C:Ct) (own1:List Nat) (σ:St) (F1 H2 F3:Hp) (b:Addr) (g:D->Sl->Out Sl) (fw fx:Sl->Out (D×Sl)) (items dE:List D) (ρE:Sl) (j:Nat) (σ':St) (F' H':Hp) (ρ':Sl) (xs:List V) (dk:List D):Prop where
 rep:Rep C.K own1 F' H' σ' ρ'
 chg:Chg (λz=>OA own1 σ z\/z=b) F1 H2 F' H'
 oa:∀ z,OA own1 σ' z->OA own1 σ z\/H2 z=iF
 io:∀ j∈C.io,σ'[j]?=σ[j]?
 hb:H' b=iD (.lst xs)
 fb:F' b=iF
 is:IsL C.K F' xs dk
 gr:Same F3 F'
 run:gL g fw fx (items.drop j) dk ρ'=.ok (dE,ρE)
theorem qhk {b:List Nat} (h:decide (i∈b)=iI):i∈b:=of_decide_eq_true h
def xT (K:Frag) (c:Addr) (x qual:Str) (st:Stmt) (ps:List Str):Prop:=∃ f fd,Fun K x qual st f fd/\Meth K c x f/\Binds K fd ps []
def qdE (K:Frag) (c:Addr) (qual:Str) (st:Stmt) (ps:List Str):Prop:=∃ f fd,Fun K "__init__" qual st f fd/\Mk K c f/\Binds K fd ps []
variable {P:iL} {w:iM} {mg:Str->Option iG} {base:Heap} {qual:Str} {st:Stmt} {N:List Str} {ms:List PM} {own':List Nat} {fb:Sl->Out (Fl×Sl)}
section
variable {k:Nat}
theorem Ga (T:xT K c x qual st ps) (S:FnScope N ps (qd st))
  (h:∀ (cdv:iG) (f:Addr) (A:iO) (outer:List Env) (s:iJ) (H:Hp) (E:XK),Room k (A.deeper (envOfC qual (qd st) s.heap.objs.size f cdv)) ->PSs (cxk P w K mg base N qual (qd st) f cdv A outer s H E) (jm st) (tSt (Qe K cv E ms mr) (jy 0 ms) own' fb))
  (hl:ms.length=ps.length:=by rfl) (b:∀ i∈Qd 0 ms,i∈own':=by exact kq rfl) (hmr:mr=.sh\/∀ ds ρ,(fb (qv N ds))≠.ok (.nx,ρ):=by exact .inl rfl):KQ P w K mg base cv (k+1) c x ps ms mr (vf N ms fb):=by
 obtain ⟨f,fd,F,m,hb⟩:=T;exact ⟨f,fd,qhG F S hl b hmr (λcdv A outer s H E hr=>h cdv f A outer s H E hr) λ_=>.inr rfl,m,hb⟩
end
section
theorem vr (i:Nat) (h:X.N[i]?=iD x:=by rfl) (c:Vis X.env.scope x:=by first | exact aI rfl | exact cF (aI rfl) | exact cF (cF rfl)) (m:i∉own:=by decide) (hd:(x == ("__debug__":Str))=false:=by decide) (d:(x == ("__classdict__":Str))=false:=by decide):PE X (.Name x pos) (tE C own .sh (qg i)):=qe0 h c m hd d
end
noncomputable def KS (c:Addr) (i:Nat) (fl:Str) (fe:Sl->Out (D×Sl)) (fi:Sl->Out (List D×Sl)) (g:D->Sl->Out Sl) (fw fx:Sl->Out (D×Sl)):Sl->Out (Fl×Sl):=λρ=>(fe ρ).bind λp=>match p.1,p.2[i]? with
 | .lst ds,iD (iD (.ins k fs))=>if k=c/\fs.length < 1000 then (match fi (p.2.set i iF) with
  | .ok q=>(match gL g fw fx q.1 ds q.2 with
   | .ok r=>.ok (.nx,r.2.set i (iD (.ins k (vO fl (.lst r.1) fs))))
   | _=>.bad)
  | _=>.bad) else .bad
 | _,_=>.bad
section
variable {mw mx:Mo} {w ix tg iter:Expr} {rest:List Stmt} {fi:Sl->Out (List D×Sl)} {fr:Sl->Out (Fl×Sl)} {fl:Str} {p3 p4 p5 p6 p7 p8:Pos}
theorem Gb {u:TS} (hK:C.K=X.K) (h1:∀ j,j∈own1↔j∈own/\j≠i) (hc:Cls X.K c) (hn:NoAttr X.K c fl) (hN:X.N[i]?=iD x) (hv:Vis X.env.scope x) (L:i∈own) (Y:i∈C.io) (hp:PassesOwn (model X.prog X.w) X.A X.env X.xe) (hcalm:X.calm=iI)
  (he:PE X e (tE C own .fr fe)) (hi:PI X tg iter (tIt (ctB C) own1 fi)) (hg:PG X tg (tGd (ctB C) own1 g)) (hw:PE X w (tE (ctB C) own1 mw fw)) (hx:PE X ix (tE (ctB C) own1 mx fx)) (U:PSs X rest u) (hmw:mw≠.any:=by decide)
  (hd:(x == ("__debug__":Str))=false:=by decide) (hcd:(x == ("__classdict__":Str))=false:=by decide)
  (hs:swapsWith e (iD (.Attribute (.Name x p1) fl p2)) p3.line X.env=pure false:=by rfl) (hs2:∀ x,foldedSetIterable iter X.env x=pure x:=by intro _; rfl)
  (hb:attributeBase (.Name x p4) fl X.env (eval (.Name x p4) X.env)=eval (.Name x p4) X.env:=by rfl)
  (hsub:∀ v,assign (.Subscript (.Attribute (.Name x p4) fl p5) ix p6) X.env v=(do
   let ov <-holding [v] (eval (.Attribute (.Name x p4) fl p5) X.env)
   let iv <-holding [v,ov] (eval ix X.env)
   standAt p6
   holding [v,ov,iv] (setItem ov iv v)
   release [v,ov,iv] []):=by intro _; rfl)
  (ha1:swapsWithSole [.Subscript (.Attribute (.Name x p4) fl p5) ix p6] w p7.line X.env=pure false:=by rfl) (ha2:swappedStores [.Subscript (.Attribute (.Name x p4) fl p5) ix p6] w X.env=pure none:=by rfl)
  (ha3:(assignEach [.Subscript (.Attribute (.Name x p4) fl p5) ix p6] X.env).map (·.2)=[assign (.Subscript (.Attribute (.Name x p4) fl p5) ix p6) X.env]:=by rfl) :
  PSs X (.Assign [.Attribute (.Name x p1) fl p2] e p3::.For tg iter [.Assign [.Subscript (.Attribute (.Name x p4) fl p5) ix p6] w p7] [] p8::rest) (qap (tSt C own own (KS c i fl fe fi g fw fx)) u):=by
 refine Kf (uC (XA (uQ hN hv hd hcd) he hs) (uC (qb5 hp hcalm hi hg (Vz (qb3 (vi hw hmw) (qeG (qb8 (uQ hN hv hd hcd) hb) hx qaB hsub) ha1 ha2 ha3)) hs2) U)) λD σ H ⟨F,ρ,rp,h⟩=>?_;refine ⟨F,ρ,rp,?_⟩;unfold KS at h;cases Q:fe ρ with
 | exc y o=>rw [Q] at h; exact h
 | bad=>rw [Q] at h; exact h.elim
 | ok p0=>
 obtain ⟨d,ρ1⟩:=p0;rw [Q] at h;rw [Out.oo] at h;have f:=h;intro v F1 H1 s c1 mo1;obtain ⟨b,rfl,I,hFb,owb⟩:=mo1;obtain ⟨d0,hd0⟩:=s.opn i L;obtain ⟨a,e1,hFa,o0⟩:=s.ow i d0 L hd0;cases d with
 | lst ds=>
  simp only [hd0] at f;cases d0 with
  | ins k fs=>
   by_cases z:k=c/\fs.length < 1000
   ·simp only [if_pos z] at f;obtain ⟨rfl,hl⟩:=z;obtain ⟨dx,fv,ea,t⟩:=o0;obtain ⟨O,hb0,is0⟩:=owb;have oaH:∀ {z:Addr},OA own1 σ z->H z≠none:=λ{z} q=>by obtain ⟨j,hj,ej⟩:=q;exact (rp.OA_there ⟨j,((h1 j).mp hj).1,ej⟩).1
    have S:¬OA own1 σ b:=λq=>oaH q I;have E:¬OA own1 σ a:=λq=>by obtain ⟨j,hj,ej⟩:=q;exact ((h1 j).mp hj).2 (s.dis j i a ((h1 j).mp hj).1 L ej e1)
    have hHa:H a≠none:=(rp.OA_there ⟨i,L,e1⟩).1;have B:a≠b:=λq=>hHa (by rw [q]; exact I);refine ⟨_,e1,a,k,dx,fv,rfl,ea,hc,hn,by rw [t.length]; exact hl,?_⟩;generalize eo:HO.ins k dx (zo fl (.ref b) fv)=o;have rpB:Rep C.K own1 F1 (upd H1 a o) σ (ρ1.set i iF):=(s.blind h1).off hFa E;have hb2:(upd H1 a o) b=iD (.lst O):=by rw [qt (be B)]; exact hb0
    refine ⟨F1,ρ1.set i iF,rpB,?_⟩;cases q:fi (ρ1.set i iF) with
    | exc y o=>simp only [q] at f; exact f.elim
    | bad=>simp only [q] at f; exact f.elim
    | ok pq=>
     obtain ⟨items,M⟩:=pq;simp only [q] at f;cases q2:gL g fw fx items ds M with
     | exc y o=>simp only [q2] at f; exact f.elim
     | bad=>simp only [q2] at f; exact f.elim
     | ok pr=>
      obtain ⟨dE,ρE⟩:=pr;simp only [q2] at f;intro J F3 H3 rp3 c3 it;have p:∀ {F' H'},Chg (λz=>OA own1 σ z\/z=b) F1 (upd H1 a o) F' H'->H' a=iD o/\F' a=none:=λ{F' H'} cc=>by
       refine ⟨cc.keep a o qm λz=>z.elim E B,?_⟩;cases qa:F' a with
       | none=>rfl
       | some u=>
        rcases cc.new a (by rw [qa]; simp) with z | z | z;·exact absurd hFa z
        ·rw [qm] at z; cases z
        ·exact (z.elim E B).elim
      have w0:FillW C own1 σ F1 (upd H1 a o) F3 b g fw fx items dE ρE 0 σ F3 H3 M O ds:=by
       refine ⟨rp3,c3.mono λ_ z=>.inl z,λ_ z=>.inl z,λ_ _=>rfl,c3.keep b _ hb2 S,?_,is0.mono c3.grow,Same.refl _,q2⟩;cases P:F3 b with
       | none=>rfl
       | some u=>
        rcases c3.new b (by rw [P]; simp) with z | z | z;·exact absurd hFb z
        ·rw [hb2] at z; cases z
        ·exact absurd z S
      refine ⟨λj m σ' H'=>m=items.length - j/\j<=items.length/\∃ F' ρ' xs dk,FillW C own1 σ F1 (upd H1 a o) F3 b g fw fx items dE ρE j σ' F' H' ρ' xs dk,⟨items.length,by simp,bA _,F3,M,O,ds,w0⟩,?_⟩;rintro j m σ' H' ⟨rfl,hle,F',ρ',xs,dk,W⟩;have nb':¬OA own1 σ' b:=λz=>by
       rcases W.oa b z with z | z;·exact S z
       ·rw [hb2] at z; cases z
      have na':¬OA own1 σ' a:=λz=>by
       rcases W.oa a z with z | z;·exact E z
       ·rw [qm] at z; cases z
      by_cases G:j < items.length
      ·have hd:items.drop j=items[j]::items.drop (j+1):=dN G;have run:=W.run;rw [hd] at run;obtain ⟨r1,wd,r2,kk,r3,jj,g1,g2,g3,g4,run'⟩:=YR run;refine .inr ⟨it.go j H' G (W.gr.trans W.rep.sub),λσ2 H2=>items.length - (j+1)=items.length - (j+1)/\j+1<=items.length/\∃ F' ρ' xs dk,FillW C own1 σ F1 (upd H1 a o) F3 b g fw fx items dE ρE (j+1) σ2 F' H2 ρ' xs dk,λσ2 H2 z=>⟨items.length - (j+1),by omega,z⟩,λxv H2 y=>?_⟩;obtain ⟨F2,c2,s2,is2⟩:=it.yld j F' H' xv H2 items[j] (by simp [G]) W.gr W.rep.sub y;refine ⟨F2,ρ',items[j],W.rep.grow c2 s2,is2,r1,g1,λr rp3' R io3=>⟨F2,r1,rp3',?_⟩⟩;rw [g2];intro wv F4 H4 rp4 c4 T;have b3:∀ {z:Addr},OA own1 r z->OA own1 σ z\/(upd H1 a o) z=none:=λ{z} q=>W.oa z (R z q);have l:¬OA own1 r b:=λz=>nb' (R b z);have na3:¬OA own1 r a:=λz=>na' (R a z);have C2:Chg (λz=>OA own1 σ z\/z=b) F1 (upd H1 a o) F2 H2:=W.chg.trans' c2.ofNo;have C4:Chg (λz=>OA own1 σ z\/z=b) F1 (upd H1 a o) F4 H4:=C2.trans c4 λz q=>(b3 q).imp .inl id;have ea3:r[i]?=iD (iD (V.ref a)):=by rw [io3 i Y,W.io i Y]; exact e1
       have hl4:(zo fl (V.ref b) fv).lookup fl=iD (V.ref b):=by rw [yb,if_pos rfl]
       refine ⟨_,ea3,a,k,dx,_,_,rfl,by rw [eo]; exact (p C4).1,hc,hn,hl4,F4,r2,rp4,?_⟩;rw [g3];intro iv F5 H5 rp5 c5 mo5;have hiv:iv=.int kk:=mo5.top.int;subst hiv;have C5:Chg (λz=>OA own1 σ z\/z=b) F1 (upd H1 a o) F5 H5:=C4.trans c5 λz q=>(b3 q).imp .inl id;have hb5:H5 b=iD (.lst xs):=c5.keep b _ (c4.keep b _ (c2.keep b _ W.hb λz=>z) l) l;have fb2:F2 b=none:=by
        cases P:F2 b with
        | none=>rfl
        | some u=>
         rcases c2.new b (by rw [P]; simp) with z | z | z;·exact absurd W.fb z
         ·rw [W.hb] at z; cases z
         ·exact z.elim
       have fb4:F4 b=none:=by
        cases P:F4 b with
        | none=>rfl
        | some u=>
         rcases c4.new b (by rw [P]; simp) with z | z | z;·exact absurd fb2 z
         ·rw [c2.keep b _ W.hb λz=>z] at z; cases z
         ·exact absurd z l
       have fb5:F5 b=none:=by
        cases P:F5 b with
        | none=>rfl
        | some u=>
         rcases c5.new b (by rw [P]; simp) with z | z | z;·exact absurd fb4 z
         ·rw [c4.keep b _ (c2.keep b _ W.hb λz=>z) l] at z; cases z
         ·exact absurd z l
       have gr5:Same F' F5:=(c2.grow.trans c4.grow).trans c5.grow;have T:Is C.K F4 wv wd:=T;refine ⟨b,xs,kk,jj,rfl,rfl,hb5,by rw [W.is.length]; exact g4,rfl,G,F5,r3,xs.set jj wv,dk.set jj wd,?_⟩;refine ⟨rp5.off fb5 l,C5.trans' (Chg.put (.inr rfl)),λz q=>b3 q,λn Z=>(io3 n Z).trans (W.io n Z),qm,fb5,(W.is.mono gr5).set (T.mono c5.grow) jj,W.gr.trans gr5,run'⟩
      ·have ej:j=items.length:=by omega
       subst ej;have run:=W.run;rw [fQ] at run;have run:Out.ok (dk,ρ')=Out.ok (dE,ρE):=run;cases run;refine .inl ⟨it.stop _ H' (aG _) (W.gr.trans W.rep.sub),?_⟩;obtain ⟨kA,kF⟩:=p W.chg;have grF:Same F' (upd F' b (.lst xs)):=λz u q=>by rw [qt (qD q W.fb)]; exact q
       have ea':σ'[i]?=iD (iD (V.ref a)):=by rw [W.io i Y]; exact e1
       have rpZ:=(W.rep.frz W.hb W.fb nb').see (i:=i) (d:=.ins k (vO fl (.lst dE) fs)) h1 L ea' (by rw [qt B]; exact kF) na' ⟨dx,_,by rw [kA,<-eo],((t.mono W.chg.grow).mono grF).put (.lst (.inl (.inl qm)) (W.is.mono grF))⟩;refine f _ _ _ ⟨rpZ,?_,λz q=>?_,W.io⟩
       ·have cc:Chg (OA own σ) F H F' H':=by
         refine (c1.trans' (Chg.put (A:=OA own σ) (b:=a) (u:=o) ⟨i,L,e1⟩)).trans W.chg λz q=>?_;rcases q with ⟨n,Z,en⟩ | q;·exact .inl ⟨n,((h1 n).mp Z).1,en⟩
         ·exact .inr (by rw [q]; exact I)
        refine ⟨cc.keep,cc.stay,cc.grow.trans grF,λz hz=>?_⟩;by_cases zb:z=b;·exact .inr (.inl (by rw [zb]; exact I))
        ·rw [qt zb] at hz; exact cc.new z hz
       ·obtain ⟨n,Z,en⟩:=q;by_cases qn:n=i;·rw [qn,ea'] at en;cases en;exact .inl ⟨i,L,e1⟩
        ·rcases W.oa z ⟨n,(h1 n).mpr ⟨Z,qn⟩,en⟩ with ⟨n',hn2,en2⟩ | q;·exact .inl ⟨n',((h1 n').mp hn2).1,en2⟩
         ·by_cases za:z=a;·exact .inl ⟨i,L,by rw [za]; exact e1⟩
          ·rw [qt za] at q;refine .inr ?_;cases qh:H z with
           | none=>rfl
           | some u=>exact absurd q (c1.stay z (by rw [qh]; simp))
   ·simp only [if_neg z] at f; exact f.elim
  | _=>exact f.elim
 | _=>simp only [] at f; exact f.elim
end
section
variable {o1 o2 o3:List Nat} {rest:List Stmt} {f g:Sl->Out (Fl×Sl)} {u:TS}
theorem qbk (h1:PS X st (tSt C o1 o2 f)) (h2:PSs X rest u):PSs X (st::rest) (qap (tSt C o1 o2 f) u):=uC h1 h2
theorem wx (h1:PS X st (tSt C o1 o2 f)) (h2:PSs X rest (qap (tSt C o2 o3 g) u)):PSs X (st::rest) (qap (tSt C o1 o3 (jf f g)) u):=Kf (uC h1 h2) λD σ H h=>qca (D:={ D with nx:=u D }) h
theorem Inv.ghost {pins:List (Addr×Obj)} {σ':St} {s:iJ} (I:Inv X pins σ H s) (hl:σ'.length=σ.length) (h:∀ (i:Nat) (x:Str),X.N[i]?=iD x->Vis X.env.scope x->σ'[i]?=σ[i]?):Inv X pins σ' H s:=
 ⟨I.ok,I.os,I.bare,I.base,let ⟨m,n,a⟩:=I.loc; ⟨m,n,λi x v e1 e D=>a i x v e1 (by rw [<-h i x e1 D]; exact e) D⟩,I.cell,I.free,I.freeC,I.pin,I.hok,hl.trans I.len⟩
end
def spG (K:Frag) (cv:Str->iG) (ms:List PM) (mr:Mo) (G:List D->Out (D×List D)):Sp:=λvs H Q E=>vs.length+1=ms.length/\∃ c,spD K cv ms mr G (vs++[.ref c]) H Q E
theorem Wg {c:V} (n:vs.length < N.length):(ko N (vs++[c])).length=(ko N vs).length/\∀ i,i≠vs.length->(ko N (vs++[c]))[i]?=(ko N vs)[i]?:=by
 unfold ko;refine ⟨by simp; omega,λi hi=>?_⟩;rw [fy,dA];by_cases h:i < vs.length;·rw [bS (by simpa using h),bS (by simpa using h)]
 ·have h1:vs.length < i:=by omega
  rw [bn (by simp; omega),bn (by simp; omega),bn (by simp; omega)];simp only [aH,ac,am,ap];by_cases h2:i < N.length;·rw [aY,aY,if_pos (by omega),if_pos (by omega)]
  ·rw [aY,aY,if_neg (by omega),if_neg (by omega)]
theorem qhT {P:iL} {w:iM} {K:Frag} {mg:Str->Option iG} {base:Heap} {CX:CXT} {x qual gn:Str} {st:Stmt} {f:Addr} {fd:i6} {N ps:List Str} {k:Nat} {cv:Str->iG} {ms:List PM} {mr:Mo} {own':List Nat} {fb:Sl->Out (Fl×Sl)} {G:List D->Out (D×List D)}
  (F:Fun K x qual st f fd) (S:FnScope N ps (qd st)) (hl:ms.length=ps.length+1) (n:N[ps.length]?=iD gn) (v:¬Vis (qd st) gn) (d:∀ i∈Qd 0 ms,i∈own') (hmr:mr=.sh\/∀ ds ρ,(fb (qv N ds))≠.ok (.nx,ρ))
  (a:∀ (cdv:iG) (A:iO) (outer:List Env) (s:iJ) (H:Hp) (E:XK),Room k (A.deeper (envOfC qual (qd st) s.heap.objs.size f cdv)) ->PSs (qah CX P w K mg base N qual (qd st) f cdv A outer s H E) (jm st) (tSt (Qe K cv E ms mr) (jy 0 ms) own' fb))
  (r:∀ ds,Out.le (G ds) (vf N ms fb ds)):FnOk P w K mg base CX (k+1) f fd ps (spG K cv ms mr G):=by
 obtain ⟨oc,od,kV,doc,pm,an,cdv,ct,osl,rfl,lk,j⟩:=F.ex;refine qaz lk j S (λvs H Q E h=>?_) λA outer s H vs Q E hr p=>?_;·have:=h.1;omega
 ·obtain ⟨m,c,F1,ds,q,u,nd,h⟩:=p;have B:=a cdv A outer s H E hr;have T:=VN (N:=N) (f:=fb) (C:=Qe K cv E ms mr) rfl rfl (hmr.imp id λz ρ=>z ds ρ) d q u nd (r ds) h;have l:vs.length=ps.length:=by omega
  have o:vs.length < N.length:=by rw [l]; exact (aA.mp n).1
  obtain ⟨g1,g2⟩:=Wg (c:=.ref c) o;refine ⟨λD σ H'=>σ=ko N vs/\tSt (Qe K cv E ms mr) (jy 0 ms) own' fb D (ko N (vs++[.ref c])) H',⟨λpins s' σ H' D I ⟨e,t⟩=>?_⟩,rfl,T⟩;subst e;refine B.run pins s' _ H' D (Inv.ghost I g1 λi y g b=>g2 i λz=>?_) t;have g:N[i]?=iD y:=g;rw [z,l,n] at g;cases g;exact v b
def Wh (P:iL) (w:iM) (K:Frag) (mg:Str->Option iG) (base:Heap) (cv:Str->iG) (k:Nat) (c:Addr) (x:Str) (ps:List Str) (ms:List PM) (mr:Mo) (G:List D->Out (D×List D)):Prop:=
 ∃ f fd,FnOk P w K mg base (CXk P w) k f fd ps (spG K cv ms mr G)/\Meth K c x f/\Binds K fd ps []
section
variable {gn:Str} {k:Nat}
theorem QZ (T:xT K c x qual st ps) (S:FnScope N ps (qd st)) (gn:Str)
  (h:∀ (cdv:iG) (f:Addr) (A:iO) (outer:List Env) (s:iJ) (H:Hp) (E:XK),Room k (A.deeper (envOfC qual (qd st) s.heap.objs.size f cdv)) ->PSs (cxk P w K mg base N qual (qd st) f cdv A outer s H E) (jm st) (tSt (Qe K cv E ms mr) (jy 0 ms) own' fb))
  (n:N[ps.length]?=iD gn:=by rfl) (v:¬Vis (qd st) gn:=by unfold Vis; decide +kernel) (hl:ms.length=ps.length+1:=by rfl) (b:∀ i∈Qd 0 ms,i∈own':=by exact kq rfl) (hmr:mr=.sh\/∀ ds ρ,(fb (qv N ds))≠.ok (.nx,ρ):=by exact .inl rfl):Wh P w K mg base cv (k+1) c x ps ms mr (vf N ms fb):=by
 obtain ⟨f,fd,F,m,hb⟩:=T;exact ⟨f,fd,qhT F S hl n v b hmr (λcdv A outer s H E hr=>h cdv f A outer s H E hr) λ_=>.inr rfl,m,hb⟩
end
variable {F':Hp}
section
theorem Rep.swap {H':Hp} {g:Nat} {o:D} (r:Rep K own F H σ ρ) (hg:g∈own) (B:σ[g]?=iD (iD (V.ref b))) (c:Chg (λz=>z=b) F H F' H') (s:Same F' H') (fb:F' b=iF) (ow:OwnIs K F' H' b o):Rep K own F' H' σ (ρ.set g (iD o))/\Chg (OA own σ) F H F' H':=by
 obtain ⟨A,h⟩:=r.opn g hg;have hl:g < ρ.length:=(aA.mp h).1;refine ⟨⟨s,by simp [r.len],λj d G e=>?_,λj d G e=>?_,λj G=>?_,r.dis⟩,c.mono λz k=>⟨g,hg,by rw [k]; exact B⟩⟩;·rw [aj (λz=>G (by rw [<-z]; exact hg))] at e;obtain ⟨v,h1,h2⟩:=r.val j d G e;exact ⟨v,h1,h2.mono c.grow⟩
 ·by_cases q:j=g;·subst q;rw [aC hl] at e;cases e;exact ⟨b,B,fb,ow⟩
  ·rw [aj (be q)] at e;obtain ⟨a,h1,h2,i⟩:=r.ow j d G e;have na:a≠b:=λz=>by subst z; exact q (r.dis j g a G hg h1 B)
   refine ⟨a,h1,?_,i.grow c.grow λo q=>c.keep a o q na⟩;cases f:F' a with
   | none=>rfl
   | some u=>
    rcases c.new a (by rw [f]; simp) with z | z | z;·exact absurd h2 z
    ·exact absurd z i.there
    ·exact absurd z na
 ·by_cases q:j=g;·subst q; exact ⟨o,aC hl⟩
  ·rw [aj (be q)]; exact r.opn j G
theorem qdF {H0 F H:Hp} {σ:St} {b:Addr} {o:D} (C:F b=iF) (ow:OwnIs K F H b o):∀ {as:List AK} {vs:List V} {ds:List D},Xi as=iI->ArgV K H0 F H σ as vs ds ->ArgsIs K F H (as.map wn++[.io]) (vs++[.ref b]) (ds++[o])/\uf (as.map wn++[.io]) (vs++[.ref b])=[b]/\vs.length=as.length/\ds.length=as.length
 | [],[],[],_,_=>⟨⟨⟨b,rfl,C,ow⟩,trivial⟩,rfl,rfl,rfl⟩
 | .vl::as,v::vs,d::ds,h,a=>by obtain ⟨i1,i2,c,i⟩:=qdF C ow (as:=as) h a.2;exact ⟨⟨a.1,i1⟩,i2,congrArg (·+1) c,congrArg (·+1) i⟩
 | [],_::_,_,_,a=>a.elim
 | [],[],_::_,_,a=>a.elim
 | .vl::_,[],_,_,a=>a.elim
 | .vl::_,_::_,[],_,a=>a.elim
 | .sl _::_,_,_,h,_=>by cases h
 | .fr::_,_,_,h,_=>by cases h
theorem qdG {F H:Hp} {b:Addr}:∀ {as:List AK} {vs:List V} {outs:List D},Xi as=iI->vs.length=as.length->wq K F H (as.map wn++[.io]) (vs++[.ref b]) outs->∃ o,outs[as.length]?=iD o/\F b=iF/\OwnIs K F H b o
 | [],[],outs,_,_,h=>by
  cases outs with
  | nil=>exact h.elim
  | cons o os=>obtain ⟨⟨a,e,h1,h2⟩,_⟩:=h;cases e;exact ⟨o,rfl,h1,h2⟩
 | .vl::as,v::vs,outs,h,hl,k=>by
  cases outs with
  | nil=>exact k.elim
  | cons o os=>obtain ⟨o',e,r⟩:=qdG (as:=as) (vs:=vs) (outs:=os) h (by simpa using hl) k;exact ⟨o',by simpa using e,r⟩
 | [],_::_,_,_,hl,_=>by cases hl
 | .vl::_,[],_,_,hl,_=>by cases hl
 | .sl _::_,_,_,h,_,_=>by cases h
 | .fr::_,_,_,h,_,_=>by cases h
end
noncomputable def dMG (c:Addr) (n fld:Str) (g:Nat) (G:List D->Out (D×List D)) (fo:Sl->Out (D×Sl)) (fr:Sl->Out (List D×Sl)):Sl->Out (D×Sl):=λρ=>(fo ρ).bind λp=>match p.1 with
 | .ins k fs=>if k=c/\(fs.lookup n).isNone=iI then (fr p.2).bind λq=>(match fs.lookup fld,q.2[g]? with
  | some (.raw (.ref a)),iD (iD (.at_ b es))=>if a=b then (match G (.ins k fs::(q.1++[.at_ b es])) with
   | .ok r=>(match r.2[q.1.length+1]? with | some o=>.ok (r.1,q.2.set g (iD o)) | none=>.bad)
   | .exc x os=>(match (os.map (·.getD .non))[q.1.length+1]? with | some o=>.exc x (q.2.set g (iD o)) | none=>.bad)
   | .bad=>.bad) else .bad
  | _,_=>.bad) else .bad
 | _=>.bad
noncomputable def jP (g:Nat) (f:Sl->Out (D×Sl)):Sl->Out (D×Sl):=λρ=>(f ρ).bind λp=>match p.1,p.2[g]? with
 | .raw (.ref a),iD (iD (.at_ b es))=>if a=b then .ok (.lst es,p.2) else .bad
 | _,_=>.bad
noncomputable def qdH (g:Nat) (fo fe:Sl->Out (D×Sl)):Sl->Out (D×Sl):=λρ=>(jP g fo ρ).bind λp=>(fe p.2).bind λq=>match q.2[g]? with
 | some (iD (.at_ b es))=>if es.length < 100000 then .ok (.non,q.2.set g (iD (.at_ b (es++[q.1])))) else .bad
 | _=>.bad
noncomputable def qdI (g:Nat) (fo:Sl->Out (D×Sl)):Sl->Out (D×Sl):=λρ=>(jP g fo ρ).bind λp=>match p.2[g]? with
 | some (iD (.at_ b es))=>(match es[es.length - 1]? with | some d=>.ok (d,p.2.set g (iD (.at_ b es.dropLast))) | none=>.bad)
 | _=>.bad
theorem IsL.dropLast (h:IsL K F vs ds):IsL K F vs.dropLast ds.dropLast:=by rw [List.dropLast_eq_take,List.dropLast_eq_take,h.length];exact h.take _
variable {as:List AK} {fld:Str} {apos:Pos}
section
variable {fr:Sl->Out (List D×Sl)} {cpos:Pos} {g:Nat} {k:Nat}
theorem UM {H0:Hp} {l:List D} {A:D} {Q:VK} (m:Xi as=iI) (hg:g∈own) (j:∀ i∈C.ox,i∈own) (p:Rep C.K own F H σ ρ) (is:Is C.K F (.ref a) A) (y:ArgV C.K H0 F H σ as vs ds) (u:ρ[g]?=iD (iD (.at_ b l)))
  (po:Po C own mr σ F H (match G (A::(ds++[.at_ b l])) with
   | .ok r=>(match r.2[ds.length+1]? with | some o=>.ok (r.1,ρ.set g (iD o)) | none=>.bad)
   | .exc x os=>(match (os.map (·.getD .non))[ds.length+1]? with | some o=>.exc x (ρ.set g (iD o)) | none=>.bad)
   | .bad=>.bad) Q):spG C.K C.cv (.val::(as.map wn++[.io])) mr G (.ref a::vs) H Q C.E:=by
 obtain ⟨w,B,fb,ow⟩:=p.ow g _ hg u;have hb:b=w:=ow.1;subst hb;obtain ⟨J,t,n,I⟩:=qdF fb ow m y;refine ⟨by simp [n],b,F,A::(ds++[.at_ b l]),p.sub,⟨is,J⟩,by show (uf (as.map wn++[.io]) (vs++[.ref b])).Nodup; rw [t]; simp,?_⟩;have k:∀ {F' H'},Chg (LA (.val::(as.map wn++[.io])) (.ref a::vs++[.ref b])) F H F' H'->Chg (λz=>z=b) F H F' H':=λc=>c.mono λz f=>by have f:z∈uf (as.map wn++[.io]) (vs++[.ref b]):=f;rw [t] at f;simpa using f
 have out:∀ {F' H' outs},wq C.K F' H' (.val::(as.map wn++[.io])) (.ref a::vs++[.ref b]) outs->∃ o,outs[ds.length+1]?=iD o/\F' b=iF/\OwnIs C.K F' H' b o:=λ{F' H' outs} h=>by
  cases outs with
  | nil=>exact h.elim
  | cons o os=>obtain ⟨o',e,r⟩:=qdG m n (show wq C.K F' H' (as.map wn++[.io]) (vs++[.ref b]) os from h);exact ⟨o',by rw [I]; simpa using e,r⟩
 cases q:G (A::(ds++[.at_ b l])) with
 | bad=>rw [q] at po; exact po.elim
 | ok r=>rw [q] at po;obtain ⟨d,outs⟩:=r;intro v F' H' s c o mo;obtain ⟨o',e,f1,f2⟩:=out o;simp only [e] at po;obtain ⟨r1,r2⟩:=p.swap hg B (k c) s f1 f2;exact po v F' H' r1 r2 mo
 | exc x os=>rw [q] at po;intro F' H' s c o;obtain ⟨o',e,f1,f2⟩:=out o;simp only [e] at po;obtain ⟨r1,r2⟩:=p.swap hg B (k c) s f1 f2;exact po F' H' s (r1.ioIs j) r2
theorem Gc {pl:Sem Bool} (L:Cls X.K c) (S:Wh X.prog X.w X.K X.mg X.base cv j c n ps [.val,.io] mr G) (hr:Room k X.A) (J:j<=k) (hx:jO (CXk X.prog X.w) X C.E) (hg:g∈own) (I:PE X o (tE C own mo fo)) (p:mo≠.any:=by decide) (s:C.cv=cv:=by rfl) (N:C.K=X.K:=by rfl) (l:∀ i∈C.ox,i∈own:=by exact kq rfl)
  (D:eval (.Call (.Attribute o n apos) [] [] pos) X.env=(do
   let ov <-eval o X.env
   standAt apos.atName
   let (f,first) <-holding [ov] (getMethod ov n pl)
   callWith pos f first (backTo pos (starEach [] X.env)) (backToKw pos (keywordEach [] X.env))):=by rfl):PE X (.Call (.Attribute o n apos) [] [] pos) (tE C own mr (dMG c n fld g G fo qF)):=by
 subst s;obtain ⟨f,fd,F0,M,hb⟩:=S;refine jh (QF (pl:=pl) (vi I p) L M F0 (hr.mono J) hb .nil hx D) λσ H Q ⟨F,ρ,B,h⟩=>⟨F,ρ,B,Po.bind h λv F1 H1 d ρ1 e T m h1=>?_⟩
 have m:Is C.K F1 v d:=m;cases m with
 | @ins a k dx fv fs ea t=>
  by_cases z:k=c/\(fs.lookup n).isNone=iI
  ·simp only [if_pos z] at h1;obtain ⟨rfl,u⟩:=z;refine ⟨a,dx,fv,rfl,e.sub _ _ ea,t.non (by cases q:fs.lookup n with | none=>rfl | some y=>rw [q] at u; cases u),?_⟩;have h1:Po C own mr σ F1 H1 (match fs.lookup fld,ρ1[g]? with
    | some (.raw (.ref a)),iD (iD (.at_ b es))=>if a=b then (match G (.ins k fs::([]++[.at_ b es])) with
     | .ok r=>(match r.2[0+1]? with | some o=>.ok (r.1,ρ1.set g (iD o)) | none=>.bad)
     | .exc x os=>(match (os.map (·.getD .non))[0+1]? with | some o=>.exc x (ρ1.set g (iD o)) | none=>.bad)
     | .bad=>.bad) else .bad
    | _,_=>.bad) Q:=h1
   split at h1
   ·rename_i R P es' e1 O;by_cases q:R=P;·rw [if_pos q] at h1;have:=UM (as:=[]) (vs:=[]) (ds:=[]) (H0:=H1) rfl hg l e (.ins ea t) trivial O h1;rw [N] at this;exact this
    ·rw [if_neg q] at h1; exact h1.elim
   ·exact h1.elim
  ·simp only [if_neg z] at h1; exact h1.elim
 | _=>exact h1.elim
theorem Gd {pl:Sem Bool} (W:Cls X.K c) (MF:Wh X.prog X.w X.K X.mg X.base cv j c n ps ms mr G) (hr:Room k X.A) (V:j<=k) (hx:jO (CXk X.prog X.w) X C.E) (hg:g∈own) (U:PE X o (tE C own mo fo)) (Y:PA X (e::es) (tAr C own as fr)) (J:mo≠.any:=by decide) (N:C.cv=cv:=by rfl) (Z:C.K=X.K:=by rfl) (L:∀ i∈C.ox,i∈own:=by exact kq rfl) (I:ms=.val::(as.map wn++[.io]):=by rfl) (S:Xi as=true:=by rfl)
  (B:starEach (e::es) X.env=(iH,eval e X.env)::starEach es X.env:=by exact ja rfl) (D:(backTo pos (starEach es X.env)).any (·.1)=false:=by exact vh rfl)
  (T:eval (.Call (.Attribute o n apos) (e::es) [] pos) X.env=(do
   let ov <-eval o X.env
   standAt apos.atName
   let (f,first) <-holding [ov] (getMethod ov n pl)
   callWith pos f first (backTo pos (starEach (e::es) X.env)) (backToKw pos (keywordEach [] X.env))):=by rfl):PE X (.Call (.Attribute o n apos) (e::es) [] pos) (tE C own mr (dMG c n fld g G fo fr)):=by
 subst N I;obtain ⟨f,fd,F0,M,hb⟩:=MF;refine jh (XD (pl:=pl) (vi U J) W M F0 (hr.mono V) hb .nil hx Y B D T) λσ H Q ⟨F,ρ,P,h⟩=>⟨F,ρ,P,Po.bind h λv F1 H1 d ρ1 p c1 m h1=>?_⟩
 have m:Is C.K F1 v d:=m;cases m with
 | @ins a k dx fv fs ea t=>
  by_cases z:k=c/\(fs.lookup n).isNone=iI
  ·simp only [if_pos z] at h1;obtain ⟨rfl,O⟩:=z;refine ⟨a,dx,fv,rfl,p.sub _ _ ea,t.non (by cases q:fs.lookup n with | none=>rfl | some y=>rw [q] at O; cases O),F1,ρ1,p,?_⟩;cases u:fr ρ1 with
   | exc y os=>rw [u] at h1; exact h1
   | bad=>rw [u] at h1; exact h1.elim
   | ok R=>
    obtain ⟨ds,l⟩:=R;rw [u] at h1;intro vs F2 H2 s c2 av;rw [bj];have h1:=Po.shift (show Po C own mr σ F1 H1 (match fs.lookup fld,l[g]? with
     | some (.raw (.ref a)),iD (iD (.at_ b es))=>if a=b then (match G (.ins k fs::(ds++[.at_ b es])) with
      | .ok r=>(match r.2[ds.length+1]? with | some o=>.ok (r.1,l.set g (iD o)) | none=>.bad)
      | .exc x os=>(match (os.map (·.getD .non))[ds.length+1]? with | some o=>.exc x (l.set g (iD o)) | none=>.bad)
      | .bad=>.bad) else .bad
     | _,_=>.bad) Q from h1) c2
    split at h1
    ·rename_i a' b' es' e1 e2;by_cases q:a'=b';·rw [if_pos q] at h1;have:=UM S hg L s ((Is.ins ea t).mono c2.grow) av e2 h1;rw [Z] at this;exact this
     ·rw [if_neg q] at h1; exact h1.elim
    ·exact h1.elim
  ·simp only [if_neg z] at h1; exact h1.elim
 | _=>exact h1.elim
theorem Ja {Q:VK} {e:D×Sl->Out (D×Sl)} {R:VK} (hg:g∈own) (z:m≠.any) (x:Rep C.K own F H σ ρ) (h:Po C own mr σ F H ((jP g fo ρ).bind e) Q)
  (w:∀ b xs l F1 H1 ρ1,Rep C.K own F1 H1 σ ρ1->ρ1[g]?=iD (iD (.at_ b l))->σ[g]?=iD (iD (V.ref b))->F1 b=iF->H1 b=iD (.lst xs)->IsL C.K F1 xs l->Po C own mr σ F1 H1 (e (.lst l,ρ1)) Q->R (.ref b) H1):Po C own .sh σ F H (fo ρ) R:=by
 unfold jP at h;cases k:fo ρ with
 | exc y os=>rw [k] at h; exact h
 | bad=>rw [k] at h; exact h.elim
 | ok L=>
  obtain ⟨d,ρ1⟩:=L;rw [k] at h;intro v F1 H1 r p c;have c:Is C.K F1 v d:=c;have h:=Po.shift (show Po C own mr σ F H ((match d,ρ1[g]? with | .raw (.ref a),iD (iD (.at_ b es))=>if a=b then (Out.ok (.lst es,ρ1):Out (D×Sl)) else Out.bad | _,_=>(Out.bad:Out (D×Sl))).bind e) Q from h) p;split at h
  ·rename_i u t es' i n j;by_cases q:u=t;·rw [if_pos q] at h;subst q;cases c;obtain ⟨s,B,fb,ow⟩:=r.ow g _ hg i;obtain ⟨hb,xs,o,f⟩:=ow;subst hb;exact w _ xs es' F1 H1 ρ1 r i B fb o f h
   ·rw [if_neg q] at h; exact h.elim
  ·exact h.elim
theorem qbl (hg:g∈own) (d:PE X e (tE C own m fo)) (c:m≠.any:=by decide):PE X e (tE C own .any (jP g fo)):=by
 refine jh (vi d c) λσ H Q ⟨F,ρ,r,h⟩=>⟨F,ρ,r,?_⟩
 have h':Po C own .any σ F H ((jP g fo ρ).bind λp=>.ok p) Q:=by
  cases q:jP g fo ρ with
  | ok p=>rw [q] at h; exact h
  | exc y os=>rw [q] at h; exact h
  | bad=>rw [q] at h; exact h.elim
 exact Ja hg c r h' λb xs l F1 H1 ρ1 a e1 j D f i po=>po (.ref b) F1 H1 a .refl (.inr ⟨b,rfl,xs,f,i⟩)
theorem qdJ (O:C.K=X.K) (hg:g∈own) (A:PE X o (tE C own mo fo)) (E:PE X e (tE C own m fe)) (k:mo≠.any:=by decide) (D:m≠.any:=by decide)
  (f:attributeBase o "append" X.env (eval o X.env)=eval o X.env:=by rfl)
  (w:((backTo cpos (starEach [e] X.env)).all (λx=>!x.1)&&(backToKw cpos (keywordEach [] X.env)).all (λx=>x.1.isSome)
   && decide ([e].length+([]:List i5).length+(if ([]:List i5).isEmpty then 0 else 1) < 30))=true:=by exact vP rfl)
  (c:(apos.endLine == cpos.line)=true:=by rfl) (y:starEach [e] X.env=[(iH,eval e X.env)]:=by exact qO rfl) :
  PE X (.Call (.Attribute o "append" apos) [e] [] cpos) (tE C own .sh (qdH g fo fe)):=by
 refine jh (VE bO PySem.F.slot_list_append PySem.F.type_list_append zv (vi A k) (qT (vi E D) jU y) f w c y rfl) λσ H Q ⟨F,ρ,t,h⟩=>⟨F,ρ,t,?_⟩
 refine Ja hg k t h λb xs l F1 H1 ρ1 n e1 z P J N po=>⟨.inl ⟨rfl,xs,.inl (.inl J)⟩,F1,ρ1,n,?_⟩
 refine Po.bind po λv s H2 d j r c2 a p=>?_;have a:Is C.K s v d:=a;have p:Po C own .sh σ s H2 (match j[g]? with | some (iD (.at_ b es))=>if es.length < 100000 then .ok (.non,j.set g (iD (.at_ b (es++[d])))) else .bad | _=>.bad) Q:=p;split at p
 ·rename_i R es' I;by_cases q:es'.length < 100000;·rw [if_pos q] at p;obtain ⟨M,B,fb,ow⟩:=r.ow g _ hg I;obtain ⟨hb,ys,G,i⟩:=ow;subst hb;rw [z] at B;cases B;obtain ⟨r2,L⟩:=r.write (u:=.lst (ys++[v])) (d:=.at_ b (es'++[d])) hg z ⟨rfl,_,qm,i.append (.cons a .nil)⟩;refine ⟨b,ys,v,rfl,rfl,G,?_,p .non s _ r2 L .non⟩;rw [i.length,iR];omega
  ·rw [if_neg q] at p; exact p.elim
 ·exact p.elim
theorem qdK (n:C.K=X.K) (hg:g∈own) (j:PE X o (tE C own mo fo)) (p:mo≠.any:=by decide)
  (a:attributeBase o "pop" X.env (eval o X.env)=eval o X.env:=by rfl) (e:(apos.endLine == cpos.line)=true:=by rfl) :
  PE X (.Call (.Attribute o "pop" apos) [] [] cpos) (tE C own .sh (qdI g fo)):=by
 refine jh (qeW bO PySem.F.slot_list_pop PySem.F.type_list_pop qeX (vi j p) a e) λσ H Q ⟨F,ρ,c,h⟩=>⟨F,ρ,c,?_⟩
 refine Ja hg p c h λb xs l F1 H1 ρ1 r e1 k D m i po=>⟨.inl ⟨rfl,xs,.inl (.inl m)⟩,?_⟩
 simp only [e1] at po;cases q:l[l.length - 1]? with
 | none=>simp only [q] at po; exact po.elim
 | some d=>simp only [q] at po;obtain ⟨v,ev,f⟩:=i.getD q;rw [<-i.length] at ev;obtain ⟨r2,J⟩:=r.write (u:=.lst xs.dropLast) (d:=.at_ b l.dropLast) hg k ⟨rfl,_,qm,i.dropLast⟩;exact ⟨b,xs,v,rfl,rfl,m,ev,po v F1 _ r2 J f⟩
end
theorem Wi {K:Frag} {F H:Hp}:∀ {ws:List V} {ds:List D},IsL K F ws ds->ArgsIs K F H (ao ws.length .val) ws ds/\uf (ao ws.length .val) ws=[]
 | [],[],.nil=>⟨trivial,rfl⟩
 | w::ws,d::ds,.cons h t=>⟨⟨h,(Wi t).1⟩,(Wi (H:=H) t).2⟩
noncomputable def qeq (c:Addr) (N:List Str) (f:Sl->Out (Fl×Sl)) (ds:List D):Out (List (Str×D)):=match f (qv N (.ins c []::ds)) with
 | .ok (.nx,ρ)=>(match (ρ[0]?:Option (Option D)) with | some (iD (.ins k fs))=>if k=c/\fs.length < 1000 then .ok fs else .bad | _=>.bad)
 | .exc e o=>.exc e o
 | _=>.bad
def spI (K:Frag) (cv:Str->iG) (c:Addr) (fld:Str) (n:Nat) (GI:List D->Out (List (Str×D))):Sp:=λvs H Q E=>∃ x dx ws F ds,vs=.ref x::ws/\ws.length=n/\H x=iD (.ins c dx [])/\F x=iF/\Same F H/\IsL K F ws ds/\(match GI ds with
 | .ok fs=>∀ F' H' d fv b,Same F' H'->Chg (λz=>z=x) F H F' H'->F' x=iF->H' x=iD (.ins c d (zo fld (.ref b) fv))->IsF K F' fv fs->F' b=iF->H b=iF->H' b=iD (.lst [])->Q .non H'
 | .exc e _=>∀ F' H',Same F' H'->Chg (λz=>z=x) F H F' H'->E (cv e) iF H'
 | .bad=>False)
theorem qiw {P:iL} {w:iM} {K:Frag} {mg:Str->Option iG} {base:Heap} {CX:CXT} {xn qual fld:Str} {st:Stmt} {f c:Addr} {fd:i6} {N ps:List Str} {k n:Nat} {cv:Str->iG} {a:Sl->Out (Fl×Sl)}
  (F0:Fun K xn qual st f fd) (S:FnScope N ps (qd st)) (hl:ps.length=n+1) (hc:Cls K c) (hn:NoAttr K c fld)
  (g:∀ (cdv:iG) (A:iO) (outer:List Env) (s:iJ) (H:Hp) (E:XK),Room k (A.deeper (envOfC qual (qd st) s.heap.objs.size f cdv)) ->PSs (qah CX P w K mg base N qual (qd st) f cdv A outer s H E) (jm st) (qap (tSt (Qe K cv E (.io::ao n .val) .sh) [0] [0] a) (qgS K (qgl 0) (tE (Qe K cv E (.io::ao n .val) .sh) [0] .fr (yU qF)) fld))) :
  FnOk P w K mg base CX (k+1) f fd ps (spI K cv c fld n (qeq c N a)):=by
 obtain ⟨oc,od,kV,doc,pm,an,cdv,ct,osl,rfl,lk,O⟩:=F0.ex;refine qaz lk O S (λvs H Q E h=>?_) λA outer s H vs Q E hr M=>?_;·obtain ⟨x,dx,ws,F,ds,rfl,hw,_⟩:=h;simp [hw,hl]
 ·obtain ⟨x,dx,ws,F,ds,rfl,hw,ex,fx,sb,il,hq⟩:=M;refine ⟨_,g cdv A outer s H E hr,?_⟩;obtain ⟨a1,a2⟩:=Wi (H:=H) il;rw [hw] at a1 a2;have o0:jy 0 (.io::ao n .val)=[0]:=by
   show 0::jy 1 (ao n .val)=[0];congr 1;have:∀ (n m:Nat),jy m (ao n .val)=[]:=by
    intro n
    induction n with
    | zero=>intro m; rfl
    | succ n ih=>intro m; exact ih (m+1)
   exact this n 1
  have la:uf (.io::ao n .val) (.ref x::ws)=[x]:=by show x::uf (ao n .val) ws=[x]; rw [a2]
  have ar:ArgsIs K F H (.io::ao n .val) (.ref x::ws) (.ins c []::ds):=⟨⟨x,rfl,fx,dx,[],ex,.nil⟩,a1⟩
  have W:=zB (N:=N) sb ar (by rw [la]; simp);rw [o0] at W;have X:∀ {z},OA [0] (ko N (.ref x::ws)) z->z=x:=λ{z} q=>by
   obtain ⟨i,hi,e⟩:=q;have hi:i=0:=by simpa using hi
   subst hi;have e:iD (iD (V.ref x))=iD (iD (V.ref z)):=e;cases e;rfl
  refine ⟨F,qv N (.ins c []::ds),W,?_⟩;unfold qeq at hq;cases q:a (qv N (.ins c []::ds)) with
  | bad=>rw [q] at hq; exact hq.elim
  | exc e o=>rw [q] at hq;exact λF' H' s' _ c'=>hq F' H' s' (c'.mono λz j=>X j)
  | ok pr=>
   obtain ⟨fl,ρ⟩:=pr;cases fl with
   | rt d=>rw [q] at hq; exact hq.elim
   | bk=>rw [q] at hq; exact hq.elim
   | ct=>rw [q] at hq; exact hq.elim
   | nx=>
    simp only [q] at hq;intro σ' F1 H1 nx;obtain ⟨Z,p⟩:=nx.rep.opn 0 (by simp);have B:σ'[0]?=iD (iD (V.ref x)):=by rw [nx.io 0 (by simp [Qe,Qd])];rfl
    simp only [p] at hq;refine ⟨F1,ρ,nx.rep,?_⟩;have L:([]:List D).length<=sizeLine:=bA _;show Po _ _ _ _ _ _ (if ([]:List D).length<=sizeLine then Out.ok (.lst [],ρ) else .bad) _;rw [if_pos L];intro y F2 H2 r c2 J;obtain ⟨b,rfl,G,T,xs,U,ib⟩:=J;cases ib;obtain ⟨a',e1,fa,ow⟩:=r.ow 0 Z (by simp) p;rw [B] at e1;cases e1;cases Z with
    | ins Y fs=>
     by_cases z:Y=c/\fs.length < 1000
     ·simp only [if_pos z] at hq;obtain ⟨rfl,l⟩:=z;obtain ⟨v,fv,ea,t⟩:=ow;refine ⟨_,B,x,Y,v,fv,rfl,ea,hc,hn,by rw [t.length]; exact l,?_⟩;have I:b≠x:=λz=>by rw [z] at G;exact (nx.rep.OA_there ⟨0,by simp,B⟩).1 G
      have R:H b=none:=by
       cases qb:H b with
       | none=>rfl
       | some u=>exact absurd G (nx.chg.stay b (by rw [qb]; simp))
      have C:∀ {z},OA [0] σ' z->z=x:=λ{z} q=>by
       obtain ⟨i,hi,e⟩:=q;have hi:i=0:=by simpa using hi
       subst hi;rw [B] at e;cases e;rfl
      refine hq F2 _ v fv b (λz o e=>by rw [qt (λq=>by rw [q,fa] at e; cases e)]; exact r.sub z o e) ?_ fa qm t T R (by rw [qt I]; exact U);exact ((nx.chg.mono λz j=>X j).trans' (c2.mono λz j=>C j)).trans' (Chg.put rfl)
     ·simp only [if_neg z] at hq
    | _=>exact hq.elim
def qdL (P:iL) (w:iM) (K:Frag) (mg:Str->Option iG) (base:Heap) (cv:Str->iG) (k:Nat) (c:Addr) (fld:Str) (ps:List Str) (n:Nat) (GI:List D->Out (List (Str×D))):Prop:=
 ∃ f fd,FnOk P w K mg base (CXk P w) k f fd ps (spI K cv c fld n GI)/\Mk K c f/\Binds K fd ps []
theorem qbm {P:iL} {w:iM} {K:Frag} {mg:Str->Option iG} {base:Heap} {qual fld:Str} {st:Stmt} {c:Addr} {N ps:List Str} {k n:Nat} {cv:Str->iG} {e:Sl->Out (Fl×Sl)}
  (T:qdE K c qual st ps) (S:FnScope N ps (qd st)) (d:Cls K c) (a:NoAttr K c fld)
  (h:∀ (cdv:iG) (f:Addr) (A:iO) (outer:List Env) (s:iJ) (H:Hp) (E:XK),Room k (A.deeper (envOfC qual (qd st) s.heap.objs.size f cdv)) ->PSs (cxk P w K mg base N qual (qd st) f cdv A outer s H E) (jm st) (qap (tSt (Qe K cv E (.io::ao n .val) .sh) [0] [0] e) (qgS K (qgl 0) (tE (Qe K cv E (.io::ao n .val) .sh) [0] .fr (yU qF)) fld)))
  (hl:ps.length=n+1:=by rfl):qdL P w K mg base cv (k+1) c fld ps n (qeq c N e):=by
 obtain ⟨f,fd,F,m,hb⟩:=T;exact ⟨f,fd,qiw F S hl d a (λcdv A outer s H E hr=>h cdv f A outer s H E hr),m,hb⟩
theorem qfH {f:Sl->Out (D×Sl)} {ρ':Sl}:kr f ρ≠.ok (.nx,ρ'):=by
 unfold kr;cases f ρ with
 | ok p=>intro h; cases h
 | exc c o=>intro h; cases h
 | bad=>intro h; cases h
theorem qix {ca:Str->Addr} (v:cv n=.ref (ca n)) (s:bP K (.ref (ca n)) (.ref (ca n))=iD iI):∀ c Cc,Zs ca [n] c=iD Cc->cv c=.ref Cc/\bP K (.ref Cc) (.ref (ca n))=iD true:=λc Cc h=>by
 unfold Zs at h;split at h
 ·rename_i z;cases h;have z:c=n:=by simpa using z
  subst z;exact ⟨v,s⟩
 ·cases h
section
variable {mw mx:Mo} {w ix:Expr} {cpos p3:Pos}
noncomputable def qbn:D->Bool
 | .non=>iI
 | .bl _=>iI
 | .int _=>iI
 | .str _=>iI
 | _=>iH
noncomputable def qdM:D->Bool
 | .tup xs=>xs.all qbn
 | d=>qbn d
theorem qfI (h:Is K F v d) (f:qbn d=iI):Is K F' v d:=by
 cases h with
 | non=>exact .non
 | bl b=>exact .bl b
 | int i=>exact .int i
 | str z=>exact .str z
 | _=>cases f
theorem qcn:∀ {vs:List V} {ds:List D},IsL K F vs ds->ds.all qbn=iI->IsL K F' vs ds
 | _,_,.nil,_=>.nil
 | _,_,.cons h t,f=>by rw [fL,aZ] at f;exact .cons (qfI h f.1) (qcn t f.2)
theorem qdN {ys:List V} (h:Is K F v d) (f:qdM d=iI) (hb:F b=iD (.lst ys)) (k:∀ z o,F z=iD o->z≠b->F' z=iD o):Is K F' v d:=by
 cases h with
 | @tup a xs ds p t=>
  refine .tup ?_ (qcn t f);rcases p with (p | ⟨o,p⟩) | p;·exact .inl (.inl (k _ _ p λz=>by rw [z,hb] at p; cases p))
  ·exact .inl (.inr ⟨o,k _ _ p λz=>by rw [z,hb] at p; cases p⟩)
  ·exact .inr p
 | non=>exact .non
 | bl b=>exact .bl b
 | int i=>exact .int i
 | str z=>exact .str z
 | _=>cases f
noncomputable def dMR (c:Addr) (n fld:Str) (g:Nat) (G:List D->Out (D×List D)) (fo:Sl->Out (D×Sl)):Sl->Out (D×Sl):=λρ=>(fo ρ).bind λp=>match p.1 with
 | .ins k fs=>if k=c/\(fs.lookup n).isNone=iI then (match fs.lookup fld,(p.2[g]?:Option (Option D)) with
  | some (.raw (.ref a)),iD (iD (.at_ b es))=>if a=b then (match G [.ins k fs,.at_ b es] with
   | .ok r=>if qdM r.1=iI then .ok (r.1,p.2) else .bad
   | _=>.bad) else .bad
  | _,_=>.bad) else .bad
 | _=>.bad
theorem UN {pl:Sem Bool} {fld:Str} {g k:Nat} (Z:Cls X.K c) (MF:Wh X.prog X.w X.K X.mg X.base cv j c n ps [.val,.val] .sh G) (hr:Room k X.A) (Y:j<=k) (hx:jO (CXk X.prog X.w) X C.E) (hg:g∈own) (W:PE X o (tE C own mo fo)) (I:mo≠.any:=by decide) (J:C.cv=cv:=by rfl) (N:C.K=X.K:=by rfl)
  (V:eval (.Call (.Attribute o n apos) [] [] pos) X.env=(do
   let ov <-eval o X.env
   standAt apos.atName
   let (f,first) <-holding [ov] (getMethod ov n pl)
   callWith pos f first (backTo pos (starEach [] X.env)) (backToKw pos (keywordEach [] X.env))):=by rfl):PE X (.Call (.Attribute o n apos) [] [] pos) (tE C own .sh (dMR c n fld g G fo)):=by
 subst J;obtain ⟨f,fd,F0,M,hb⟩:=MF;refine jh (QF (pl:=pl) (vi W I) Z M F0 (hr.mono Y) hb .nil hx V) λσ H Q ⟨F,ρ,T,h⟩=>⟨F,ρ,T,Po.bind h λv F1 H1 d ρ1 i c1 m h1=>?_⟩
 have m:Is C.K F1 v d:=m;cases m with
 | @ins a k dx fv fs ea t=>
  by_cases z:k=c/\(fs.lookup n).isNone=iI
  ·simp only [if_pos z] at h1;obtain ⟨rfl,P⟩:=z;refine ⟨a,dx,fv,rfl,i.sub _ _ ea,t.non (by cases q:fs.lookup n with | none=>rfl | some y=>rw [q] at P; cases P),?_⟩;split at h1
   ·rename_i a' b es' e1 e2;by_cases q:a'=b
    ·rw [if_pos q] at h1;obtain ⟨b'',eb,fb,L,ys,e3,U⟩:=i.ow g _ hg e2;subst L;have gr:Same F1 (upd F1 b (.lst ys)):=λz o e=>by rw [qt (qD e fb)]; exact e
     have B:Same (upd F1 b (.lst ys)) H1:=λz o e=>by
      by_cases q:z=b;·rw [q,qm] at e; cases e; rw [q]; exact e3
      ·rw [qt q] at e; exact i.sub z o e
     refine ⟨rfl,b,upd F1 b (.lst ys),[.ins k fs,.at_ b es'],B,⟨by rw [<-N]; exact (Is.ins ea t).mono gr,by rw [<-N]; exact .at_ (.inl (.inl qm)) (U.mono gr),trivial⟩,bI,?_⟩;cases x:G [.ins k fs,.at_ b es'] with
     | bad=>simp only [x] at h1; exact h1.elim
     | exc y os=>simp only [x] at h1; exact h1.elim
     | ok r=>
      obtain ⟨d,outs⟩:=r;simp only [x] at h1;by_cases u:qdM d=iI
      ·rw [if_pos u] at h1;intro v F' H' S l _ mo;have mo:Is X.K F' v d:=mo;have l:Chg No (upd F1 b (.lst ys)) H1 F' H':=l.mono λz p=>by have p:z∈([]:List Addr):=p;cases p
       have kp:∀ z o,F' z=iD o->z≠b->(λz=>if z=b then iF else F' z) z=iD o:=λz o e D=>by show (if z=b then iF else F' z)=iD o;rw [if_neg D]; exact e
       have bF:F' b=iD (.lst ys):=l.grow _ _ qm;have O:Same F1 (λz=>if z=b then iF else F' z):=λz o e=>kp z o (l.grow z o (gr z o e)) λq=>by rw [q,fb] at e; cases e
       have R:∀ {z o},(if z=b then iF else F' z)=iD o->z≠b/\F' z=iD o:=λ{z o} e=>by
        by_cases q:z=b;·rw [if_pos q] at e; cases e
        ·rw [if_neg q] at e; exact ⟨q,e⟩
       have ch:Chg No F1 H1 (λz=>if z=b then iF else F' z) H':=⟨l.keep,l.stay,O,λz p=>by
        cases q:(if z=b then iF else F' z) with
        | none=>exact absurd q p
        | some o=>
         obtain ⟨D,e⟩:=R q;rcases l.new z (by rw [e]; simp) with y | y | y;·rw [qt D] at y; exact .inl y
         ·exact .inr (.inl y)
         ·exact y.elim⟩
       have s:Same (λz=>if z=b then iF else F' z) H':=λz o e=>S z o (R e).2;exact h1 v _ H' (i.grow ch s) ch.ofNo (by rw [N]; exact qdN mo u bF kp)
      ·rw [if_neg u] at h1; exact h1.elim
    ·rw [if_neg q] at h1; exact h1.elim
   ·exact h1.elim
  ·simp only [if_neg z] at h1; exact h1.elim
 | _=>exact h1.elim
theorem zW {g:Nat} (hg:g∉own) (l:PE X e (tE C own m fo)) (j:m≠.any:=by decide):PE X e (tE C own .sh (jP g fo)):=by
 refine jh (vi l j) λσ H Q ⟨F,ρ,r,h⟩=>⟨F,ρ,r,?_⟩
 unfold jP at h;cases k:fo ρ with
 | exc y os=>rw [k] at h; exact h
 | bad=>rw [k] at h; exact h.elim
 | ok L=>
  obtain ⟨d,ρ1⟩:=L;rw [k,Out.oo] at h;intro v F1 H1 a o c;have c:Is C.K F1 v d:=c;split at h
  ·rename_i f s es' b n;by_cases q:f=s
   ·rw [if_pos q] at h;have b:d=.raw (.ref f):=b;subst b q;cases c;obtain ⟨w,u,i⟩:=a.val g _ hg n;cases i with
    | at_ p t=>exact h _ F1 H1 a o (.lst p t)
   ·rw [if_neg q] at h; exact h.elim
  ·exact h.elim
end
noncomputable def Ge (c:Addr) (n:Str) (G:List D->Out (D×List D)) (fo:Sl->Out (D×Sl)) (fr:Sl->Out (List D×Sl)):Sl->Out (D×Sl):=λρ=>(fo ρ).bind λp=>match p.1 with
 | .ins k fs=>if k=c/\(fs.lookup n).isNone=iI then (fr p.2).bind λq=>(match G (.ins k fs::q.1) with
  | .ok r=>.ok (r.1,q.2)
  | .exc x _=>.exc x q.2
  | .bad=>.bad) else .bad
 | _=>.bad
theorem qfJ {H0:Hp} (c:Xi as=iI) (v:ArgV K H0 F H σ as vs ds):ArgsIs K F H (as.map wn) vs ds/\uf (as.map wn) vs=[]:=qfG (Same.refl F) c v
section
variable {fr:Sl->Out (List D×Sl)} {k:Nat}
theorem qbo {pl:Sem Bool} (hc:Cls X.K c) (MF:KQ X.prog X.w X.K X.mg X.base cv j c n ps ms mr G) (hr:Room k X.A) (hj:j<=k) (hx:jO (CXk X.prog X.w) X C.E) (ho:PE X o (tE C own mo fo)) (ha:PA X (e::es) (tAr C own as fr)) (P:mo≠.any:=by decide) (S:C.cv=cv:=by rfl) (T:C.K=X.K:=by rfl) (R:∀ i∈C.ox,i∈own:=by exact kq rfl) (O:ms=.val::as.map wn:=by rfl) (Z:Xi as=true:=by rfl)
  (J:starEach (e::es) X.env=(iH,eval e X.env)::starEach es X.env:=by exact ja rfl) (N:(backTo pos (starEach es X.env)).any (·.1)=false:=by exact vh rfl)
  (ht:eval (.Call (.Attribute o n apos) (e::es) [] pos) X.env=(do
   let ov <-eval o X.env
   standAt apos.atName
   let (f,first) <-holding [ov] (getMethod ov n pl)
   callWith pos f first (backTo pos (starEach (e::es) X.env)) (backToKw pos (keywordEach [] X.env))):=by rfl):PE X (.Call (.Attribute o n apos) (e::es) [] pos) (tE C own mr (Ge c n G fo fr)):=by
 subst S O;obtain ⟨f,fd,F0,M,hb⟩:=MF;refine jh (XD (pl:=pl) (vi ho P) hc M F0 (hr.mono hj) hb .nil hx ha J N ht) λσ H Q ⟨F,ρ,Y,h⟩=>⟨F,ρ,Y,Po.bind h λv F1 H1 d ρ1 s c1 m h1=>?_⟩
 have m:Is C.K F1 v d:=m;cases m with
 | @ins a k dx fv fs ea t=>
  by_cases z:k=c/\(fs.lookup n).isNone=iI
  ·simp only [if_pos z] at h1;obtain ⟨rfl,V⟩:=z;refine ⟨a,dx,fv,rfl,s.sub _ _ ea,t.non (by cases q:fs.lookup n with | none=>rfl | some y=>rw [q] at V; cases V),F1,ρ1,s,?_⟩;cases I:fr ρ1 with
   | exc y os=>rw [I] at h1; exact h1
   | bad=>rw [I] at h1; exact h1.elim
   | ok L=>
    obtain ⟨ds,p⟩:=L;rw [I] at h1;intro vs U H2 g c2 av;rw [bj];have h1:=Po.shift (show Po C own mr σ F1 H1 (match G (.ins k fs::ds) with | .ok r=>.ok (r.1,p) | .exc x _=>.exc x p | .bad=>.bad) Q from h1) c2;obtain ⟨a1,W⟩:=qfJ Z av;refine ⟨U,.ins k fs::ds,g.sub,⟨by rw [<-T]; exact (Is.ins ea t).mono c2.grow,by rw [<-T]; exact a1⟩,by show (uf (as.map wn) vs).Nodup; rw [W]; exact bI,?_⟩;have b:∀ {F' H':Hp},Chg (LA (.val::as.map wn) (.ref a::vs)) U H2 F' H'->Chg No U H2 F' H':=λl=>l.mono λz B=>by have B:z∈uf (as.map wn) vs:=B;rw [W] at B;cases B
    cases D:G (.ins k fs::ds) with
    | bad=>rw [D] at h1; exact h1.elim
    | exc y os=>rw [D] at h1; exact λF' H' u l _=>h1 F' H' u ((g.grow (b l) u).ioIs R) (b l).ofNo
    | ok L=>rw [D] at h1;obtain ⟨d,outs⟩:=L;exact λv F' H' u l _ mo=>h1 v F' H' (g.grow (b l) u) (b l).ofNo (by rw [T]; exact mo)
  ·simp only [if_neg z] at h1; exact h1.elim
 | _=>exact h1.elim
end
def qhl (C:Ct) (own:List Nat) (c:Addr) (fld:Str) (GI:List D->Out (List (Str×D))) (fr:Sl->Out (List D×Sl)):TE:=λσ H Q=>∃ F ρ,Rep C.K own F H σ ρ/\(match fr ρ with
 | .ok (ds,ρ1)=>(match GI ds with
  | .ok fs=>∀ a b F' H',Rep C.K own F' H' σ ρ1->Chg (OA own σ) F H F' H'->Is C.K F' (.ref a) (.ins c (vO fld (.raw (.ref b)) fs))->F' b=iF->H b=iF->H' b=iD (.lst [])->Q (.ref a) H'
  | _=>False)
 | _=>False)
theorem qco {K:Frag} {H0 F H:Hp} {σ:St}:∀ {as:List AK} {vs:List V} {ds:List D},Xi as=iI->ArgV K H0 F H σ as vs ds->IsL K F vs ds/\vs.length=as.length
 | [],[],[],_,_=>⟨.nil,rfl⟩
 | .vl::as,v::vs,d::ds,h,a=>by obtain ⟨i1,i2⟩:=qco (as:=as) h a.2;exact ⟨.cons a.1 i1,congrArg (·+1) i2⟩
 | [],_::_,_,_,a=>a.elim
 | [],[],_::_,_,a=>a.elim
 | .vl::_,[],_,_,a=>a.elim
 | .vl::_,_::_,[],_,a=>a.elim
 | .sl _::_,_,_,h,_=>by cases h
 | .fr::_,_,_,h,_=>by cases h
section
variable {fr fr1 fr2:Sl->Out (List D×Sl)} {cn:Str} {GI:List D->Out (List (Str×D))} {k n:Nat}
theorem qcp {p pos:Pos} (MF:qdL X.prog X.w X.K X.mg X.base cv j c fld ps n GI) (hr:Room k X.A) (hj:j+1<=k) (J:Gl X cn) (hm:X.mg cn=iD (.ref c)) (ha:PA X (e::es) (tAr C own as fr)) (hn:as.length=n:=by rfl) (hv:Xi as=true:=by rfl) (S:C.K=X.K:=by rfl)
  (L:(cn == ("__debug__":Str))=false:=by decide) (he:starEach (e::es) X.env=(iH,eval e X.env)::starEach es X.env:=by exact ja rfl) (I:(backTo pos (starEach es X.env)).any (·.1)=false:=by exact vh rfl) :
  PE X (.Call (.Name cn p) (e::es) [] pos) (qhl C own c fld GI fr):=by
 obtain ⟨f,fd,F0,M,hb⟩:=MF;refine jh (qcV (E:=λ_ _ _=>False) M F0 (hr.mono hj) J hm hb .nil yW ha L he I) λσ H Q ⟨F,ρ,P,h⟩=>⟨F,ρ,P,?_⟩
 cases v:fr ρ with
 | exc y o=>simp only [v] at h
 | bad=>simp only [v] at h
 | ok Y=>
  obtain ⟨ds,ρ1⟩:=Y;simp only [v] at h;intro vs F1 H1 l T av a dx d m ne;rw [bj];cases g:GI ds with
  | exc y o=>simp only [g] at h
  | bad=>simp only [g] at h
  | ok fs=>
   simp only [g] at h;have nF:∀ {z:Addr},H1 z=iF->F1 z=none:=λ{z} i=>l.sub.free i;have ex:(upd (upd H1 dx (.own a)) a (.ins c dx [])) a=iD (.ins c dx []):=qm;have old:∀ {z},H1 z=iF->H z=none:=λ{z} i=>by
    cases q:H z with
    | none=>rfl
    | some o=>exact absurd i (T.stay z (by rw [q]; simp))
   have c2:Chg No F1 H1 F1 (upd (upd H1 dx (.own a)) a (.ins c dx [])):=⟨λb o B _=>by
     rw [qt (λz=>by rw [z,d] at B; cases B),qt (λz=>by rw [z,m] at B; cases B)]; exact B,λb Z=>by
     by_cases z:b=a;·rw [z,ex]; simp
     ·rw [qt z];by_cases z2:b=dx;·rw [z2,qm]; simp
      ·rw [qt z2]; exact Z,Same.refl _,λb hb=>.inl hb⟩
   have s2:Same F1 (upd (upd H1 dx (.own a)) a (.ins c dx [])):=λb o B=>by rw [qt (λz=>by rw [z,nF d] at B; cases B),qt (λz=>by rw [z,nF m] at B; cases B)]; exact l.sub b o B
   have R:=qco hv av;refine ⟨a,dx,vs,F1,ds,rfl,R.2.trans hn,ex,nF d,s2,by rw [<-S]; exact R.1,?_⟩;simp only [g];intro F' H' N fv b V cc fa ea t fb G U;refine ⟨trivial,?_⟩;have x:b≠a:=λz=>by rw [z] at G; rw [ex] at G; cases G
   have s:H1 b=none:=by
    cases W:H1 b with
    | none=>rfl
    | some u=>exact absurd G (c2.stay b (by rw [W]; simp))
   have r:Chg No F1 H1 F' H':=c2.trans cc λz i=>.inr (by rw [i]; exact d);have D:¬OA own σ a:=λz=>(P.OA_there z).1 (old d);have gr:Same F' (upd F' a (.ins c N (zo fld (.ref b) fv))):=λz o e=>by rw [qt (qD e fa)]; exact e
   refine h a b _ H' ((l.grow r V).frz ea fa D) ?_ (by rw [S]; exact .ins qm ((t.mono gr).put (.raw _))) (by rw [qt x]; exact fb) (old s) U;have g:=T.trans' (r.ofNo (A:=OA own σ));refine ⟨g.keep,g.stay,g.grow.trans gr,λz i=>?_⟩;by_cases O:z=a;·exact .inr (.inl (by rw [O]; exact old d))
   ·rw [qt O] at i; exact g.new z i
def qhU (C:Ct) (own:List Nat) (i j g h:Nat) (c:Addr) (fld:Str) (GI:List D->Out (List (Str×D))) (fr1 fr2:Sl->Out (List D×Sl)):TS:=λn σ H=>∃ F ρ,Rep C.K own F H σ ρ/\(match fr1 ρ with
 | .ok (ds1,ρ1)=>(match GI ds1 with
  | .ok fs1=>(match fr2 ρ1 with
   | .ok (ds2,ρ2)=>(match GI ds2 with
    | .ok fs2=>i < ρ2.length/\j < ρ2.length/\g < ρ2.length/\h < ρ2.length/\∀ b1 b2 σ' F' H',Nx C own (h::g::own) σ F H ((((ρ2.set i (iD (.ins c (vO fld (.raw (.ref b1)) fs1)))).set j (iD (.ins c (vO fld (.raw (.ref b2)) fs2)))).set g (iD (.at_ b1 []))).set h (iD (.at_ b2 []))) σ' F' H'->n.nx σ' H'
    | _=>False)
   | _=>False)
  | _=>False)
 | _=>False)
theorem qdO {i2 g g2:Nat} {y:Str} {a b:Expr} {px py pt pos j:Pos} {kt k2} (h1:PE X a (qhl C own c fld GI fr1)) (h2:PE X b (qhl C own c fld GI fr2)) (hc:X.calm=iI) (hN:X.N.Nodup) (hi:X.N[i]?=iD x) (hj:X.N[i2]?=iD y) (hx:X.env.scope.names.lookup x=iD .local) (O:X.env.scope.names.lookup y=iD .local)
  (hgv:∀ y,X.N[g]?=iD y->¬Vis X.env.scope y) (K:∀ y,X.N[g2]?=iD y->¬Vis X.env.scope y)
  (oi:i∉own:=by decide) (oj:i2∉own:=by decide) (og:g∉own:=by decide) (oh:g2∉own:=by decide) (d1:i≠i2:=by decide) (M:g≠g2:=by decide) (d3:i≠g:=by decide) (d4:i≠g2:=by decide) (d5:i2≠g:=by decide) (d6:i2≠g2:=by decide)
  (ii:i∉C.io:=by exact yo rfl) (ij:i2∉C.io:=by exact yo rfl) (ig:g∉C.io:=by exact yo rfl) (ih:g2∉C.io:=by exact yo rfl)
  (hs1:starEach [a,b] X.env=(iH,eval a X.env)::starEach [b] X.env:=by exact ja rfl) (hs2:starEach [b] X.env=[(iH,eval b X.env)]:=by exact qO rfl)
  (hw:swappedStores [.Tuple [.Name x px,.Name y py] kt pt] (.Tuple [a,b] k2 j) X.env=pure (iD [x,y]):=by rfl) (hs:swapsWithSole [.Tuple [.Name x px,.Name y py] kt pt] (.Tuple [a,b] k2 j) pos.line X.env=pure false:=by rfl) :
  PS X (.Assign [.Tuple [.Name x px,.Name y py] kt pt] (.Tuple [a,b] k2 j) pos) (qhU C own i i2 g g2 c fld GI fr1 fr2):=by
 refine ⟨?_⟩;intro pins s σ H Dn I ⟨F,ρ,R,h⟩;have G:=qeH hc hN hi hj d1 hx O (qT h1 (qT h2 jU hs2) hs1) hw hs;refine thn (G.run pins s σ H { Dn with nx:=λσ' H'=>∃ v w,Dn.nx ((σ'.set g v).set g2 w) H' } I ?_) λfl s' p=>?_
 ·refine ⟨F,ρ,R,?_⟩;cases W:fr1 ρ with
  | exc y o=>simp only [W] at h
  | bad=>simp only [W] at h
  | ok Y=>
   obtain ⟨ds1,ρ1⟩:=Y;simp only [W] at h ⊢;cases V:GI ds1 with
   | exc y o=>simp only [V] at h
   | bad=>simp only [V] at h
   | ok fs1=>
    simp only [V] at h ⊢;intro a1 b1 F1 H1 Q c1 is1 fb1 L l;refine ⟨F1,ρ1,Q,?_⟩;cases T:fr2 ρ1 with
    | exc y o=>simp only [T] at h
    | bad=>simp only [T] at h
    | ok Y=>
     obtain ⟨ds2,P⟩:=Y;simp only [T] at h ⊢;cases S:GI ds2 with
     | exc y o=>simp only [S] at h
     | bad=>simp only [S] at h
     | ok fs2=>
      simp only [S] at h ⊢;intro a2 b2 F2 H2 B c2 is2 fb2 m hv2;obtain ⟨l1,l2,l3,l4,h⟩:=h;have n:¬OA own σ b1:=λz=>(R.OA_there z).1 L;have f:H b2=none:=by
       cases q:H b2 with
       | none=>rfl
       | some o=>exact absurd m (c1.stay b2 (by rw [q]; simp))
      have nA2:¬OA own σ b2:=λz=>(R.OA_there z).1 f;have n12:b2≠b1:=λz=>by rw [z,l] at m; cases m
      have k1:H2 b1=iD (.lst []):=c2.keep b1 _ l n;have f1:F2 b1=none:=by
       cases qb:F2 b1 with
       | none=>rfl
       | some u=>
        rcases c2.new b1 (by rw [qb]; simp) with z | z | z;·exact absurd fb1 z
        ·rw [l] at z; cases z
        ·exact absurd z n
      have A:=B.put l1 (is1.mono c2.grow);rw [vz oi] at A;have t:=A.put (i:=i2) (by rw [bx]; exact l2) is2;rw [vz oj] at t;have E:∀ {z},OA own ((σ.set i (iD (.ref a1))).set i2 (iD (.ref a2))) z->OA own σ z:=λ{z} ⟨k,Z,en⟩=>by rw [aj (λz=>oj (by rw [z]; exact Z)),aj (λz=>oi (by rw [z]; exact Z))] at en;exact ⟨k,Z,en⟩
      have r:=t.putO (i:=g) (d:=.at_ b1 []) (by simp only [bx]; exact l3) f1 (λz=>n (E z)) ⟨rfl,[],k1,.nil⟩;rw [vz og] at r;have J:σ.length=P.length:=B.len;have D:∀ {z},OA (g::own) (((σ.set i (iD (.ref a1))).set i2 (iD (.ref a2))).set g (iD (.ref b1))) z->z=b1\/OA own σ z:=λ{z} ⟨k,Z,en⟩=>by
       rcases ah.mp Z with rfl | Z;·rw [aC (by simp only [bx,J]; exact l3)] at en;cases en;exact .inl rfl
       ·rw [aj (λz=>og (by rw [z]; exact Z))] at en;exact .inr (E ⟨k,Z,en⟩)
      have U:=r.putO (i:=g2) (d:=.at_ b2 []) (by simp only [bx]; exact l4) fb2 (λz=>(D z).elim n12 nA2) ⟨rfl,[],hv2,.nil⟩;rw [vz (own:=g::own) (by simp only [ah,not_or]; exact ⟨be M,oh⟩)] at U;refine ⟨_,_,rfl,iD (.ref b1),iD (.ref b2),h b1 b2 _ F2 H2 ⟨U,c1.trans' c2,λz q=>?_,λk Z=>?_⟩⟩
      ·obtain ⟨k,Z,en⟩:=q;rcases ah.mp Z with rfl | Z;·rw [aC (by simp only [bx,J]; exact l4)] at en;cases en;exact .inr f
       ·rw [aj (λz=>by rw [<-z] at Z; rcases ah.mp Z with q | q; exact M q.symm; exact oh q)] at en;rcases D ⟨k,Z,en⟩ with q | q;·exact .inr (by rw [q]; exact L)
        ·exact .inl q
      ·rw [aj (λz=>ih (by rw [z]; exact Z)),aj (λz=>ig (by rw [z]; exact Z)),aj (λz=>ij (by rw [z]; exact Z)),aj (λz=>ii (by rw [z]; exact Z))]
 ·cases fl with
  | next=>obtain ⟨σ',H',I',v,w,q⟩:=p;refine ⟨(σ'.set g v).set g2 w,H',Inv.ghost I' (by simp) λk y O e=>?_,q⟩;rw [aj (λz=>K y (by rw [z]; exact O) e),aj (λz=>hgv y (by rw [z]; exact O) e)]
  | ret u=>exact p
  | brk=>exact p
  | cont=>exact p
end
def qfK (K:Frag) (N:List Str) (c:Addr) (fld:Str) (i j g h:Nat) (GI:List D->Out (List (Str×D))) (k:Sl->Out (Fl×Sl)) (fr1 fr2:Sl->Out (List D×Sl)) (f:Sl->Out (Fl×Sl)):Sp:=λvs H Q _=>∃ F ds o,vs=[o]/\ds.length=1/\Same F H/\IsL K F vs ds/\∃ ρ1 n a e m l b d,k (qv N ds)=.ok (.nx,ρ1)/\fr1 ρ1=.ok (n,a)/\GI n=.ok e/\fr2 a=.ok (m,l)/\GI m=.ok b/\(i < l.length/\j < l.length/\g < l.length/\h < l.length) /\
 (∀ b1 b2,∃ ρ',f ((((l.set i (iD (.ins c (vO fld (.raw (.ref b1)) e)))).set j (iD (.ins c (vO fld (.raw (.ref b2)) b)))).set g (iD (.at_ b1 []))).set h (iD (.at_ b2 [])))=.ok (.rt d,ρ'))/\∀ v F' H',Is K F' v d->Q v H'
theorem qfL {P:iL} {w:iM} {K:Frag} {mg:Str->Option iG} {base:Heap} {CX:CXT} {x qual fld:Str} {st:Stmt} {f c:Addr} {fd:i6} {N ps:List Str} {k i j g h:Nat} {cv:Str->iG} {own1 own2:List Nat} {l t:Sl->Out (Fl×Sl)} {fr1 fr2:Sl->Out (List D×Sl)} {GI:List D->Out (List (Str×D))}
  (F0:Fun K x qual st f fd) (S:FnScope N ps (qd st)) (hl:ps.length=1)
  (y:∀ (cdv:iG) (A:iO) (outer:List Env) (s:iJ) (H:Hp) (E:XK),Room k (A.deeper (envOfC qual (qd st) s.heap.objs.size f cdv)) ->PSs (qah CX P w K mg base N qual (qd st) f cdv A outer s H E) (jm st) (qap (tSt (Qe K cv E [.val] .sh) [] own1 l) (qap (qhU (Qe K cv E [.val] .sh) own1 i j g h c fld GI fr1 fr2) (tSt (Qe K cv E [.val] .sh) (h::g::own1) own2 t)))) :
  FnOk P w K mg base CX (k+1) f fd ps (qfK K N c fld i j g h GI l fr1 fr2 t):=by
 obtain ⟨oc,od,kV,doc,pm,an,cdv,ct,osl,rfl,lk,m⟩:=F0.ex;refine qaz lk m S (λvs H Q E h=>?_) λA outer s H vs Q E hr p=>?_;·obtain ⟨F,ds,n,rfl,_⟩:=h;exact hl.symm
 ·obtain ⟨F,ds,n,rfl,hd,u,J,ρ1,X,r,V,W,q,U,d,h1,h2,T,R,O,⟨I,G,C,B⟩,M,L⟩:=p;refine ⟨_,y cdv A outer s H E hr,?_⟩;have Y:ArgsIs K F H [.val] [n] ds:=by
   cases J with
   | cons a b=>cases b; exact ⟨a,trivial⟩
  have z:=zB (N:=N) u Y bI;refine ⟨F,qv N ds,z,?_⟩;rw [h1];intro σ1 F1 H1 n1;refine ⟨F1,ρ1,n1.rep,?_⟩;simp only [h2,T,R,O];refine ⟨I,G,C,B,λb1 b2 o Z H2 n2=>⟨Z,_,n2.rep,?_⟩⟩;obtain ⟨ρ',e⟩:=M b1 b2;rw [e];intro v σ' F' H' _ _ _ _ mo;exact L v F' H' mo
def FlyA (h:Heap) (ex T:Addr) (cls:iG):Prop:=∃ o vs a ts fl,h.get? ex=iD o/\o.cls=cls/\o.data=.fields vs/\vs[1]?=iD (.ref T)/\T≠ex/\h.get? T=iD a/\a.data=.fields ts/\ts[3]?=iD fl
theorem FlyA.tr {h:Heap} {ex T:Addr} {cls:iG} (f:FlyA h ex T cls) (hb:base.get? T=iF):∃ d fl,h.TracedAtW base ex cls d fl:=by obtain ⟨o,vs,a,ts,fl,p,c,b,y,m,l,k,j⟩:=f;have z:0 < vs.size:=Nat.lt_of_succ_lt (Array.getElem?_eq_some_iff.mp y).1;exact ⟨vs[0],fl,o,vs,T,a,ts,p,⟨c,by simp [z]⟩,b,y,hb,m,l,k,j⟩
end L2.D2
namespace L2.D2
open PySem PySem.Spec PyProof.Rows PySem.W
theorem IsK.keys {K:Frag} {F:Hp}:∀ {kv:List (Key×V)} {ks:List (Key×D)},IsK K F kv ks->kv.map (·.1)=ks.map (·.1)
 | _,_,.nil=>rfl
 | _,_,.cons h t=>by rw [ax,ax,IsK.keys t]
theorem KV.keys:∀ {kv:List (Key×V)} {vs:List (Key×iG)},KV kv vs->kv.map (·.1)=vs.map (·.1)
 | _,_,.nil=>rfl
 | _,_,.cons h t=>by rw [ax,ax,h.1,KV.keys t]
end L2.D2
namespace PySem.F
end PySem.F
namespace L2.D2
open PySem PySem.Spec PyProof.Rows PySem.W
end L2.D2
namespace L2.D2
open PySem PySem.Spec PyProof.Rows
open PySem.SeqAt
open AutoSeq1 (wpAny_loadPart')
open MeetsSeq MeetsSeq2 MeetsSeq3
def RcLtAt (A:iO) (s:iJ) (y x:iG) (b:Bool):Prop:=
 ∀ (prog:iL) (w:iM) (E:iG->iJ->Prop) (Q:iG->iJ->Prop),Q (.bool b) s->wpAny (model prog w) A (richCompare .Lt y x) Q E s
def LtL (A:iO) (s:iJ) (k b:Bool):List (iG×iG)->Prop
 | []=>b=k
 | (y,x)::t=>(EqAt A.in1 s y x iI/\LtL A s k b t)\/(EqAt A.in1 s y x iH/\RcLtAt A.in1 s y x b)
theorem YS (l b:Addr) (items i:Array iG) (n n2:Nat) (dd f:Option Addr) (sl e:Array (Option iG)) (c:Bool):Meets (Builtin.«tuple.__lt__» ⟨[.ref l,.ref b],[]⟩)
   (λA R s=>s.heap.get? l=iD { cls:=.type "tuple",dict:=dd,data:=.seq items n,slots:=sl }/\s.heap.get? b=iD { cls:=.type "tuple",dict:=f,data:=.seq i n2,slots:=e } /\
    LtL A s (decide (items.size < i.size)) c (items.toList.zip i.toList)/\R (.ok (.ret (.bool c))) s):=
 .of_wp λprog w A R s h=>by
  obtain ⟨hp,g,d,tk,os⟩:=s; obtain ⟨hl,hb,j,h⟩:=h;have f2:=AutoSeq1.sub_tuple_tuple;wp_walk using wpAny_loadPart' hl,wpAny_loadPart' hb,wpAny_forIn_list _ (λrest b s'=>b.1=iF/\s'=⟨hp,g,d,tk,os⟩/\LtL A ⟨hp,g,d,tk,os⟩ (decide (items.size < i.size)) c rest) _
  case turn=>
   rintro ⟨y,x⟩ rest b s' ⟨a,rfl,z⟩;rcases z with ⟨e1,z⟩ | ⟨e1,z⟩
   ·refine iE (e1 prog w _ _ ?_);wp_walk
    exact ⟨rfl,rfl,z⟩
   ·refine iE (e1 prog w _ _ ?_);refine iE (j8 (iE (z prog w _ _ ?_)));wp_walk
    exact ⟨_,rfl,h⟩
  case fin=>
   rintro ⟨b1,b2⟩ s' ⟨a,rfl,z⟩;simp only at a;subst a;have z:c=_:=z;subst z;wp_walk
   exact ⟨_,rfl,by simpa [Builtin.Tuple.tupleCompareSizes] using h⟩
  case h=>
   exact ⟨rfl,rfl,j⟩
theorem RcLtAt.tuples {A:iO} {s:iJ} {l b:Addr} {items i:Array iG} {c:Bool} (hl:s.heap.IsTuple l items) (hb:s.heap.IsTuple b i) (u:A.units < cLine)
  (o:LtL A s (decide (items.size < i.size)) c (items.toList.zip i.toList)):RcLtAt A s (.ref l) (.ref b) c:=λprog w E Q h=>by
 obtain ⟨⟨cls,dd,data,sl⟩,m,j,n,hd⟩:=id hl;obtain ⟨⟨k,f,g,e⟩,a,d,n2,hd2⟩:=id hb;simp only at j hd d hd2;subst j hd d hd2;exact richCompare_meets_room (op:=.Lt) ⟨_,m,rfl⟩ ⟨_,a,rfl⟩ F.slot_tuple_lt F.entry_tuple_lt (F.args_tuple_lt_2 _ _) (YS l b items i n n2 dd f sl e c)
  ⟨m,a,o,show bg c≠Value.notImplemented/\Q (.bool c) s from ⟨(λx=>nomatch x),h⟩⟩ u
end L2.D2
namespace L2.D2
open PySem PySem.Spec PyProof.Rows
open PySem.SeqAt
end L2.D2
namespace L2.D2
open PySem PySem.Spec PyProof.Rows
open AutoSeq1 (wpAny_loadPart')
end L2.D2
namespace L2.D2
open PySem PySem.Spec PyProof.Rows
section
variable {X:Cx} {C:Ct} {own:List Nat} {m ma mb:Mo} {a b e:Expr} {fa fb fe:Sl->Out (D×Sl)} {apos cpos px:Pos}
theorem qfM {o e:Expr} {to:TE} {t:TA} {name:Str} {id:String} {r:V->List V->Hp->VK->Prop} (slot:Slot "tuple" name id) (y:typeOf (.builtin id)=pure (.type "method_descriptor")) (i:MtR X id r) (m:PE X o to) (k:PA X [e] t)
  (c:attributeBase o name X.env (eval o X.env)=eval o X.env)
  (w:((backTo cpos (starEach [e] X.env)).all (λx=>!x.1)&&(backToKw cpos (keywordEach [] X.env)).all (λx=>x.1.isSome)
   && decide ([e].length+([]:List i5).length+(if ([]:List i5).isEmpty then 0 else 1) < 30))=iI)
  (b:(apos.endLine == cpos.line)=iI) (g:starEach [e] X.env=[(iH,eval e X.env)]) :
  PE X (.Call (.Attribute o name apos) [e] [] cpos) (λσ H Q=>to σ H λx H1=>(∃ p xs,x=.ref p/\SqT X.K H1 p xs)/\t σ H1 λxs H2=>r x xs H2 Q):=by
 refine ⟨?_⟩;intro pins s σ H Q I h;refine wpAny_Call_method_late c w b rfl (thn (m pins s σ H _ I h) λv s1 ⟨x,H1,d,r1,ty,f⟩=>?_);obtain ⟨p,xs,rfl,hq⟩:=ty;cases r1;obtain ⟨o',e1,l⟩:=d.tupleN hq;obtain ⟨its,rv,⟨o2,D,j,_⟩,_⟩:=d.tuple hq;refine ⟨"tuple",id,PySem.F.plainAttrs_tuple,slot,y,⟨o2,D,j⟩,λa z=>by cases z; exact ⟨o',e1,l⟩,?_⟩;have hA:=k cpos pins s1 σ H1 _ d f;rw [g] at hA ⊢;refine eH rfl (fk ?_);exact thn hA λus s2 ⟨vs,H2,n,r2,q⟩=>i pins s2 σ H2 (.ref p) vs _ us Q n rfl r2 q
noncomputable def qgw:D->Bool
 | .tup _=>iI
 | _=>iH
end
end L2.D2
namespace L2.D2
open PySem PySem.Spec PyProof.Rows PySem.W
theorem uq:∀ l:List Int,xS (l.map D.int)=iD l
 | []=>rfl
 | x::l=>by show (xS (l.map D.int)).map (x::·)=iD (x::l);rw [uq l];rfl
end L2.D2
namespace L2.D2
open PySem PySem.Spec PyProof.Rows
noncomputable def qdP {α:Type} (ds:List α) (lo hi:Option Int):List α:=(ds.drop (HT.sIx ds.length 0 lo)).take (HT.sIx ds.length ds.length hi - HT.sIx ds.length 0 lo)
noncomputable def qgx (lo hi:Option Int):D->Out D
 | .lst ds=>.ok (.lst (qdP ds lo hi))
 | _=>.bad
noncomputable def zX (fa:Sl->Out (D×Sl)) (l u:Option (Sl->Out (D×Sl))):Sl->Out (D×Sl):=λρ=>(fa ρ).bind λp=>(ud l p.2).bind λa=>(ud u a.2).bind λb=>(qgx a.1 b.1 p.1).plain.bind λd=>.ok (d,b.2)
section
variable {X:Cx} {C:Ct} {own:List Nat} {e:Expr} {fa:Sl->Out (D×Sl)} {ma:Mo} {pos p2:Pos}
theorem qhm (l:C.K=X.K):SlR X (λx lo hi H Q=>∃ F d,Same F H/\Is C.K F x d/\PoV C .sh F H (qgx lo hi d) Q):=by
 intro pins s σ H x v vl b lo hi sl Q I r e pl c h;obtain ⟨F,d,q,is,po⟩:=h;cases d with
 | lst ds=>
  cases is with
  | @lst a xs _ hq t=>
   have po:PoV C .sh F H (.ok (.lst (qdP ds lo hi))) Q:=po;refine qc1 pins s σ H _ v vl b lo hi sl Q I r e pl c ⟨a,xs,rfl,by rw [<-l]; exact q.seq hq,λp hp=>?_⟩;obtain ⟨s2,c2⟩:=wH (u:=.lst (qcZ xs lo hi)) q hp;have i:IsL C.K F (qcZ xs lo hi) (qdP ds lo hi):=by unfold qcZ qdP;rw [t.length];exact IsL.take _ (IsL.drop _ t)
   exact po _ _ _ s2 c2 (.lst (.inl (.inl qm)) (i.mono c2.grow))
 | _=>exact po.elim
theorem Gf {lo hi:Option Expr} {l u:Option (Sl->Out (D×Sl))} (o:C.K=X.K) (n:PE X e (tE C own ma fa)) (hl:PO X lo (tO C own (ud l))) (k:PO X hi (tO C own (ud u))) (g:ma≠.any:=by decide):PE X (.Subscript e (.Slice lo hi iF p2) pos) (tE C own .sh (zX fa l u)):=by
 refine jh (qaA (qhm (C:=C) o) (vi n g) hl k) λσ H Q ⟨F,ρ,p,h⟩=>⟨F,ρ,p,Po.bind h λv F1 H1 d ρ1 f t m h1=>?_⟩
 refine ⟨F1,ρ1,f,Po.bindO h1 λs H2 a j r c2 h2=>⟨s,j,r,Po.bindO h2 λF3 w b i c J q=>?_⟩⟩;exact ⟨F3,d,c.sub,(m.mono c2.grow).mono J.grow,PoV.of c q⟩
end
theorem fsc {N P:List Str} {sc:lm} (a:sc.kind=.function:=by rfl) (b:sc.isCoroutine=false:=by rfl) (c:sc.isGenerator=false:=by rfl) (d:N.Nodup:=by decide +kernel) (e:N.take P.length=P:=by rfl) (f:∀ x∈P,sc.names.lookup x=iD .local\/sc.names.lookup x=iD .cell:=by decide +kernel) (g:∀ y∈sc.names,y.2≠.free:=by decide +kernel):FnScope N P sc:=⟨a,b,c,d,e,f,g⟩
end L2.D2
namespace L2.D2
open PySem PySem.Spec PyProof.Rows PySem.W
variable {s:iJ}
section
variable {prog:iL} {w:iM} {A:iO} {E:iG->iJ->Prop}
variable {z TI TO i1 i2:Addr} {fp1 fp2:List Addr} {n1 n2 i:Nat} {P1 P2:Nat->iG->Prop} {S1 S2:Nat->Heap->Prop} {a b:iG}
end
theorem ad {x y:Nat} (h:x < y\/y < x):x≠y:=by omega
section
variable {X:Cx} {pins:List (Addr×Obj)} {σ:St} {H H':Hp} {h':Heap}
theorem Inv.grown {t':Nat} (I:Inv X pins σ H s) (k:∀ b u,s.heap.get? b=iD u->h'.get? b=iD u) (old:∀ b o,H b=iD o->H' b=iD o) (low:∀ b,b < s.heap.objs.size->H b=iF->H' b=iF)
  (new:∀ b o,H b=iF->H' b=iD o->ObjOk X.prog X.w H' h' b o):Inv X pins σ H' { s with heap:=h',toks:=t' }:=by
 refine I.un ⟨λb u q _ _ _=>k b u q,λb u q _ _ _=>⟨u.slots,k b u q⟩,λb u q n _=>low b (aE q) n,λb u q _=>⟨u,k b u q⟩,λb xs q=>old _ _ q,λb u xs q=>old _ _ q,λb ps q=>⟨#[],by rw [old _ _ q]; simp⟩⟩ λb u e=>?_;cases q:H b with
 | none=>exact new b u q e
 | some o=>have:=old b o q;rw [e] at this;cases this;exact (I.hok b u q).stay (λc v _ q=>k c v q) (λc q=>old _ _ q) λc xs q=>old _ _ q
end
end L2.D2
namespace L2.D2
open PySem PySem.Spec PyProof.Rows
theorem YT {M:Model} {A:iO} {E:iG->iJ->Prop} {s:iJ} {β:Type} {n:Nat} (f:Nat->β->Sem (ForInStep β)) (I:Nat->β->iJ->Prop) (Q:β->iJ->Prop) (b:β)
  (turn:∀ i b s,i < n->I i b s->wpAny M A (f i b) (λr s'=>match r with | .yield a=>I (i+1) a s' | .done a=>Q a s') E s)
  (fin:∀ b s,I n b s->Q b s) (h:I 0 b s):wpAny M A (forIn [:n] b f) Q E s:=by
 rw [Std.Legacy.Range.forIn_eq_forIn_range'];simp only [Std.Legacy.Range.size,Nat.sub_zero,Nat.add_sub_cancel,Nat.div_one];refine wpAny_forIn_list _ (λrest b s'=>∃ i,i<=n/\rest=List.range' i (n - i)/\I i b s') _ ?_ ?_ _ _ ⟨0,bA _,rfl,h⟩
 ·rintro x rest b s' ⟨i,hi,hr,y⟩
  match e:n - i with
  | 0=>rw [e] at hr; cases hr
  | k+1=>
   rw [e,List.range'_succ] at hr;cases hr;refine i8 (turn _ _ _ (by omega) y) (λr s' hr=>?_) λ_ _ h'=>h';cases r with
   | done a=>exact hr
   | yield a=>exact ⟨_,by omega,by rw [show n - (x+1)=k by omega],hr⟩
 ·rintro b s' ⟨i,hi,hr,y⟩;have e:=congrArg iA hr;rw [List.length_range'] at e;have e:n=i:=by simp at e; omega
  exact fin _ _ (by rwa [e])
open AutoSeq1 (wpAny_loadPart') in
theorem Jb (l:Addr) (items:Array iG) (n:Nat) (dd:Option Addr) (sl:Array (Option iG)) (x:iG) (e:iG->Bool) (j:Nat) (G:j < items.size)
  (hit:e items[j]=iI) (o:∀ m (f:m < items.size),m < j->e items[m]=iH) :
  Meets (Builtin.«tuple.index» ⟨[.ref l,x],[]⟩)
   (λA R s=>s.heap.get? l=iD { cls:=.type "tuple",dict:=dd,data:=.seq items n,slots:=sl }/\(∀ y,y∈items->h9 A.in1 s y x (e y))/\R (.ok (.ret (.int j s.toks))) { s with toks:=s.toks+1 }):=
 .of_wp λprog w A R s h=>by
  obtain ⟨hp,g,d,tk,os⟩:=s; obtain ⟨hl,c,h⟩:=h;wp_walk using wpAny_loadPart' hl,YT _ (λi b s'=>s'=⟨hp,g,d,tk,os⟩/\b=(iF,())/\i<=j) _ _
  case turn=>
   rintro i b s' hi ⟨rfl,rfl,a⟩;have hi:i < items.size:=by omega
   rw [bD hi];refine iE (c _ (Array.getElem_mem hi) prog w _ _ ?_);by_cases q:i=j
   ·subst q;rw [hit];wp_walk
    exact ⟨_,rfl,h⟩
   ·rw [o i hi (by omega)];wp_walk
    exact ⟨rfl,rfl,by omega⟩
  case fin=>
   rintro b s' ⟨rfl,rfl,a⟩;omega
  case h=>
   exact ⟨rfl,rfl,bA _⟩
variable {X:Cx} {C:Ct} {own:List Nat} {e:Expr}
section
variable {m ma mb:Mo} {a b:Expr} {fa fb fe:Sl->Out (D×Sl)} {apos cpos px:Pos}
noncomputable def Qr:D->D->Out D
 | .tup ds,e=>match xO 7 e ds with
  | some _=>match (ds.map λd=>eqN 7 d e == iD iI).findIdx? id with
   | some j=>.ok (.int (j:Nat))
   | none=>.bad
  | none=>.bad
 | _,_=>.bad
theorem Gg (O:C.K=X.K) (L:X.A.units+64 < cLine):MtD X C .sh "tuple.index" Qr:=by
 intro pins s σ H x vs v us Q I E rv h;obtain ⟨y,F,dx,l,rfl,q,o,ty,po⟩:=h;rw [O] at o ty;obtain ⟨u,rfl,J⟩:=rv.one;unfold Qr at po;cases dx <;> try exact po.elim
 rename_i ds;cases e:xO 7 l ds with
 | none=>simp only [e] at po; exact po.elim
 | some b=>
  simp only [e] at po;cases G:(ds.map λd=>eqN 7 d l == iD iI).findIdx? id with
  | none=>simp only [G] at po; exact po.elim
  | some j=>
   simp only [G] at po;obtain ⟨F',g',c,M⟩:=ty.is q;obtain ⟨a,xs,rfl,p,z⟩:=o.tup q;cases E;obtain ⟨its,r,pl,P⟩:=I.tuple p;obtain ⟨h1,h2⟩:=Qb (A:=X.A) (y:=.non) (a:=a) (u:=.none) I L c M J (z.mono g') r e;have N:=Wc I c (z.mono g') r e;rw [<-N] at G;obtain ⟨⟨cls,dd,data,sl⟩,B,D,n,t⟩:=pl;simp only at D t;subst D t;obtain ⟨k,i,f⟩:=bJ.mp G;have g:j < its.length:=by simpa using k
   refine j9 PySem.F.slot_tuple_index ⟨_,B,rfl⟩ PySem.F.entry_tuple_index (PySem.F.args_tuple_index_2 _ _) (Jb a _ n dd sl u (YA X F' 7 l) j (by simpa using g) (by simpa using i) λm R h1=>?_) ⟨B,λw hw=>h2 w hw,?_⟩;·have:=f m h1;simpa using this
   ·exact ⟨.int (j:Nat),H,I.tok _,⟨_,rfl⟩,po _ F H q .refl (.int _)⟩
theorem Gh (l:C.K=X.K) (u:X.A.units+64 < cLine)
  (i:PE X a (tE C own ma fa)) (hb:PE X b (tE C own mb fb)) (f:ma≠.any:=by decide)
  (c:attributeBase a "index" X.env (eval a X.env)=eval a X.env:=by rfl)
  (w:((backTo cpos (starEach [b] X.env)).all (λx=>!x.1)&&(backToKw cpos (keywordEach [] X.env)).all (λx=>x.1.isSome)
   && decide ([b].length+([]:List i5).length+(if ([]:List i5).isEmpty then 0 else 1) < 30))=true:=by exact vP rfl)
  (e:(apos.endLine == cpos.line)=true:=by rfl) (s:starEach [b] X.env=[(iH,eval b X.env)]:=by exact qO rfl) :
  PE X (.Call (.Attribute a "index" apos) [b] [] cpos) (tE C own .sh (dM qgw Qr fa fb)):=by
 refine jh (qfM PySem.F.slot_tuple_index PySem.F.type_tuple_index (Gg l u) i (qT hb jU s) c w e s) λσ H Q h=>?_;obtain ⟨F,ρ,p,h⟩:=ZS (ma:=ma) (mb:=mb) f h;refine ⟨F,ρ,p,Po.imp h λx H1 h1=>?_⟩;obtain ⟨⟨F1,dx,g,d,k⟩,h2⟩:=h1;refine ⟨?_,?_⟩
 ·cases dx <;> try (cases k; done)
  obtain ⟨a,vs,rfl,hq,t⟩:=d.tup g;exact ⟨a,vs,rfl,by rw [<-l]; exact hq⟩
 ·obtain ⟨m,j,r,h2⟩:=h2;exact ⟨m,j,r,Po.imp h2 λy H2 q=>⟨y,q.choose,q.choose_spec.choose,q.choose_spec.choose_spec.choose,rfl,q.choose_spec.choose_spec.choose_spec⟩⟩
end
variable {as:List AK} {G:List D->Out (D×List D)} {mr:Mo} {es:List Expr} {x:Str} {pos:Pos} {ms:List PM} {ps:List Str} {cv:Str->iG}
section
variable {own':List Nat} {fr:Sl->Out (List D×Sl)} {m ma mb:Mo} {a b:Expr} {p pos' px:Pos} {k j:Nat} {fe f fa fb:Sl->Out (D×Sl)}
theorem sl (i:Nat) {x:Str} {px:Pos} (f:PA X es (tAr C own as fr)) (a:X.N[i]?=iD x:=by rfl) (c:Vis X.env.scope x:=by exact aI rfl) (m:i∈own:=by decide) (h:starEach (.Name x px::es) X.env=(iH,eval (.Name x px) X.env)::starEach es X.env:=by rfl)
  (hd:(x == ("__debug__":Str))=false:=by decide) (d:(x == ("__classdict__":Str))=false:=by decide):PA X (.Name x px::es) (tAr C own (.sl i::as) (jR fr)):=qU a c m f h hd d
theorem gn (i:Nat) {x:Str} (a:X.N.Nodup) (hi:X.N[i]?=iD x:=by rfl) (hx:Loc X.env.scope x:=by first | exact aI rfl | exact cF rfl) (m:i∉own:=by decide) (o:i∉C.io:=by exact yo rfl) (h:X.fn x=iI\/X.env.scope.names.lookup x=iD .local:=by first | exact .inl rfl | exact .inr rfl):PG X (.Name x pos) (tGd C own (gNm i)):=qA a hi hx m o h
theorem ix (hr:Room k X.A) (h:PE X a (tE C own ma fa)) (hb:PE X b (tE C own mb fb)) (c:VD b:=by exact λ_ _=>rfl) (l:C.K=X.K:=by rfl) (f:ma≠.any:=by decide):PE X (.Subscript a b pos) (tE C own .sh (d2 ixD fa fb)):=jL l hr.units h hb c f
theorem tv (h:PE X e (tE C own m f)) (l:C.K=X.K:=by rfl) (g:∀ whole,isTrue e X.env whole=(do let v <-whole; standAt e.pos; holding [v] (truthy v)):=by exact λ_=>rfl):PT X e (tT C own (Qc f)):=jD l h g
end
def qhn (P:iL) (w:iM) (K:Frag) (mg:Str->Option iG) (base:Heap) (cv:Str->iG) (k:Nat) (x:Str) (ps:List Str) (ms:List PM) (mr:Mo) (G:List D->Out (D×List D)):Prop:=
 ∃ f fd,FnOk P w K mg base (CXk P w) k f fd ps (spG K cv ms mr G)/\mg x=iD (.ref f)/\keepIn K (.ref f)=iI/\Binds K fd ps []
theorem qdQ {P:iL} {w:iM} {K:Frag} {mg:Str->Option iG} {base:Heap} {cv:Str->iG} {st:Stmt} {N:List Str} {k:Nat} {ms:List PM} {mr:Mo} {own':List Nat} {fb:Sl->Out (Fl×Sl)} (T:jF K mg x st ps) (S:FnScope N ps (qd st)) (gn:Str)
  (c:∀ (cdv:iG) (f:Addr) (A:iO) (outer:List Env) (s:iJ) (H:Hp) (E:XK),Room k (A.deeper (envOfC x (qd st) s.heap.objs.size f cdv)) ->PSs (cxk P w K mg base N x (qd st) f cdv A outer s H E) (jm st) (tSt (Qe K cv E ms mr) (jy 0 ms) own' fb))
  (n:N[ps.length]?=iD gn:=by rfl) (v:¬Vis (qd st) gn:=by unfold Vis; decide +kernel) (hl:ms.length=ps.length+1:=by rfl) (b:∀ i∈Qd 0 ms,i∈own':=by exact kq rfl) (hmr:mr=.sh\/∀ ds ρ,(fb (qv N ds))≠.ok (.nx,ρ):=by exact .inl rfl):qhn P w K mg base cv (k+1) x ps ms mr (vf N ms fb):=by
 obtain ⟨f,fd,F,h,hb⟩:=T;exact ⟨f,fd,qhT F S hl n v b hmr (λcdv A outer s H E hr=>c cdv f A outer s H E hr) λ_=>.inr rfl,h,F.kp,hb⟩
noncomputable def KU (g:Nat) (G:List D->Out (D×List D)) (fr:Sl->Out (List D×Sl)):Sl->Out (D×Sl):=λρ=>(fr ρ).bind λq=>match q.2[g]? with
 | some (iD (.at_ b es))=>(match G (q.1++[.at_ b es]) with
  | .ok r=>(match r.2[q.1.length]? with | some o=>.ok (r.1,q.2.set g (iD o)) | none=>.bad)
  | .exc x os=>(match (os.map (·.getD .non))[q.1.length]? with | some o=>.exc x (q.2.set g (iD o)) | none=>.bad)
  | .bad=>.bad)
 | _=>.bad
section
variable {fr:Sl->Out (List D×Sl)} {p:Pos} {g:Nat} {k j:Nat}
theorem qdR {σ:St} {H0 F H:Hp} {ρ:Sl} {b:Addr} {vs:List V} {ds l:List D} {Q:VK} (m:Xi as=iI) (hg:g∈own) (j:∀ i∈C.ox,i∈own) (a:Rep C.K own F H σ ρ) (w:ArgV C.K H0 F H σ as vs ds) (t:ρ[g]?=iD (iD (.at_ b l)))
  (po:Po C own mr σ F H (match G (ds++[.at_ b l]) with
   | .ok r=>(match r.2[ds.length]? with | some o=>.ok (r.1,ρ.set g (iD o)) | none=>.bad)
   | .exc x os=>(match (os.map (·.getD .non))[ds.length]? with | some o=>.exc x (ρ.set g (iD o)) | none=>.bad)
   | .bad=>.bad) Q):spG C.K C.cv (as.map wn++[.io]) mr G vs H Q C.E:=by
 obtain ⟨u,B,fb,ow⟩:=a.ow g _ hg t;have hb:b=u:=ow.1;subst hb;obtain ⟨A,p,n,y⟩:=qdF fb ow m w;refine ⟨by simp [n],b,F,ds++[.at_ b l],a.sub,A,by rw [p]; simp,?_⟩;have k:∀ {F' H'},Chg (LA (as.map wn++[.io]) (vs++[.ref b])) F H F' H'->Chg (λz=>z=b) F H F' H':=λc=>c.mono λz f=>by have f:z∈uf (as.map wn++[.io]) (vs++[.ref b]):=f;rw [p] at f;simpa using f
 have out:∀ {F' H' outs},wq C.K F' H' (as.map wn++[.io]) (vs++[.ref b]) outs->∃ o,outs[ds.length]?=iD o/\F' b=iF/\OwnIs C.K F' H' b o:=λ{F' H' outs} h=>by obtain ⟨o',e,r⟩:=qdG m n h;exact ⟨o',by rw [y]; exact e,r⟩
 cases q:G (ds++[.at_ b l]) with
 | bad=>rw [q] at po; exact po.elim
 | ok r=>rw [q] at po;obtain ⟨d,outs⟩:=r;intro v F' H' s c o mo;obtain ⟨o',e,f1,f2⟩:=out o;simp only [e] at po;obtain ⟨r1,r2⟩:=a.swap hg B (k c) s f1 f2;exact po v F' H' r1 r2 mo
 | exc x os=>rw [q] at po;intro F' H' s c o;obtain ⟨o',e,f1,f2⟩:=out o;simp only [e] at po;obtain ⟨r1,r2⟩:=a.swap hg B (k c) s f1 f2;exact po F' H' s (r1.ioIs j) r2
theorem qbp (S:qhn X.prog X.w X.K X.mg X.base cv j x ps ms mr G) (hr:Room k X.A) (B:j<=k) (hx:jO (CXk X.prog X.w) X C.E) (J:Gl X x) (hg:g∈own) (I:PA X (e::es) (tAr C own as fr)) (v:C.cv=cv:=by rfl) (M:C.K=X.K:=by rfl) (d:∀ i∈C.ox,i∈own:=by exact kq rfl) (s:ms=as.map wn++[.io]:=by rfl) (t:Xi as=true:=by rfl)
  (m:(x == ("__debug__":Str))=false:=by decide) (D:starEach (e::es) X.env=(iH,eval e X.env)::starEach es X.env:=by exact ja rfl) (l:(backTo pos (starEach es X.env)).any (·.1)=false:=by exact vh rfl):PE X (.Call (.Name x p) (e::es) [] pos) (tE C own mr (KU g G fr)):=by
 subst v s;obtain ⟨f,fd,F0,u,z,hb⟩:=S;refine jh (XC F0 (hr.mono B) J u z hb .nil hx I m D l) λσ H Q ⟨F,ρ,n,h⟩=>⟨F,ρ,n,?_⟩
 unfold KU at h;cases q:fr ρ with
 | exc y os=>rw [q] at h; exact h
 | bad=>rw [q] at h; exact h.elim
 | ok L=>
  obtain ⟨ds,a⟩:=L;rw [q] at h;intro vs R H2 c c2 O;rw [bj];have h1:=Po.shift (show Po C own mr σ F H (match a[g]? with
   | some (iD (.at_ b es))=>(match G (ds++[.at_ b es]) with
    | .ok r=>(match r.2[ds.length]? with | some o=>.ok (r.1,a.set g (iD o)) | none=>.bad)
    | .exc x os=>(match (os.map (·.getD .non))[ds.length]? with | some o=>.exc x (a.set g (iD o)) | none=>.bad)
    | .bad=>.bad)
   | _=>.bad) Q from h) c2
  split at h1;·rename_i P es' N;have:=qdR t hg d c O N h1;rw [M] at this;exact this
  ·exact h1.elim
end
end L2.D2
set_option maxHeartbeats 4000000
namespace Kx
open PySem PySem.Spec PyProof.Rows L2 L2.D2
noncomputable def top (i:Nat):Stmt:=PySem.Challenge.pw_lookwords_k23_whole_asked_books.main.body.getD i (.Pass ⟨0,0,0,0⟩)
noncomputable def CS:List Str:=["NoWords", "NoLook", "NoNumbers", "NoRoom", "NoWord", "NoWorths", "Never", "Full", "Known", "NoPlace", "NoLetters", "NoText", "Nothing"]
noncomputable def FS:List Str:=[]
structure Zt (K:Frag) (mg:Str->Option iG) (cv:Str->iG) (ca:Str->Addr):Prop where
 xs:Xs K cv ca CS "WordError"
 mref:∀ c∈CS,mg c=iD (.ref (ca c))
 xin:∀ c∈CS,dU K (ca c) bmV "ValueError.__new__"=iI
 fref:∀ x∈FS,mg x=iD (.ref (ca x))
 m_WordError:mg "WordError"=iD (cv "WordError")
 z_ValueError:mg "ValueError"=iF
 z_all:mg "all"=iF
 z_bool:mg "bool"=iF
 z_dict:mg "dict"=iF
 z_int:mg "int"=iF
 z_isinstance:mg "isinstance"=iF
 z_len:mg "len"=iF
 z_list:mg "list"=iF
 z_max:mg "max"=iF
 z_min:mg "min"=iF
 z_range:mg "range"=iF
 z_set:mg "set"=iF
 z_sorted:mg "sorted"=iF
 z_str:mg "str"=iF
 z_tuple:mg "tuple"=iF
 z_zip:mg "zip"=iF
 c_LEAST_PLACE:∃ t,mg "LEAST_PLACE"=iD (.int (-3) t)
 c_MOST_LETTERS:∃ t,mg "MOST_LETTERS"=iD (.int 6 t)
 c_MOST_PLACE:∃ t,mg "MOST_PLACE"=iD (.int 2 t)
 c_MOST_ROOM:∃ t,mg "MOST_ROOM"=iD (.int 99 t)
 c_MOST_WORDS:∃ t,mg "MOST_WORDS"=iD (.int 6 t)
 m_Book:mg "Book"=iD (.ref (ca "Book"))
 b_cls:Cls K (ca "Book")
 b_no:∀ f∈(["look", "width", "worths", "standing", "asked"]:List Str),NoAttr K (ca "Book") f
 s_NoWorths:bP K (.ref (ca "NoWorths")) (.ref (ca "NoWorths"))=iD iI
theorem Jc:bootBuiltins "ValueError"=iD (.type "ValueError"):=by decide +kernel
theorem KW:bootBuiltins "all"=iD (.builtin "all"):=by decide +kernel
theorem qdS:bootBuiltins "bool"=iD (.type "bool"):=by decide +kernel
theorem Wj:bootBuiltins "dict"=iD (.type "dict"):=by decide +kernel
theorem qfN:bootBuiltins "int"=iD (.type "int"):=by decide +kernel
theorem qw:bootBuiltins "isinstance"=iD (.builtin "isinstance"):=by decide +kernel
theorem jB:bootBuiltins "len"=iD (.builtin "len"):=by decide +kernel
theorem Gi:bootBuiltins "list"=iD (.type "list"):=by decide +kernel
theorem qfO:bootBuiltins "max"=iD (.builtin "max"):=by decide +kernel
theorem qfP:bootBuiltins "min"=iD (.builtin "min"):=by decide +kernel
theorem zY:bootBuiltins "set"=iD (.type "set"):=by decide +kernel
theorem yH:bootBuiltins "sorted"=iD (.builtin "sorted"):=by decide +kernel
theorem Gj:bootBuiltins "str"=iD (.type "str"):=by decide +kernel
theorem vo:bootBuiltins "tuple"=iD (.type "tuple"):=by decide +kernel
instance {α:Type}:Inhabited (Out α):=⟨.bad⟩
section
variable {P:iL} {w:iM} {K:Frag} {mg:Str->Option iG} {base:Heap} {cv:Str->iG} {ca:Str->Addr}
abbrev qV:Stmt:=yT (top 40) 4
abbrev vp:List Str:=["self", "#a", "there", "free"]
theorem sc_Book_counts:FnScope vp ["self"] (qd qV):=fsc
noncomputable def wM (ca:Str->Addr):Sl->Out (Fl×Sl):=(jf (ku 2 (d1 kE (jo [] 2 [] (wo (jP 1 (d1 (zV (ca "Book") "asked") (qg 0)))) (wf 2 (qS (gNm 0) (qS (gNm 1) we))) (qP (d2 eqD (qg 1) (qg 0))) (qg 0))))
  (jf (ku 3 (d1 kE (jo [] 2 [] (wo (jP 1 (d1 (zV (ca "Book") "asked") (qg 0)))) (wf 2 (qS (gNm 0) (qS (gNm 1) we))) (qP (d2 qgo (qg 1) (dC .non))) (qg 0))))
  (kr (wG (qe (qg 2) (qe (d2 Ua (d2 Ua (d1 kE (jP 1 (d1 (zV (ca "Book") "asked") (qg 0)))) (qg 2)) (qg 3)) (qe (qg 3) qF)))))))
noncomputable abbrev jM (ca:Str->Addr):List D->Out (D×List D):=vf vp [.val,.val] (wM ca)
abbrev uU (ca:Str->Addr) P w K mg base cv:=Wh P w K mg base cv 1 (ca "Book") "counts" ["self"] [.val,.val] .sh (jM ca)
theorem gM (Z:Zt K mg cv ca) (T:xT K (ca "Book") "counts" "Book.counts" qV ["self"]):uU ca P w K mg base cv:=
 QZ (k:=0) (own':=[]) (fb:=wM ca) T sc_Book_counts "#a" λcdv f A outer s H E hr=>(qo (qL (i:=2) sc_Book_counts.nd rfl (aI rfl) (qJ (jX rfl) rfl Z.z_len jB (jE (N:=["word", "found"]) (nt:=2) (cap:=[]) rfl (wK (names:=(qd qV).names) rfl (by decide +kernel)) (kz (names:=(qd qV).names) (N:=vp) rfl rfl (by decide +kernel)) (jz rfl (zW (g:=1) (by decide) (wZ rfl Z.b_cls (Z.b_no "asked" (by decide +kernel)) (vr 0)))) (λfp L s1 H1=>(uh rfl rfl (qN (qA (i:=0) (show bq (["word", "found"]:List Str) from by decide +kernel) rfl (aI rfl)) (qN (qA (i:=1) (show bq (["word", "found"]:List Str) from by decide +kernel) rfl (aI rfl)) vQ)))) (λfp L s1 H1=>(QR (qI (wa rfl hr.units) (vr 1) (vr 0)))) (λfp L s1 H1=>(vr 0)))))
  (qo (qL (i:=3) sc_Book_counts.nd rfl (aI rfl) (qJ (jX rfl) rfl Z.z_len jB (jE (N:=["word", "found"]) (nt:=2) (cap:=[]) rfl (wK (names:=(qd qV).names) rfl (by decide +kernel)) (kz (names:=(qd qV).names) (N:=vp) rfl rfl (by decide +kernel)) (jz rfl (zW (g:=1) (by decide) (wZ rfl Z.b_cls (Z.b_no "asked" (by decide +kernel)) (vr 0)))) (λfp L s1 H1=>(uh rfl rfl (qN (qA (i:=0) (show bq (["word", "found"]:List Str) from by decide +kernel) rfl (aI rfl)) (qN (qA (i:=1) (show bq (["word", "found"]:List Str) from by decide +kernel) rfl (aI rfl)) vQ)))) (λfp L s1 H1=>(QR (qI qe6 (vr 1) xy))) (λfp L s1 H1=>(vr 0)))))
  (qp (qu (jA (qc (vr 2) (qc (jC zx (jC zx (qJ (jX rfl) rfl Z.z_len jB (zW (g:=1) (by decide) (wZ rfl Z.b_cls (Z.b_no "asked" (by decide +kernel)) (vr 0)))) (vr 2)) (vr 3)) (qc (vr 3) ql))))))))
abbrev vU:Stmt:=top 21
abbrev xD:List Str:=["thing", "least", "most"]
theorem Jd:FnScope xD ["thing", "least", "most"] (qd vU):=fsc
noncomputable def vV:Sl->Out (Fl×Sl):=(jf (sIf (dOr (JI (Qc (d1 (yB "int") (qg 0)))) (Qc (d1 (yB "bool") (qg 0)))) (kr (dC (.bl iH))) kn)
  (kr (yq leD leD (qg 1) (qg 0) (qg 2))))
noncomputable abbrev ki:List D->Out (D×List D):=vf xD [.val,.val,.val] (vV)
abbrev vt P w K mg base cv:=DefOk P w K mg base cv 1 "is_between" ["thing", "least", "most"] [.val,.val,.val] .sh (ki)
theorem Je (Z:Zt K mg cv ca) (T:jF K mg "is_between" vU ["thing", "least", "most"]):vt P w K mg base cv:=
 jc (k:=0) (own':=[]) (fb:=vV) T Jd λcdv f A outer s H E hr=>(qo (jp (PW.pt (yp (jQ (jD rfl (yC rfl rfl Z.z_isinstance qw rfl Z.z_int qfN (vr 0)) (λ_=>rfl))) (wb (jD rfl (yC rfl rfl Z.z_isinstance qw rfl Z.z_bool qdS (vr 0)) (λ_=>rfl))))) (qp (qu QI)) qX)
  (qp (qu (Uh Kc Kc (vr 1) (vr 0) (vr 2)))))
abbrev vW:Stmt:=top 31
abbrev xE:List Str:=["thing"]
theorem Jf:FnScope xE ["thing"] (qd vW):=fsc
noncomputable def ur:Sl->Out (Fl×Sl):=(sIf (JI (Qc (qC [.vl,.vl,.vl] ki (qe (qg 0) (qe (dC (.int 1)) (qe (dC (.int 99)) qF)))))) (va "NoRoom" (qe (dC (.str "a room is a whole number from 1 to 99")) qF)) kn)
noncomputable abbrev ut:List D->Out (D×List D):=vf xE [.val] (ur)
abbrev yI P w K mg base cv:=DefOk P w K mg base cv 2 "check_room" ["thing"] [.val] .sh (ut)
theorem Jg (Z:Zt K mg cv ca) (T:jF K mg "check_room" vW ["thing"]) (o:vt P w K mg base cv):yI P w K mg base cv:=
 jc (k:=1) (own':=[]) (fb:=ur) T Jf λcdv f A outer s H E hr=>(qp (jp (jQ (jD rfl (qr o hr (by decide) qZ rfl (qc (vr 0) (qc qx (qc (yz Z.c_MOST_ROOM rfl) ql)))) (λ_=>rfl))) (qp (kX rfl (xA rfl) rfl rfl (Z.mref "NoRoom" (by decide +kernel)) (Z.xs.val "NoRoom" (by decide +kernel)) (Z.xin "NoRoom" (by decide +kernel)) (qc jV ql))) qX))
abbrev wN:Stmt:=top 22
abbrev zZ:List Str:=["thing"]
theorem KY:FnScope zZ ["thing"] (qd wN):=fsc
noncomputable def vH:Sl->Out (Fl×Sl):=(kr (JZ (d1 (yB "str") (qg 0)) (JZ (d2 eqD (d1 kE (qg 0)) (dC (.int 1))) (yq leD leD (dC (.str "a")) (qg 0) (dC (.str "z"))))))
noncomputable abbrev vI:List D->Out (D×List D):=vf zZ [.val] (vH)
abbrev uu P w K mg base cv:=DefOk P w K mg base cv 1 "is_letter" ["thing"] [.val] .sh (vI)
theorem KZ (Z:Zt K mg cv ca) (T:jF K mg "is_letter" wN ["thing"]):uu P w K mg base cv:=
 jc (k:=0) (own':=[]) (fb:=vH) T KY λcdv f A outer s H E hr=>(qp (qu (Ka (yC rfl rfl Z.z_isinstance qw rfl Z.z_str Gj (vr 0)) (Ka (gZ (wa rfl hr.units) (qJ (jX rfl) rfl Z.z_len jB (vr 0)) qx) (Uf (Uh Kc Kc jV (vr 0) jV))))))
abbrev uH:Stmt:=top 26
abbrev Qs:List Str:=["thing", "room"]
theorem Wk:FnScope Qs ["thing", "room"] (qd uH):=fsc
noncomputable def kN:Sl->Out (Fl×Sl):=(jf (sIf (dOr (JI (Qc (d1 (yB "tuple") (qg 0)))) (qP (d2 neD (d1 kE (qg 0)) (dC (.int 2))))) (kr (dC (.bl iH))) kn)
  (kr (JZ (qC [.vl] vI (qe (d2 ixD (qg 0) (dC (.int 0))) qF)) (qC [.vl,.vl,.vl] ki (qe (d2 ixD (qg 0) (dC (.int 1))) (qe (dC (.int 0)) (qe (d2 Ua (qg 1) (dC (.int 1))) qF)))))))
noncomputable abbrev uI:List D->Out (D×List D):=vf Qs [.val,.val] (kN)
abbrev gb P w K mg base cv:=DefOk P w K mg base cv 2 "is_worth" ["thing", "room"] [.val,.val] .sh (uI)
theorem Wl (Z:Zt K mg cv ca) (T:jF K mg "is_worth" uH ["thing", "room"]) (y:vt P w K mg base cv) (o:uu P w K mg base cv):gb P w K mg base cv:=
 jc (k:=1) (own':=[]) (fb:=kN) T Wk λcdv f A outer s H E hr=>(qo (jp (PW.pt (yp (jQ (jD rfl (yC rfl rfl Z.z_isinstance qw rfl Z.z_tuple vo (vr 0)) (λ_=>rfl))) (wb (qI (VL rfl hr.units) (qJ (jX rfl) rfl Z.z_len jB (vr 0)) qx)))) (qp (qu QI)) qX)
  (qp (qu (Ka (qr o hr (by decide) qZ rfl (qc (jL rfl hr.units (vr 0) qx (λ_ _=>rfl)) ql)) (Uf (qr y hr (by decide) qZ rfl (qc (jL rfl hr.units (vr 0) qx (λ_ _=>rfl)) (qc qx (qc (jC zx (vr 1) qx) ql)))))))))
abbrev jI:Stmt:=top 27
abbrev wO:List Str:=["thing", "room", "letters"]
theorem sc_is_worths:FnScope wO ["thing", "room"] (qd jI):=fsc
noncomputable def wP:Sl->Out (Fl×Sl):=(jf (sIf (dOr (JI (Qc (d1 (yB "tuple") (qg 0)))) (JI (Qc (d1 qai (jo [] 1 [1] (wo (qg 0)) (gNm 0) ftT (qC [.vl,.vl] uI (qe (qg 0) (qe (qg 1) qF)))))))) (kr (dC (.bl iH))) kn)
  (jf (ku 2 (jo [] 1 [] (wo (qg 0)) (gNm 0) ftT (d2 ixD (qg 0) (dC (.int 0)))))
  (kr (d2 eqD (qg 2) (d1 kC (qg 2))))))
noncomputable abbrev kO:List D->Out (D×List D):=vf wO [.val,.val] (wP)
abbrev xF P w K mg base cv:=DefOk P w K mg base cv 3 "is_worths" ["thing", "room"] [.val,.val] .sh (kO)
theorem Va (Z:Zt K mg cv ca) (T:jF K mg "is_worths" jI ["thing", "room"]) (o:gb P w K mg base cv):xF P w K mg base cv:=
 jc (k:=2) (own':=[]) (fb:=wP) T sc_is_worths λcdv f A outer s H E hr=>(qo (jp (PW.pt (yp (jQ (jD rfl (yC rfl rfl Z.z_isinstance qw rfl Z.z_tuple vo (vr 0)) (λ_=>rfl))) (wb (jQ (jD rfl (qJ (Ks rfl rfl) rfl Z.z_all KW (jE (N:=["part", "room"]) (nt:=1) (cap:=[1]) rfl (wK (names:=(qd jI).names) rfl (by decide +kernel)) (kz (names:=(qd jI).names) (N:=wO) rfl rfl (by decide +kernel)) (jz rfl (vr 0)) (λfp L s1 H1=>(qA (i:=0) (show bq (["part", "room"]:List Str) from by decide +kernel) rfl (aI rfl))) (λfp L s1 H1=>jv) (λfp L s1 H1=>(qr o hr (by decide) yW rfl (qc (vr 0) (qc (vr 1) ql)))))) (λ_=>rfl)))))) (qp (qu QI)) qX)
  (qo (Ul (N:=["part"]) (nt:=1) (cap:=[]) sc_is_worths.nd (i:=2) rfl (aI rfl) rfl (wK (names:=(qd jI).names) rfl (by decide +kernel)) (kz (names:=(qd jI).names) (N:=wO) rfl rfl (by decide +kernel)) (jz rfl (vr 0)) (λfp L s1 H1=>(qA (i:=0) (show bq (["part"]:List Str) from by decide +kernel) rfl (aI rfl))) (λfp L s1 H1=>jv) (λfp L s1 H1=>(jL rfl hr.units (vr 0) qx (λ_ _=>rfl))))
  (QJ [2] (qp (qu (gZ (wa rfl hr.units) (vr 2) (uG rfl rfl rfl Z.z_sorted yH rfl Z.z_set zY (vr 2))))))))
abbrev kU:Stmt:=top 32
abbrev uV:List Str:=["thing", "room"]
theorem gc:FnScope uV ["thing", "room"] (qd kU):=fsc
noncomputable def wj:Sl->Out (Fl×Sl):=(sIf (JI (Qc (qC [.vl,.vl] kO (qe (qg 0) (qe (qg 1) qF))))) (va "NoWorths" (qe (dC (.str "worths are a rising tuple of unlike letters, each with a number within the room")) qF)) kn)
noncomputable abbrev wk:List D->Out (D×List D):=vf uV [.val,.val] (wj)
abbrev uw P w K mg base cv:=DefOk P w K mg base cv 4 "check_worths" ["thing", "room"] [.val,.val] .sh (wk)
theorem ge (Z:Zt K mg cv ca) (T:jF K mg "check_worths" kU ["thing", "room"]) (o:xF P w K mg base cv):uw P w K mg base cv:=
 jc (k:=3) (own':=[]) (fb:=wj) T gc λcdv f A outer s H E hr=>(qp (jp (jQ (jD rfl (qr o hr (by decide) qZ rfl (qc (vr 0) (qc (vr 1) ql))) (λ_=>rfl))) (qp (kX rfl (xA rfl) rfl rfl (Z.mref "NoWorths" (by decide +kernel)) (Z.xs.val "NoWorths" (by decide +kernel)) (Z.xin "NoWorths" (by decide +kernel)) (qc jV ql))) qX))
abbrev wz:Stmt:=top 23
abbrev gf:List Str:=["thing"]
theorem YU:FnScope gf ["thing"] (qd wz):=fsc
noncomputable def gh:Sl->Out (Fl×Sl):=(jf (sIf (dOr (JI (Qc (d1 (yB "str") (qg 0)))) (JI (qP (yq leD leD (dC (.int 1)) (d1 kE (qg 0)) (dC (.int 6)))))) (kr (dC (.bl iH))) kn)
  (kr (d1 qai (jo [] 1 [] (wo (qg 0)) (gNm 0) ftT (qC [.vl] vI (qe (qg 0) qF))))))
noncomputable abbrev ux:List D->Out (D×List D):=vf gf [.val] (gh)
abbrev yZ P w K mg base cv:=DefOk P w K mg base cv 2 "is_word" ["thing"] [.val] .sh (ux)
theorem YV (Z:Zt K mg cv ca) (T:jF K mg "is_word" wz ["thing"]) (o:uu P w K mg base cv):yZ P w K mg base cv:=
 jc (k:=1) (own':=[]) (fb:=gh) T YU λcdv f A outer s H E hr=>(qo (jp (PW.pt (yp (jQ (jD rfl (yC rfl rfl Z.z_isinstance qw rfl Z.z_str Gj (vr 0)) (λ_=>rfl))) (wb (jQ (Kb Kc Kc qx (qJ (jX rfl) rfl Z.z_len jB (vr 0)) (yz Z.c_MOST_LETTERS rfl)))))) (qp (qu QI)) qX)
  (qp (qu (qJ (Ks rfl rfl) rfl Z.z_all KW (jE (N:=["sign"]) (nt:=1) (cap:=[]) rfl (wK (names:=(qd wz).names) rfl (by decide +kernel)) (kz (names:=(qd wz).names) (N:=gf) rfl rfl (by decide +kernel)) (jz rfl (vr 0)) (λfp L s1 H1=>(qA (i:=0) (show bq (["sign"]:List Str) from by decide +kernel) rfl (aI rfl))) (λfp L s1 H1=>jv) (λfp L s1 H1=>(qr o hr (by decide) yW rfl (qc (vr 0) ql))))))))
abbrev vB:Stmt:=top 24
abbrev xa:List Str:=["thing"]
theorem Wm:FnScope xa ["thing"] (qd vB):=fsc
noncomputable def xb:Sl->Out (Fl×Sl):=(jf (sIf (dOr (JI (Qc (d1 (yB "tuple") (qg 0)))) (JI (qP (yq leD leD (dC (.int 1)) (d1 kE (qg 0)) (dC (.int 6)))))) (kr (dC (.bl iH))) kn)
  (kr (JZ (d1 qai (jo [] 1 [] (wo (qg 0)) (gNm 0) ftT (qC [.vl] ux (qe (qg 0) qF)))) (d2 eqD (d1 zT (qg 0)) (d1 kE (qg 0))))))
noncomputable abbrev xc:List D->Out (D×List D):=vf xa [.val] (xb)
abbrev gi P w K mg base cv:=DefOk P w K mg base cv 3 "is_words" ["thing"] [.val] .sh (xc)
theorem Wn (Z:Zt K mg cv ca) (T:jF K mg "is_words" vB ["thing"]) (o:yZ P w K mg base cv):gi P w K mg base cv:=
 jc (k:=2) (own':=[]) (fb:=xb) T Wm λcdv f A outer s H E hr=>(qo (jp (PW.pt (yp (jQ (jD rfl (yC rfl rfl Z.z_isinstance qw rfl Z.z_tuple vo (vr 0)) (λ_=>rfl))) (wb (jQ (Kb Kc Kc qx (qJ (jX rfl) rfl Z.z_len jB (vr 0)) (yz Z.c_MOST_WORDS rfl)))))) (qp (qu QI)) qX)
  (qp (qu (Ka (qJ (Ks rfl rfl) rfl Z.z_all KW (jE (N:=["part"]) (nt:=1) (cap:=[]) rfl (wK (names:=(qd vB).names) rfl (by decide +kernel)) (kz (names:=(qd vB).names) (N:=xa) rfl rfl (by decide +kernel)) (jz rfl (vr 0)) (λfp L s1 H1=>(qA (i:=0) (show bq (["part"]:List Str) from by decide +kernel) rfl (aI rfl))) (λfp L s1 H1=>jv) (λfp L s1 H1=>(qr o hr (by decide) yW rfl (qc (vr 0) ql))))) (Uf (gZ (wa rfl hr.units) (ZM rfl rfl rfl Z.z_len jB rfl Z.z_set zY (vr 0)) (qJ (jX rfl) rfl Z.z_len jB (vr 0))))))))
abbrev vw:Stmt:=top 28
abbrev yJ:List Str:=["thing"]
theorem gN:FnScope yJ ["thing"] (qd vw):=fsc
noncomputable def wQ:Sl->Out (Fl×Sl):=(sIf (JI (Qc (qC [.vl] xc (qe (qg 0) qF)))) (va "NoWords" (qe (dC (.str "words are a tuple of 1 to 6 unlike words of 1 to 6 letters from a to z")) qF)) kn)
noncomputable abbrev wR:List D->Out (D×List D):=vf yJ [.val] (wQ)
abbrev uW P w K mg base cv:=DefOk P w K mg base cv 4 "check_words" ["thing"] [.val] .sh (wR)
theorem gO (Z:Zt K mg cv ca) (T:jF K mg "check_words" vw ["thing"]) (o:gi P w K mg base cv):uW P w K mg base cv:=
 jc (k:=3) (own':=[]) (fb:=wQ) T gN λcdv f A outer s H E hr=>(qp (jp (jQ (jD rfl (qr o hr (by decide) qZ rfl (qc (vr 0) ql)) (λ_=>rfl))) (qp (kX rfl (xA rfl) rfl rfl (Z.mref "NoWords" (by decide +kernel)) (Z.xs.val "NoWords" (by decide +kernel)) (Z.xin "NoWords" (by decide +kernel)) (qc jV ql))) qX))
abbrev wA:Stmt:=top 25
abbrev gj:List Str:=["thing"]
theorem YW:FnScope gj ["thing"] (qd wA):=fsc
noncomputable def gk:Sl->Out (Fl×Sl):=(jf (sIf (dOr (JI (Qc (d1 (yB "tuple") (qg 0)))) (qP (d2 neD (d1 kE (qg 0)) (dC (.int 2))))) (kr (dC (.bl iH))) kn)
  (kr (d1 qai (jo [] 1 [] (wo (qg 0)) (gNm 0) ftT (qC [.vl,.vl,.vl] ki (qe (qg 0) (qe (dC (.int (-3))) (qe (dC (.int 2)) qF))))))))
noncomputable abbrev gl:List D->Out (D×List D):=vf gj [.val] (gk)
abbrev Qt P w K mg base cv:=DefOk P w K mg base cv 2 "is_look" ["thing"] [.val] .sh (gl)
theorem YX (Z:Zt K mg cv ca) (T:jF K mg "is_look" wA ["thing"]) (o:vt P w K mg base cv):Qt P w K mg base cv:=
 jc (k:=1) (own':=[]) (fb:=gk) T YW λcdv f A outer s H E hr=>(qo (jp (PW.pt (yp (jQ (jD rfl (yC rfl rfl Z.z_isinstance qw rfl Z.z_tuple vo (vr 0)) (λ_=>rfl))) (wb (qI (VL rfl hr.units) (qJ (jX rfl) rfl Z.z_len jB (vr 0)) qx)))) (qp (qu QI)) qX)
  (qp (qu (qJ (Ks rfl rfl) rfl Z.z_all KW (jE (N:=["place"]) (nt:=1) (cap:=[]) rfl (wK (names:=(qd wA).names) rfl (by decide +kernel)) (kz (names:=(qd wA).names) (N:=gj) rfl rfl (by decide +kernel)) (jz rfl (vr 0)) (λfp L s1 H1=>(qA (i:=0) (show bq (["place"]:List Str) from by decide +kernel) rfl (aI rfl))) (λfp L s1 H1=>jv) (λfp L s1 H1=>(qr o hr (by decide) yW rfl (qc (vr 0) (qc (yz Z.c_LEAST_PLACE rfl) (qc (yz Z.c_MOST_PLACE rfl) ql))))))))))
abbrev vX:Stmt:=top 30
abbrev xG:List Str:=["thing"]
theorem Jh:FnScope xG ["thing"] (qd vX):=fsc
noncomputable def uy:Sl->Out (Fl×Sl):=(sIf (JI (Qc (qC [.vl] gl (qe (qg 0) qF)))) (va "NoLook" (qe (dC (.str "a look is a tuple of two places from -3 to 2")) qF)) kn)
noncomputable abbrev uz:List D->Out (D×List D):=vf xG [.val] (uy)
abbrev yK P w K mg base cv:=DefOk P w K mg base cv 3 "check_look" ["thing"] [.val] .sh (uz)
theorem Ji (Z:Zt K mg cv ca) (T:jF K mg "check_look" vX ["thing"]) (o:Qt P w K mg base cv):yK P w K mg base cv:=
 jc (k:=2) (own':=[]) (fb:=uy) T Jh λcdv f A outer s H E hr=>(qp (jp (jQ (jD rfl (qr o hr (by decide) qZ rfl (qc (vr 0) ql)) (λ_=>rfl))) (qp (kX rfl (xA rfl) rfl rfl (Z.mref "NoLook" (by decide +kernel)) (Z.xs.val "NoLook" (by decide +kernel)) (Z.xin "NoLook" (by decide +kernel)) (qc jV ql))) qX))
abbrev wS:Stmt:=top 34
abbrev gm:List Str:=["word", "place", "at"]
theorem sc_letter_at:FnScope gm ["word", "place"] (qd wS):=fsc
noncomputable def wT:Sl->Out (Fl×Sl):=(jf (ku 2 (dIf (qP (d2 geD (qg 1) (dC (.int 0)))) (qg 1) (d2 wc (d1 kE (qg 0)) (qg 1))))
  (kr (d2 ixD (qg 0) (d2 qgs (dC (.int 0)) (d2 qgt (qg 2) (d2 Ua (d1 kE (qg 0)) (dC (.int 1))))))))
noncomputable abbrev vJ:List D->Out (D×List D):=vf gm [.val,.val] (wT)
abbrev xH P w K mg base cv:=DefOk P w K mg base cv 1 "letter_at" ["word", "place"] [.val,.val] .sh (vJ)
theorem Vb (Z:Zt K mg cv ca) (T:jF K mg "letter_at" wS ["word", "place"]):xH P w K mg base cv:=
 jc (k:=0) (own':=[]) (fb:=wT) T sc_letter_at λcdv f A outer s H E hr=>(qo (qL (i:=2) sc_letter_at.nd rfl (aI rfl) (xP (qI qda (vr 1) qx) (vr 1) (jC (kW rfl) (qJ (jX rfl) rfl Z.z_len jB (vr 0)) (vr 1))))
  (qp (qu (jL rfl hr.units (vr 0) (Kr (qfj rfl) rfl Z.z_max qfO qx (Kr (qfk rfl) rfl Z.z_min qfP (vr 2) (jC zx (qJ (jX rfl) rfl Z.z_len jB (vr 0)) qx))) (λ_ _=>rfl)))))
abbrev xf:Stmt:=top 35
abbrev Wo:List Str:=["words", "look"]
theorem qbq:FnScope Wo ["words", "look"] (qd xf):=fsc
noncomputable def Wp:Sl->Out (Fl×Sl):=(jf (uP (qC [.vl] wR (qe (qg 0) qF)))
  (jf (uP (qC [.vl] uz (qe (qg 1) qF)))
  (kr (jo [] 1 [1] (wo (qg 0)) (gNm 0) ftT (wG (qe (qC [.vl,.vl] vJ (qe (qg 0) (qe (d2 ixD (qg 1) (dC (.int 0))) qF))) (qe (qC [.vl,.vl] vJ (qe (qg 0) (qe (d2 ixD (qg 1) (dC (.int 1))) qF))) qF)))))))
noncomputable abbrev Wq:List D->Out (D×List D):=vf Wo [.val,.val] (Wp)
abbrev UO P w K mg base cv:=DefOk P w K mg base cv 5 "pairs" ["words", "look"] [.val,.val] .sh (Wq)
theorem qbr (Z:Zt K mg cv ca) (T:jF K mg "pairs" xf ["words", "look"]) (b:uW P w K mg base cv) (a:yK P w K mg base cv) (o:xH P w K mg base cv):UO P w K mg base cv:=
 jc (k:=4) (own':=[]) (fb:=Wp) T qbq λcdv f A outer s H E hr=>(qo (jZ (qr b hr (by decide) qZ rfl (qc (vr 0) ql)))
  (qo (jZ (qr a hr (by decide) qZ rfl (qc (vr 1) ql)))
  (qp (qu (jE (N:=["word", "look"]) (nt:=1) (cap:=[1]) rfl (wK (names:=(qd xf).names) rfl (by decide +kernel)) (kz (names:=(qd xf).names) (N:=Wo) rfl rfl (by decide +kernel)) (jz rfl (vr 0)) (λfp L s1 H1=>(qA (i:=0) (show bq (["word", "look"]:List Str) from by decide +kernel) rfl (aI rfl))) (λfp L s1 H1=>jv) (λfp L s1 H1=>(jA (qc (qr o hr (by decide) yW rfl (qc (vr 0) (qc (jL rfl hr.units (vr 1) qx (λ_ _=>rfl)) ql))) (qc (qr o hr (by decide) yW rfl (qc (vr 0) (qc (jL rfl hr.units (vr 1) qx (λ_ _=>rfl)) ql))) ql)))))))))
abbrev jr:Stmt:=top 36
abbrev vY:List Str:=["seen"]
theorem Jj:FnScope vY ["seen"] (qd jr):=fsc
noncomputable def uA:Sl->Out (Fl×Sl):=(kr (d1 kC (d2 wc (jo [] 1 [] (wo (qg 0)) (gNm 0) ftT (d2 ixD (qg 0) (dC (.int 0)))) (jo [] 1 [] (wo (qg 0)) (gNm 0) ftT (d2 ixD (qg 0) (dC (.int 1)))))))
noncomputable abbrev kZ:List D->Out (D×List D):=vf vY [.val] (uA)
abbrev yL P w K mg base cv:=DefOk P w K mg base cv 1 "letters_of" ["seen"] [.val] .sh (kZ)
theorem Jk (Z:Zt K mg cv ca) (T:jF K mg "letters_of" jr ["seen"]):yL P w K mg base cv:=
 jc (k:=0) (own':=[]) (fb:=uA) T Jj λcdv f A outer s H E hr=>(qp (qu (uG rfl rfl rfl Z.z_sorted yH rfl Z.z_set zY (jC (kW rfl) (jE (N:=["pair"]) (nt:=1) (cap:=[]) rfl (wK (names:=(qd jr).names) rfl (by decide +kernel)) (kz (names:=(qd jr).names) (N:=vY) rfl rfl (by decide +kernel)) (jz rfl (vr 0)) (λfp L s1 H1=>(qA (i:=0) (show bq (["pair"]:List Str) from by decide +kernel) rfl (aI rfl))) (λfp L s1 H1=>jv) (λfp L s1 H1=>(jL rfl hr.units (vr 0) qx (λ_ _=>rfl)))) (jE (N:=["pair"]) (nt:=1) (cap:=[]) rfl (wK (names:=(qd jr).names) rfl (by decide +kernel)) (kz (names:=(qd jr).names) (N:=vY) rfl rfl (by decide +kernel)) (jz rfl (vr 0)) (λfp L s1 H1=>(qA (i:=0) (show bq (["pair"]:List Str) from by decide +kernel) rfl (aI rfl))) (λfp L s1 H1=>jv) (λfp L s1 H1=>(jL rfl hr.units (vr 0) qx (λ_ _=>rfl))))))))
abbrev zf:Stmt:=top 37
abbrev UP:List Str:=["total", "room"]
theorem Gk:FnScope UP ["total", "room"] (qd zf):=fsc
noncomputable def Jl:Sl->Out (Fl×Sl):=(kr (dIf (qP (d2 geD (qg 0) (qg 1))) (d2 Ua (qg 0) (qg 1)) (qg 0)))
noncomputable abbrev zg:List D->Out (D×List D):=vf UP [.val,.val] (Jl)
abbrev Vc P w K mg base cv:=DefOk P w K mg base cv 1 "within" ["total", "room"] [.val,.val] .sh (zg)
theorem Gm (Z:Zt K mg cv ca) (T:jF K mg "within" zf ["total", "room"]):Vc P w K mg base cv:=
 jc (k:=0) (own':=[]) (fb:=Jl) T Gk λcdv f A outer s H E hr=>(qp (qu (xP (qI qda (vr 0) (vr 1)) (jC zx (vr 0) (vr 1)) (vr 0))))
abbrev kj:Stmt:=top 38
abbrev uJ:List Str:=["words", "look", "room", "worths", "seen", "worth_of"]
theorem sc_numbered:FnScope uJ ["words", "look", "room", "worths"] (qd kj):=fsc
noncomputable def uK:Sl->Out (Fl×Sl):=(jf (ku 4 (qC [.vl,.vl] Wq (qe (qg 0) (qe (qg 1) qF))))
  (jf (uP (qC [.vl] ut (qe (qg 2) qF)))
  (jf (uP (qC [.vl,.vl] wk (qe (qg 3) (qe (qg 2) qF))))
  (jf (ku 5 (d1 gJ (qg 3)))
  (jf (sIf (JI (Qc (d1 qai (jo [] 1 [5] (wo (qC [.vl] kZ (qe (qg 4) qF))) (gNm 0) ftT (d2 inA (qg 0) (qg 1)))))) (va "NoWorths" (qe (dC (.str "a letter that is seen has no worth")) qF)) kn)
  (kr (d1 wY (jo [] 1 [2,5] (wo (qg 4)) (gNm 0) ftT (qC [.vl,.vl] zg (qe (d2 wc (d2 ixD (qg 2) (d2 ixD (qg 0) (dC (.int 0)))) (d2 ixD (qg 2) (d2 ixD (qg 0) (dC (.int 1))))) (qe (qg 1) qF)))))))))))
noncomputable abbrev kl:List D->Out (D×List D):=vf uJ [.val,.val,.val,.val] (uK)
abbrev yh P w K mg base cv:=DefOk P w K mg base cv 6 "numbered" ["words", "look", "room", "worths"] [.val,.val,.val,.val] .sh (kl)
theorem Wr (Z:Zt K mg cv ca) (T:jF K mg "numbered" kj ["words", "look", "room", "worths"]) (o:yI P w K mg base cv) (J:uw P w K mg base cv) (O:UO P w K mg base cv) (M:yL P w K mg base cv) (a:Vc P w K mg base cv):yh P w K mg base cv:=
 jc (k:=5) (own':=[]) (fb:=uK) T sc_numbered λcdv f A outer s H E hr=>(qo (qL (i:=4) sc_numbered.nd rfl (aI rfl) (qr O hr (by decide) qZ rfl (qc (vr 0) (qc (vr 1) ql))))
  (qo (jZ (qr o hr (by decide) qZ rfl (qc (vr 2) ql)))
  (qo (jZ (qr J hr (by decide) qZ rfl (qc (vr 3) (qc (vr 2) ql))))
  (qo (qL (i:=5) sc_numbered.nd rfl (cF rfl) (jW (VR rfl rfl) rfl Z.z_dict Wj (vr 3)))
  (qo (jp (jQ (jD rfl (qJ (Ks rfl rfl) rfl Z.z_all KW (jE (N:=["letter", "worth_of"]) (nt:=1) (cap:=[5]) rfl (wK (names:=(qd kj).names) rfl (by decide +kernel)) (kz (names:=(qd kj).names) (N:=uJ) rfl rfl (by decide +kernel)) (jz rfl (qr M hr (by decide) qZ rfl (qc (vr 4) ql))) (λfp L s1 H1=>(qA (i:=0) (show bq (["letter", "worth_of"]:List Str) from by decide +kernel) rfl (aI rfl))) (λfp L s1 H1=>jv) (λfp L s1 H1=>(gZ (qfr rfl hr.units) (vr 0) (vr 1))))) (λ_=>rfl))) (qp (kX rfl (xA rfl) rfl rfl (Z.mref "NoWorths" (by decide +kernel)) (Z.xs.val "NoWorths" (by decide +kernel)) (Z.xin "NoWorths" (by decide +kernel)) (qc jV ql))) qX)
  (qp (qu (jW (yA rfl) rfl Z.z_tuple vo (jE (N:=["pair", "room", "worth_of"]) (nt:=1) (cap:=[2,5]) rfl (wK (names:=(qd kj).names) rfl (by decide +kernel)) (kz (names:=(qd kj).names) (N:=uJ) rfl rfl (by decide +kernel)) (jz rfl (vr 4)) (λfp L s1 H1=>(qA (i:=0) (show bq (["pair", "room", "worth_of"]:List Str) from by decide +kernel) rfl (aI rfl))) (λfp L s1 H1=>jv) (λfp L s1 H1=>(qr a hr (by decide) yW rfl (qc (jC (kW rfl) (jL rfl hr.units (vr 2) (jL rfl hr.units (vr 0) qx (λ_ _=>rfl)) (λ_ _=>rfl)) (jL rfl hr.units (vr 2) (jL rfl hr.units (vr 0) qx (λ_ _=>rfl)) (λ_ _=>rfl))) (qc (vr 1) ql)))))))))))))
abbrev jn:Stmt:=yT (top 40) 0
abbrev vK:List Str:=["self", "words", "look", "room", "worths", "numbers", "word", "number"]
theorem sc_Book___init__:FnScope vK ["self", "words", "look", "room", "worths"] (qd jn):=fsc
noncomputable def vL (ca:Str->Addr):Sl->Out (Fl×Sl):=(jf (ku 5 (qC [.vl,.vl,.vl,.vl] kl (qe (qg 1) (qe (qg 2) (qe (qg 3) (qe (qg 4) qF))))))
  (jf (sIf (qP (d2 ltD (d1 kT (qg 5)) (d1 kE (qg 5)))) (va "Never" (qe (dC (.str "two words have one number")) qF)) kn)
  (jf (ZZ (ca "Book") 0 "look" (qg 2))
  (jf (ZZ (ca "Book") 0 "width" (qg 3))
  (jf (ZZ (ca "Book") 0 "worths" (qg 4))
  (KS (ca "Book") 0 "standing" (d2 qfD (yU (qe (dC .non) qF)) (qg 3)) (qg8 (qe (qg 1) (qe (qg 5) qF))) (wf 2 (qS (gNm 6) (qS (gNm 7) we))) (qg 6) (qg 7)))))))
noncomputable abbrev jJ (ca:Str->Addr):List D->Out (List (Str×D)):=qeq (ca "Book") vK (vL ca)
abbrev ua (ca:Str->Addr) P w K mg base cv:=qdL P w K mg base cv 7 (ca "Book") "asked" ["self", "words", "look", "room", "worths"] 4 (jJ ca)
theorem xU (Z:Zt K mg cv ca) (T:qdE K (ca "Book") "Book.__init__" jn ["self", "words", "look", "room", "worths"]) (o:yh P w K mg base cv):ua ca P w K mg base cv:=
 qbm (k:=6) (n:=4) (cv:=cv) T sc_Book___init__ Z.b_cls (Z.b_no "asked" (by decide +kernel)) λcdv f A outer s H E hr=>(wx (qL (i:=5) sc_Book___init__.nd rfl (aI rfl) (qr o hr (by decide) qZ rfl (qc (vr 1) (qc (vr 2) (qc (vr 3) (qc (vr 4) ql))))))
  (wx (jp (qI qc6 (Qq rfl rfl rfl Z.z_len jB rfl Z.z_set zY (vr 5)) (qJ (jX rfl) rfl Z.z_len jB (vr 5))) (qp (kX rfl (xA rfl) rfl rfl (Z.mref "Never" (by decide +kernel)) (Z.xs.val "Never" (by decide +kernel)) (Z.xin "Never" (by decide +kernel)) (qc jV ql))) qX)
  (wx (Wf rfl Z.b_cls (Z.b_no "look" (by decide +kernel)) (i:=0) rfl (aI rfl) (by decide) (vr 2))
  (wx (Wf rfl Z.b_cls (Z.b_no "width" (by decide +kernel)) (i:=0) rfl (aI rfl) (by decide) (vr 3))
  (wx (Wf rfl Z.b_cls (Z.b_no "worths" (by decide +kernel)) (i:=0) rfl (aI rfl) (by decide) (vr 4))
  (Gb (own:=[0]) (own1:=[]) rfl (λj=>by simp) Z.b_cls (Z.b_no "standing" (by decide +kernel)) (i:=0) rfl (aI rfl) (by decide) (qhk rfl) dD rfl (jC (qdD rfl) (vd (qc xy ql)) (vr 3)) (qdy rfl rfl Z.z_zip (vr 1) (vr 5)) (uh rfl rfl (qN (qA (i:=6) sc_Book___init__.nd rfl (aI rfl)) (qN (qA (i:=7) sc_Book___init__.nd rfl (aI rfl)) vQ))) (vr 6) (vr 7)
  (Vz (XA (uQ (i:=0) rfl (aI rfl)) (vd ql) rfl))))))))
abbrev jN:Stmt:=yT (top 40) 1
abbrev yM:List Str:=["self"]
theorem gP:FnScope yM ["self"] (qd jN):=fsc
noncomputable def wU (ca:Str->Addr):Sl->Out (Fl×Sl):=(kr (d1 YH (d1 (zV (ca "Book") "standing") (qg 0))))
noncomputable abbrev kD (ca:Str->Addr):List D->Out (D×List D):=vf yM [.val] (wU ca)
abbrev uX (ca:Str->Addr) P w K mg base cv:=KQ P w K mg base cv 1 (ca "Book") "places" ["self"] [.val] .fr (kD ca)
theorem gQ (Z:Zt K mg cv ca) (T:xT K (ca "Book") "places" "Book.places" jN ["self"]):uX ca P w K mg base cv:=
 Ga (k:=0) (own':=[]) (fb:=wU ca) (hmr:=.inr λ_ _=>qfH) T gP λcdv f A outer s H E hr=>(qp (Zb (jW (Zp rfl) rfl Z.z_list Gi (wZ rfl Z.b_cls (Z.b_no "standing" (by decide +kernel)) (vr 0)))))
abbrev uL:Stmt:=top 42
abbrev Qu:List Str:=["_law_script", "_law_k"]
theorem Ws:FnScope Qu ["_law_script", "_law_k"] (qd uL):=fsc
noncomputable def wB:Sl->Out (Fl×Sl):=(jf (sIf (qP (d2 ltD (qg 1) (d1 kE (qg 0)))) (kr (d2 ixD (qg 0) (qg 1))) kn)
  (jf (sIf (qP (d2 eqD (qg 0) (yU qF))) (kr (dC (.int 0))) kn)
  (kr (d2 wc (d2 qek (d2 ixD (qg 0) (d2 Ub (qg 1) (d1 kE (qg 0)))) (dC (.int 31))) (qg 1)))))
noncomputable abbrev xg:List D->Out (D×List D):=vf Qu [.val,.val] (wB)
abbrev gp P w K mg base cv:=DefOk P w K mg base cv 1 "_law_cell_at" ["_law_script", "_law_k"] [.val,.val] .sh (xg)
theorem Wt (Z:Zt K mg cv ca) (T:jF K mg "_law_cell_at" uL ["_law_script", "_law_k"]):gp P w K mg base cv:=
 jc (k:=0) (own':=[]) (fb:=wB) T Ws λcdv f A outer s H E hr=>(qo (jp (qI qc6 (vr 1) (qJ (jX rfl) rfl Z.z_len jB (vr 0))) (qp (qu (jL rfl hr.units (vr 0) (vr 1) (λ_ _=>rfl)))) qX)
  (qo (jp (qI (wa rfl hr.units) (vr 0) (vd ql)) (qp (qu qx)) qX)
  (qp (qu (jC (kW rfl) (jC XR (jL rfl hr.units (vr 0) (jC zy (vr 1) (qJ (jX rfl) rfl Z.z_len jB (vr 0))) (λ_ _=>rfl)) qx) (vr 1))))))
abbrev zh:Stmt:=top 43
abbrev UQ:List Str:=["_law_script", "_law_k", "_law_many", "_law_drawn"]
theorem sc_Lmixed:FnScope UQ ["_law_script", "_law_k", "_law_many"] (qd zh):=fsc
noncomputable def Jm:Sl->Out (Fl×Sl):=(jf (ku 3 (d2 Ub (d2 wc (d2 wc (d2 qek (qC [.vl,.vl] xg (qe (qg 0) (qe (qg 1) qF))) (dC (.int 1103515245))) (d2 qek (dC (.int 7919)) (qg 1))) (dC (.int 12345))) (dC (.int 2147483647))))
  (kr (d2 Ub (d2 Ub (d2 Ub (d2 qhi (qg 3) (dC (.int 5))) (dC (.int 2147483647))) (dC (.int 999983))) (qg 2))))
noncomputable abbrev Jn:List D->Out (D×List D):=vf UQ [.val,.val,.val] (Jm)
abbrev Vd P w K mg base cv:=DefOk P w K mg base cv 2 "_law_mixed" ["_law_script", "_law_k", "_law_many"] [.val,.val,.val] .sh (Jn)
theorem Gn (Z:Zt K mg cv ca) (T:jF K mg "_law_mixed" zh ["_law_script", "_law_k", "_law_many"]) (o:gp P w K mg base cv):Vd P w K mg base cv:=
 jc (k:=1) (own':=[]) (fb:=Jm) T sc_Lmixed λcdv f A outer s H E hr=>(qo (qL (i:=3) sc_Lmixed.nd rfl (aI rfl) (jC zy (jC (kW rfl) (jC (kW rfl) (jC XR (qr o hr (by decide) qZ rfl (qc (vr 0) (qc (vr 1) ql))) qx) (jC XR qx (vr 1))) qx) qx))
  (qp (qu (jC zy (jC zy (jC zy (jC qfC (vr 3) qx) qx) qx) (vr 2)))))
abbrev Jo:Stmt:=top 44
abbrev Go:List Str:=["_law_script", "_law_town", "_law_many"]
theorem qbs:FnScope Go ["_law_script", "_law_town", "_law_many"] (qd Jo):=fsc
noncomputable def Wu:Sl->Out (Fl×Sl):=(jf (uP (Uq 1 Zo (dC (.int 0))))
  (kr (qC [.vl,.vl,.vl] Jn (qe (qg 0) (qe (d1 kE (qg 1)) (qe (qg 2) qF))))))
noncomputable abbrev ke:List D->Out (D×List D):=vf Go [.val,.io,.val] (Wu)
abbrev wV P w K mg base cv:=DefOk P w K mg base cv 3 "_law_draw" ["_law_script", "_law_town", "_law_many"] [.val,.io,.val] .sh (ke)
theorem qbt (Z:Zt K mg cv ca) (T:jF K mg "_law_draw" Jo ["_law_script", "_law_town", "_law_many"]) (o:Vd P w K mg base cv):wV P w K mg base cv:=
 jc (k:=2) (own':=[1]) (fb:=Wu) T qbs λcdv f A outer s H E hr=>(qo (jZ (zG (i:=1) rfl rfl (aI rfl) (by decide) qx))
  (qp (qu (qr o hr (by decide) qZ rfl (qc (vr 0) (qc (qJ (jX rfl) rfl Z.z_len jB (QH (i:=1) rfl (aI rfl) (by decide))) (qc (vr 2) ql)))))))
abbrev Jp:Stmt:=top 45
abbrev Gp:List Str:=["_law_script", "_law_town", "_law_some"]
theorem qbu:FnScope Gp ["_law_script", "_law_town", "_law_some"] (qd Jp):=fsc
noncomputable def Jq:Sl->Out (Fl×Sl):=(kr (d2 ixD (qg 2) (qC [.vl,.sl 1,.vl] ke (qe (qg 0) (jR (qe (d1 kE (qg 2)) qF))))))
noncomputable abbrev kf:List D->Out (D×List D):=vf Gp [.val,.io,.val] (Jq)
abbrev yN P w K mg base cv:=DefOk P w K mg base cv 4 "_law_pick" ["_law_script", "_law_town", "_law_some"] [.val,.io,.val] .sh (kf)
theorem qbv (Z:Zt K mg cv ca) (T:jF K mg "_law_pick" Jp ["_law_script", "_law_town", "_law_some"]) (o:wV P w K mg base cv):yN P w K mg base cv:=
 jc (k:=3) (own':=[1]) (fb:=Jq) T qbu λcdv f A outer s H E hr=>(qp (qu (jL rfl hr.units (vr 2) (qr o hr (by decide) qZ rfl (qc (vr 0) (qU (i:=1) rfl (aI rfl) (by decide) (qc (qJ (jX rfl) rfl Z.z_len jB (vr 2)) ql)))) (λ_ _=>rfl))))
abbrev YY:Stmt:=top 49
abbrev qdT:List Str:=["_law_word_here", "_law_place", "_law_spots"]
theorem sc_Lat:FnScope qdT ["_law_word_here", "_law_place"] (qd YY):=fsc
noncomputable def qfQ:Sl->Out (Fl×Sl):=(jf (ku 2 (jo [] 1 [1,0] (kx (d1 kE (qg 0))) (gNm 0) (dOr (qP (d2 eqD (qg 0) (qg 1))) (qP (d2 eqD (qg 0) (d2 wc (qg 1) (d1 kE (qg 2)))))) (qg 0)))
  (jf (sIf (qP (d2 neD (qg 2) (yU qF))) (kr (d2 ixD (qg 0) (d2 ixD (qg 2) (dC (.int 0))))) kn)
  (kr (dIf (qP (d2 geD (qg 1) (dC (.int 0)))) (d2 ixD (qg 0) (d1 YG (dC (.int 1)))) (d2 ixD (qg 0) (dC (.int 0)))))))
noncomputable abbrev Gq:List D->Out (D×List D):=vf qdT [.val,.val] (qfQ)
abbrev qcq P w K mg base cv:=DefOk P w K mg base cv 1 "_law_at" ["_law_word_here", "_law_place"] [.val,.val] .sh (Gq)
theorem qfR (Z:Zt K mg cv ca) (T:jF K mg "_law_at" YY ["_law_word_here", "_law_place"]):qcq P w K mg base cv:=
 jc (k:=0) (own':=[]) (fb:=qfQ) T sc_Lat λcdv f A outer s H E hr=>(qo (Ul (N:=["_law_at_here", "_law_place", "_law_word_here"]) (nt:=1) (cap:=[1,0]) sc_Lat.nd (i:=2) rfl (aI rfl) rfl (wK (names:=(qd YY).names) rfl (by decide +kernel)) (kz (names:=(qd YY).names) (N:=qdT) rfl rfl (by decide +kernel)) (wt rfl Z.z_range (qJ (jX rfl) rfl Z.z_len jB (vr 0))) (λfp L s1 H1=>(qA (i:=0) (show bq (["_law_at_here", "_law_place", "_law_word_here"]:List Str) from by decide +kernel) rfl (aI rfl))) (λfp L s1 H1=>(QR (PW.pt (yp (qI (wa rfl hr.units) (vr 0) (vr 1)) (wb (qI (wa rfl hr.units) (vr 0) (jC (kW rfl) (vr 1) (qJ (jX rfl) rfl Z.z_len jB (vr 2))))))))) (λfp L s1 H1=>(vr 0)))
  (QJ [2] (qo (jp (qI (VL rfl hr.units) (vr 2) (vd ql)) (qp (qu (jL rfl hr.units (vr 0) (jL rfl hr.units (vr 2) qx (λ_ _=>rfl)) (λ_ _=>rfl)))) qX)
  (qp (qu (xP (qI qda (vr 1) qx) (jL rfl hr.units (vr 0) (Yy Ql qx) (λ_ _=>rfl)) (jL rfl hr.units (vr 0) qx (λ_ _=>rfl))))))))
abbrev xh:Stmt:=top 50
abbrev Jr:List Str:=["_law_words_here", "_law_look_here"]
theorem qbw:FnScope Jr ["_law_words_here", "_law_look_here"] (qd xh):=fsc
noncomputable def Wv:Sl->Out (Fl×Sl):=(kr (jo [] 1 [1] (wo (qg 0)) (gNm 0) ftT (wG (qe (qC [.vl,.vl] Gq (qe (qg 0) (qe (d2 ixD (qg 1) (dC (.int 0))) qF))) (qe (qC [.vl,.vl] Gq (qe (qg 0) (qe (d2 ixD (qg 1) (dC (.int 1))) qF))) qF)))))
noncomputable abbrev yi:List D->Out (D×List D):=vf Jr [.val,.val] (Wv)
abbrev zi P w K mg base cv:=DefOk P w K mg base cv 2 "_law_seen" ["_law_words_here", "_law_look_here"] [.val,.val] .sh (yi)
theorem qbx (Z:Zt K mg cv ca) (T:jF K mg "_law_seen" xh ["_law_words_here", "_law_look_here"]) (o:qcq P w K mg base cv):zi P w K mg base cv:=
 jc (k:=1) (own':=[]) (fb:=Wv) T qbw λcdv f A outer s H E hr=>(qp (qu (jE (N:=["_law_word_here", "_law_look_here"]) (nt:=1) (cap:=[1]) rfl (wK (names:=(qd xh).names) rfl (by decide +kernel)) (kz (names:=(qd xh).names) (N:=Jr) rfl rfl (by decide +kernel)) (jz rfl (vr 0)) (λfp L s1 H1=>(qA (i:=0) (show bq (["_law_word_here", "_law_look_here"]:List Str) from by decide +kernel) rfl (aI rfl))) (λfp L s1 H1=>jv) (λfp L s1 H1=>(jA (qc (qr o hr (by decide) yW rfl (qc (vr 0) (qc (jL rfl hr.units (vr 1) qx (λ_ _=>rfl)) ql))) (qc (qr o hr (by decide) yW rfl (qc (vr 0) (qc (jL rfl hr.units (vr 1) qx (λ_ _=>rfl)) ql))) ql)))))))
abbrev YZ:Stmt:=top 52
abbrev qby:List Str:=["_law_words_here", "_law_look_here", "_law_room", "_law_book"]
theorem qfS:FnScope qby ["_law_words_here", "_law_look_here", "_law_room", "_law_book"] (qd YZ):=fsc
noncomputable def qdU:Sl->Out (Fl×Sl):=(kr (d1 wY (jo [] 2 [2,3] (wo (qC [.vl,.vl] yi (qe (qg 0) (qe (qg 1) qF)))) (wf 2 (qS (gNm 0) (qS (gNm 1) we))) ftT (d2 Ub (d2 wc (d2 ixD (qg 3) (qg 0)) (d2 ixD (qg 3) (qg 1))) (qg 2)))))
noncomputable abbrev Ww:List D->Out (D×List D):=vf qby [.val,.val,.val,.val] (qdU)
abbrev Gr P w K mg base cv:=DefOk P w K mg base cv 3 "_law_by" ["_law_words_here", "_law_look_here", "_law_room", "_law_book"] [.val,.val,.val,.val] .sh (Ww)
theorem qfT (Z:Zt K mg cv ca) (T:jF K mg "_law_by" YZ ["_law_words_here", "_law_look_here", "_law_room", "_law_book"]) (o:zi P w K mg base cv):Gr P w K mg base cv:=
 jc (k:=2) (own':=[]) (fb:=qdU) T qfS λcdv f A outer s H E hr=>(qp (qu (jW (yA rfl) rfl Z.z_tuple vo (jE (N:=["_law_one", "_law_other", "_law_room", "_law_book"]) (nt:=2) (cap:=[2,3]) rfl (wK (names:=(qd YZ).names) rfl (by decide +kernel)) (kz (names:=(qd YZ).names) (N:=qby) rfl rfl (by decide +kernel)) (jz rfl (qr o hr (by decide) qZ rfl (qc (vr 0) (qc (vr 1) ql)))) (λfp L s1 H1=>(uh rfl rfl (qN (qA (i:=0) (show bq (["_law_one", "_law_other", "_law_room", "_law_book"]:List Str) from by decide +kernel) rfl (aI rfl)) (qN (qA (i:=1) (show bq (["_law_one", "_law_other", "_law_room", "_law_book"]:List Str) from by decide +kernel) rfl (aI rfl)) vQ)))) (λfp L s1 H1=>jv) (λfp L s1 H1=>(jC zy (jC (kW rfl) (jL rfl hr.units (vr 3) (vr 0) (λ_ _=>rfl)) (jL rfl hr.units (vr 3) (vr 1) (λ_ _=>rfl))) (vr 2)))))))
abbrev xi:Stmt:=top 46
abbrev Wx:List Str:=["_law_script", "_law_town", "_law_letters_here", "_law_most"]
theorem qbz:FnScope Wx ["_law_script", "_law_town", "_law_letters_here", "_law_most"] (qd xi):=fsc
noncomputable def Wy:Sl->Out (Fl×Sl):=(kr (d1 (ZR "") (jo [1] 1 [0,1,2] (kx (d2 wc (dC (.int 1)) (qC [.vl,.sl 1,.vl] ke (qe (qg 0) (jR (qe (qg 3) qF)))))) (gNm 0) ftT (qC [.vl,.sl 2,.vl] kf (qe (qg 1) (jR (qe (qg 3) qF)))))))
noncomputable abbrev Js:List D->Out (D×List D):=vf Wx [.val,.io,.val,.val] (Wy)
abbrev UR P w K mg base cv:=DefOk P w K mg base cv 5 "_law_word" ["_law_script", "_law_town", "_law_letters_here", "_law_most"] [.val,.io,.val,.val] .sh (Js)
theorem qbA (Z:Zt K mg cv ca) (T:jF K mg "_law_word" xi ["_law_script", "_law_town", "_law_letters_here", "_law_most"]) (m:wV P w K mg base cv) (o:yN P w K mg base cv):UR P w K mg base cv:=
 jc (k:=4) (own':=[1]) (fb:=Wy) T qbz λcdv f A outer s H E hr=>(qp (qu (qdC rfl (jE (N:=["_law_k", "_law_script", "_law_town", "_law_letters_here"]) (nt:=1) (cap:=[0,1,2]) rfl (wK (names:=(qd xi).names) rfl (by decide +kernel)) (kz (names:=(qd xi).names) (N:=Wx) rfl rfl (by decide +kernel)) (wt rfl Z.z_range (jC (kW rfl) qx (qr m hr (by decide) qZ rfl (qc (vr 0) (qU (i:=1) rfl (cF (aI rfl)) (by decide) (qc (vr 3) ql)))))) (λfp L s1 H1=>(qA (i:=0) (show bq (["_law_k", "_law_script", "_law_town", "_law_letters_here"]:List Str) from by decide +kernel) rfl (aI rfl))) (λfp L s1 H1=>jv) (λfp L s1 H1=>(qr o hr (by decide) yW rfl (qc (vr 1) (qU (i:=2) rfl (by first | exact cF (cF rfl) | exact cF (aI rfl)) (by decide) (qc (vr 3) ql)))))))))
abbrev zj:Stmt:=top 47
abbrev US:List Str:=["_law_script", "_law_town", "_law_most", "_law_letters_here", "_law_made_here", "_law_k", "_law_word_here"]
theorem sc_Lwords:FnScope US ["_law_script", "_law_town", "_law_most"] (qd zj):=fsc
noncomputable def Jt:Sl->Out (Fl×Sl):=(jf (ku 3 (qC [.vl,.sl 1,.vl] kf (qe (qg 0) (jR (qe (yU λρ=>.ok ([(.lst [(.str "a"),(.str "b")]),(.lst [(.str "a"),(.str "b"),(.str "c")]),(.lst [(.str "a"),(.str "b"),(.str "c"),(.str "d")]),(.lst [(.str "k"),(.str "m"),(.str "z"),(.str "a"),(.str "e")])],ρ)) qF)))))
  (jf (ku 4 (yU qF))
  (jf (qdh (kx (d2 wc (dC (.int 1)) (qC [.vl,.sl 1,.vl] ke (qe (qg 0) (jR (qe (qg 2) qF)))))) (gNm 5)
  (jf (ku 6 (qC [.vl,.sl 1,.vl,.vl] Js (qe (qg 0) (jR (qe (qg 3) (qe (dC (.int 6)) qF))))))
  (sIf (qP (d2 Uz (qg 6) (qg 4))) (uP (Uq 4 Zo (qg 6))) kn)))
  (kr (d1 wY (qg 4))))))
noncomputable abbrev Ju:List D->Out (D×List D):=vf US [.val,.io,.val] (Jt)
abbrev Ve P w K mg base cv:=DefOk P w K mg base cv 6 "_law_words" ["_law_script", "_law_town", "_law_most"] [.val,.io,.val] .sh (Ju)
theorem Gs (Z:Zt K mg cv ca) (T:jF K mg "_law_words" zj ["_law_script", "_law_town", "_law_most"]) (m:wV P w K mg base cv) (o:yN P w K mg base cv) (O:UR P w K mg base cv):Ve P w K mg base cv:=
 jc (k:=5) (own':=[1]) (fb:=Jt) T sc_Lwords λcdv f A outer s H E hr=>(qo (qL (i:=3) sc_Lwords.nd rfl (aI rfl) (qr o hr (by decide) qZ rfl (qc (vr 0) (qU (i:=1) rfl (aI rfl) (by decide) (qc (We 16 rfl) ql)))))
  (qo (xZ (i:=4) sc_Lwords.nd rfl (aI rfl) (vd ql))
  (qo (QN dD rfl (wt rfl Z.z_range (jC (kW rfl) qx (qr m hr (by decide) qZ rfl (qc (vr 0) (qU (i:=1) rfl (aI rfl) (by decide) (qc (vr 2) ql)))))) (qA (i:=5) sc_Lwords.nd rfl (aI rfl))
  (qo (qL (i:=6) sc_Lwords.nd rfl (aI rfl) (qr O hr (by decide) qZ rfl (qc (vr 0) (qU (i:=1) rfl (aI rfl) (by decide) (qc (vr 3) (qc qx ql))))))
  (qp (jp (qI (yF rfl hr.units) (vr 6) (QH (i:=4) rfl (aI rfl) (by decide))) (qp (jZ (zG (i:=4) rfl rfl (aI rfl) (by decide) (vr 6)))) qX))))
  (qp (qu (jW (yA rfl) rfl Z.z_tuple vo (QH (i:=4) rfl (aI rfl) (by decide))))))))
abbrev Jv:Stmt:=top 48
abbrev Gt:List Str:=["_law_script", "_law_town"]
theorem qbB:FnScope Gt ["_law_script", "_law_town"] (qd Jv):=fsc
noncomputable def Wz:Sl->Out (Fl×Sl):=(kr (wG (qe (d2 Ua (qC [.vl,.sl 1,.vl] ke (qe (qg 0) (jR (qe (dC (.int 6)) qF)))) (dC (.int 3))) (qe (d2 Ua (qC [.vl,.sl 1,.vl] ke (qe (qg 0) (jR (qe (dC (.int 6)) qF)))) (dC (.int 3))) qF))))
noncomputable abbrev WA:List D->Out (D×List D):=vf Gt [.val,.io] (Wz)
abbrev UT P w K mg base cv:=DefOk P w K mg base cv 4 "_law_look" ["_law_script", "_law_town"] [.val,.io] .sh (WA)
theorem qbC (Z:Zt K mg cv ca) (T:jF K mg "_law_look" Jv ["_law_script", "_law_town"]) (o:wV P w K mg base cv):UT P w K mg base cv:=
 jc (k:=3) (own':=[1]) (fb:=Wz) T qbB λcdv f A outer s H E hr=>(qp (qu (jA (qc (jC zx (qr o hr (by decide) qZ rfl (qc (vr 0) (qU (i:=1) rfl (aI rfl) (by decide) (qc qx ql)))) qx) (qc (jC zx (qr o hr (by decide) qZ rfl (qc (vr 0) (qU (i:=1) rfl (aI rfl) (by decide) (qc qx ql)))) qx) ql)))))
abbrev uM:Stmt:=top 51
abbrev Qv:List Str:=["_law_words_here", "_law_look_here", "_law_made_here", "_law_pair"]
theorem sc_Lletters:FnScope Qv ["_law_words_here", "_law_look_here"] (qd uM):=fsc
noncomputable def xj:Sl->Out (Fl×Sl):=(jf (ku 2 (yU qF))
  (jf (qdh (wo (qC [.vl,.vl] yi (qe (qg 0) (qe (qg 1) qF)))) (gNm 3)
  (uP (Uq 2 qcg (d1 YH (qg 3)))))
  (kr (d1 kC (qg 2)))))
noncomputable abbrev xl:List D->Out (D×List D):=vf Qv [.val,.val] (xj)
abbrev gq P w K mg base cv:=DefOk P w K mg base cv 3 "_law_letters" ["_law_words_here", "_law_look_here"] [.val,.val] .sh (xl)
theorem WB (Z:Zt K mg cv ca) (T:jF K mg "_law_letters" uM ["_law_words_here", "_law_look_here"]) (o:zi P w K mg base cv):gq P w K mg base cv:=
 jc (k:=2) (own':=[]) (fb:=xj) T sc_Lletters λcdv f A outer s H E hr=>(qo (xZ (i:=2) sc_Lletters.nd rfl (aI rfl) (vd ql))
  (qo (QN dD rfl (jz rfl (qr o hr (by decide) qZ rfl (qc (vr 0) (qc (vr 1) ql)))) (qA (i:=3) sc_Lletters.nd rfl (aI rfl))
  (qp (jZ (zH (i:=2) rfl (aI rfl) (by decide) (jW (Zp rfl) rfl Z.z_list Gi (vr 3))))))
  (qp (qu (uG rfl rfl rfl Z.z_sorted yH rfl Z.z_set zY (QH (i:=2) rfl (aI rfl) (by decide)))))))
abbrev xm:Stmt:=top 54
abbrev WC:List Str:=["_law_script", "_law_town", "_law_most", "_law_wide", "_law_room", "_law_look_here", "_law_names", "_law_more", "_law_letters_here"]
theorem sc_Lmade:FnScope WC ["_law_script", "_law_town", "_law_most", "_law_wide"] (qd xm):=fsc
noncomputable def WD:Sl->Out (Fl×Sl):=(jf (ku 4 (d2 wc (dC (.int 1)) (qC [.vl,.sl 1,.vl] ke (qe (qg 0) (jR (qe (qg 3) qF))))))
  (jf (ku 5 (qC [.vl,.sl 1] WA (qe (qg 0) (jR qF))))
  (jf (ku 6 (qC [.vl,.sl 1,.vl] Ju (qe (qg 0) (jR (qe (qg 2) qF)))))
  (jf (ku 7 (qC [.vl,.sl 1,.vl] kf (qe (qg 0) (jR (qe (yU λρ=>.ok ([(.lst []),(.lst [(.str "q")]),(.lst [(.str "y"),(.str "x")])],ρ)) qF)))))
  (jf (ku 8 (d1 kC (d2 wc (qC [.vl,.vl] xl (qe (qg 6) (qe (qg 5) qF))) (qg 7))))
  (kr (wG (qe (qg 6) (qe (qg 5) (qe (qg 4) (qe (d1 wY (jo [1] 1 [0,1,4] (wo (qg 8)) (gNm 0) ftT (wG (qe (qg 0) (qe (qC [.vl,.sl 2,.vl] ke (qe (qg 1) (jR (qe (qg 3) qF)))) qF))))) qF)))))))))))
noncomputable abbrev WE:List D->Out (D×List D):=vf WC [.val,.io,.val,.val] (WD)
abbrev UU P w K mg base cv:=DefOk P w K mg base cv 7 "_law_made" ["_law_script", "_law_town", "_law_most", "_law_wide"] [.val,.io,.val,.val] .sh (WE)
theorem qbD (Z:Zt K mg cv ca) (T:jF K mg "_law_made" xm ["_law_script", "_law_town", "_law_most", "_law_wide"]) (o:wV P w K mg base cv) (u:yN P w K mg base cv) (a:Ve P w K mg base cv) (O:UT P w K mg base cv) (U:gq P w K mg base cv):UU P w K mg base cv:=
 jc (k:=6) (own':=[1]) (fb:=WD) T sc_Lmade λcdv f A outer s H E hr=>(qo (qL (i:=4) sc_Lmade.nd rfl (cF rfl) (jC (kW rfl) qx (qr o hr (by decide) qZ rfl (qc (vr 0) (qU (i:=1) rfl (cF (aI rfl)) (by decide) (qc (vr 3) ql))))))
  (qo (qL (i:=5) sc_Lmade.nd rfl (aI rfl) (qr O hr (by decide) qZ rfl (qc (vr 0) (qU (i:=1) rfl (cF (aI rfl)) (by decide) ql))))
  (qo (qL (i:=6) sc_Lmade.nd rfl (aI rfl) (qr a hr (by decide) qZ rfl (qc (vr 0) (qU (i:=1) rfl (cF (aI rfl)) (by decide) (qc (vr 2) ql)))))
  (qo (qL (i:=7) sc_Lmade.nd rfl (aI rfl) (qr u hr (by decide) qZ rfl (qc (vr 0) (qU (i:=1) rfl (cF (aI rfl)) (by decide) (qc (We 12 rfl) ql)))))
  (qo (qL (i:=8) sc_Lmade.nd rfl (aI rfl) (uG rfl rfl rfl Z.z_sorted yH rfl Z.z_set zY (jC (kW rfl) (qr U hr (by decide) qZ rfl (qc (vr 6) (qc (vr 5) ql))) (vr 7))))
  (qp (qu (jA (qc (vr 6) (qc (vr 5) (qc (vr 4) (qc (jW (yA rfl) rfl Z.z_tuple vo (jE (N:=["_law_letter", "_law_script", "_law_town", "_law_room"]) (nt:=1) (cap:=[0,1,4]) rfl (wK (names:=(qd xm).names) rfl (by decide +kernel)) (kz (names:=(qd xm).names) (N:=WC) rfl rfl (by decide +kernel)) (jz rfl (vr 8)) (λfp L s1 H1=>(qA (i:=0) (show bq (["_law_letter", "_law_script", "_law_town", "_law_room"]:List Str) from by decide +kernel) rfl (aI rfl))) (λfp L s1 H1=>jv) (λfp L s1 H1=>(jA (qc (vr 0) (qc (qr o hr (by decide) yW rfl (qc (vr 1) (qU (i:=2) rfl (by first | exact cF (cF rfl) | exact cF (aI rfl)) (by decide) (qc (vr 3) ql)))) ql)))))) ql))))))))))))
abbrev Jw:Stmt:=top 55
abbrev Gu:List Str:=["_law_script", "_law_town", "_law_kept", "_law_word_here", "_law_names", "_law_look_here", "_law_room", "_law_line", "_law_numbers"]
theorem sc_Lgood:FnScope Gu ["_law_script", "_law_town"] (qd Jw):=fsc
noncomputable def WF:Sl->Out (Fl×Sl):=(jf (qcd (qC [.vl,.sl 1,.vl,.vl] WE (qe (qg 0) (jR (qe (dC (.int 6)) (qe (dC (.int 20)) qF))))) (wf 4 (qS (gNm 4) (qS (gNm 5) (qS (gNm 6) (qS (gNm 7) we))))))
  (jf (ku 2 (wG qF))
  (jf (qdh (wo (qg 4)) (gNm 3)
  (jf (ku 8 (qC [.vl,.vl,.vl,.vl] Ww (qe (d2 wc (qg 2) (wG (qe (qg 3) qF))) (qe (qg 5) (qe (qg 6) (qe (d1 gJ (qg 7)) qF))))))
  (sIf (qP (d2 eqD (d1 kT (qg 8)) (d1 kE (qg 8)))) (ku 2 (d2 wc (qg 2) (wG (qe (qg 3) qF)))) kn)))
  (kr (wG (qe (qg 2) (qe (qg 5) (qe (qg 6) (qe (qg 7) qF)))))))))
noncomputable abbrev WG:List D->Out (D×List D):=vf Gu [.val,.io] (WF)
abbrev UV P w K mg base cv:=DefOk P w K mg base cv 8 "_law_good" ["_law_script", "_law_town"] [.val,.io] .sh (WG)
theorem qbE (Z:Zt K mg cv ca) (T:jF K mg "_law_good" Jw ["_law_script", "_law_town"]) (o:Gr P w K mg base cv) (a:UU P w K mg base cv):UV P w K mg base cv:=
 jc (k:=7) (own':=[1]) (fb:=WF) T sc_Lgood λcdv f A outer s H E hr=>(qo (QM (qr a hr (by decide) qZ rfl (qc (vr 0) (qU (i:=1) rfl (aI rfl) (by decide) (qc qx (qc qx ql))))) (uh rfl rfl (qN (qA (i:=4) sc_Lgood.nd rfl (aI rfl)) (qN (qA (i:=5) sc_Lgood.nd rfl (aI rfl)) (qN (qA (i:=6) sc_Lgood.nd rfl (aI rfl)) (qN (qA (i:=7) sc_Lgood.nd rfl (aI rfl)) vQ))))))
  (qo (qL (i:=2) sc_Lgood.nd rfl (aI rfl) (jA ql))
  (qo (QN dD rfl (jz rfl (vr 4)) (qA (i:=3) sc_Lgood.nd rfl (aI rfl))
  (qo (qL (i:=8) sc_Lgood.nd rfl (aI rfl) (qr o hr (by decide) qZ rfl (qc (jC (kW rfl) (vr 2) (jA (qc (vr 3) ql))) (qc (vr 5) (qc (vr 6) (qc (jW (VR rfl rfl) rfl Z.z_dict Wj (vr 7)) ql))))))
  (qp (jp (qI (wa rfl hr.units) (Qq rfl rfl rfl Z.z_len jB rfl Z.z_set zY (vr 8)) (qJ (jX rfl) rfl Z.z_len jB (vr 8))) (qp (qL (i:=2) sc_Lgood.nd rfl (aI rfl) (jC (kW rfl) (vr 2) (jA (qc (vr 3) ql))))) qX))))
  (qp (qu (jA (qc (vr 2) (qc (vr 5) (qc (vr 6) (qc (vr 7) ql))))))))))
abbrev kP:Stmt:=yT (top 40) 5
abbrev gt:List Str:=["self", "#a"]
theorem Vf:FnScope gt ["self"] (qd kP):=fsc
noncomputable def wW (ca:Str->Addr):Sl->Out (Fl×Sl):=(jf (sIf (qP (d2 eqD (d1 kE (jP 1 (d1 (zV (ca "Book") "asked") (qg 0)))) (dC (.int 0)))) (va "Nothing" (qe (dC (.str "no word was asked that is not taken back")) qF)) kn)
  (kr (d2 ixD (qdI 1 (d1 (zV (ca "Book") "asked") (qg 0))) (dC (.int 0)))))
noncomputable abbrev kQ (ca:Str->Addr):List D->Out (D×List D):=vf gt [.val,.io] (wW ca)
abbrev xI (ca:Str->Addr) P w K mg base cv:=Wh P w K mg base cv 1 (ca "Book") "undo" ["self"] [.val,.io] .sh (kQ ca)
theorem Vg (Z:Zt K mg cv ca) (T:xT K (ca "Book") "undo" "Book.undo" kP ["self"]):xI ca P w K mg base cv:=
 QZ (k:=0) (own':=[1]) (fb:=wW ca) T Vf "#a" λcdv f A outer s H E hr=>(qo (jp (qI (wa rfl hr.units) (qJ (jX rfl) rfl Z.z_len jB (qbl (g:=1) (by decide) (wZ rfl Z.b_cls (Z.b_no "asked" (by decide +kernel)) (vr 0)))) qx) (qp (kX rfl (xA rfl) rfl rfl (Z.mref "Nothing" (by decide +kernel)) (Z.xs.val "Nothing" (by decide +kernel)) (Z.xin "Nothing" (by decide +kernel)) (qc jV ql))) qX)
  (qp (qu (jL rfl hr.units (qdK (g:=1) rfl (by decide) (wZ rfl Z.b_cls (Z.b_no "asked" (by decide +kernel)) (vr 0))) qx (λ_ _=>rfl)))))
abbrev vZ:Stmt:=top 29
abbrev xJ:List Str:=["thing"]
theorem Jx:FnScope xJ ["thing"] (qd vZ):=fsc
noncomputable def uB:Sl->Out (Fl×Sl):=(sIf (JI (Qc (qC [.vl] ux (qe (qg 0) qF)))) (va "NoWord" (qe (dC (.str "a word has 1 to 6 letters from a to z")) qF)) kn)
noncomputable abbrev km:List D->Out (D×List D):=vf xJ [.val] (uB)
abbrev yO P w K mg base cv:=DefOk P w K mg base cv 3 "check_word" ["thing"] [.val] .sh (km)
theorem Jy (Z:Zt K mg cv ca) (T:jF K mg "check_word" vZ ["thing"]) (o:yZ P w K mg base cv):yO P w K mg base cv:=
 jc (k:=2) (own':=[]) (fb:=uB) T Jx λcdv f A outer s H E hr=>(qp (jp (jQ (jD rfl (qr o hr (by decide) qZ rfl (qc (vr 0) ql)) (λ_=>rfl))) (qp (kX rfl (xA rfl) rfl rfl (Z.mref "NoWord" (by decide +kernel)) (Z.xs.val "NoWord" (by decide +kernel)) (Z.xin "NoWord" (by decide +kernel)) (qc jV ql))) qX))
abbrev jg:Stmt:=yT (top 40) 2
abbrev ub:List Str:=["self", "word", "number"]
theorem sc_Book_found_for:FnScope ub ["self", "word"] (qd jg):=fsc
noncomputable def kb (ca:Str->Addr):Sl->Out (Fl×Sl):=(jf (VQ 3 iF (Zs ca ["NoWorths"]) (ku 2 (d2 ixD (qC [.vl,.vl,.vl,.vl] kl (qe (wG (qe (qg 1) qF)) (qe (d1 (zV (ca "Book") "look") (qg 0)) (qe (d1 (zV (ca "Book") "width") (qg 0)) (qe (d1 (zV (ca "Book") "worths") (qg 0)) qF))))) (dC (.int 0)))) (kr (dC .non)))
  (kr (d2 ixD (d1 (zV (ca "Book") "standing") (qg 0)) (qg 2))))
noncomputable abbrev vb (ca:Str->Addr):List D->Out (D×List D):=vf ub [.val,.val] (kb ca)
abbrev wC (ca:Str->Addr) P w K mg base cv:=KQ P w K mg base cv 7 (ca "Book") "found_for" ["self", "word"] [.val,.val] .sh (vb ca)
theorem xo (Z:Zt K mg cv ca) (T:xT K (ca "Book") "found_for" "Book.found_for" jg ["self", "word"]) (o:yh P w K mg base cv):wC ca P w K mg base cv:=
 Ga (k:=6) (own':=[]) (fb:=kb ca) T sc_Book_found_for λcdv f A outer s H E hr=>(qo (qaR (own2:=[]) (n:=3) rfl rfl rfl rfl (Z.mref "NoWorths" (by decide +kernel)) (qix (Z.xs.val "NoWorths" (by decide +kernel)) Z.s_NoWorths) rfl (λpn xe E hx=>(qp (qL (i:=2) sc_Book_found_for.nd rfl (aI rfl) (jL rfl hr.units (qr o hr (by decide) hx rfl (qc (jA (qc (vr 1) ql)) (qc (wZ rfl Z.b_cls (Z.b_no "look" (by decide +kernel)) (vr 0)) (qc (wZ rfl Z.b_cls (Z.b_no "width" (by decide +kernel)) (vr 0)) (qc (wZ rfl Z.b_cls (Z.b_no "worths" (by decide +kernel)) (vr 0)) ql))))) qx (λ_ _=>rfl))))) (λe=>(qp (qu xy))))
  (qp (qu (jL rfl hr.units (wZ rfl Z.b_cls (Z.b_no "standing" (by decide +kernel)) (vr 0)) (vr 2) (λ_ _=>rfl)))))
abbrev vC:Stmt:=yT (top 40) 3
abbrev Qw:List Str:=["self", "word", "#a", "found"]
theorem sc_Book_ask:FnScope Qw ["self", "word"] (qd vC):=fsc
noncomputable def uN (ca:Str->Addr):Sl->Out (Fl×Sl):=(jf (uP (qC [.vl] km (qe (qg 1) qF)))
  (jf (ku 3 (Ge (ca "Book") "found_for" (vb ca) (qg 0) (qe (qg 1) qF)))
  (jf (uP (qdH 2 (d1 (zV (ca "Book") "asked") (qg 0)) (wG (qe (qg 1) (qe (qg 3) qF)))))
  (kr (dIf (qP (d2 eqD (qg 3) (qg 1))) (dM qhj uT (d1 (zV (ca "Book") "standing") (qg 0)) (qg 1)) (dC .non))))))
noncomputable abbrev vD (ca:Str->Addr):List D->Out (D×List D):=vf Qw [.val,.val,.io] (uN ca)
abbrev gu (ca:Str->Addr) P w K mg base cv:=Wh P w K mg base cv 8 (ca "Book") "ask" ["self", "word"] [.val,.val,.io] .sh (vD ca)
theorem WH (Z:Zt K mg cv ca) (T:xT K (ca "Book") "ask" "Book.ask" vC ["self", "word"]) (o:yO P w K mg base cv) (I:wC ca P w K mg base cv):gu ca P w K mg base cv:=
 QZ (k:=7) (own':=[2]) (fb:=uN ca) T sc_Book_ask "#a" λcdv f A outer s H E hr=>(qo (jZ (qr o hr (by decide) qZ rfl (qc (vr 1) ql)))
  (qo (qL (i:=3) sc_Book_ask.nd rfl (aI rfl) (qbo Z.b_cls I hr (by decide) qZ (vr 0) (qc (vr 1) ql)))
  (qo (jZ (qdJ (g:=2) rfl (by decide) (wZ rfl Z.b_cls (Z.b_no "asked" (by decide +kernel)) (vr 0)) (jA (qc (vr 1) (qc (vr 3) ql)))))
  (qp (qu (xP (qI (wa rfl hr.units) (vr 3) (vr 1)) (qbh c6 PySem.F.type_list_index (qbi rfl hr.units) rfl (wZ rfl Z.b_cls (Z.b_no "standing" (by decide +kernel)) (vr 0)) (vr 1)) xy))))))
abbrev zk:Stmt:=top 56
abbrev UW:List Str:=["_law_e", "_law_own"]
theorem sc_Lwhich:FnScope UW ["_law_e"] (qd zk):=fsc
noncomputable def zl (ca:Str->Addr):Sl->Out (Fl×Sl):=(jf (ku 1 (yU (qe (d1 (gF (Kz ca CS "NoWords")) (qg 0)) (qe (d1 (gF (Kz ca CS "NoLook")) (qg 0)) (qe (d1 (gF (Kz ca CS "NoNumbers")) (qg 0)) (qe (d1 (gF (Kz ca CS "NoRoom")) (qg 0)) qF))))))
  (jf (uP (Uq 1 qcg (yU (qe (d1 (gF (Kz ca CS "NoWord")) (qg 0)) (qe (d1 (gF (Kz ca CS "NoWorths")) (qg 0)) (qe (d1 (gF (Kz ca CS "Never")) (qg 0)) (qe (d1 (gF (Kz ca CS "Full")) (qg 0)) qF)))))))
  (jf (uP (Uq 1 qcg (yU (qe (d1 (gF (Kz ca CS "Known")) (qg 0)) (qe (d1 (gF (Kz ca CS "NoPlace")) (qg 0)) (qe (d1 (gF (Kz ca CS "NoLetters")) (qg 0)) (qe (d1 (gF (Kz ca CS "NoText")) (qg 0)) qF)))))))
  (jf (uP (Uq 1 Zo (d1 (gF (Kz ca CS "Nothing")) (qg 0))))
  (jf (sIf (dOr (qP (d2 neD (d1 (Kv iI) (qg 1)) (dC (.int 1)))) (JI (Qc (d1 (gF (qfo ca CS)) (qg 0))))) (kr (wG (qe (dC (.str "refused")) (qe (d1 YG (dC (.int 1))) qF)))) kn)
  (kr (wG (qe (dC (.str "refused")) (qe (d1 (Kw iI) (qg 1)) qF)))))))))
noncomputable abbrev zm (ca:Str->Addr):List D->Out (D×List D):=vf UW [.val] (zl ca)
abbrev Vh (ca:Str->Addr) P w K mg base cv:=qg4 P w K mg base cv 1 "_law_which" ["_law_e"] [.val] .sh (zm ca)
theorem Gv (Z:Zt K mg cv ca) (T:jF K mg "_law_which" zk ["_law_e"]):Vh ca P w K mg base cv:=
 qg5 (k:=0) (own':=[]) (fb:=zl ca) T sc_Lwhich λcdv f A outer s H E hr=>(qo (xZ (i:=1) sc_Lwhich.nd rfl (aI rfl) (vd (qc (ww rfl Z.z_isinstance qw rfl (Z.mref "NoWords" (by decide +kernel)) (Z.xs.ans (by decide +kernel)) (vr 0)) (qc (ww rfl Z.z_isinstance qw rfl (Z.mref "NoLook" (by decide +kernel)) (Z.xs.ans (by decide +kernel)) (vr 0)) (qc (ww rfl Z.z_isinstance qw rfl (Z.mref "NoNumbers" (by decide +kernel)) (Z.xs.ans (by decide +kernel)) (vr 0)) (qc (ww rfl Z.z_isinstance qw rfl (Z.mref "NoRoom" (by decide +kernel)) (Z.xs.ans (by decide +kernel)) (vr 0)) ql))))))
  (qo (jZ (zH (i:=1) rfl (aI rfl) (by decide) (vd (qc (ww rfl Z.z_isinstance qw rfl (Z.mref "NoWord" (by decide +kernel)) (Z.xs.ans (by decide +kernel)) (vr 0)) (qc (ww rfl Z.z_isinstance qw rfl (Z.mref "NoWorths" (by decide +kernel)) (Z.xs.ans (by decide +kernel)) (vr 0)) (qc (ww rfl Z.z_isinstance qw rfl (Z.mref "Never" (by decide +kernel)) (Z.xs.ans (by decide +kernel)) (vr 0)) (qc (ww rfl Z.z_isinstance qw rfl (Z.mref "Full" (by decide +kernel)) (Z.xs.ans (by decide +kernel)) (vr 0)) ql)))))))
  (qo (jZ (zH (i:=1) rfl (aI rfl) (by decide) (vd (qc (ww rfl Z.z_isinstance qw rfl (Z.mref "Known" (by decide +kernel)) (Z.xs.ans (by decide +kernel)) (vr 0)) (qc (ww rfl Z.z_isinstance qw rfl (Z.mref "NoPlace" (by decide +kernel)) (Z.xs.ans (by decide +kernel)) (vr 0)) (qc (ww rfl Z.z_isinstance qw rfl (Z.mref "NoLetters" (by decide +kernel)) (Z.xs.ans (by decide +kernel)) (vr 0)) (qc (ww rfl Z.z_isinstance qw rfl (Z.mref "NoText" (by decide +kernel)) (Z.xs.ans (by decide +kernel)) (vr 0)) ql)))))))
  (qo (jZ (zG (i:=1) rfl rfl (aI rfl) (by decide) (ww rfl Z.z_isinstance qw rfl (Z.mref "Nothing" (by decide +kernel)) (Z.xs.ans (by decide +kernel)) (vr 0))))
  (QJ [1] (qo (jp (PW.pt (yp (qI (VL rfl hr.units) (qa0 rfl (vr 1)) qx) (wb (jQ (jD rfl (qds rfl Z.z_isinstance qw rfl Z.z_ValueError Jc Z.xs.ansV (vr 0)) (λ_=>rfl)))))) (qp (qu (jA (qc jV (qc (Yy Ql qx) ql))))) qX)
  (qp (qu (jA (qc jV (qc (qa1 rfl (vr 1)) ql)))))))))))
abbrev qbF:Stmt:=top 57
abbrev qfU:List Str:=["_law_book", "_law_word_here", "#a", "_law_e"]
theorem sc_Ldo:FnScope qfU ["_law_book", "_law_word_here"] (qd qbF):=fsc
noncomputable def Xa (ca:Str->Addr):Sl->Out (Fl×Sl):=(VQ 4 (iD 3) (Zs ca CS) (kr (dIf (qP (d2 eqD (qg 1) (dC (.str "undo")))) (dMG (ca "Book") "undo" "asked" 2 (kQ ca) (qg 0) qF) (dMG (ca "Book") "ask" "asked" 2 (vD ca) (qg 0) (qe (qg 1) qF)))) (kr (qC [.vl] (zm ca) (qe (qg 3) qF))))
noncomputable abbrev Vi (ca:Str->Addr):List D->Out (D×List D):=vf qfU [.val,.val,.io] (Xa ca)
abbrev qcr (ca:Str->Addr) P w K mg base cv:=qhn P w K mg base cv 9 "_law_do" ["_law_book", "_law_word_here"] [.val,.val,.io] .sh (Vi ca)
theorem qfV (Z:Zt K mg cv ca) (T:jF K mg "_law_do" qbF ["_law_book", "_law_word_here"]) (o:gu ca P w K mg base cv) (R:xI ca P w K mg base cv) (a:Vh ca P w K mg base cv):qcr ca P w K mg base cv:=
 qdQ (k:=8) (own':=[2]) (fb:=Xa ca) T sc_Ldo "#a" λcdv f A outer s H E hr=>(qp (qdn (own2:=[]) (n:=4) (j:=3) rfl rfl rfl rfl Z.m_WordError Z.xs.hit sc_Ldo.nd rfl rfl rfl (λpn xe E hx=>(qp (qu (xP (qI (wa rfl hr.units) (vr 1) jV) (Gc (fld := "asked") (g:=2) Z.b_cls R hr (by decide) hx (by decide) (vr 0)) (Gd (fld := "asked") (g:=2) Z.b_cls o hr (by decide) hx (by decide) (vr 0) (qc (vr 1) ql)))))) (λe=>(qp (qu (Zn a ((hr.quiet.mono (by decide)).mark _) yW rfl (qc (vr 3) ql)))))))
abbrev UX:Stmt:=top 58
abbrev qcs:List Str:=["_law_names", "_law_look_here", "_law_room", "_law_line", "_law_word_here", "_law_letters_here", "_law_number", "_law_there", "_law_one", "_law_other"]
theorem sc_Ldue:FnScope qcs ["_law_names", "_law_look_here", "_law_room", "_law_line", "_law_word_here"] (qd UX):=fsc
noncomputable def Gw:Sl->Out (Fl×Sl):=(jf (ku 5 (d1 gJ (qg 3)))
  (jf (qcd (d2 ixD (qC [.vl,.vl] yi (qe (wG (qe (qg 4) qF)) (qe (qg 1) qF))) (dC (.int 0))) (wf 2 (qS (gNm 8) (qS (gNm 9) we))))
  (jf (sIf (dOr (qP (d2 Uz (qg 8) (qg 5))) (qP (d2 Uz (qg 9) (qg 5)))) (kr (wG (qe (dC .non) (qe (dC (.int 2)) qF)))) kn)
  (jf (ku 6 (d2 Ub (d2 wc (d2 ixD (qg 5) (qg 8)) (d2 ixD (qg 5) (qg 9))) (qg 2)))
  (jf (ku 7 (qC [.vl,.vl,.vl,.vl] Ww (qe (qg 0) (qe (qg 1) (qe (qg 2) (qe (qg 5) qF))))))
  (jf (sIf (qP (d2 Uz (qg 6) (qg 7))) (kr (wG (qe (dC .non) (qe (dC (.int 2)) qF)))) kn)
  (kr (dIf (qP (d2 eqD (d2 ixD (qg 0) (dM qgw Qr (qg 7) (qg 6))) (qg 4))) (wG (qe (qg 6) (qe (dC (.int 0)) qF))) (wG (qe (dC .non) (qe (dC (.int 1)) qF)))))))))))
noncomputable abbrev UY:List D->Out (D×List D):=vf qcs [.val,.val,.val,.val,.val] (Gw)
abbrev Gx P w K mg base cv:=DefOk P w K mg base cv 4 "_law_due" ["_law_names", "_law_look_here", "_law_room", "_law_line", "_law_word_here"] [.val,.val,.val,.val,.val] .sh (UY)
theorem qdV (Z:Zt K mg cv ca) (T:jF K mg "_law_due" UX ["_law_names", "_law_look_here", "_law_room", "_law_line", "_law_word_here"]) (B:zi P w K mg base cv) (o:Gr P w K mg base cv):Gx P w K mg base cv:=
 jc (k:=3) (own':=[]) (fb:=Gw) T sc_Ldue λcdv f A outer s H E hr=>(qo (qL (i:=5) sc_Ldue.nd rfl (aI rfl) (jW (VR rfl rfl) rfl Z.z_dict Wj (vr 3)))
  (qo (QM (jL rfl hr.units (qr B hr (by decide) qZ rfl (qc (jA (qc (vr 4) ql)) (qc (vr 1) ql))) qx (λ_ _=>rfl)) (uh rfl rfl (qN (qA (i:=8) sc_Ldue.nd rfl (aI rfl)) (qN (qA (i:=9) sc_Ldue.nd rfl (aI rfl)) vQ))))
  (qo (jp (PW.pt (yp (qI (yF rfl hr.units) (vr 8) (vr 5)) (wb (qI (yF rfl hr.units) (vr 9) (vr 5))))) (qp (qu (jA (qc xy (qc qx ql))))) qX)
  (qo (qL (i:=6) sc_Ldue.nd rfl (aI rfl) (jC zy (jC (kW rfl) (jL rfl hr.units (vr 5) (vr 8) (λ_ _=>rfl)) (jL rfl hr.units (vr 5) (vr 9) (λ_ _=>rfl))) (vr 2)))
  (qo (qL (i:=7) sc_Ldue.nd rfl (aI rfl) (qr o hr (by decide) qZ rfl (qc (vr 0) (qc (vr 1) (qc (vr 2) (qc (vr 5) ql))))))
  (qo (jp (qI (yF rfl hr.units) (vr 6) (vr 7)) (qp (qu (jA (qc xy (qc qx ql))))) qX)
  (qp (qu (xP (qI (wa rfl hr.units) (jL rfl hr.units (vr 0) (Gh rfl hr.units (vr 7) (vr 6)) (λ_ _=>rfl)) (vr 4)) (jA (qc (vr 6) (qc qx ql))) (jA (qc xy (qc qx ql))))))))))))
abbrev Jz:Stmt:=top 59
abbrev qbG:List Str:=["_law_script", "_law_town", "_law_ways", "_law_k", "_law_names", "_law_look_here", "_law_room", "_law_line", "_law_book", "_law_second", "_law_way", "_law_word_here", "_law_due_here", "_law_how", "#a", "#b"]
theorem sc_law:FnScope qbG ["_law_script"] (qd Jz):=fsc
noncomputable def Gy (ca:Str->Addr):Sl->Out (Fl×Sl):=(jf (ku 1 (yU qF))
  (qcd (qC [.vl,.sl 1] WG (qe (qg 0) (jR qF))) (wf 4 (qS (gNm 4) (qS (gNm 5) (qS (gNm 6) (qS (gNm 7) we)))))))
noncomputable def Gz:Sl->Out (List D×Sl):=(qe (qg 4) (qe (qg 5) (qe (qg 6) (qe (qg 7) qF))))
noncomputable def GA:Sl->Out (List D×Sl):=(qe (qg 4) (qe (qg 5) (qe (qg 6) (qe (qg 7) qF))))
noncomputable def UZ (ca:Str->Addr):Sl->Out (Fl×Sl):=(jf (ku 2 (yU qF))
  (jf (qdh (kx (qC [.vl,.sl 1,.vl] ke (qe (qg 0) (jR (qe (dC (.int 17)) qF))))) (gNm 3)
  (jf (ku 10 (qC [.vl,.sl 1,.vl] ke (qe (qg 0) (jR (qe (dC (.int 6)) qF)))))
  (jf (ku 11 (qC [.vl,.sl 1,.vl] kf (qe (qg 0) (jR (qe (qg 4) qF)))))
  (jf (ku 11 (dIf (qP (d2 eqD (qg 10) (dC (.int 1)))) (yD (qg 11) iF iF (iD (d1 YG (dC (.int 1))))) (dIf (qP (d2 eqD (qg 10) (dC (.int 2)))) (d2 wc (qg 11) (qC [.vl,.sl 1,.vl] kf (qe (qg 0) (jR (qe (yU (qe (dC (.str "a")) (qe (dC (.str "b")) (qe (dC (.str "q")) qF)))) qF))))) (qg 11))))
  (jf (ku 11 (dIf (qP (d2 eqD (qg 10) (dC (.int 3)))) (qC [.vl,.sl 1,.vl] kf (qe (qg 0) (jR (qe (yU λρ=>.ok ([.non,(.str ""),(.int 5),(.str "Ab"),(.str "abcdefg"),(.tup [(.str "a")]),(.str "a b")],ρ)) qF)))) (qg 11)))
  (jf (ku 11 (dIf (qP (d2 eqD (qg 10) (dC (.int 4)))) (dC (.str "undo")) (dIf (qgn (Qc (d1 (yB "str") (qg 11))) (qP (d2 ltD (qg 10) (dC (.int 3))))) (yD (qg 11) iF (iD (dC (.int 6))) iF) (qg 11))))
  (jf (sIf (qP (d2 eqD (qg 11) (dC (.str "undo")))) (jf (ku 12 (dIf (qP (d2 neD (qg 2) (yU qF))) (d2 ixD (d2 ixD (qg 2) (d1 YG (dC (.int 1)))) (dC (.int 0))) (wG (qe (dC (.str "refused")) (qe (dC (.int 12)) qF)))))
  (ku 2 (zX (qg 2) iF (iD (d1 YG (dC (.int 1))))))) (sIf (qP (d2 eqD (qg 10) (dC (.int 3)))) (ku 12 (wG (qe (dC (.str "refused")) (qe (dC (.int 4)) qF)))) (jf (qcd (qC [.vl,.vl,.vl,.vl,.vl] UY (qe (qg 4) (qe (qg 5) (qe (qg 6) (qe (qg 7) (qe (qg 11) qF)))))) (wf 2 (qS (gNm 12) (qS (gNm 13) we))))
  (ku 2 (d2 wc (qg 2) (yU (qe (wG (qe (qg 11) (qe (qg 13) qF))) qF)))))))
  (jf (sIf (qP (d2 neD (KU 14 (Vi ca) (qe (qg 8) (qe (qg 11) qF))) (qg 12))) (kr (dC (.bl iH))) kn)
  (sIf (qP (d2 neD (dMR (ca "Book") "counts" "asked" 14 (jM ca) (qg 8)) (d1 wY (jo [15,14,1] 1 [2] (kx (dC (.int 3))) (gNm 0) ftT (d1 kE (jo [] 1 [0] (wo (qg 1)) (gNm 0) (qP (d2 eqD (d2 ixD (qg 0) (dC (.int 1))) (qg 1))) (qg 0))))))) (kr (dC (.bl iH))) kn)))))))))
  (kr (JZ (d2 eqD (dMR (ca "Book") "counts" "asked" 15 (jM ca) (qg 9)) (wG (qe (dC (.int 0)) (qe (dC (.int 0)) (qe (dC (.int 0)) qF))))) (d2 eqD (KR (ca "Book") "places" (kD ca) (qg 9)) (KR (ca "Book") "places" (kD ca) (qg 8)))))))
abbrev spL (K:Frag) (ca:Str->Addr):Sp:=qfK K qbG (ca "Book") "asked" 8 9 14 15 (jJ ca) (Gy ca) Gz GA (UZ ca)
theorem qfW {f:Addr} {fd:i6} (Z:Zt K mg cv ca) (F:Fun K "law" "law" Jz f fd) (a:uU ca P w K mg base cv) (b:uX ca P w K mg base cv) (d:ua ca P w K mg base cv) (m:wV P w K mg base cv) (o:yN P w K mg base cv) (j:UV P w K mg base cv) (O:qcr ca P w K mg base cv) (e:Gx P w K mg base cv):FnOk P w K mg base (CXk P w) 10 f fd ["_law_script"] (spL K ca):=
 qfL (k:=9) (cv:=cv) (own2:=[]) F sc_law rfl λcdv A outer s H E hr=>(wx (xZ (i:=1) sc_law.nd rfl (aI rfl) (vd ql))
  (qbk (QM (qr j hr (by decide) qZ rfl (qc (vr 0) (qU (i:=1) rfl (aI rfl) (by decide) ql))) (uh rfl rfl (qN (qA (i:=4) sc_law.nd rfl (aI rfl)) (qN (qA (i:=5) sc_law.nd rfl (aI rfl)) (qN (qA (i:=6) sc_law.nd rfl (aI rfl)) (qN (qA (i:=7) sc_law.nd rfl (aI rfl)) vQ))))))
  (uC (qdO (i:=8) (i2:=9) (g:=14) (g2:=15) (qcp d hr (by decide) rfl Z.m_Book (qc (vr 4) (qc (vr 5) (qc (vr 6) (qc (vr 7) ql))))) (qcp d hr (by decide) rfl Z.m_Book (qc (vr 4) (qc (vr 5) (qc (vr 6) (qc (vr 7) ql))))) rfl sc_law.nd rfl rfl rfl rfl (λy h c=>by cases h; exact absurd c (show ¬Vis (qd Jz) "#a" from by unfold Vis; decide +kernel)) (λy h c=>by cases h; exact absurd c (show ¬Vis (qd Jz) "#b" from by unfold Vis; decide +kernel)))
  (qo (qL (i:=2) sc_law.nd rfl (cF rfl) (vd ql))
  (qo (QN dD rfl (wt rfl Z.z_range (qr m hr (by decide) qZ rfl (qc (vr 0) (qU (i:=1) rfl (aI rfl) (by decide) (qc qx ql))))) (qA (i:=3) sc_law.nd rfl (aI rfl))
  (qo (qL (i:=10) sc_law.nd rfl (aI rfl) (qr m hr (by decide) qZ rfl (qc (vr 0) (qU (i:=1) rfl (aI rfl) (by decide) (qc qx ql)))))
  (qo (qL (i:=11) sc_law.nd rfl (aI rfl) (qr o hr (by decide) qZ rfl (qc (vr 0) (qU (i:=1) rfl (aI rfl) (by decide) (qc (vr 4) ql)))))
  (qo (qL (i:=11) sc_law.nd rfl (aI rfl) (xP (qI (wa rfl hr.units) (vr 10) qx) (Us rfl (vr 11) yE yE (QU (Yy Ql qx))) (xP (qI (wa rfl hr.units) (vr 10) qx) (jC (kW rfl) (vr 11) (qr o hr (by decide) qZ rfl (qc (vr 0) (qU (i:=1) rfl (aI rfl) (by decide) (qc (vd (qc jV (qc jV (qc jV ql)))) ql))))) (vr 11))))
  (qo (qL (i:=11) sc_law.nd rfl (aI rfl) (xP (qI (wa rfl hr.units) (vr 10) qx) (qr o hr (by decide) qZ rfl (qc (vr 0) (qU (i:=1) rfl (aI rfl) (by decide) (qc (We 14 rfl) ql)))) (vr 11)))
  (qo (qL (i:=11) sc_law.nd rfl (aI rfl) (xP (qI (wa rfl hr.units) (vr 10) qx) jV (xP (PW.pt (qc9 (jD rfl (yC rfl rfl Z.z_isinstance qw rfl Z.z_str Gj (vr 11)) (λ_=>rfl)) (wb (qI qc6 (vr 10) qx)))) (Us rfl (vr 11) yE (QU qx) yE) (vr 11))))
  (qo (jp (qI (wa rfl hr.units) (vr 11) jV) (qo (qL (i:=12) sc_law.nd rfl (aI rfl) (xP (qI (VL rfl hr.units) (vr 2) (vd ql)) (jL rfl hr.units (jL rfl hr.units (vr 2) (Yy Ql qx) (λ_ _=>rfl)) qx (λ_ _=>rfl)) (jA (qc jV (qc qx ql)))))
  (qp (qL (i:=2) sc_law.nd rfl (cF rfl) (Gf rfl (vr 2) yE (QU (Yy Ql qx)))))) (qp (jp (qI (wa rfl hr.units) (vr 10) qx) (qp (qL (i:=12) sc_law.nd rfl (aI rfl) (jA (qc jV (qc qx ql))))) (qo (QM (qr e hr (by decide) qZ rfl (qc (vr 4) (qc (vr 5) (qc (vr 6) (qc (vr 7) (qc (vr 11) ql)))))) (uh rfl rfl (qN (qA (i:=12) sc_law.nd rfl (aI rfl)) (qN (qA (i:=13) sc_law.nd rfl (aI rfl)) vQ))))
  (qp (qL (i:=2) sc_law.nd rfl (cF rfl) (jC (kW rfl) (vr 2) (vd (qc (jA (qc (vr 11) (qc (vr 13) ql))) ql)))))))))
  (qo (jp (qI (VL rfl hr.units) (qbp (g:=14) O hr (by decide) qZ rfl (by decide) (qc (vr 8) (qc (vr 11) ql))) (vr 12)) (qp (qu QI)) qX)
  (qp (jp (qI (VL rfl hr.units) (UN (fld := "asked") (g:=14) Z.b_cls a hr (by decide) qZ (by decide) (vr 8)) (jW (yA rfl) rfl Z.z_tuple vo (jE (N:=["_law_how", "_law_ways"]) (nt:=1) (cap:=[2]) rfl (wK (names:=(qd Jz).names) rfl (by decide +kernel)) (kz (names:=(qd Jz).names) (N:=qbG) rfl rfl (by decide +kernel)) (wt rfl Z.z_range qx) (λfp L s1 H1=>(qA (i:=0) (show bq (["_law_how", "_law_ways"]:List Str) from by decide +kernel) rfl (cF rfl))) (λfp L s1 H1=>jv) (λfp L s1 H1=>(qJ (jX rfl) rfl Z.z_len jB (jE (N:=["_law_one", "_law_how"]) (nt:=1) (cap:=[0]) rfl (wK (names:=[(".0",.local),("_law_how",.cell),("len",.globalImplicit),("_law_ways",.cell)]) rfl (by decide +kernel)) (kz (names:=[(".0",.local),("_law_how",.cell),("len",.globalImplicit),("_law_ways",.cell)]) (N:=["_law_how", "_law_ways"]) rfl rfl (by decide +kernel)) (jz rfl (vr 1)) (λfp L s1 H1=>(qA (i:=0) (show bq (["_law_one", "_law_how"]:List Str) from by decide +kernel) rfl (aI rfl))) (λfp L s1 H1=>(QR (qI (wa rfl hr.units) (jL rfl hr.units (vr 0) qx (λ_ _=>rfl)) (vr 1)))) (λfp L s1 H1=>(vr 0)))))))) (qp (qu QI)) qX))))))))))
  (qp (qu (Ka (gZ (wa rfl hr.units) (UN (fld := "asked") (g:=15) Z.b_cls a hr (by decide) qZ (by decide) (vr 9)) (jA (qc qx (qc qx (qc qx ql))))) (Uf (gZ (wa rfl hr.units) (UL Z.b_cls b hr (by decide) qZ (vr 9)) (UL Z.b_cls b hr (by decide) qZ (vr 8))))))))))))
end
end Kx
namespace Kx
open PySem PySem.Spec L2 L2.D2
variable {α:Type}
theorem ug (xs:List α) (k:Nat):atI xs (k:Int)=xs[k]?:=by
 unfold atI ixN;rw [if_pos (by omega)];by_cases h:k < xs.length;·rw [if_pos (by omega)];simp
 ·rw [if_neg (by omega),cJ (by omega)];rfl
theorem qct {xs:List α} {i:Int} (a:0<=i) (h1:i < xs.length):∃ d,atI xs i=iD d/\d∈xs:=by
 obtain ⟨k,rfl⟩:=Int.eq_ofNat_of_zero_le a;have h:k < xs.length:=by omega
 exact ⟨xs[k],by rw [ug,aM h],dI h⟩
theorem big:2000<=sizeLine:=by rw [iR]; decide
abbrev scr (ns:List Int):D:=.lst (ns.map .int)
theorem qdW (ns:List Int) (k:Nat):∃ i,xg [scr ns,.int k]=.ok (.int i,[.non,.non]):=by
 by_cases h:k < ns.length;·refine ⟨ns[k],?_⟩;refine runD_ap.trans ?_;simp [wB,qv,kE,ltD,ixD,qB,h,ug]
 ·by_cases a:ns=[]
  ·subst a;have b:¬((k:Int) < 0):=by omega
   exact ⟨0,by refine runD_ap.trans ?_; simp [wB,qv,kE,ltD,ixD,qB,eqD,eqN,wX,b]⟩
  ·have hp:0 < ns.length:=dQ.mpr a;have c:k % ns.length < ns.length:=Nat.mod_lt _ hp;have e:atI (ns.map D.int) ((k:Int) % (ns.length:Int))=iD (.int ns[k % ns.length]):=by rw [show ((k:Int) % (ns.length:Int))=((k % ns.length:Nat):Int) by simp,ug,aJ,aM c];rfl
   refine ⟨ns[k % ns.length] * 31+k,?_⟩;refine runD_ap.trans ?_;simp [wB,qv,kE,ltD,ixD,qB,eqD,eqN,h,a,Ub,qek,wc,Qa,hp,e,CMul]
variable {many:Int}
theorem qbH (ns:List Int) (k:Nat) (h:0 < many):∃ r,0<=r/\r < many/\Jn [scr ns,.int k,.int many]=.ok (.int r,[.non,.non,.non]):=by
 obtain ⟨c,a⟩:=qdW ns k;have h1:=dY (c * 1103515245+7919 * k+12345) (show (2147483647:Int)≠0 by decide);have h2:=db (c * 1103515245+7919 * k+12345) (show (0:Int) < 2147483647 by decide);generalize hd:(c * 1103515245+7919 * (k:Int)+12345) % 2147483647=d at h1 h2;have l:L2.D2.qej d 5:=⟨⟨by omega,by omega⟩,by omega,by omega⟩
 refine ⟨d ^ 5 % 2147483647 % 999983 % many,dY _ (by omega),db _ h,?_⟩;refine runD_ap.trans ?_;simp [Jm,qv,qB,qH,jK,a,qek,Ub,wc,qhi,Qa,h,hd,l,show ∀ j,CMul 7919 j from λj=>.inl ⟨by omega,by omega⟩,show ∀ i,CMul i 1103515245 from λi=>.inr ⟨by omega,by omega⟩]
theorem wl (ns:List Int) (t:List D) (c:0 < many) (l:t.length < 1000):∃ r,0<=r/\r < many/\ke [scr ns,.lst t,.int many]=.ok (.int r,[.non,.lst (t++[.int 0]),.non]):=by obtain ⟨r,a,h1,h⟩:=qbH ns (t.length+1) c;have hl:t.length < sizeLine:=aQ (eJ l (by decide)) big;refine ⟨r,a,h1,?_⟩;simp at h;refine runD_ap.trans ?_;simp [Wu,qv,qB,qH,jK,zF,Zo,kE,hl,h]
theorem gx (ns:List Int) (t xs:List D) (hx:xs≠[]) (l:t.length < 1000):∃ d,d∈xs/\kf [scr ns,.lst t,.lst xs]=.ok (d,[.non,.lst (t++[.int 0]),.non]):=by have hp:0 < xs.length:=dQ.mpr hx;obtain ⟨r,a,h1,h⟩:=wl ns t (many:=(xs.length:Int)) (by omega) l;obtain ⟨d,e,hd⟩:=qct (xs:=xs) a h1;refine ⟨d,hd,?_⟩;refine runD_ap.trans ?_;simp [Jq,qv,qB,qH,jK,kE,h,ixD,e]
def az (c:Nat):Prop:=97<=c/\c<=122
def xK (w:Str):Prop:=1<=w.length/\w.length<=6/\∀ c∈w.cps.toList,az c
theorem gy (x:Str):x.length=x.cps.size:=rfl
theorem GB (x y:Str):(x++y).cps=x.cps++y.cps:=rfl
def qgy (ls:List Str):Prop:=ls≠[]/\∀ x∈ls,∃ c,az c/\x=⟨#[c]⟩
theorem GC:∀ cs:List Nat,fR (au "") (cs.map λc=>(⟨#[c]⟩:Str))=⟨cs.toArray⟩:=by
 intro cs;have e:∀ cs:List Nat,Str.join (au "") (cs.map λc=>(⟨#[c]⟩:Str))=⟨cs.toArray⟩:=by
  intro cs
  induction cs with
  | nil=>rfl
  | cons c cs j=>
   cases cs with
   | nil=>rfl
   | cons d ds=>
    show (⟨#[c]⟩:Str)++au ""++Str.join (au "") ((d::ds).map λc=>(⟨#[c]⟩:Str))=_;rw [j];have:((⟨#[c]⟩:Str)++au ""++(⟨(d::ds).toArray⟩:Str)).cps=(c::d::ds).toArray:=by
     rw [GB,GB];have:(au "").cps=#[]:=by decide +kernel
     rw [this];simp
    generalize h:(⟨#[c]⟩:Str)++au ""++(⟨(d::ds).toArray⟩:Str)=x at this;obtain ⟨y⟩:=x;simp only at this;rw [this]
 unfold fR;rw [StrLaws.glued_eq_join];exact e cs
theorem Yb:∀ cs:List Nat,((cs.map λc=>(⟨#[c]⟩:Str)).map (·.length)).sum=cs.length
 | []=>rfl
 | c::cs=>by have j:=Yb cs;rw [ax,ax,List.sum_cons,j,ac];show 1 + _=_;omega
theorem vM:∀ ws:List Str,xR (ws.map D.str)=iD ws
 | []=>rfl
 | w::ws=>by simp [xR,vM ws]
variable {ls:List Str}
theorem Vj (ns:List Int) (hl:qgy ls):∀ (ds:List D) (t:List D) (k:Option D),t.length+ds.length < 1000 ->∃ (cs:List Nat) (a:List D) (k':Option D),a.length=t.length+ds.length/\cs.length=ds.length/\(∀ c∈cs,az c) /\
   kG (gNm 0) ftT (qC [.vl,.sl 2,.vl] kf (qe (qg 1) (jR (qe (qg 3) qF)))) ds [k,iD (scr ns),iD (.lst t),iD (.lst (ls.map D.str))]
    = .ok ((cs.map λc=>(⟨#[c]⟩:Str)).map D.str,[k',iD (scr ns),iD (.lst a),iD (.lst (ls.map D.str))])
 | [],t,k,_=>⟨[],t,k,by simp,rfl,by simp,rfl⟩
 | d::ds,t,k,ht=>by
  rw [ac] at ht;obtain ⟨e,g,hp⟩:=gx ns t (ls.map D.str) (by simpa using hl.1) (by omega);obtain ⟨x,hx,rfl⟩:=aF.mp g;obtain ⟨c,b,rfl⟩:=hl.2 x hx;obtain ⟨cs,a,k',p,o,z,f⟩:=Vj ns hl ds (t++[.int 0]) (iD d) (by rw [ap]; simp; omega);refine ⟨c::cs,a,k',?_,by simp [o],?_,?_⟩;·rw [p,ap,ac];simp;omega
  ·intro y h;rcases ah.mp h with rfl | h;·exact b
   ·exact z y h
  ·simp [kG,QS,qH,jK,hp,f]
theorem qdX (ns:List Int) (t:List D) (hl:qgy ls) (e:t.length < 900):∃ w a,xK w/\a.length<=t.length+8/\Js [scr ns,.lst t,.lst (ls.map D.str),.int 6]=.ok (.str w,[.non,.lst a,.non,.non]):=by
 obtain ⟨r,r0,r1,hr⟩:=wl ns t (many:=6) (by omega) (by omega);have n:(JJ 0 (1+r).toNat).length=(1+r).toNat:=by simp [JJ]
 obtain ⟨cs,a,k',p,o,b,y⟩:=Vj ns hl (JJ 0 (1+r).toNat) (t++[.int 0]) iF (by rw [n,ap]; simp; omega);rw [n] at p o;rw [ap] at p;simp at p;refine ⟨⟨cs.toArray⟩,a,⟨?_,?_,?_⟩,by omega,?_⟩;·show 1<=cs.toArray.size;simp; omega
 ·show cs.toArray.size<=6;simp; omega
 ·simpa using b
 ·refine runD_ap.trans ?_;have l:-(2 ^ 62:Int)<=1+r/\1+r < 2 ^ 62:=by omega
  have hb:=big;have z:(JJ 0 (1+r).toNat).length<=sizeLine:=by rw [n]; omega
  have d:h8 (au "")=0:=by decide +kernel
  have h:=Yb cs;have G:ZR (au "") (.lst ((cs.map λc=>(⟨#[c]⟩:Str)).map D.str))=.ok (.str ⟨cs.toArray⟩):=by unfold ZR;simp only [vM,GC,h];rw [if_pos ⟨by simp [d]; omega,by show cs.toArray.size<=_; simp; omega⟩]
  simp only [Wy,qv,jw,kM,jo];simp [-fS,qH,jK,hr,kx,wc,-Int.reducePow,l,z,vm,y,jY,G,qB]
theorem gz (w:Str):∀ ws:List Str,xO 7 (.str w) (ws.map D.str)=iD (decide (w∈ws))
 | []=>by simp [xO]
 | a::ws=>by
  have j:=gz w ws;simp only [ax,xO,j];simp [eqN,eqS];by_cases h:a=w;·simp [h]
  ·simp [h,be h]
def jS (ws:List Str):Prop:=1<=ws.length/\ws.length<=6/\ws.Nodup/\∀ w∈ws,xK w
abbrev GD:Sl->Out (Fl×Sl):=(jf (ku 6 (qC [.vl,.sl 1,.vl,.vl] Js (qe (qg 0) (jR (qe (qg 3) (qe (dC (.int 6)) qF))))))
  (sIf (qP (d2 Uz (qg 6) (qg 4))) (uP (Uq 4 Zo (qg 6))) kn))
theorem xp (ns:List Int) (m:D) (h:qgy ls):∀ (ds:List D) (n:List D) (ws:List Str) (k u:Option D),n.length+8 * ds.length < 900->ws.length+ds.length<=100->ws.Nodup->(∀ w∈ws,xK w) ->∃ (t:List D) (c:List Str) (k' V:Option D),t.length<=n.length+8 * ds.length/\c.length<=ws.length+ds.length/\ws.length<=c.length/\(ds≠[]->1<=c.length)/\c.Nodup/\(∀ w∈c,xK w) /\
   zd (gNm 5) GD ds [iD (scr ns),iD (.lst n),iD m,iD (.lst (ls.map D.str)),iD (.lst (ws.map D.str)),k,u]=.ok (.nx,[iD (scr ns),iD (.lst t),iD m,iD (.lst (ls.map D.str)),iD (.lst (c.map D.str)),k',V])
 | [],n,ws,k,u,_,_,hn,hw=>⟨n,ws,k,u,by simp,by simp,by simp,by simp,hn,hw,rfl⟩
 | d::ds,n,ws,k,u,ht,hl,hn,hw=>by
  rw [ac] at ht hl;obtain ⟨w,j,W,y,hg⟩:=qdX ns n h (by omega);have hb:=big;have p:ws.length < sizeLine:=by omega
  by_cases e:w∈ws
  ·obtain ⟨t,c,k',V,s,o,f,r,i,l,g⟩:=xp ns m h ds j ws (iD d) (iD (.str w)) (by omega) (by omega) hn hw;refine ⟨t,c,k',V,by rw [ac]; omega,by rw [ac]; omega,f,λ_=>?_,i,l,?_⟩;·have:0 < ws.length:=List.length_pos_of_mem e;omega
   ·rw [<-g];simp [zd,GD,qH,jK,hg,Uz,JY,inD,gz,e]
  ·obtain ⟨t,c,k',V,s,o,f,r,i,l,g⟩:=xp ns m h ds j (ws++[w]) (iD d) (iD (.str w)) (by omega) (by rw [ap]; simp; omega) (fJ.mpr ⟨hn,by simp,λa q b hb=>by
    rw [aK.mp hb];exact λz=>e (z ▸ q)⟩) (λx hx=>by
    rcases ba.mp hx with hx | hx;·exact hw x hx
    ·rw [aK.mp hx];exact W)
   rw [ap] at o f;simp at o f;refine ⟨t,c,k',V,by rw [ac]; omega,by rw [ac]; omega,by omega,λ_=>by omega,i,l,?_⟩;rw [<-g];simp [zd,GD,qH,jK,hg,Uz,JY,inD,gz,e,zF,Zo,p]
noncomputable def LETS:List (List Str):=[["a", "b"],["a", "b", "c"],["a", "b", "c", "d"],["k", "m", "z", "a", "e"]]
theorem qdY:∀ ls∈LETS,qgy ls:=by
 have h1:∀ ls∈LETS,∀ x∈ls,x∈(["a", "b", "c", "d", "k", "m", "z", "e"]:List Str):=by decide +kernel
 have h2:∀ ls∈LETS,ls≠[]:=by decide +kernel
 intro ls h;refine ⟨h2 ls h,λx hx=>?_⟩;have i:=h1 ls h x hx;simp only [ah,bi,or_false] at i;rcases i with rfl | rfl | rfl | rfl | rfl | rfl | rfl | rfl;·exact ⟨97,by unfold az; decide,by decide +kernel⟩
 ·exact ⟨98,by unfold az; decide,by decide +kernel⟩
 ·exact ⟨99,by unfold az; decide,by decide +kernel⟩
 ·exact ⟨100,by unfold az; decide,by decide +kernel⟩
 ·exact ⟨107,by unfold az; decide,by decide +kernel⟩
 ·exact ⟨109,by unfold az; decide,by decide +kernel⟩
 ·exact ⟨122,by unfold az; decide,by decide +kernel⟩
 ·exact ⟨101,by unfold az; decide,by decide +kernel⟩
theorem qbI (ns:List Int) (t:List D) (i:t.length < 700):∃ ws a,jS ws/\a.length<=t.length+50/\Ju [scr ns,.lst t,.int 6]=.ok (.tup (ws.map D.str),[.non,.lst a,.non]):=by
 obtain ⟨d,hd,hp⟩:=gx ns t (LETS.map λl=>.lst (l.map D.str)) (by simp [LETS]) (by omega);obtain ⟨ls,h,rfl⟩:=aF.mp hd;have hl:=qdY ls h;obtain ⟨r,r0,r1,hr⟩:=wl ns (t++[.int 0]) (many:=6) (by omega) (by rw [ap]; simp; omega);have n:(JJ 0 (1+r).toNat).length=(1+r).toNat:=by simp [JJ]
 obtain ⟨a,c,k',V,p,o,j,y,m,g,k⟩:=xp ns (.int 6) hl (JJ 0 (1+r).toNat) (t++[.int 0]++[.int 0]) [] iF iF (by rw [n,ap,ap]; simp; omega) (by rw [n]; simp; omega) bI (by simp);have e:JJ 0 (1+r).toNat≠[]:=λz=>by rw [z] at n;simp at n;omega
 refine ⟨c,a,⟨y e,?_,m,g⟩,?_,?_⟩;·rw [n] at o;simp at o;omega
 ·rw [n,ap,ap] at p;simp at p;omega
 ·refine runD_ap.trans ?_;have f:-(2 ^ 62:Int)<=1+r/\1+r < 2 ^ 62:=by omega
  have hb:=big;have b:4<=sizeLine:=by omega
  simp only [dA,aR,aS,aP] at k hr;simp only [LETS,ax,aP] at hp;simp [Jt,qv,qB,qH,jK,hp,hr,kx,wc,-Int.reducePow,f,b,k,wY]
def WW (p q:Int):Prop:=(-3<=p/\p<=2)/\-3<=q/\q<=2
theorem qdZ (ns:List Int) (t:List D) (l:t.length < 900):∃ p q a,WW p q/\a.length=t.length+2/\WA [scr ns,.lst t]=.ok (.tup [.int p,.int q],[.non,.lst a]):=by
 obtain ⟨r,r0,r1,hr⟩:=wl ns t (many:=6) (by omega) (by omega);obtain ⟨u,b,c,d⟩:=wl ns (t++[.int 0]) (many:=6) (by omega) (by rw [ap]; simp; omega);have hb:=big;have z:2<=sizeLine:=by omega
 refine ⟨r - 3,u - 3,t++[.int 0,.int 0],⟨⟨by omega,by omega⟩,by omega,by omega⟩,by simp,?_⟩;refine runD_ap.trans ?_;simp only [dA,aR,aS] at d;simp [Wz,qv,qB,qH,jK,hr,d,Ua,Qa,z]
noncomputable def yP (n:Nat) (p:Int):Nat:=(max 0 (min (if 0<=p then p else (n:Int)+p) ((n:Int) - 1))).toNat
noncomputable def wm (w:Str) (p:Int):Str:=⟨#[(w.cps.toList[yP w.length p]?).getD 0]⟩
variable {w:Str}
theorem xL (hw:xK w) (p:Int):vJ [.str w,.int p]=.ok (.str (wm w p),[.non,.non]):=by
 have h1:=hw.1;have h:(w.cps.toList.length:Int)=w.length:=by simp [gy]
 have key:∀ q:Int,q=(if 0<=p then p else (w.length:Int)+p)->atI w.cps.toList (if 0 < (if (w.length:Int) - 1 < q then (w.length:Int) - 1 else q) then (if (w.length:Int) - 1 < q then (w.length:Int) - 1 else q) else 0)=iD ((w.cps.toList[yP w.length p]?).getD 0):=by
  intro q hq;have e:(if 0 < (if (w.length:Int) - 1 < q then (w.length:Int) - 1 else q) then (if (w.length:Int) - 1 < q then (w.length:Int) - 1 else q) else 0)=(yP w.length p:Int):=by
   unfold yP;rw [<-hq];have:1<=(w.length:Int):=by omega
   generalize (w.length:Int)=n at *;split <;> split <;> omega
  have hl:yP w.length p < w.cps.toList.length:=by
   have Z:w.cps.toList.length=w.length:=by simp [gy]
   rw [Z];unfold yP;omega
  rw [e,ug,aM hl];rfl
 refine runD_ap.trans ?_;by_cases hp:0<=p;·have k:=key p (by rw [if_pos hp]);simp [wT,qv,qB,geD,Qa,hp,qgs,qgt,Ua,kE,ixD,k,wm]
 ·have k:=key (w.length+p) (by rw [if_neg hp]);simp [wT,qv,qB,geD,Qa,hp,qgs,qgt,Ua,wc,kE,ixD,k,wm]
theorem yQ (h:xK w):(∃ a,w=⟨#[a]⟩)\/(∃ a b,w=⟨#[a,b]⟩)\/(∃ a b c,w=⟨#[a,b,c]⟩)\/(∃ a b c d,w=⟨#[a,b,c,d]⟩)\/(∃ a b c d e,w=⟨#[a,b,c,d,e]⟩)\/∃ a b c d e f,w=⟨#[a,b,c,d,e,f]⟩:=by
 obtain ⟨⟨l⟩⟩:=w;have h1:1<=l.length:=h.1;have h2:l.length<=6:=h.2.1
 match l,h1,h2 with
 | [a],_,_=>exact .inl ⟨a,rfl⟩
 | [a,b],_,_=>exact .inr (.inl ⟨a,b,rfl⟩)
 | [a,b,c],_,_=>exact .inr (.inr (.inl ⟨a,b,c,rfl⟩))
 | [a,b,c,d],_,_=>exact .inr (.inr (.inr (.inl ⟨a,b,c,d,rfl⟩)))
 | [a,b,c,d,e],_,_=>exact .inr (.inr (.inr (.inr (.inl ⟨a,b,c,d,e,rfl⟩))))
 | [a,b,c,d,e,f],_,_=>exact .inr (.inr (.inr (.inr (.inr ⟨a,b,c,d,e,f,rfl⟩))))
variable {p:Int}
set_option maxHeartbeats 0 in
theorem Vk (hw:xK w) (h:-3<=p) (h1:p<=2):Gq [.str w,.int p]=.ok (.str (wm w p),[.non,.non]):=by
 have hp:p=-3\/p=-2\/p=-1\/p=0\/p=1\/p=2:=by omega
 rcases yQ hw with ⟨a,rfl⟩ | ⟨a,b,rfl⟩ | ⟨a,b,c,rfl⟩ | ⟨a,b,c,d,rfl⟩ | ⟨a,b,c,d,e,rfl⟩ | ⟨a,b,c,d,e,f,rfl⟩ <;> rcases hp with rfl | rfl | rfl | rfl | rfl | rfl <;> kernel_rfl
variable {own:List Nat}
theorem xq (ρc:Sl):∀ (cap:List Nat) (n:Nat) (ρ:Sl),(∀ k∈cap,k∉own)->jY own ρc n cap ρ=ρ
 | [],n,ρ,_=>rfl
 | k::cap,n,ρ,h=>by unfold jY;rw [if_neg (h k (ay ..))];exact xq ρc cap (n+1) ρ λx hx=>h x (ai _ hx)
variable {fe:Sl->Out (D×Sl)} {ft:Sl->Out (Bool×Sl)} {caps:Sl}
theorem qfX {P:D->Bool} {F:D->D}:∀ (ds:List D) (x:Option D),(∀ d∈ds,ft (iD d::caps)=.ok (P d,iD d::caps))->(∀ d∈ds,P d=iI->fe (iD d::caps)=.ok (F d,iD d::caps))->∃ n,kG (gNm 0) ft fe ds (x::caps)=.ok ((ds.filter P).map F,n::caps)
 | [],x,_,_=>⟨x,rfl⟩
 | d::ds,x,h,h'=>by
  obtain ⟨n,e⟩:=qfX ds (iD d) (λd' hd=>h d' (ai _ hd)) λd' hd=>h' d' (ai _ hd);refine ⟨n,?_⟩;have h1:=h d (ay ..);have h2:=h' d (ay ..);cases q:P d with
  | true=>simp [kG,QS,h1,q,h2 q,e]
  | false=>simp [kG,QS,h1,q,e]
variable {cap:List Nat} {fi:Sl->Out (List D×Sl)} {ρ ρ1:Sl} {ds:List D}
theorem qcu {fe:Sl->Out (D×Sl)} {ft:Sl->Out (Bool×Sl)} (P:D->Bool) (F:D->D) (m:∀ k∈cap,k∉own) (h:fi ρ=.ok (ds,ρ1)) (hl:ds.length<=sizeLine)
  (l:∀ d∈ds,ft (iD d::cap.map λk=>(ρ1[k]?).getD iF)=.ok (P d,iD d::cap.map λk=>(ρ1[k]?).getD iF)) (g:∀ d∈ds,P d=iI->fe (iD d::cap.map λk=>(ρ1[k]?).getD iF)=.ok (F d,iD d::cap.map λk=>(ρ1[k]?).getD iF)) :
  jo own 1 cap fi (gNm 0) ft fe ρ=.ok (.lst ((ds.filter P).map F),ρ1):=by
 obtain ⟨n,e⟩:=qfX ds iF l g;unfold jo;rw [h];simp only [qE];rw [if_pos hl,show vm 1 cap ρ1=iF::cap.map λk=>(ρ1[k]?).getD iF from rfl,e];simp only [qE,xq _ _ _ _ m]
theorem GE (F:D->D) (m:∀ k∈cap,k∉own) (h:fi ρ=.ok (ds,ρ1)) (hl:ds.length<=sizeLine) (l:∀ d∈ds,fe (iD d::cap.map λk=>(ρ1[k]?).getD iF)=.ok (F d,iD d::cap.map λk=>(ρ1[k]?).getD iF)):jo own 1 cap fi (gNm 0) ftT fe ρ=.ok (.lst (ds.map F),ρ1):=by have e:=qcu (ft:=ftT) (λ_=>iI) F m h hl (λ_ _=>rfl) λd hd _=>l d hd;rw [fA.mpr λ_ _=>rfl] at e;exact e
theorem uY (F:D->D) (h:fi ρ=.ok (ds,ρ1)) (hl:ds.length<=sizeLine) (l:∀ d∈ds,fe (iD d::cap.map λk=>(ρ1[k]?).getD iF)=.ok (F d,iD d::cap.map λk=>(ρ1[k]?).getD iF)):jo [] 1 cap fi (gNm 0) ftT fe ρ=.ok (.lst (ds.map F),ρ1):=GE F (λ_ _=>by simp) h hl l
theorem qcv {P:D×D->Bool} {F:D×D->D}:∀ (ps:List (D×D)) (x y:Option D),(∀ p∈ps,ft (iD p.1::iD p.2::caps)=.ok (P p,iD p.1::iD p.2::caps))->(∀ p∈ps,P p=iI->fe (iD p.1::iD p.2::caps)=.ok (F p,iD p.1::iD p.2::caps)) ->∃ n s,kG (wf 2 (qS (gNm 0) (qS (gNm 1) we))) ft fe (ps.map λp=>.tup [p.1,p.2]) (x::y::caps)=.ok ((ps.filter P).map F,n::s::caps)
 | [],x,y,_,_=>⟨x,y,rfl⟩
 | p::ps,x,y,h,h'=>by
  obtain ⟨n,s,e⟩:=qcv ps (iD p.1) (iD p.2) (λd' hd=>h d' (ai _ hd)) λd' hd=>h' d' (ai _ hd);refine ⟨n,s,?_⟩;have h1:=h p (ay ..);have h2:=h' p (ay ..);cases q:P p with
  | true=>simp [kG,QS,wf,qS,we,h1,q,h2 q,e]
  | false=>simp [kG,QS,wf,qS,we,h1,q,e]
theorem WI {fe:Sl->Out (D×Sl)} {ft:Sl->Out (Bool×Sl)} {ps:List (D×D)} (P:D×D->Bool) (F:D×D->D) (m:∀ k∈cap,k∉own) (h:fi ρ=.ok (ps.map λp=>.tup [p.1,p.2],ρ1)) (hl:ps.length<=sizeLine)
  (l:∀ p∈ps,ft (iD p.1::iD p.2::cap.map λk=>(ρ1[k]?).getD iF)=.ok (P p,iD p.1::iD p.2::cap.map λk=>(ρ1[k]?).getD iF))
  (g:∀ p∈ps,P p=iI->fe (iD p.1::iD p.2::cap.map λk=>(ρ1[k]?).getD iF)=.ok (F p,iD p.1::iD p.2::cap.map λk=>(ρ1[k]?).getD iF)) :
  jo own 2 cap fi (wf 2 (qS (gNm 0) (qS (gNm 1) we))) ft fe ρ=.ok (.lst ((ps.filter P).map F),ρ1):=by
 obtain ⟨n,s,e⟩:=qcv ps iF iF l g;unfold jo;rw [h];simp only [qE];rw [if_pos (by rw [aH]; exact hl),show vm 2 cap ρ1=iF::iF::cap.map λk=>(ρ1[k]?).getD iF from rfl,e];simp only [qE,xq _ _ _ _ m]
noncomputable def qQ (ws:List Str) (p q:Int):List (Str×Str):=ws.map λw=>(wm w p,wm w q)
noncomputable def kg (l:List (Str×Str)):List D:=l.map λx=>.tup [.str x.1,.str x.2]
theorem jd {n:Nat} (h:n<=2000):n<=sizeLine:=bR h big
abbrev Wd (ws:List Str):D:=.tup (ws.map D.str)
abbrev Ld (p q:Int):D:=.tup [.int p,.int q]
variable {ws:List Str} {q:Int}
theorem Qx {G:List D->Out (D×List D)} (hw:jS ws) (h:∀ w∈ws,G [.str w,.int p]=.ok (.str (wm w p),[.non,.non])/\G [.str w,.int q]=.ok (.str (wm w q),[.non,.non])):jo [] 1 [1] (wo (qg 0)) (gNm 0) ftT (wG (qe (qC [.vl,.vl] G (qe (qg 0) (qe (d2 ixD (qg 1) (dC (.int 0))) qF))) (qe (qC [.vl,.vl] G (qe (qg 0) (qe (d2 ixD (qg 1) (dC (.int 1))) qF))) qF))) [iD (Wd ws),iD (Ld p q)]
   = .ok (.lst (kg (qQ ws p q)),[iD (Wd ws),iD (Ld p q)]):=by
 have e:=uY (cap:=[1]) (fi:=wo (qg 0)) (ρ:=[iD (Wd ws),iD (Ld p q)]) (ρ1:=[iD (Wd ws),iD (Ld p q)]) (ds:=ws.map D.str)
  (fe:=(wG (qe (qC [.vl,.vl] G (qe (qg 0) (qe (d2 ixD (qg 1) (dC (.int 0))) qF))) (qe (qC [.vl,.vl] G (qe (qg 0) (qe (d2 ixD (qg 1) (dC (.int 1))) qF))) qF))))
  (λd=>match d with | .str w=>.tup [.str (wm w p),.str (wm w q)] | d=>d) (by simp [kI]) (by rw [aH]; exact jd (by have:=hw.2.1; omega)) (λd hd=>by obtain ⟨w,c,rfl⟩:=aF.mp hd;obtain ⟨h1,h2⟩:=h w c;have z:2<=sizeLine:=jd (by omega);simp [qH,jK,ixD,atI,ixN,h1,h2,z])
 rw [e];simp [kg,qQ]
theorem yj (hw:jS ws) (hl:WW p q):yi [Wd ws,Ld p q]=.ok (.lst (kg (qQ ws p q)),[.non,.non]):=by
 refine runD_ap.trans ?_;have e:=Qx (G:=Gq) hw (p:=p) (q:=q) λw c=>⟨Vk (hw.2.2.2 w c) hl.1.1 hl.1.2,Vk (hw.2.2.2 w c) hl.2.1 hl.2.2⟩
 unfold Wv;rw [jw,show qv Jr [Wd ws,Ld p q]=[iD (Wd ws),iD (Ld p q)] from rfl,e];rfl
def Pl:D->Prop
 | .raw _=>False
 | .xcp _=>False
 | .ins _ _=>False
 | .dct _=>False
 | .at_ _ _=>False
 | _=>True
@[simp] theorem kk1:kK "NoneType" "int"=iD false:=by decide +kernel
@[simp] theorem kk2:kK "bool" "int"=iD true:=by decide +kernel
@[simp] theorem kk3:kK "int" "int"=iD true:=by decide +kernel
@[simp] theorem kk4:kK "str" "int"=iD false:=by decide +kernel
@[simp] theorem kk5:kK "tuple" "int"=iD false:=by decide +kernel
@[simp] theorem kk6:kK "list" "int"=iD false:=by decide +kernel
@[simp] theorem kb1:kK "NoneType" "bool"=iD false:=by decide +kernel
@[simp] theorem kb2:kK "bool" "bool"=iD true:=by decide +kernel
@[simp] theorem kb3:kK "int" "bool"=iD false:=by decide +kernel
@[simp] theorem kb4:kK "str" "bool"=iD false:=by decide +kernel
@[simp] theorem kb5:kK "tuple" "bool"=iD false:=by decide +kernel
@[simp] theorem kb6:kK "list" "bool"=iD false:=by decide +kernel
@[simp] theorem ks1:kK "NoneType" "str"=iD false:=by decide +kernel
@[simp] theorem ks2:kK "bool" "str"=iD false:=by decide +kernel
@[simp] theorem ks3:kK "int" "str"=iD false:=by decide +kernel
@[simp] theorem ks4:kK "str" "str"=iD true:=by decide +kernel
@[simp] theorem ks5:kK "tuple" "str"=iD false:=by decide +kernel
@[simp] theorem ks6:kK "list" "str"=iD false:=by decide +kernel
@[simp] theorem kt1:kK "NoneType" "tuple"=iD false:=by decide +kernel
@[simp] theorem kt2:kK "bool" "tuple"=iD false:=by decide +kernel
@[simp] theorem kt3:kK "int" "tuple"=iD false:=by decide +kernel
@[simp] theorem kt4:kK "str" "tuple"=iD false:=by decide +kernel
@[simp] theorem kt5:kK "tuple" "tuple"=iD true:=by decide +kernel
@[simp] theorem kt6:kK "list" "tuple"=iD false:=by decide +kernel
noncomputable def JA:D->Bool
 | .tup _=>iI
 | _=>iH
noncomputable def qfY:D->Bool
 | .str _=>iI
 | _=>iH
noncomputable def isInt:D->Bool
 | .int _=>iI
 | .bl _=>iI
 | _=>iH
variable {d:D}
theorem qcw (h:Pl d):yB "tuple" d=.ok (.bl (JA d)):=by cases d <;> first | exact h.elim | simp [yB,tyN,JA]
theorem qcx (h:Pl d):yB "str" d=.ok (.bl (qfY d)):=by cases d <;> first | exact h.elim | simp [yB,tyN,qfY]
noncomputable def GF:D->Bool
 | .str x=>decide (x.length=1)&&(!vN x "a"&&!vN "z" x)
 | _=>iH
noncomputable def WJ (lo hi:Int):D->Bool
 | .int i=>decide (lo<=i)&&decide (i<=hi)
 | _=>iH
theorem xM (h:Pl d):vI [d]=.ok (.bl (GF d),[.non]):=by
 refine runD_ap.trans ?_;cases d <;> first
  | exact h.elim
  | (simp [vH,qv,qB,yB,tyN,GF]; done)
  | skip
 rename_i x;by_cases h1:x.length=1
 ·have c:(x.length:Int)=1:=by omega
  cases h2:vN x "a" <;> simp [vH,qv,yB,tyN,kE,eqD,eqN,eqS,leD,qB,GF,h1,c,h2]
 ·have c:¬(x.length:Int)=1:=by omega
  simp [vH,qv,yB,tyN,kE,eqD,eqN,eqS,leD,qB,GF,h1,c]
theorem vx (h:Pl d) (lo hi:Int):ki [d,.int lo,.int hi]=.ok (.bl (WJ lo hi d),[.non,.non,.non]):=by
 refine runD_ap.trans ?_;cases d <;> first
  | exact h.elim
  | (simp [vV,qv,qB,yB,tyN,WJ,uO]; done)
  | skip
 rename_i i;by_cases h1:lo<=i <;> simp [vV,qv,yB,tyN,leD,qB,WJ,uO,h1]
theorem GG {c:Nat} (h:az c):GF (.str ⟨#[c]⟩)=true:=by
 have f:(au "a").cps.toList=[97]:=by decide +kernel
 have z:(au "z").cps.toList=[122]:=by decide +kernel
 obtain ⟨h1,h2⟩:=h;have i:¬([c]:List Nat) < [97]:=by rw [List.cons_lt_cons_iff];simp;omega
 have l:¬([122]:List Nat) < [c]:=by rw [List.cons_lt_cons_iff];simp;omega
 have e1:vN ⟨#[c]⟩ (au "a")=false:=by unfold vN;rw [f];exact decide_eq_false i
 have e:vN (au "z") ⟨#[c]⟩=false:=by unfold vN;rw [z];exact decide_eq_false l
 simp [GF,gy,e1,e]
theorem Qy (f:α->Bool):∀ l:List α,vR (l.map λx=>.bl (f x))=iD (l.map f)
 | []=>rfl
 | a::l=>by have j:=Qy f l;simp [vR,j]
theorem zn (f:α->Bool) (l:List α):qai (.lst (l.map λx=>.bl (f x)))=.ok (.bl (l.all f)):=by simp only [qai,Qy];simp [List.all_map,eX]
theorem GH (hw:xK w) (p:Int):∃ c,az c/\wm w p=⟨#[c]⟩:=by
 have n:w.cps.toList.length=w.length:=by simp [gy]
 have hl:yP w.length p < w.cps.toList.length:=by have:=hw.1;rw [n];unfold yP;omega
 refine ⟨w.cps.toList[yP w.length p],hw.2.2 _ (dI hl),?_⟩;unfold wm;rw [aM hl];rfl
theorem Qz (hw:xK w):ux [.str w]=.ok (.bl iI,[.non]):=by
 refine runD_ap.trans ?_;have e:=uY (cap:=[]) (fi:=wo (qg 0)) (ρ:=[iD (.str w)]) (ρ1:=[iD (.str w)]) (ds:=Ku w) (fe:=qC [.vl] vI (qe (qg 0) qF)) (λd=>.bl (GF d)) (by simp [kI]) (by
   have:=hw.2.1;simp [Ku,<-gy];exact jd (by omega)) (λd hd=>by
   obtain ⟨c,h,rfl⟩:=aF.mp hd;have h1:=xM (d:=.str ⟨#[c]⟩) trivial;simp [qH,jK,h1])
 have f:(Ku w).all GF=true:=by rw [bh];intro d hd;obtain ⟨c,h,rfl⟩:=aF.mp hd;exact GG (hw.2.2 c h)
 have h1:(1:Int)<=w.length:=by have:=hw.1; omega
 have M:(w.length:Int)<=6:=by have:=hw.2.1; omega
 simp only [gh,qv,ax,aP,ac,am,Nat.reduceAdd,fC,cX,bj];simp [yB,tyN,uO,kE,leD,h1,M,e,zn,f,qB]
theorem yk:∀ (ws ks:List Str),ws.Nodup->(∀ x∈ws,x∉ks)->ws.foldl ue ks=ks++ws
 | [],ks,_,_=>by simp
 | w::ws,ks,hn,hd=>by
  have h1:=bb.mp hn;rw [bY,show ue ks w=ks++[w] from if_neg (hd w (ay ..)),yk ws (ks++[w]) h1.2 ?_];·simp
  ·intro x hx z;rcases ba.mp z with z | z;·exact hd x (ai _ hx) z
   ·rw [aK.mp z] at hx;exact h1.1 hx
theorem wD (ws:List Str):∀ ks:List Str,ks.Nodup->(ws.foldl ue ks).Nodup/\∀ x,x∈ws.foldl ue ks↔x∈ks\/x∈ws:=by
 induction ws with
 | nil=>intro ks n; exact ⟨n,λx=>by simp⟩
 | cons w ws j=>
  intro ks n;have d:(ue ks w).Nodup:=by
   unfold ue;split;·exact n
   ·rename_i h;exact fJ.mpr ⟨n,by simp,λa f b hb=>by rw [aK.mp hb];exact λz=>h (z ▸ f)⟩
  obtain ⟨a,b⟩:=j (ue ks w) d;refine ⟨a,λx=>?_⟩;rw [bY,b x];unfold ue;split
  ·rename_i h;constructor
   ·rintro (q | q);·exact .inl q
    ·exact .inr (ai _ q)
   ·rintro (q | q);·exact .inl q
    ·rcases ah.mp q with rfl | q;·exact .inl h
     ·exact .inr q
  ·simp [ba,or_assoc]
theorem WK (hw:jS ws):xc [.tup (ws.map D.str)]=.ok (.bl iI,[.non]):=by
 refine runD_ap.trans ?_;have e:=uY (cap:=[]) (fi:=wo (qg 0)) (ρ:=[iD (.tup (ws.map D.str))]) (ρ1:=[iD (.tup (ws.map D.str))]) (ds:=ws.map D.str) (fe:=qC [.vl] ux (qe (qg 0) qF)) (λd=>.bl iI) (by simp [kI]) (by
   rw [aH];exact jd (by have:=hw.2.1; omega)) (λd hd=>by
   obtain ⟨w,c,rfl⟩:=aF.mp hd;have h1:=Qz (hw.2.2.2 w c);simp [qH,jK,h1])
 have h1:(1:Int)<=ws.length:=by have:=hw.1; omega
 have M:(ws.length:Int)<=6:=by have:=hw.2.1; omega
 have h:ws.foldl ue []=ws:=by rw [yk ws [] hw.2.2.1 (by simp)]; simp
 have a:ws.length < 4000:=by omega
 have f:=zn (λ_:D=>iI) (ws.map D.str);simp only [xb,qv,ax,aP,ac,am,Nat.reduceAdd,fC,cX,bj];simp [-fS,yB,tyN,uO,kE,leD,h1,M,e,f,qB,zT,uo,vM,h,a,eqD,eqN,eqS]
theorem gR (hw:jS ws):wR [.tup (ws.map D.str)]=.ok (.non,[.non]):=by refine runD_ap.trans ?_;have h:=WK hw;simp [wQ,qv,qB,qH,jK,h,uO]
theorem Xb (hl:WW p q):gl [.tup [.int p,.int q]]=.ok (.bl iI,[.non]):=by
 refine runD_ap.trans ?_;have e:=uY (cap:=[]) (fi:=wo (qg 0)) (ρ:=[iD (.tup [.int p,.int q])]) (ρ1:=[iD (.tup [.int p,.int q])]) (ds:=[.int p,.int q]) (fe:=qC [.vl,.vl,.vl] ki (qe (qg 0) (qe (dC (.int (-3))) (qe (dC (.int 2)) qF)))) (λd=>.bl (WJ (-3) 2 d)) (by simp [kI]) (jd (by simp)) (λd hd=>by
   have hd:d=.int p\/d=.int q:=by simpa using hd
   have h1:=vx (d:=.int p) trivial (-3) 2;have h2:=vx (d:=.int q) trivial (-3) 2;rcases hd with rfl | rfl;·simp [qH,jK,h1]
   ·simp [qH,jK,h2])
 have b1:WJ (-3) 2 (.int p)=true:=by simp [WJ]; exact hl.1
 have b2:WJ (-3) 2 (.int q)=true:=by simp [WJ]; exact hl.2
 simp only [gk,qv,ax,aP,ac,am,Nat.reduceAdd,fC,cX,bj];simp [yB,tyN,uO,kE,neD,eqN,eqS,e,qai,vR,b1,b2,qB]
theorem JB (hl:WW p q):uz [.tup [.int p,.int q]]=.ok (.non,[.non]):=by refine runD_ap.trans ?_;have h:=Xb hl;simp [uy,qv,qB,qH,jK,h,uO]
theorem qbJ (hw:jS ws) (hl:WW p q):Wq [Wd ws,Ld p q]=.ok (.lst (kg (qQ ws p q)),[.non,.non]):=by
 refine runD_ap.trans ?_;have e:=Qx (G:=vJ) hw (p:=p) (q:=q) λw c=>⟨xL (hw.2.2.2 w c) p,xL (hw.2.2.2 w c) q⟩
 have l:=gR hw;have c2:=JB hl;simp only [Wp,qv,ax,aP,ac,am,Nat.reduceAdd,fC,cX,bj];simp [qH,jK,l,c2,e,qB]
variable {a:List Str}
theorem Vl {b:List Str} (f:a.Nodup) (hb:b.Nodup) (h:∀ x,x∈a↔x∈b):a.Perm b:=(List.perm_ext_iff_of_nodup f hb).mpr h
theorem GJ {b:List Str} (h:∀ x,x∈a↔x∈b):kL (a.foldl ue [])=kL (b.foldl ue []):=by
 obtain ⟨n1,m1⟩:=wD a [] bI;obtain ⟨n2,A⟩:=wD b [] bI;have p:=Vl n1 n2 λx=>by rw [m1,A,h]
 exact um ((qR _).trans (p.trans (qR _).symm)) (jq _) (jq _)
noncomputable def LS (l:List (Str×Str)):List Str:=kL ((l.map (·.1)++l.map (·.2)).foldl ue [])
variable {x:Str}
theorem mem_LS {l:List (Str×Str)}:x∈LS l↔∃ p∈l,x=p.1\/x=p.2:=by
 unfold LS;rw [(qR _).mem_iff,(wD _ [] bI).2];simp only [bi,false_or,ba,aF];constructor
 ·rintro (⟨p,hp,rfl⟩ | ⟨p,hp,rfl⟩);·exact ⟨p,hp,.inl rfl⟩
  ·exact ⟨p,hp,.inr rfl⟩
 ·rintro ⟨p,hp,rfl | rfl⟩;·exact .inl ⟨p,hp,rfl⟩
  ·exact .inr ⟨p,hp,rfl⟩
theorem JC {l:List (Str×Str)} (hl:l.length<=20):kZ [.lst (kg l)]=.ok (.lst ((LS l).map D.str),[.non]):=by
 refine runD_ap.trans ?_;have z:(kg l).length<=sizeLine:=by unfold kg;rw [aH];exact jd (by omega)
 have e1:=uY (cap:=[]) (fi:=wo (qg 0)) (ρ:=[iD (.lst (kg l))]) (ρ1:=[iD (.lst (kg l))]) (ds:=kg l) (fe:=d2 ixD (qg 0) (dC (.int 0))) (λd=>match d with | .tup [a,b]=>a | d=>d) (by simp [kI]) z (λd hd=>by obtain ⟨x,hx,rfl⟩:=aF.mp hd;simp [ixD,atI,ixN]);have i:=uY (cap:=[]) (fi:=wo (qg 0)) (ρ:=[iD (.lst (kg l))]) (ρ1:=[iD (.lst (kg l))]) (ds:=kg l) (fe:=d2 ixD (qg 0) (dC (.int 1))) (λd=>match d with | .tup [a,b]=>b | d=>d) (by simp [kI]) z (λd hd=>by obtain ⟨x,hx,rfl⟩:=aF.mp hd;simp [ixD,atI,ixN]);have f1:(kg l).map (λd=>match d with | .tup [a,b]=>a | d=>d)=(l.map (·.1)).map D.str:=by simp [kg]
 have f2:(kg l).map (λd=>match d with | .tup [a,b]=>b | d=>d)=(l.map (·.2)).map D.str:=by simp [kg]
 rw [f1] at e1;rw [f2] at i;have c:l.length+l.length<=sizeLine:=jd (by omega);have j:l.length+l.length < 64:=by omega
 simp only [uA,qv,ax,aP,ac,am,Nat.reduceAdd,fC,cX,bj,jw,kM,jx,e1,i,qE];simp only [wc,aH,if_pos c,qY,qE,<-fy,kC,uo,vM,ap,if_pos j];simp [qB,LS]
theorem Yc:∀ l:List (Str×Str),(l.flatMap λp=>[p.1,p.2]).length=2 * l.length
 | []=>rfl
 | a::l=>by rw [List.flatMap_cons,ap,Yc l,ac];simp;omega
def qgz (d:D):Prop:=Pl d/\∀ xs,d=.tup xs->∀ x∈xs,Pl x
noncomputable def GK (room:Int):D->Bool
 | .tup [a,b]=>GF a&&WJ 0 (room - 1) b
 | _=>iH
theorem at0 {a:D} {l:List D}:atI (a::l) 0=iD a:=by have:=ug (a::l) 0;simpa using this
theorem at1 {a b:D} {l:List D}:atI (a::b::l) 1=iD b:=by have:=ug (a::b::l) 1;simpa using this
theorem WL (h:qgz d) (room:Int):uI [d,.int room]=.ok (.bl (GK room d),[.non,.non]):=by
 refine runD_ap.trans ?_;have t:=qcw h.1;cases d with
 | tup xs=>
  have hp:=h.2 xs rfl
  match xs,hp with
  | [],_=>simp [kN,qv,qB,t,JA,uO,kE,neD,eqN,eqS,GK]
  | [a],_=>simp [kN,qv,qB,t,JA,uO,kE,neD,eqN,eqS,GK]
  | [a,b],hp=>have h1:=xM (hp a (by simp));have h2:=vx (hp b (by simp)) 0 (room - 1);cases hb:GF a <;> simp [kN,qv,qB,t,JA,uO,kE,neD,eqN,eqS,GK,ixD,at0,at1,qH,jK,h1,h2,hb,Ua,Qa]
  | a::b::c::l,_=>
   have e:¬((l.length:Int)+1+1+1=2):=by omega
   simp [kN,qv,qB,t,JA,uO,kE,neD,eqN,eqS,GK,e]
 | _=>first | exact h.1.elim | simp [kN,qv,qB,t,JA,uO,GK]
noncomputable def prL (l:List (Str×Int)):List D:=l.map λx=>.tup [.str x.1,.int x.2]
def OkW (room:Int) (l:List (Str×Int)):Prop:=∀ x∈l,GF (.str x.1)=iI/\0<=x.2/\x.2 < room
variable {l:List (Str×Int)} {room:Int}
theorem qd0 (h:OkW room l):(prL l).all (GK room)=true:=by rw [bh];intro d hd;obtain ⟨x,hx,rfl⟩:=aF.mp hd;obtain ⟨h1,h2,i⟩:=h x hx;simp [GK,h1,WJ,h2];omega
noncomputable def jk (l:List (Str×Int)):List Str:=l.map (·.1)
theorem Vm:∀ (a b:List Str),wX (eqN 7) (a.map D.str) (b.map D.str)=iD (decide (a.take (min a.length b.length)=b.take (min a.length b.length)))
 | [],b=>by simp [wX]
 | a::l,[]=>by simp [wX]
 | a::l,b::m=>by have j:=Vm l m;simp only [ax,wX,j,eqN,eqS,ac,Nat.succ_eq_add_one,show min (l.length+1) (m.length+1)=min l.length m.length+1 by omega,List.take_succ_cons];by_cases h:a=b <;> simp [h]
theorem qbK (a b:List Str):eqD (.lst (a.map D.str)) (.lst (b.map D.str))=.ok (.bl (decide (a=b))):=by
 by_cases h:a.length=b.length;·have e:=Vm a b;rw [h,Nat.min_self,List.take_length,<-h,List.take_length] at e;simp [eqD,eqN,h,e]
 ·have c:a≠b:=λz=>h (by rw [z]);simp [eqD,eqN,h,c]
noncomputable def WM (l:List (Str×Int)):Bool:=decide (jk l=kL ((jk l).foldl ue []))
theorem xN (h:∀ d∈ds,qgz d) (hl:ds.length<=50) (room:Int):(ds.all (GK room)=iH->kO [.tup ds,.int room]=.ok (.bl iH,[.non,.non]))/\∀ l,ds=prL l->OkW room l->kO [.tup ds,.int room]=.ok (.bl (WM l),[.non,.non]):=by
 have z:ds.length<=sizeLine:=jd (by omega);have t:=qcw (d:=.tup ds) trivial;have e1:=uY (cap:=[1]) (fi:=wo (qg 0)) (ρ:=[iD (.tup ds),iD (.int room),iF]) (ρ1:=[iD (.tup ds),iD (.int room),iF]) (ds:=ds) (fe:=qC [.vl,.vl] uI (qe (qg 0) (qe (qg 1) qF))) (λd=>.bl (GK room d)) (by simp [kI]) z (λd hd=>by have h1:=WL (h d hd) room;simp [qH,jK,h1]);have f:=zn (GK room) ds;constructor;·intro hb;refine runD_ap.trans ?_;simp [wP,qv,qB,t,JA,uO,e1,f,hb]
 ·rintro l rfl hw;refine runD_ap.trans ?_;have hb:=qd0 hw;have i:=uY (cap:=[]) (fi:=wo (qg 0)) (ρ:=[iD (.tup (prL l)),iD (.int room),iF]) (ρ1:=[iD (.tup (prL l)),iD (.int room),iF]) (ds:=prL l) (fe:=d2 ixD (qg 0) (dC (.int 0))) (λd=>match d with | .tup [a,b]=>a | d=>d) (by simp [kI]) z (λd hd=>by obtain ⟨x,hx,rfl⟩:=aF.mp hd;simp [ixD,at0]);have f2:(prL l).map (λd=>match d with | .tup [a,b]=>a | d=>d)=(jk l).map D.str:=by simp [prL,jk]
  rw [f2] at i;have j:(jk l).length < 64:=by simp [jk];simp [prL] at hl;omega
  have m:=qbK (jk l) (kL ((jk l).foldl ue []));simp [wP,qv,qB,t,JA,uO,e1,f,hb,i,kC,uo,vM,j,m,WM]
noncomputable def WN:List Str->Bool
 | x::y::l=>vN x y&&WN (y::l)
 | _=>iI
variable {y:Str}
theorem qho (h:vN x y=iI):leS x y/\x≠y:=by
 unfold vN at h;have h:=of_decide_eq_true h;constructor;·exact List.le_of_lt h
 ·rintro rfl;exact List.lt_irrefl _ h
theorem qhp (h:leS x y) (n:x≠y):vN x y=true:=by
 cases e:vN x y with
 | true=>rfl
 | false=>exact absurd (QX h (strLt_false.mp e)) n
theorem WO:∀ (l:List Str),WN l=iI->l.Pairwise (λx y=>leS x y/\x≠y)
 | [],_=>dw
 | [x],_=>ei _ _
 | x::y::l,h=>by
  have h:(vN x y&&WN (y::l))=true:=h;rw [aZ] at h;have j:=WO (y::l) h.2;have b:=qho h.1;refine bG.mpr ⟨λz c=>?_,j⟩;rcases ah.mp c with rfl | c;·exact b
  ·have a:=(bG.mp j).1 z c;refine ⟨zQ b.1 a.1,λe=>?_⟩;subst e;exact b.2 (QX b.1 a.1)
theorem GL:∀ (l:List Str),l.Pairwise (λx y=>leS x y/\x≠y)->WN l=iI
 | [],_=>rfl
 | [x],_=>rfl
 | x::y::l,h=>by have h1:=bG.mp h;have b:=h1.1 y (ay ..);show (vN x y&&WN (y::l))=iI;rw [qhp b.1 b.2,GL (y::l) h1.2];rfl
theorem Yd {l:List Str} (h:l.Pairwise (λx y=>leS x y/\x≠y)):l.Nodup:=h.imp λh=>h.2
theorem qbL (L:List Str):decide (L=kL (L.foldl ue []))=WN L:=by
 cases e:WN L with
 | true=>
  have p:=WO L e;have n:=Yd p;have f:L.foldl ue []=L:=by rw [yk L [] n (by simp)]; simp
  rw [f];exact decide_eq_true (um (qR L).symm (p.imp λh=>h.1) (jq L))
 | false=>refine decide_eq_false λz=>?_;have n:(kL (L.foldl ue [])).Nodup:=(qR _).nodup_iff.mpr (wD L [] bI).1;have c:=jq (L.foldl ue []);rw [<-z] at n c;have p:L.Pairwise (λx y=>leS x y/\x≠y):=c.and n;rw [GL L p] at e;cases e
theorem xu (h:WM l=iI):(jk l).Nodup:=by unfold WM at h;rw [qbL] at h;exact Yd (WO _ h)
noncomputable def bk (l:List (Str×Int)):List (Key×D):=l.map λx=>(.inr x.1,.int x.2)
theorem Vn:∀ l:List (Str×Int),uR (prL l)=iD (bk l)
 | []=>rfl
 | x::l=>by have j:=Vn l;unfold prL at j ⊢;rw [ax];simp [uR,qa7,qaj,j,bk]
theorem GM:∀ (l:List (Str×Int)) (a:List (Key×D)),(jk l).Nodup->(∀ x∈l,∀ p∈a,p.1≠.inr x.1)->(bk l).foldl (λa p=>Zw a p.1 p.2) a=a++bk l
 | [],a,_,_=>by simp [bk]
 | x::l,a,hn,hd=>by
  have h1:=bb.mp (show (x.1::jk l).Nodup from hn);have hp:Zw a (.inr x.1) (.int x.2)=a++[(.inr x.1,.int x.2)]:=by unfold Zw;rw [if_neg];simp only [List.any_eq_true,decide_eq_true_eq,not_exists,not_and];exact λp hp=>hd x (ay ..) p hp
  have j:=GM l (a++[(.inr x.1,.int x.2)]) h1.2 (λy k p hp=>by
   rcases ba.mp hp with hp | hp;·exact hd y (ai _ k) p hp
   ·rw [aK.mp hp];intro z;have z:x.1=y.1:=dX.inj z;exact h1.1 (z ▸ aF.mpr ⟨y,k,rfl⟩))
  show ((bk l).foldl (λa p=>Zw a p.1 p.2) (Zw a (.inr x.1) (.int x.2)))=a++(.inr x.1,.int x.2)::bk l;rw [hp,j];simp
theorem WP (h:(jk l).Nodup):gJ (.tup (prL l))=.ok (.dct (bk l)):=by have e:=GM l [] h (λ_ _ p hp=>by cases hp);simp at e;simp [gJ,Vn,e]
theorem qcy (l:List (Str×Int)) (x:Str):qfq (bk l) (.inr x)=decide (x∈jk l):=by
 unfold qfq bk jk;rw [List.any_map]
 induction l with
 | nil=>simp
 | cons a l j=>
  simp only [di,ax,ah,j];by_cases h:a.1=x;·simp [h]
  ·simp [h,be h]
noncomputable def yS (l:List (Str×Int)) (x:Str):Int:=((l.find? λy=>decide (y.1=x)).map (·.2)).getD 0
theorem WQ:∀ {l:List (Str×Int)} {x:Str},x∈jk l->(x,yS l x)∈l/\(bk l).find? (λkv=>decide (kv.1=dX x))=iD (.inr x,.int (yS l x))
 | [],x,h=>by cases h
 | a::l,x,h=>by
  by_cases e:a.1=x
  ·have c:yS (a::l) x=a.2:=by simp [yS,e]
   rw [c];refine ⟨?_,?_⟩;·rw [<-e];exact ay ..
   ·simp [bk,e]
  ·have hx:x∈jk l:=by
    rcases ah.mp (show x∈a.1::jk l from h) with z | z;·exact absurd z.symm e
    ·exact z
   obtain ⟨h1,h2⟩:=WQ hx;have c:yS (a::l) x=yS l x:=by simp [yS,e]
   rw [c];refine ⟨ai _ h1,?_⟩;rw [<-h2];simp [bk,e]
theorem Xc (h:x∈jk l):ixD (.dct (bk l)) (.str x)=.ok (.int (yS l x)):=by simp [ixD,(WQ h).2]
theorem qcz (hw:OkW room l) (h:x∈jk l):0<=yS l x/\yS l x < room:=(hw _ (WQ h).1).2
abbrev nn4:Sl:=[iD .non,iD .non,iD .non,iD .non]
theorem JD (h:Pl d):ut [d]=if WJ 1 99 d=iI then .ok (.non,[.non]) else .exc "NoRoom" [iD .non]:=by refine runD_ap.trans ?_;have h1:=vx h 1 99;have z:1<=sizeLine:=jd (by omega);cases e:WJ 1 99 d <;> simp [ur,qv,qB,qH,jK,h1,e,uO,va]
theorem gA {b:Bool} (h:kO [d,.int room]=.ok (.bl b,[.non,.non])):wk [d,.int room]=if b=iI then .ok (.non,[.non,.non]) else .exc "NoWorths" [iD .non,iD .non]:=by refine runD_ap.trans ?_;cases b <;> simp [wj,qv,qB,qH,jK,h,uO,va]
theorem GN (t room:Int):zg [.int t,.int room]=.ok (.int (if room<=t then t - room else t),[.non,.non]):=by refine runD_ap.trans ?_;by_cases h:room<=t <;> simp [Jl,qv,qB,geD,Qa,Ua,h]
variable {r:Int}
section
variable (hw:jS ws) (hl:WW p q)
include hw hl
noncomputable def qcA (l:List (Str×Int)) (s:List (Str×Str)) (r:Int):List D:=s.map λx=>.int ((yS l x.1+yS l x.2) % r)
omit hw hl in
theorem qiy {a b:Int} (f:0<=a/\a < r) (hb:0<=b/\b < r):(if r<=a+b then a+b - r else a+b)=(a+b) % r:=by
 split;·rw [<-Int.sub_emod_right,Int.emod_eq_of_lt (by omega) (by omega)]
 ·rw [Int.emod_eq_of_lt (by omega) (by omega)]
theorem gB (hr:WJ 1 99 (.int r)=iI) (m:OkW r l) (s:WM l=iI) (h:kO [.tup (prL l),.int r]=.ok (.bl iI,[.non,.non])):kl [Wd ws,Ld p q,.int r,.tup (prL l)]=if (LS (qQ ws p q)).all (λx=>decide (x∈jk l))=iI then .ok (.tup (qcA l (qQ ws p q) r),[.non,.non,.non,.non]) else .exc "NoWorths" nn4:=by
 refine runD_ap.trans ?_;have h1:=qbJ hw hl;have h2:=JD (d:=.int r) trivial;rw [hr] at h2;have i:=gA h;have c:=WP (xu s);have t:(qQ ws p q).length<=6:=by simp [qQ]; exact hw.2.1
 have o:=JC (l:=qQ ws p q) (by omega);have n:(LS (qQ ws p q)).length<=2000:=by unfold LS;rw [(qR _).length_eq];have:=zM ((qQ ws p q).map (·.1)++(qQ ws p q).map (·.2)) [];simp only [ap,aH,am] at this;omega
 have e1:=uY (cap:=[5]) (fi:=wo (qC [.vl] kZ (qe (qg 4) qF))) (ρ:=[iD (Wd ws),iD (Ld p q),iD (.int r),iD (.tup (prL l)),iD (.lst (kg (qQ ws p q))),iD (.dct (bk l))]) (ρ1:=[iD (Wd ws),iD (Ld p q),iD (.int r),iD (.tup (prL l)),iD (.lst (kg (qQ ws p q))),iD (.dct (bk l))]) (ds:=(LS (qQ ws p q)).map D.str)
  (fe:=d2 inA (qg 0) (qg 1)) (λd=>match d with | .str x=>.bl (decide (x∈jk l)) | d=>d) (by simp [qH,jK,o,kI]) (by rw [aH]; exact jd n) (λd hd=>by obtain ⟨x,hx,rfl⟩:=aF.mp hd;simp [inA,qaj,qcy])
 rw [fS] at e1;have f:=zn (λx=>decide (x∈jk l)) (LS (qQ ws p q));have e:jo [] 1 [5] (wo (qC [.vl] kZ (qe (qg 4) qF))) (gNm 0) ftT (d2 inA (qg 0) (qg 1)) [iD (Wd ws),iD (Ld p q),iD (.int r),iD (.tup (prL l)),iD (.lst (kg (qQ ws p q))),iD (.dct (bk l))]=.ok (.lst ((LS (qQ ws p q)).map λx=>.bl (decide (x∈jk l))),[iD (Wd ws),iD (Ld p q),iD (.int r),iD (.tup (prL l)),iD (.lst (kg (qQ ws p q))),iD (.dct (bk l))]):=e1;cases hA:(LS (qQ ws p q)).all (λx=>decide (x∈jk l)) with
 | false=>rw [hA] at f;simp [uK,qv,qB,qH,jK,h1,h2,i,c,e,f,uO,va]
 | true=>
  rw [hA] at f;have u:∀ x∈qQ ws p q,x.1∈jk l/\x.2∈jk l:=λx hx=>by rw [bh] at hA;exact ⟨of_decide_eq_true (hA x.1 (mem_LS.mpr ⟨x,hx,.inl rfl⟩)),of_decide_eq_true (hA x.2 (mem_LS.mpr ⟨x,hx,.inr rfl⟩))⟩
  have g:=uY (cap:=[2,5]) (fi:=wo (qg 4)) (ρ:=[iD (Wd ws),iD (Ld p q),iD (.int r),iD (.tup (prL l)),iD (.lst (kg (qQ ws p q))),iD (.dct (bk l))]) (ρ1:=[iD (Wd ws),iD (Ld p q),iD (.int r),iD (.tup (prL l)),iD (.lst (kg (qQ ws p q))),iD (.dct (bk l))]) (ds:=kg (qQ ws p q))
   (fe:=qC [.vl,.vl] zg (qe (d2 wc (d2 ixD (qg 2) (d2 ixD (qg 0) (dC (.int 0)))) (d2 ixD (qg 2) (d2 ixD (qg 0) (dC (.int 1))))) (qe (qg 1) qF))) (λd=>match d with | .tup [.str a,.str b]=>.int ((yS l a+yS l b) % r) | d=>d) (by simp [kI]) (by simp [kg]; exact jd (by omega)) (λd hd=>by
    obtain ⟨x,hx,rfl⟩:=aF.mp hd;obtain ⟨i1,i2⟩:=u x hx;have k:=Xc i1;have j:=Xc i2;have wr:=qiy (qcz m i1) (qcz m i2);have wi:=GN (yS l x.1+yS l x.2) r;rw [wr] at wi;have k0:ixD (.tup [.str x.1,.str x.2]) (.int 0)=.ok (.str x.1):=by simp [ixD,at0]
    have k1:ixD (.tup [.str x.1,.str x.2]) (.int 1)=.ok (.str x.2):=by simp [ixD,at1]
    simp [qH,jK,k0,k1,k,j,wc,wi])
  have f2:(kg (qQ ws p q)).map (λd=>match d with | .tup [.str a,.str b]=>.int ((yS l a+yS l b) % r) | d=>d)=qcA l (qQ ws p q) r:=by simp [kg,qcA]
  rw [f2] at g;simp [uK,qv,qB,qH,jK,h1,h2,i,c,e,f,uO,g,wY]
end
theorem jl {ms:List PM} {f g:Sl->Out (Fl×Sl)} (h:f ρ=.ok (.nx,ρ1)):Xh ms (jf f g ρ)=Xh ms (g ρ1):=by rw [wg,h];rfl
abbrev qfZ:Sl->Out (Fl×Sl):=(uP (Uq 2 qcg (d1 YH (qg 3))))
theorem Vo (a b:Option D):∀ (l:List (Str×Str)) (made:List Str) (x:Option D),made.length+2 * l.length<=1000->∃ n,zd (gNm 3) qfZ (kg l) [a,b,iD (.lst (made.map D.str)),x]=.ok (.nx,[a,b,iD (.lst ((made++l.flatMap λp=>[p.1,p.2]).map D.str)),n])
 | [],made,x,_=>⟨x,by simp [kg,zd]⟩
 | p::l,made,x,h=>by rw [ac] at h;obtain ⟨n,e⟩:=Vo a b l (made++[p.1,p.2]) (iD (.tup [.str p.1,.str p.2])) (by rw [ap]; simp; omega);refine ⟨n,?_⟩;have z:2<=sizeLine:=jd (by omega);have c:made.length+2<=sizeLine:=jd (by omega);rw [show (made++(p::l).flatMap λp=>[p.1,p.2])=(made++[p.1,p.2])++l.flatMap λp=>[p.1,p.2] by simp,<-e];simp [kg,zd,qfZ,zF,qcg,YH,z,c]
theorem gS (hw:jS ws) (hl:WW p q):xl [Wd ws,Ld p q]=.ok (.lst ((LS (qQ ws p q)).map D.str),[.non,.non]):=by
 refine runD_ap.trans ?_;have h1:=yj hw hl;have a:(qQ ws p q).length<=6:=by simp [qQ]; exact hw.2.1
 obtain ⟨n,e⟩:=Vo (iD (Wd ws)) (iD (Ld p q)) (qQ ws p q) [] iF (by simp; omega);have h:((qQ ws p q).flatMap λp=>[p.1,p.2]).length < 64:=by rw [Yc];omega
 have c:kL (((qQ ws p q).flatMap λp=>[p.1,p.2]).foldl ue [])=LS (qQ ws p q):=GJ λx=>by
  simp only [List.mem_flatMap,ba,aF,ah,bi,or_false];constructor
  ·rintro ⟨p,hp,rfl | rfl⟩;·exact .inl ⟨p,hp,rfl⟩
   ·exact .inr ⟨p,hp,rfl⟩
  ·rintro (⟨p,hp,rfl⟩ | ⟨p,hp,rfl⟩);·exact ⟨p,hp,.inl rfl⟩
   ·exact ⟨p,hp,.inr rfl⟩
 simp only [aP,aS] at e;simp [xj,qv,qB,qH,jK,h1,kI];rw [e];simp only [qE,kM,qy,af,ae,kC,uo,vM,if_pos h,c];simp [qB]
theorem Vp (hw:jS ws) (hl:WW p q) (hr:0 < r) (k:∀ x∈LS (qQ ws p q),x∈jk l):Ww [Wd ws,Ld p q,.int r,.dct (bk l)]=.ok (.tup (qcA l (qQ ws p q) r),[.non,.non,.non,.non]):=by
 refine runD_ap.trans ?_;have h1:=yj hw hl;have n:(qQ ws p q).length<=6:=by simp [qQ]; exact hw.2.1
 have e:=WI (own:=[]) (cap:=[2,3]) (fi:=wo (qC [.vl,.vl] yi (qe (qg 0) (qe (qg 1) qF)))) (ft:=ftT) (fe:=d2 Ub (d2 wc (d2 ixD (qg 3) (qg 0)) (d2 ixD (qg 3) (qg 1))) (qg 2))
  (ρ:=[iD (Wd ws),iD (Ld p q),iD (.int r),iD (.dct (bk l))]) (ρ1:=[iD (Wd ws),iD (Ld p q),iD (.int r),iD (.dct (bk l))]) (ps:=(qQ ws p q).map λx=>(.str x.1,.str x.2)) (λ_=>iI) (λd=>match d with | (.str a,.str b)=>.int ((yS l a+yS l b) % r) | _=>.non) (by simp)
  (by simp [qH,jK,h1,kI,kg]) (by rw [aH]; exact jd (by omega)) (λ_ _=>rfl) (λd hd _=>by obtain ⟨x,hx,rfl⟩:=aF.mp hd;have c:=Xc (k x.1 (mem_LS.mpr ⟨x,hx,.inl rfl⟩));have j:=Xc (k x.2 (mem_LS.mpr ⟨x,hx,.inr rfl⟩));simp [c,j,wc,Ub,Qa,hr])
 rw [fA.mpr (λ_ _=>rfl)] at e;have f:((qQ ws p q).map λx=>(D.str x.1,D.str x.2)).map (λd=>match d with | (.str a,.str b)=>.int ((yS l a+yS l b) % r) | _=>.non)=qcA l (qQ ws p q) r:=by simp [qcA]
 rw [f] at e;unfold qdU;rw [jw,kM,show qv qby [Wd ws,Ld p q,.int r,.dct (bk l)]=[iD (Wd ws),iD (Ld p q),iD (.int r),iD (.dct (bk l))] from rfl,e];simp [wY,qB]
theorem QA (ns:List Int) (hr:0 < room):∀ (L:List Str) (t:List D) (x:Option D),t.length+L.length < 1000 ->∃ (es:List (Str×Int)) (b:List D) (n:Option D),jk es=L/\(∀ e∈es,0<=e.2/\e.2 < room)/\b.length=t.length+L.length /\
   kG (gNm 0) ftT (wG (qe (qg 0) (qe (qC [.vl,.sl 2,.vl] ke (qe (qg 1) (jR (qe (qg 3) qF)))) qF))) (L.map D.str) [x,iD (scr ns),iD (.lst t),iD (.int room)]=.ok (prL es,[n,iD (scr ns),iD (.lst b),iD (.int room)])
 | [],t,x,_=>⟨[],t,x,rfl,by simp,by simp,rfl⟩
 | a::L,t,x,h=>by
  rw [ac] at h;obtain ⟨r,r0,r1,hd⟩:=wl ns t (many:=room) hr (by omega);obtain ⟨es,b,n,p,c,o,z⟩:=QA ns hr L (t++[.int 0]) (iD (.str a)) (by rw [ap]; simp; omega);have z2:2<=sizeLine:=jd (by omega);refine ⟨(a,r)::es,b,n,by simp [jk] at p ⊢; exact p,λe g=>?_,by rw [o,ap]; simp; omega,?_⟩
  ·rcases ah.mp g with rfl | g;·exact ⟨r0,r1⟩
   ·exact c e g
  ·simp [kG,QS,qH,jK,hd,z2,z,prL]
noncomputable def MORE:List (List Str):=[[],["q"],["y", "x"]]
theorem qd1:∀ m∈MORE,m.length<=2/\∀ x∈m,∃ c,az c/\x=⟨#[c]⟩:=by
 have h1:∀ m∈MORE,∀ x∈m,x∈(["q", "y", "x"]:List Str):=by decide +kernel
 have h2:∀ m∈MORE,m.length<=2:=by decide +kernel
 refine λm h=>⟨h2 m h,λx hx=>?_⟩
 have:=h1 m h x hx;simp only [ah,bi,or_false] at this;rcases this with rfl | rfl | rfl;·exact ⟨113,by unfold az; decide,by decide +kernel⟩
 ·exact ⟨121,by unfold az; decide,by decide +kernel⟩
 ·exact ⟨120,by unfold az; decide,by decide +kernel⟩
structure Made (ws:List Str) (p q r:Int) (l:List (Str×Int)):Prop where
 hw:jS ws
 hl:WW p q
 r0:1<=r
 r1:r<=20
 ok:OkW r l
 rise:WM l=iI
 all:∀ x∈LS (qQ ws p q),x∈jk l
 len:l.length<=14
theorem qf0 (hw:jS ws) (p q:Int):(LS (qQ ws p q)).length<=12:=by
 have c:(qQ ws p q).length<=6:=by simp [qQ]; exact hw.2.1
 unfold LS;rw [(qR _).length_eq];have:=zM ((qQ ws p q).map (·.1)++(qQ ws p q).map (·.2)) [];simp only [ap,aH,am] at this;omega
theorem qf1 (hw:jS ws) (p q:Int):LS (qQ ws p q)≠[]:=by
 intro z;cases ws with
 | nil=>have:=hw.1;simp at this
 | cons w ws=>have:wm w p∈LS (qQ (w::ws) p q):=mem_LS.mpr ⟨(wm w p,wm w q),by simp [qQ],.inl rfl⟩;rw [z] at this;cases this
theorem qhq (hw:jS ws) (p q:Int):∀ x∈LS (qQ ws p q),∃ c,az c/\x=⟨#[c]⟩:=λx hx=>by
 obtain ⟨y,k,h⟩:=mem_LS.mp hx;obtain ⟨w,m,rfl⟩:=aF.mp k;rcases h with rfl | rfl;·exact GH (hw.2.2.2 w m) p
 ·exact GH (hw.2.2.2 w m) q
theorem qd2 (ns:List Int) (t:List D) (V:t.length < 500) {wide:Int} (Z:1<=wide) (U:wide<=20):∃ ws p q r l a,Made ws p q r l/\a.length<=t.length+80/\WE [scr ns,.lst t,.int 6,.int wide]=.ok (.tup [Wd ws,Ld p q,.int r,.tup (prL l)],[.non,.lst a,.non,.non]):=by
 obtain ⟨r,r0,r1,g1⟩:=wl ns t (many:=wide) (by omega) (by omega);obtain ⟨p,q,y,hl,g,g2⟩:=qdZ ns (t++[.int 0]) (by rw [ap]; simp; omega);rw [ap] at g;simp at g;obtain ⟨ws,H,hw,K,g3⟩:=qbI ns y (by omega);obtain ⟨d,hd,C⟩:=gx ns H (MORE.map λl=>.lst (l.map D.str)) (by simp [MORE]) (by omega);obtain ⟨more,f,rfl⟩:=aF.mp hd;obtain ⟨L,i⟩:=qd1 more f;have B:=gS hw hl;have P:=qf0 hw p q;have v:=qf1 hw p q;have k:=qhq hw p q;generalize S:LS (qQ ws p q)=L0 at B P v k;have N:=zM (L0++more) [];rw [ap,am] at N;have b:=wD (L0++more) [] bI;have n:(kL ((L0++more).foldl ue [])).length<=14:=by rw [(qR _).length_eq]; omega
 have e:wc (.lst (L0.map D.str)) (.lst (more.map D.str))=.ok (.lst ((L0++more).map D.str)):=by have:L0.length+more.length<=sizeLine:=jd (by omega);simp [wc,this]
 have E:kC (.lst ((L0++more).map D.str))=.ok (.lst ((kL ((L0++more).foldl ue [])).map D.str)):=by
  have:(L0++more).length < 64:=by rw [ap]; omega
  simp only [kC,uo,vM,if_pos this]
 have m:∀ x,x∈kL ((L0++more).foldl ue [])↔x∈L0\/x∈more:=λx=>by rw [(qR _).mem_iff,b.2];simp
 have h:kL ((L0++more).foldl ue [])=kL ((kL ((L0++more).foldl ue [])).foldl ue []):=by have h1:=wD (kL ((L0++more).foldl ue [])) [] bI;refine um ?_ (jq _) (jq _);refine (qR _).trans ((Vl b.1 h1.1 λx=>?_).trans (qR _).symm);rw [h1.2,(qR _).mem_iff];simp
 generalize O:kL ((L0++more).foldl ue [])=L1 at E n m h;obtain ⟨es,w,T,s,j,o,Q⟩:=QA ns (room:=1+r) (by omega) L1 (H++[.int 0]) iF (by rw [ap]; simp; omega);have A:es.length=L1.length:=by rw [<-s]; simp [jk]
 refine ⟨ws,p,q,1+r,es,w,⟨hw,hl,by omega,by omega,λx hx=>⟨?_,j x hx⟩,?_,λx hx=>?_,by omega⟩,?_,?_⟩
 ·have M:x.1∈L1:=by rw [<-s]; exact aF.mpr ⟨x,hx,rfl⟩
  rcases (m x.1).mp M with z | z;·obtain ⟨c,u,e⟩:=k x.1 z;rw [e]; exact GG u
  ·obtain ⟨c,u,e⟩:=i x.1 z;rw [e]; exact GG u
 ·unfold WM;rw [s];exact decide_eq_true h
 ·rw [s];rw [S] at hx;exact (m x).mpr (.inl hx)
 ·rw [o,ap];simp;omega
 ·refine runD_ap.trans ?_;have G:4<=sizeLine:=jd (by omega);have I:3<=sizeLine:=jd (by omega);unfold WD;simp only [qv,ax,aP,ac,am,Nat.reduceAdd,Nat.reduceSub,ao,aR,aS];simp only [MORE,ax,aP] at C;refine (jl (ρ1:=[iD (scr ns),iD (.lst (t++[.int 0])),iD (.int 6),iD (.int wide),iD (.int (1+r)),iF,iF,iF,iF]) (by simp [qH,jK,g1,wc])).trans ?_;refine (jl (ρ1:=[iD (scr ns),iD (.lst y),iD (.int 6),iD (.int wide),iD (.int (1+r)),iD (Ld p q),iF,iF,iF]) (by simp [qH,jK,g2])).trans ?_;refine (jl (ρ1:=[iD (scr ns),iD (.lst H),iD (.int 6),iD (.int wide),iD (.int (1+r)),iD (Ld p q),iD (Wd ws),iF,iF]) (by simp [qH,jK,g3])).trans ?_;refine (jl (ρ1:=[iD (scr ns),iD (.lst (H++[.int 0])),iD (.int 6),iD (.int wide),iD (.int (1+r)),iD (Ld p q),iD (Wd ws),iD (.lst (more.map D.str)),iF]) (by simp [qH,jK,C,I])).trans ?_;refine (jl (ρ1:=[iD (scr ns),iD (.lst (H++[.int 0])),iD (.int 6),iD (.int wide),iD (.int (1+r)),iD (Ld p q),iD (Wd ws),iD (.lst (more.map D.str)),iD (.lst (L1.map D.str))]) (by simp [qH,jK,B,e,-fy,E])).trans ?_;have J:(L1.map D.str).length<=sizeLine:=by rw [aH]; exact jd (by omega)
  have R:jo [1] 1 [0,1,4] (wo (qg 8)) (gNm 0) ftT (wG (qe (qg 0) (qe (qC [.vl,.sl 2,.vl] ke (qe (qg 1) (jR (qe (qg 3) qF)))) qF))) [iD (scr ns),iD (.lst (H++[.int 0])),iD (.int 6),iD (.int wide),iD (.int (1+r)),iD (Ld p q),iD (Wd ws),iD (.lst (more.map D.str)),iD (.lst (L1.map D.str))]
    = .ok (.lst (prL es),[iD (scr ns),iD (.lst w),iD (.int 6),iD (.int wide),iD (.int (1+r)),iD (Ld p q),iD (Wd ws),iD (.lst (more.map D.str)),iD (.lst (L1.map D.str))]):=by
   unfold jo;rw [show wo (qg 8) [iD (scr ns),iD (.lst (H++[.int 0])),iD (.int 6),iD (.int wide),iD (.int (1+r)),iD (Ld p q),iD (Wd ws),iD (.lst (more.map D.str)),iD (.lst (L1.map D.str))]=.ok (L1.map D.str,[iD (scr ns),iD (.lst (H++[.int 0])),iD (.int 6),iD (.int wide),iD (.int (1+r)),iD (Ld p q),iD (Wd ws),iD (.lst (more.map D.str)),iD (.lst (L1.map D.str))]) from rfl];simp only [qE];rw [if_pos J,show vm 1 [0,1,4] [iD (scr ns),iD (.lst (H++[.int 0])),iD (.int 6),iD (.int wide),iD (.int (1+r)),iD (Ld p q),iD (Wd ws),iD (.lst (more.map D.str)),iD (.lst (L1.map D.str))]=[iF,iD (scr ns),iD (.lst (H++[.int 0])),iD (.int (1+r))] from rfl,Q];simp [jY]
  rw [jw,jG];simp only [qG,qy,ae,af,qE,kM,R,wY,qY,qM];simp [G,qB]
def qak (ca:Str->Addr):Prop:=∀ x∈CS,∀ y∈CS,ca x=ca y->x=y
variable {i:Nat} {c:Addr}
@[simp] theorem qgA {f:Str}:ZZ c i f fe ρ=(fe ρ).bind λp=>match p.2[i]? with
 | some (iD (.ins k fs))=>if k=c/\fs.length < 1000 then .ok (.nx,p.2.set i (iD (.ins k (vO f p.1 fs)))) else .bad
 | _=>.bad:=rfl
noncomputable def xV (ds:List D) (l:List (Str×Int)):List D:=l.foldl (λds x=>ds.set x.2.toNat (.str x.1)) ds
theorem Vq:∀ (l:List (Str×Int)) (ds:List D),(xV ds l).length=ds.length
 | [],ds=>rfl
 | x::l,ds=>by show (xV (ds.set x.2.toNat (.str x.1)) l).length=_;rw [Vq l,bx]
theorem GO (c p o z b m:Option D):∀ (l:List (Str×Int)) (ds:List D) (x y:Option D),(∀ e∈l,0<=e.2/\e.2 < ds.length) ->∃ n s,gL (wf 2 (qS (gNm 6) (qS (gNm 7) we))) (qg 6) (qg 7) (l.map λe=>.tup [.str e.1,.int e.2]) ds [c,p,o,z,b,m,x,y]=.ok (xV ds l,[c,p,o,z,b,m,n,s])
 | [],ds,x,y,_=>⟨x,y,rfl⟩
 | e::l,ds,x,y,h=>by
  obtain ⟨n,s,j⟩:=GO c p o z b m l (ds.set e.2.toNat (.str e.1)) (iD (.str e.1)) (iD (.int e.2)) λf a=>by rw [bx]; exact h f (ai _ a)
  refine ⟨n,s,?_⟩;obtain ⟨d,h1⟩:=h e (ay ..);have hx:ixN ds.length e.2=iD e.2.toNat:=by unfold ixN;rw [if_pos d,if_pos h1]
  rw [ax];simp only [gL,wf,qS,we,ac,am,Nat.reduceAdd,if_true,qfB,Nat.reduceLT,aN,aO,qE,qy,ae,af,hx];exact j
noncomputable def qer (l:List (Str×Int)) (s:List (Str×Str)) (r:Int):List Int:=s.map λx=>(yS l x.1+yS l x.2) % r
theorem JE (l:List (Str×Int)) (s:List (Str×Str)) (r:Int):qcA l s r=(qer l s r).map D.int:=by simp [qcA,qer]
theorem uq:∀ l:List Int,xS (l.map D.int)=iD l
 | []=>rfl
 | x::l=>by simp [xS,uq l]
noncomputable def Ye (l:List Int):Nat:=(l.foldl Vv []).length
theorem GP (x:Str) (i:Int):qgz (.tup [.str x,.int i]):=by
 refine ⟨trivial,λxs e y k=>?_⟩;cases e;rcases ah.mp k with rfl | k;·trivial
 ·rw [aK.mp k];trivial
theorem Yg (l:List (Str×Int)):∀ d∈prL l,qgz d:=λd hd=>by obtain ⟨x,_,rfl⟩:=aF.mp hd;exact GP _ _
theorem Made.hr (M:Made ws p q r l):WJ 1 99 (.int r)=true:=by have:=M.r0;have:=M.r1;simp [WJ];omega
theorem qd3 (M:Made ws p q r l):kl [Wd ws,Ld p q,.int r,.tup (prL l)]=.ok (.tup ((qer l (qQ ws p q) r).map D.int),[.non,.non,.non,.non]):=by have hw:=(xN (Yg l) (by simp [prL]; have:=M.len; omega) r).2 l rfl M.ok;rw [M.rise] at hw;have:=gB M.hw M.hl M.hr M.ok M.rise hw;rw [if_pos (bh.mpr λx hx=>decide_eq_true (M.all x hx)),JE] at this;exact this
theorem Made.ne (M:Made ws p q r l):l≠[]:=λz=>by have h:=qf1 M.hw p q;obtain ⟨x,hx⟩:=List.exists_mem_of_ne_nil _ h;have:=M.all x hx;rw [z] at this;cases this
theorem qf2 (M:Made ws p q r l):∀ k∈qer l (qQ ws p q) r,0<=k/\k < r:=λk h=>by obtain ⟨x,_,rfl⟩:=aF.mp h;have:=M.r0;exact ⟨dY _ (by omega),db _ (by omega)⟩
variable {ks:List Int}
theorem addZ_mem {x y:Int}:y∈Vv ks x↔y∈ks\/y=x:=by
 unfold Vv;split
 ·rename_i h;constructor;·exact .inl
  ·rintro (h' | rfl);·exact h'
   ·exact h
 ·simp
theorem qbM:∀ (l ks:List Int),(l.foldl Vv ks).length<=ks.length+l.length:=ZX
theorem Yh:∀ (l ks:List Int),(l.foldl Vv ks).length=ks.length+l.length->l.Nodup/\∀ x∈l,x∉ks
 | [],ks,_=>⟨bI,by simp⟩
 | x::l,ks,h=>by
  rw [bY,ac] at h;have h1:=qbM l (Vv ks x);have h2:=qbj ks x;have hx:x∉ks:=λz=>by have:Vv ks x=ks:=if_pos z;rw [this] at h1 h;omega
  have e:Vv ks x=ks++[x]:=if_neg hx;obtain ⟨n,m⟩:=Yh l (Vv ks x) (by rw [e] at h ⊢; simp at h ⊢; omega);refine ⟨bb.mpr ⟨λz=>m x z (addZ_mem.mpr (.inr rfl)),n⟩,λy k=>?_⟩;rcases ah.mp k with rfl | k;·exact hx
  ·exact λz=>m y k (addZ_mem.mpr (.inl z))
theorem Xd (h:Ye ks=ks.length):ks.Nodup:=(Yh ks [] (by unfold Ye at h; simp; exact h)).1
theorem qbN (k:Int):Ye [k]=1:=rfl
noncomputable def num (l:List (Str×Int)) (p q r:Int) (w:Str):Int:=(yS l (wm w p)+yS l (wm w q)) % r
theorem gC (l:List (Str×Int)) (ws:List Str) (p q r:Int):qer l (qQ ws p q) r=ws.map (num l p q r):=by simp [qer,qQ,num]
theorem QB (ds:List D) (x:Str×Int) (l:List (Str×Int)):xV ds (x::l)=xV (ds.set x.2.toNat (.str x.1)) l:=rfl
theorem xw:∀ (l:List (Str×Int)) (ds:List D) (j:Nat),(∀ e∈l,e.2.toNat≠j)->(xV ds l)[j]?=ds[j]?
 | [],ds,j,_=>rfl
 | x::l,ds,j,h=>by rw [QB,xw l _ j λe g=>h e (ai _ g)];exact aj (h x (ay ..))
theorem Vr:∀ (l:List (Str×Int)) (ds:List D),(∀ e∈l,0<=e.2/\e.2 < ds.length)->(l.map (·.2)).Nodup->∀ e∈l,(xV ds l)[e.2.toNat]?=iD (.str e.1)
 | [],_,_,_,_,h=>by cases h
 | x::l,ds,hb,nd,e,g=>by
  rw [ax,bb] at nd;have b:∀ e∈l,0<=e.2/\e.2 < (ds.set x.2.toNat (.str x.1)).length:=λe g=>by rw [bx]; exact hb e (ai _ g)
  rw [QB];rcases ah.mp g with rfl | g
  ·rw [xw l _ _ λc a z=>?_];·obtain ⟨d,h1⟩:=hb e (ay ..);exact aC (by omega)
   ·obtain ⟨i,_⟩:=hb e (ay ..);obtain ⟨f,_⟩:=hb c (ai _ a);have:c.2=e.2:=by omega
    exact nd.1 (by rw [<-this]; exact aF.mpr ⟨c,a,rfl⟩)
  ·exact Vr l _ b nd.2 e g
def NS (d:D):Prop:=d=.non\/∃ x,d=.str x
theorem Yi:∀ (l:List (Str×Int)) (ds:List D),(∀ d∈ds,NS d)->∀ d∈xV ds l,NS d
 | [],ds,h=>h
 | x::l,ds,h=>Yi l _ λd hd=>by
  rcases List.mem_or_eq_of_mem_set hd with hd | rfl;·exact h d hd
  ·exact .inr ⟨_,rfl⟩
theorem GQ (k:Nat) (h:NS d):eqN k d d=iD true:=by
 rcases h with rfl | ⟨x,rfl⟩
 ·cases k <;> rfl
 ·cases k <;> simp [eqN,eqS]
theorem GR (k:Nat):∀ ds:List D,(∀ d∈ds,NS d)->wX (eqN k) ds ds=iD iI
 | [],_=>rfl
 | d::ds,h=>by have e:=GQ k (h d (ay ..));have j:=GR k ds λd' hd=>h d' (ai _ hd);simp [wX,e,j]
theorem qhr (h:∀ d∈ds,NS d):eqD (.lst ds) (.lst ds)=.ok (.bl iI):=by simp [eqD,eqN,GR 7 ds h]
theorem qd4 (k:Nat) (h:NS d) (w:Str):∃ v,eqN k d (.str w)=iD v/\(d=.str w->v=iI):=by
 rcases h with rfl | ⟨x,rfl⟩
 ·exact ⟨iH,by cases k <;> rfl,λz=>by cases z⟩
 ·refine ⟨decide (x=w),by cases k <;> simp [eqN,eqS] <;> rfl,λz=>by cases z; simp⟩
theorem WR (w:Str):∀ ds:List D,(∀ d∈ds,NS d)->∃ v,xO 7 (.str w) ds=iD v
 | [],_=>⟨_,rfl⟩
 | d::ds,h=>by obtain ⟨v,j⟩:=WR w ds λd' hd=>h d' (ai _ hd);obtain ⟨u,e,_⟩:=qd4 7 (h d (ay ..)) w;exact ⟨_,by simp only [xO,e,j,c8]; rfl⟩
theorem qbO (h:∀ d∈ds,NS d) (c:D.str w∈ds):∃ j:Nat,uT (.lst ds) (.str w)=.ok (.int j):=by
 obtain ⟨v,e⟩:=WR w ds h;have:∃ j,(ds.map λd=>eqN 7 d (.str w) == iD iI).findIdx? id=iD j:=by
  cases q:(ds.map λd=>eqN 7 d (.str w) == iD iI).findIdx? id with
  | some j=>exact ⟨j,rfl⟩
  | none=>rw [List.findIdx?_eq_none_iff] at q;have:=q (eqN 7 (.str w) (.str w) == iD iI) (aF.mpr ⟨_,c,rfl⟩);rw [GQ 7 (.inr ⟨w,rfl⟩)] at this;cases this
 obtain ⟨j,G⟩:=this;exact ⟨j,by simp only [uT,e,G]⟩
abbrev qd5:Sl->Out (Fl×Sl):=(jf (ku 8 (qC [.vl,.vl,.vl,.vl] Ww (qe (d2 wc (qg 2) (wG (qe (qg 3) qF))) (qe (qg 5) (qe (qg 6) (qe (d1 gJ (qg 7)) qF))))))
  (sIf (qP (d2 eqD (d1 kT (qg 8)) (d1 kE (qg 8)))) (ku 2 (d2 wc (qg 2) (wG (qe (qg 3) qF)))) kn))
structure Kp (p q r:Int) (l:List (Str×Int)) (ks:List Str):Prop where
 nd:ks.Nodup
 wd:∀ w∈ks,xK w
 le:ks.length<=6
 key:∀ w∈ks,wm w p∈jk l/\wm w q∈jk l
theorem Kp.sub {b:List Str} (h:Kp p q r l b) (s:a.Sublist b):Kp p q r l a:=⟨h.nd.sublist s,λw hw=>h.wd w (s.subset hw),bR s.length_le h.le,λw hw=>h.key w (s.subset hw)⟩
theorem Kp.words (h:Kp p q r l a) (n:a≠[]):jS a:=⟨dQ.mpr n,h.le,h.nd,h.wd⟩
theorem Kp.all (h:Kp p q r l a):∀ x∈LS (qQ a p q),x∈jk l:=λx hx=>by
 obtain ⟨y,k,e⟩:=mem_LS.mp hx;obtain ⟨w,hw,rfl⟩:=aF.mp k;rcases e with rfl | rfl;·exact (h.key w hw).1
 ·exact (h.key w hw).2
theorem qbP (hl:WW p q) (hr:0 < r) (hd:gJ (.tup (prL l))=.ok (.dct (bk l))) {kept:List Str} (h:Kp p q r l (kept++[w])) (a b c W:Option D):∃ s,qd5 [a,b,iD (.tup (kept.map D.str)),iD (.str w),W,iD (Ld p q),iD (.int r),iD (.tup (prL l)),c]=.ok (.nx,[a,b,iD (.tup ((if Ye ((kept++[w]).map (num l p q r))=(kept++[w]).length then kept++[w] else kept).map D.str)),iD (.str w),W,iD (Ld p q),iD (.int r),iD (.tup (prL l)),s]):=by
 have hb:=Vp (h.words (by simp)) hl hr h.all;rw [JE,gC] at hb;have f:kept.length+1<=sizeLine:=jd (by have:=h.le; simp at this; omega);have z1:1<=sizeLine:=jd (by omega);have e1:wc (.tup (kept.map D.str)) (.tup [.str w])=.ok (Wd (kept++[w])):=by simp [wc,f]
 have n:((kept++[w]).map (num l p q r)).length=(kept++[w]).length:=by simp
 have i:kT (.tup (((kept++[w]).map (num l p q r)).map D.int))=.ok (.int (Ye ((kept++[w]).map (num l p q r)))):=by
  have g:((kept++[w]).map (num l p q r)).length < 4000:=by rw [n]; have:=h.le; omega
  simp only [kT,Qp,uq,if_pos g,Ye]
 have e:kE (.tup (((kept++[w]).map (num l p q r)).map D.int))=.ok (.int ((kept++[w]).length:Nat)):=by simp only [kE,aH]
 generalize k:(kept++[w]).map (num l p q r)=ks at hb i e;refine ⟨iD (.tup (ks.map D.int)),?_⟩;have g1:(ku 8 (qC [.vl,.vl,.vl,.vl] Ww (qe (d2 wc (qg 2) (wG (qe (qg 3) qF))) (qe (qg 5) (qe (qg 6) (qe (d1 gJ (qg 7)) qF)))))) [a,b,iD (.tup (kept.map D.str)),iD (.str w),W,iD (Ld p q),iD (.int r),iD (.tup (prL l)),c]
   = .ok (.nx,[a,b,iD (.tup (kept.map D.str)),iD (.str w),W,iD (Ld p q),iD (.int r),iD (.tup (prL l)),iD (.tup (ks.map D.int))]):=by
  simp only [jH,ka,qG,jx,qy,ae,af,qE,jG,qM,ac,am,dJ,if_pos z1,e1,qY,kM,hd,qH,bf,hb,kS,jK,Nat.reduceAdd,Nat.reduceLT,if_true,aN,aO]
 unfold qd5;rw [wg,g1];simp only [qE];by_cases d:Ye ks=(kept++[w]).length
 ·have R:(Ye ks:Int)=((kept++[w]).length:Nat):=by rw [d]
  rw [if_pos d];simp only [vg,qK,jx,kM,qy,ae,af,qE,i,e,qY,eqD,eqN,eqS,R,beq_self_eq_true,yR,if_true,jH,jG,qG,qM,ac,am,dJ,if_pos z1,e1,Nat.reduceAdd,Nat.reduceLT,aN,aO]
 ·have R:((Ye ks:Int) == (((kept++[w]).length:Nat):Int))=false:=by rw [beq_eq_false_iff_ne];intro z;exact d (by omega)
  rw [if_neg d];simp only [vg,qK,jx,kM,qy,ae,af,qE,i,e,qY,eqD,eqN,eqS,R,yR,aX,if_false,wL]
theorem JF {g:D->Sl->Out Sl} {fb:Sl->Out (Fl×Sl)} {j:Sl} (h1:g d ρ=.ok ρ1) (h2:fb ρ1=.ok (.nx,j)):zd g fb (d::ds) ρ=zd g fb ds j:=by simp [zd,h1,h2]
theorem gD (hl:WW p q) (hr:0 < r) (hd:gJ (.tup (prL l))=.ok (.dct (bk l))) (a b W:Option D):∀ (rest kept:List Str) (x c:Option D),Kp p q r l (kept++rest)->(kept.map (num l p q r)).Nodup->(kept≠[]\/rest≠[]) ->∃ k n T,k≠[]/\Kp p q r l k/\(k.map (num l p q r)).Nodup/\zd (gNm 3) qd5 (rest.map D.str) [a,b,iD (.tup (kept.map D.str)),x,W,iD (Ld p q),iD (.int r),iD (.tup (prL l)),c]=.ok (.nx,[a,b,iD (.tup (k.map D.str)),n,W,iD (Ld p q),iD (.int r),iD (.tup (prL l)),T])
 | [],kept,x,c,h,hn,ne=>⟨kept,x,c,ne.resolve_right (by simp),by simpa using h,hn,rfl⟩
 | w::rest,kept,x,c,h,hn,ne=>by
  have j:Kp p q r l (kept++[w]):=h.sub (by rw [show kept++w::rest=(kept++[w])++rest by simp]; exact List.sublist_append_left ..);obtain ⟨s,e⟩:=qbP hl hr hd j a b c W;have m:gNm 3 (.str w) [a,b,iD (.tup (kept.map D.str)),x,W,iD (Ld p q),iD (.int r),iD (.tup (prL l)),c]=.ok [a,b,iD (.tup (kept.map D.str)),iD (.str w),W,iD (Ld p q),iD (.int r),iD (.tup (prL l)),c]:=rfl;by_cases d:Ye ((kept++[w]).map (num l p q r))=(kept++[w]).length;·rw [if_pos d] at e;obtain ⟨k',n,T,i1,i2,f,i⟩:=gD hl hr hd a b W rest (kept++[w]) (iD (.str w)) s (by simpa using h) (Xd (by rw [d]; simp)) (.inl (by simp));exact ⟨k',n,T,i1,i2,f,by rw [ax,JF m e,i]⟩
  ·rw [if_neg d] at e;have g:kept≠[]:=λz=>by subst z;exact d (qbN _)
   obtain ⟨k',n,T,i1,i2,f,i⟩:=gD hl hr hd a b W rest kept (iD (.str w)) s (h.sub (List.Sublist.append_left (List.sublist_cons_self w rest) kept)) hn (.inl g);exact ⟨k',n,T,i1,i2,f,by rw [ax,JF m e,i]⟩
theorem qd6 (ns:List Int) (t:List D) (h:t.length < 500):∃ ws p q r l a,Made ws p q r l/\(ws.map (num l p q r)).Nodup/\a.length<=t.length+80/\WG [scr ns,.lst t]=.ok (.tup [Wd ws,Ld p q,.int r,.tup (prL l)],[.non,.lst a]):=by
 obtain ⟨ws,p,q,r,l,f,M,y,g1⟩:=qd2 ns t h (wide:=20) (by omega) (by omega);have hr:=M.r0;have hd:=WP (xu M.rise);have K:Kp p q r l ws:=⟨M.hw.2.2.1,M.hw.2.2.2,M.hw.2.1,λw hw=>⟨M.all _ (mem_LS.mpr ⟨(wm w p,wm w q),aF.mpr ⟨w,hw,rfl⟩,.inl rfl⟩),M.all _ (mem_LS.mpr ⟨(wm w p,wm w q),aF.mpr ⟨w,hw,rfl⟩,.inr rfl⟩)⟩⟩
 obtain ⟨ks,n,T,k1,k2,k3,k4⟩:=gD (r:=r) M.hl (by omega) hd (iD (scr ns)) (iD (.lst f)) (iD (Wd ws)) ws [] iF iF (by simpa using K) (by simp) (.inr (λz=>by have:=M.hw.1; rw [z] at this; simp at this));refine ⟨ks,p,q,r,l,f,⟨k2.words k1,M.hl,M.r0,M.r1,M.ok,M.rise,k2.all,M.len⟩,k3,y,?_⟩;refine runD_ap.trans ?_;have c:0<=sizeLine:=bA _;have b:4<=sizeLine:=jd (by omega);unfold WF;simp only [qv,ax,aP,ac,am,Nat.reduceAdd,Nat.reduceSub,ao,aR,aS];refine (jl (ρ1:=[iD (scr ns),iD (.lst f),iF,iF,iD (Wd ws),iD (Ld p q),iD (.int r),iD (.tup (prL l)),iF]) (by simp [qH,jK,g1,wf,qS,we])).trans ?_;refine (jl (ρ1:=[iD (scr ns),iD (.lst f),iD (.tup []),iF,iD (Wd ws),iD (Ld p q),iD (.int r),iD (.tup (prL l)),iF]) (by simp [c])).trans ?_;refine (jl (ρ1:=[iD (scr ns),iD (.lst f),iD (.tup (ks.map D.str)),n,iD (Wd ws),iD (Ld p q),iD (.int r),iD (.tup (prL l)),T]) ?_).trans ?_;·rw [ZP];simp only [Wb,qy,ae,af,qE,kI];exact k4
 ·simp [b,qB]
theorem qW {f g:Sl->Out (Fl×Sl)} (h:f ρ=.ok (.nx,ρ1)):jf f g ρ=g ρ1:=by rw [wg,h];rfl
theorem GS {c:Addr} {i:Nat} {fl:Str} {fe:Sl->Out (D×Sl)} {fi:Sl->Out (List D×Sl)} {g:D->Sl->Out Sl} {fw fx:Sl->Out (D×Sl)} {ρ ρ1 j ρE:Sl} {ds items dE:List D} {fs:List (Str×D)}
  (h1:fe ρ=.ok (.lst ds,ρ1)) (h2:ρ1[i]?=iD (iD (.ins c fs))) (a:fs.length < 1000) (h:fi (ρ1.set i iF)=.ok (items,j)) (l:gL g fw fx items ds j=.ok (dE,ρE)) :
  KS c i fl fe fi g fw fx ρ=.ok (.nx,ρE.set i (iD (.ins c (vO fl (.lst dE) fs)))):=by
 unfold KS;simp [h1,h2,a,h,l]
theorem k1:¬(au "look"=au "width"):=by decide +kernel
theorem k2:¬(au "look"=au "worths"):=by decide +kernel
theorem k3:¬(au "look"=au "standing"):=by decide +kernel
theorem k4:¬(au "look"=au "asked"):=by decide +kernel
theorem k5:¬(au "width"=au "worths"):=by decide +kernel
theorem k6:¬(au "width"=au "standing"):=by decide +kernel
theorem k7:¬(au "width"=au "asked"):=by decide +kernel
theorem k8:¬(au "worths"=au "standing"):=by decide +kernel
theorem k9:¬(au "worths"=au "asked"):=by decide +kernel
theorem k10:¬(au "standing"=au "asked"):=by decide +kernel
abbrev bk4 (lk r t:D) (sd:List D):List (Str×D):=[("look",lk),("width",r),("worths",t),("standing",.lst sd)]
abbrev bk5 (lk r t:D) (sd:List D) (b:Addr):List (Str×D):=[("look",lk),("width",r),("worths",t),("standing",.lst sd),("asked",.raw (.ref b))]
variable {b:Addr} {lk:D} {sd:List D}
theorem qhV {r t:D}:vO "asked" (.raw (.ref b)) (bk4 lk r t sd)=bk5 lk r t sd b:=by simp [vO,k4,k7,k9,k10]
theorem qd7 {r t:D}:(bk5 lk r t sd b).lookup (au "look")=iD lk:=by simp [cm]
theorem qbQ {r t:D}:(bk5 lk r t sd b).lookup (au "width")=iD r:=by
 have e:((au "width") == (au "look"))=false:=by decide +kernel
 simp [cm,e]
theorem GT {r t:D}:(bk5 lk r t sd b).lookup (au "worths")=iD t:=by
 have e:((au "worths") == (au "look"))=false:=by decide +kernel
 have i:((au "worths") == (au "width"))=false:=by decide +kernel
 simp [cm,e,i]
theorem yl {r t:D}:(bk5 lk r t sd b).lookup (au "standing")=iD (D.lst sd):=by
 have e:((au "standing") == (au "look"))=false:=by decide +kernel
 have i:((au "standing") == (au "width"))=false:=by decide +kernel
 have a:((au "standing") == (au "worths"))=false:=by decide +kernel
 simp [cm,e,i,a]
theorem vy {r t:D}:(bk5 lk r t sd b).lookup (au "asked")=iD (D.raw (.ref b)):=by
 have e:((au "asked") == (au "look"))=false:=by decide +kernel
 have i:((au "asked") == (au "width"))=false:=by decide +kernel
 have a:((au "asked") == (au "worths"))=false:=by decide +kernel
 have m:((au "asked") == (au "standing"))=false:=by decide +kernel
 simp [cm,e,i,a,m]
theorem WT {r t:D} {n:Str} (h:n∉(["look", "width", "worths", "standing", "asked"]:List Str)):((bk5 lk r t sd b).lookup n).isNone=true:=by simp only [ah,bi,or_false,not_or] at h;obtain ⟨h1,h2,i,a,l⟩:=h;simp [cm,beq_eq_false_iff_ne.mpr h1,beq_eq_false_iff_ne.mpr h2,beq_eq_false_iff_ne.mpr i,beq_eq_false_iff_ne.mpr a,beq_eq_false_iff_ne.mpr l]
theorem f5 {fs:List (Str×D)} {f:Str} (h:fs.lookup f=iD d):zV c f (.ins c fs)=.ok d:=by simp [zV,h]
theorem qf3 (a:0<=r) (h1:r<=99):qfD (.lst [.non]) (.int r)=.ok (.lst (ao r.toNat .non)):=by
 have:(0<=r/\r<=100000)/\1 * r.toNat<=1000000:=by omega
 simp only [qfD,ac,am,dJ,if_pos this];congr 2
 induction r.toNat with
 | zero=>rfl
 | succ n j=>rw [bL,ci,j,bL]; rfl
variable {ca:Str->Addr}
section
abbrev sdL (ws:List Str) (p q r:Int) (l:List (Str×Int)):List D:=xV (ao r.toNat .non) (ws.zip (ws.map (num l p q r)))
theorem qf4 (ws:List Str) (ks:List Int):qck (ws.map D.str) (ks.map D.int)=(ws.zip ks).map λe=>.tup [.str e.1,.int e.2]:=by unfold qck;rw [List.zipWith_map,dh,List.map_zipWith]
theorem qcB (M:Made ws p q r l):∀ e∈ws.zip (ws.map (num l p q r)),0<=e.2/\e.2 < ((ao r.toNat D.non).length:Int):=λe g=>by have hb:=qf2 M;rw [gC] at hb;have:=hb e.2 (df g).2;rw [cr];have:=M.r0;omega
theorem qd8 (M:Made ws p q r l) (g:(ws.map (num l p q r)).Nodup):jJ ca [Wd ws,Ld p q,.int r,.tup (prL l)]=.ok (bk4 (Ld p q) (.int r) (.tup (prL l)) (sdL ws p q r l)):=by
 have h:=qd3 M;rw [gC] at h;have n:(ws.map (num l p q r)).length<=6:=by rw [aH]; exact M.hw.2.1
 have d:=qcB M;have b:¬(Ye (ws.map (num l p q r)):Int) < ((ws.map (num l p q r)).length:Nat):=by
  have:∀ (l ks:List Int),l.Nodup->(∀ x∈l,x∉ks)->(l.foldl Vv ks).length=ks.length+l.length:=by
   intro l
   induction l with
   | nil=>intro ks _ _; simp
   | cons x l j=>
    intro ks nd hd;have e:Vv ks x=ks++[x]:=if_neg (hd x (ay ..));rw [bY,e,j _ (bb.mp nd).2 λy k z=>?_];·simp; omega
    ·rcases ba.mp z with z | z;·exact hd y (ai _ k) z
     ·exact (bb.mp nd).1 (by rw [<-aK.mp z]; exact k)
  have:=this _ [] g (by simp);unfold Ye;simp only [am,dJ] at this;omega
 have t:(ws.map (num l p q r)).length < 4000:=by omega
 have e1:kT (.tup ((ws.map (num l p q r)).map D.int))=.ok (.int (Ye (ws.map (num l p q r)))):=by simp only [kT,Qp,uq,if_pos t,Ye]
 have i:kE (.tup ((ws.map (num l p q r)).map D.int))=.ok (.int ((ws.map (num l p q r)).length:Nat)):=by simp only [kE,aH]
 obtain ⟨c,s,f⟩:=GO iF (iD (Wd ws)) (iD (Ld p q)) (iD (.int r)) (iD (.tup (prL l))) (iD (.tup ((ws.map (num l p q r)).map D.int))) (ws.zip (ws.map (num l p q r))) (ao r.toNat .non) iF iF d;have a:=qf4 ws (ws.map (num l p q r));have m:=qf3 (r:=r) (by have:=M.r0; omega) (by have:=M.r1; omega);have z1:1<=sizeLine:=jd (by omega);generalize o:ws.map (num l p q r)=ks at h b e1 i f a;have go:vL ca (qv vK (.ins (ca "Book") []::[Wd ws,Ld p q,.int r,.tup (prL l)]))=.ok (.nx,[iD (.ins (ca "Book") (bk4 (Ld p q) (.int r) (.tup (prL l)) (xV (ao r.toNat .non) (ws.zip ks)))),iD (Wd ws),iD (Ld p q),iD (.int r),iD (.tup (prL l)),iD (.tup (ks.map D.int)),c,s]):=by
  unfold vL;simp only [qv,ax,aP,ac,am,Nat.reduceAdd,Nat.reduceSub,ao,aR,aS];rw [qW (ρ1:=[iD (.ins (ca "Book") []),iD (Wd ws),iD (Ld p q),iD (.int r),iD (.tup (prL l)),iD (.tup (ks.map D.int)),iF,iF]) (by simp [qH,jK,h]),qW (ρ1:=[iD (.ins (ca "Book") []),iD (Wd ws),iD (Ld p q),iD (.int r),iD (.tup (prL l)),iD (.tup (ks.map D.int)),iF,iF]) (by simp only [vg,qK,jx,kM,qy,ae,af,qE,e1,i,qY,ltD,decide_eq_false b,yR,aX,if_false,wL]),qW (ρ1:=[iD (.ins (ca "Book") [("look",Ld p q)]),iD (Wd ws),iD (Ld p q),iD (.int r),iD (.tup (prL l)),iD (.tup (ks.map D.int)),iF,iF]) (by simp [vO]),qW (ρ1:=[iD (.ins (ca "Book") [("look",Ld p q),("width",.int r)]),iD (Wd ws),iD (Ld p q),iD (.int r),iD (.tup (prL l)),iD (.tup (ks.map D.int)),iF,iF]) (by simp [vO,k1]),qW (ρ1:=[iD (.ins (ca "Book") [("look",Ld p q),("width",.int r),("worths",.tup (prL l))]),iD (Wd ws),iD (Ld p q),iD (.int r),iD (.tup (prL l)),iD (.tup (ks.map D.int)),iF,iF]) (by simp [vO,k2,k5]),GS (ds:=ao r.toNat .non) (items:=(ws.zip ks).map λe=>.tup [.str e.1,.int e.2]) (ρ1:=[iD (.ins (ca "Book") [("look",Ld p q),("width",.int r),("worths",.tup (prL l))]),iD (Wd ws),iD (Ld p q),iD (.int r),iD (.tup (prL l)),iD (.tup (ks.map D.int)),iF,iF])
    (fs:=[("look",Ld p q),("width",.int r),("worths",.tup (prL l))]) (by simp [z1,m]) rfl (by simp) (by simp [qg8,yu,a]) f]
  simp [vO,k3,k6,k8]
 show qeq _ _ _ _=_;unfold qeq;rw [go];subst o;simp
theorem qd9 (hw:w∈ws):(w,num l p q r w)∈ws.zip (ws.map (num l p q r)):=by
 rw [List.zip_map_right];refine aF.mpr ⟨(w,w),?_,rfl⟩;have:∀ (ws:List Str),w∈ws->(w,w)∈ws.zip ws:=by
  intro ws
  induction ws with
  | nil=>intro h; cases h
  | cons a l j=>
   intro h;rw [List.zip_cons_cons];rcases ah.mp h with rfl | h;·exact ay ..
   ·exact ai _ (j h)
 exact this ws hw
theorem qbR (M:Made ws p q r l) (n:(ws.map (num l p q r)).Nodup) (hw:w∈ws):(sdL ws p q r l)[(num l p q r w).toNat]?=iD (.str w):=by refine Vr _ _ (qcB M) ?_ (w,num l p q r w) (qd9 hw);rw [List.map_snd_zip (by simp)];exact n
theorem qbS:∀ d∈sdL ws p q r l,NS d:=Yi _ _ λd hd=>.inl (cT hd)
theorem qbT (M:Made ws p q r l) (hw:w∈ws):Made [w] p q r l:=
 ⟨⟨by simp,by simp,by simp,λx hx=>by rw [aK.mp hx]; exact M.hw.2.2.2 w hw⟩,M.hl,M.r0,M.r1,M.ok,M.rise,λx hx=>by obtain ⟨y,k,e⟩:=mem_LS.mp hx;refine M.all x (mem_LS.mpr ⟨y,?_,e⟩);obtain ⟨u,d,rfl⟩:=aF.mp k;rw [aK.mp d];exact aF.mpr ⟨w,hw,rfl⟩,M.len⟩
abbrev bkD (ca:Str->Addr) (ws:List Str) (p q r:Int) (l:List (Str×Int)) (b:Addr):D:=.ins (ca "Book") (bk5 (Ld p q) (.int r) (.tup (prL l)) (sdL ws p q r l) b)
end
noncomputable def eqB:D->Str->Bool
 | .str x,w=>decide (x=w)
 | _,_=>iH
noncomputable def noB:D->Bool
 | .non=>iI
 | _=>iH
theorem qcC (h:NS d) (w:Str):eqD d (.str w)=.ok (.bl (eqB d w)):=by
 rcases h with rfl | ⟨x,rfl⟩
 ·rfl
 ·simp [eqD,eqN,eqS,eqB] <;> rfl
theorem qhs (h:NS d):qgo d .non=.ok (.bl (noB d)):=by rcases h with rfl | ⟨x,rfl⟩ <;> rfl
theorem Vs:∀ (l:List (Str×Int)) (ds:List D),∀ d∈xV ds l,d∈ds\/∃ e∈l,d=.str e.1
 | [],ds,d,h=>.inl h
 | x::l,ds,d,h=>by
  rcases Vs l _ d h with h | ⟨e,he,r⟩
  ·rcases List.mem_or_eq_of_mem_set h with h | rfl;·exact .inl h
   ·exact .inr ⟨x,ay ..,rfl⟩
  ·exact .inr ⟨e,ai _ he,r⟩
noncomputable def fnd (ws:List Str) (p q r:Int) (l:List (Str×Int)) (w:Str):D:=if (LS (qQ [w] p q)).all (λx=>decide (x∈jk l))=iI then ((sdL ws p q r l)[(num l p q r w).toNat]?).getD .non else .non
variable {es:List D}
section
theorem qcD:fnd ws p q r l w=.non\/fnd ws p q r l w∈sdL ws p q r l:=by
 unfold fnd;split
 ·cases e:(sdL ws p q r l)[(num l p q r w).toNat]? with
  | none=>exact .inl rfl
  | some d=>exact .inr (cf e)
 ·exact .inl rfl
theorem GU:NS (fnd ws p q r l w):=by
 rcases qcD (ws:=ws) (p:=p) (q:=q) (r:=r) (l:=l) (w:=w) with h | h;·exact .inl h
 ·exact qbS _ h
theorem qf5 (M:Made ws p q r l) (n:(ws.map (num l p q r)).Nodup) (hw:w∈ws):fnd ws p q r l w=.str w:=by unfold fnd;rw [if_pos (bh.mpr λx hx=>decide_eq_true ((qbT M hw).all x hx)),qbR M n hw];rfl
theorem WU (M:Made ws p q r l) (n:(ws.map (num l p q r)).Nodup):eqB (fnd ws p q r l w) w=decide (w∈ws):=by
 by_cases hw:w∈ws;·rw [qf5 M n hw];simp [eqB,hw]
 ·rw [decide_eq_false hw];cases e:eqB (fnd ws p q r l w) w with
  | false=>rfl
  | true=>
   rcases qcD (ws:=ws) (p:=p) (q:=q) (r:=r) (l:=l) (w:=w) with h | h;·rw [h] at e; cases e
   ·rcases Vs _ _ _ h with h | ⟨x,hx,h⟩
    ·rw [cT h] at e; cases e
    ·rw [h] at e;have:x.1=w:=by simpa [eqB] using e
     exact absurd (by rw [<-this]; exact (df hx).1) hw
theorem GV (M:Made ws p q r l) (hw:xK w):vb ca [bkD ca ws p q r l b,.str w]=.ok (fnd ws p q r l w,[.non,.non]):=by
 have W:jS [w]:=⟨by simp,by simp,by simp,λx hx=>by rw [aK.mp hx]; exact hw⟩
 have a:=(xN (Yg l) (by simp [prL]; have:=M.len; omega) r).2 l rfl M.ok;rw [M.rise] at a;have h:=gB W M.hl M.hr M.ok M.rise a;have n:(sdL ws p q r l).length=r.toNat:=by rw [Vq,cr]
 have e1:=f5 (c:=ca "Book") (qd7 (lk:=Ld p q) (r:=.int r) (t:=.tup (prL l)) (sd:=sdL ws p q r l) (b:=b));have i:=f5 (c:=ca "Book") (qbQ (lk:=Ld p q) (r:=.int r) (t:=.tup (prL l)) (sd:=sdL ws p q r l) (b:=b));have D:=f5 (c:=ca "Book") (GT (lk:=Ld p q) (r:=.int r) (t:=.tup (prL l)) (sd:=sdL ws p q r l) (b:=b));have m:=f5 (c:=ca "Book") (yl (lk:=Ld p q) (r:=.int r) (t:=.tup (prL l)) (sd:=sdL ws p q r l) (b:=b));have z1:1<=sizeLine:=jd (by omega);have r0:=M.r0;have hb:0<=num l p q r w/\num l p q r w < r:=⟨dY _ (by omega),db _ (by omega)⟩
 unfold fnd;by_cases hA:(LS (qQ [w] p q)).all (λx=>decide (x∈jk l))=iI
 ·rw [if_pos hA] at h ⊢;rw [JE,gC] at h;have k:(num l p q r w).toNat < (sdL ws p q r l).length:=by omega
  have I:ixD (.lst (sdL ws p q r l)) (.int (num l p q r w))=.ok (((sdL ws p q r l)[(num l p q r w).toNat]?).getD .non):=by
   have:atI (sdL ws p q r l) (num l p q r w)=iD (((sdL ws p q r l)[(num l p q r w).toNat]?).getD .non):=by unfold atI ixN;rw [if_pos hb.1,if_pos (by omega)];show (sdL ws p q r l)[(num l p q r w).toNat]?=_;rw [aM k];rfl
   simp only [ixD,this]
  unfold bkD;generalize sdL ws p q r l=sd at e1 i D m I ⊢;refine runD_ap.trans ?_;have G:ixD (.tup [.int (num l p q r w)]) (.int 0)=.ok (.int (num l p q r w)):=by simp [ixD,at0]
  unfold kb;simp only [qv,ax,aP,ac,am,Nat.reduceAdd,Nat.reduceSub,ao,aR,aS];refine (jl (ρ1:=[iD (.ins (ca "Book") (bk5 (Ld p q) (.int r) (.tup (prL l)) sd b)),iD (.str w),iD (.int (num l p q r w))]) ?_).trans ?_;·simp only [VQ,jH,jx,ka,qG,jG,qy,ae,af,qE,qM,ac,am,dJ,if_pos z1,kM,e1,i,D,qY,qH,bf,show kl [.tup [.str w],Ld p q,.int r,.tup (prL l)]=_ from h,kS,jK,kY,ax,aP,G,Nat.reduceAdd,Nat.reduceLT,if_true,aN,aO]
  ·simp only [jw,jx,kM,qy,ae,af,qE,m,qY,I];rfl
 ·rw [if_neg hA] at h ⊢;unfold bkD;generalize sdL ws p q r l=sd at e1 i D m ⊢;refine runD_ap.trans ?_;have d:Zs ca ["NoWorths"] (au "NoWorths")=iD (ca "NoWorths"):=by simp [Zs]
  unfold kb;simp only [qv,ax,aP,ac,am,Nat.reduceAdd,Nat.reduceSub,ao,aR,aS];have g:VQ 3 iF (Zs ca ["NoWorths"]) (ku 2 (d2 ixD (qC [.vl,.vl,.vl,.vl] kl (qe (wG (qe (qg 1) qF)) (qe (d1 (zV (ca "Book") "look") (qg 0)) (qe (d1 (zV (ca "Book") "width") (qg 0)) (qe (d1 (zV (ca "Book") "worths") (qg 0)) qF))))) (dC (.int 0)))) (kr (dC .non)) [iD (.ins (ca "Book") (bk5 (Ld p q) (.int r) (.tup (prL l)) sd b)),iD (.str w),iF]=.ok (.rt .non,[iD (.ins (ca "Book") (bk5 (Ld p q) (.int r) (.tup (prL l)) sd b)),iD (.str w),iF]):=by unfold VQ;simp only [jH,jx,ka,qG,jG,qy,ae,af,qE,qM,ac,am,dJ,if_pos z1,kM,e1,i,D,qY,qH,bf,show kl [.tup [.str w],Ld p q,.int r,.tup (prL l)]=_ from h];simp [KN,jK,d]
  rw [wg,g];rfl
noncomputable def ans (ws:List Str) (p q r:Int) (l:List (Str×Int)) (w:Str):D:=if eqB (fnd ws p q r l w) w=iI then .int ((match uT (.lst (sdL ws p q r l)) (.str w) with | .ok (.int j)=>j | _=>0)) else .non
theorem qea (M:Made ws p q r l) (a:(ws.map (num l p q r)).Nodup) (hw:xK w) (s:es.length < 1000):vD ca [bkD ca ws p q r l b,.str w,.at_ b es]=.ok (ans ws p q r l w,[.non,.non,.at_ b (es++[.tup [.str w,fnd ws p q r l w]])]):=by
 have f:=GV (ca:=ca) M hw (b:=b);have y:=GU (ws:=ws) (p:=p) (q:=q) (r:=r) (l:=l) (w:=w);have hq:=qcC y w;have d:km [.str w]=.ok (.non,[.non]):=by have:=Qz hw;refine runD_ap.trans ?_;simp [uB,qv,qB,qH,jK,this,uO]
 have W:eqB (fnd ws p q r l w) w=iI->uT (.lst (sdL ws p q r l)) (.str w)=.ok (.int (match uT (.lst (sdL ws p q r l)) (.str w) with | .ok (.int j)=>j | _=>0)):=λh=>by rw [WU M a] at h;obtain ⟨j,G⟩:=qbO (w:=w) (qbS (ws:=ws) (p:=p) (q:=q) (r:=r) (l:=l)) (cf (qbR M a (of_decide_eq_true h)));rw [G]
 have m:=f5 (c:=ca "Book") (yl (lk:=Ld p q) (r:=.int r) (t:=.tup (prL l)) (sd:=sdL ws p q r l) (b:=b));have I:=f5 (c:=ca "Book") (vy (lk:=Ld p q) (r:=.int r) (t:=.tup (prL l)) (sd:=sdL ws p q r l) (b:=b));have o:=WT (lk:=Ld p q) (r:=.int r) (t:=.tup (prL l)) (sd:=sdL ws p q r l) (b:=b) (n := "found_for") (by decide +kernel);have z2:2<=sizeLine:=jd (by omega);have g:es.length < 100000:=by omega
 unfold ans;generalize fnd ws p q r l w=fd at f y hq W ⊢;unfold bkD at f ⊢;generalize sdL ws p q r l=sd at f m I o W ⊢;refine runD_ap.trans ?_;unfold uN;simp only [qv,ax,aP,ac,am,Nat.reduceAdd,Nat.reduceSub,ao,aR,aS];generalize e:(D.ins (ca "Book") (bk5 (Ld p q) (.int r) (.tup (prL l)) sd b))=B at f m I;refine (jl (ρ1:=[iD B,iD (.str w),iD (.at_ b es),iF]) (by simp [qH,jK,d])).trans ?_;refine (jl (ρ1:=[iD B,iD (.str w),iD (.at_ b es),iD fd]) ?_).trans ?_;·rw [jH];unfold Ge;simp only [qy,ae,af,qE];rw [<-e] at f ⊢;simp only [o,and_self,if_true,qG,qy,ae,af,qE,qM,f,ac,am,Nat.reduceAdd,Nat.reduceLT,aN,aO]
 refine (jl (ρ1:=[iD B,iD (.str w),iD (.at_ b (es++[.tup [.str w,fd]])),iD fd]) ?_).trans ?_;·rw [UH];unfold qdH jP;simp only [kM,qy,ae,af,qE,I,qY,if_true,jG,qG,qM,ac,am,Nat.reduceAdd,if_pos z2,if_pos g,aN,aO]
 ·rw [jw,uS];simp only [qK,jx,qy,ae,af,qE,hq,qY,yR];cases E:eqB fd w with
  | false=>simp only [aX,if_false,kY,qE];rfl
  | true=>have W:=W E;simp only [if_true];unfold dM;simp only [kM,qy,ae,af,qE,m,qY,qhj,if_true];rw [W];simp only [qY,qE];rfl
end
theorem qhW (n:Nat):JJ 0 n=(bE n).map λ(j:Nat)=>.int j:=by unfold JJ;simp
theorem iR0 {f:Sl->Out (D×Sl)} {k:Int} (a:0<=k) (h1:k<=2000) (h:f ρ=.ok (.int k,ρ1)):kx f ρ=.ok (JJ 0 k.toNat,ρ1):=by
 have l:-(2 ^ 62:Int)<=k/\k < 2 ^ 62:=by omega
 simp [kx,h,-Int.reducePow,l]
abbrev aD (A:List (Str×D)):List D:=A.map λx=>.tup [.str x.1,x.2]
noncomputable def qal (A:List (Str×D)):Nat:=(A.filter λx=>eqB x.2 x.1).length
noncomputable def WV (A:List (Str×D)):Nat:=(A.filter λx=>noB x.2).length
noncomputable def cnt (A:List (Str×D)):D:=.tup [.int (qal A),.int ((A.length:Int) - qal A - WV A),.int (WV A)]
variable {A:List (Str×D)}
theorem Xe {r t:D} (hA:∀ x∈A,NS x.2) (hw:A.length<=100):jM ca [.ins (ca "Book") (bk5 lk r t sd b),.at_ b (aD A)]=.ok (cnt A,[.non,.non]):=by
 have I:=f5 (c:=ca "Book") (vy (lk:=lk) (r:=r) (t:=t) (sd:=sd) (b:=b));generalize e:(D.ins (ca "Book") (bk5 lk r t sd b))=B at I;have hd:∀ x y:Option D,jP 1 (d1 (zV (ca "Book") "asked") (qg 0)) [iD B,iD (.at_ b (aD A)),x,y]=.ok (.lst (aD A),[iD B,iD (.at_ b (aD A)),x,y]):=λx y=>by unfold jP;simp only [kM,qy,ae,af,qE,I,qY,if_true]
 have h:aD A=(A.map λx=>(D.str x.1,x.2)).map λp=>.tup [p.1,p.2]:=by simp [aD]
 have z:(A.map λx=>(D.str x.1,x.2)).length<=sizeLine:=by rw [aH]; exact jd (by omega)
 have d:=WI (own:=[]) (cap:=[]) (fi:=wo (jP 1 (d1 (zV (ca "Book") "asked") (qg 0)))) (ft:=qP (d2 eqD (qg 1) (qg 0))) (fe:=qg 0) (ρ:=[iD B,iD (.at_ b (aD A)),iF,iF]) (ρ1:=[iD B,iD (.at_ b (aD A)),iF,iF]) (ps:=A.map λx=>(D.str x.1,x.2)) (λp=>match p.1 with | .str w=>eqB p.2 w | _=>iH) (λp=>p.1) (by simp)
  (by rw [Wb,hd,qE]; simp only [kI,qE]; rw [h]) z (λp hp=>by obtain ⟨x,hx,rfl⟩:=aF.mp hp;simp [qcC (hA x hx) x.1]) (λp _ _=>by simp)
 have c2:=WI (own:=[]) (cap:=[]) (fi:=wo (jP 1 (d1 (zV (ca "Book") "asked") (qg 0)))) (ft:=qP (d2 qgo (qg 1) (dC .non))) (fe:=qg 0) (ρ:=[iD B,iD (.at_ b (aD A)),iD (.int (qal A:Nat)),iF]) (ρ1:=[iD B,iD (.at_ b (aD A)),iD (.int (qal A:Nat)),iF]) (ps:=A.map λx=>(D.str x.1,x.2)) (λp=>noB p.2) (λp=>p.1) (by simp)
  (by rw [Wb,hd,qE]; simp only [kI,qE]; rw [h]) z (λp hp=>by obtain ⟨x,hx,rfl⟩:=aF.mp hp;simp [qhs (hA x hx)]) (λp _ _=>by simp)
 have i:kE (.lst (((A.map λx=>(D.str x.1,x.2)).filter λp=>match p.1 with | .str w=>eqB p.2 w | _=>iH).map λp=>p.1))=.ok (.int (qal A:Nat)):=by simp [kE,qal,fY,eX]
 have l:kE (.lst (((A.map λx=>(D.str x.1,x.2)).filter λp=>noB p.2).map λp=>p.1))=.ok (.int (WV A:Nat)):=by simp [kE,WV,fY,eX]
 have C:kE (.lst (aD A))=.ok (.int (A.length:Nat)):=by simp [kE]
 have a:3<=sizeLine:=jd (by omega);refine runD_ap.trans ?_;unfold wM;simp only [qv,ax,aP,ac,am,Nat.reduceAdd,Nat.reduceSub,ao,aR,aS];refine (jl (ρ1:=[iD B,iD (.at_ b (aD A)),iD (.int (qal A:Nat)),iF]) (by rw [jH,kM,d]; simp only [qE,i,qY,ac,am,Nat.reduceAdd,Nat.reduceLT,if_true,aN,aO])).trans ?_;refine (jl (ρ1:=[iD B,iD (.at_ b (aD A)),iD (.int (qal A:Nat)),iD (.int (WV A:Nat))]) (by rw [jH,kM,c2]; simp only [qE,l,qY,ac,am,Nat.reduceAdd,Nat.reduceLT,if_true,aN,aO])).trans ?_;rw [jw,jG];simp only [qG,jx,kM,qy,ae,af,qE,hd,C,qY,Ua,Qa,qM,ac,am,Nat.reduceAdd,if_pos a];rfl
theorem qeb {r t:D} (hw:es.length<=100):kQ ca [.ins (ca "Book") (bk5 lk r t sd b),.at_ b (es++[.tup [.str w,d]])]=.ok (.str w,[.non,.at_ b es]):=by
 have I:=f5 (c:=ca "Book") (vy (lk:=lk) (r:=r) (t:=t) (sd:=sd) (b:=b));generalize e:(D.ins (ca "Book") (bk5 lk r t sd b))=B at I;generalize j:es++[.tup [.str w,d]]=E;have hl:E.length=es.length+1:=by rw [<-j]; simp
 have hg:E[E.length - 1]?=iD (.tup [.str w,d]):=by rw [hl,<-j]; simp
 have a:E.dropLast=es:=by rw [<-j]; simp
 have hd:jP 1 (d1 (zV (ca "Book") "asked") (qg 0)) [iD B,iD (.at_ b E)]=.ok (.lst E,[iD B,iD (.at_ b E)]):=by unfold jP;simp only [kM,qy,ae,af,qE,I,qY,if_true]
 have n:eqD (.int ((E.length:Nat):Int)) (.int 0)=.ok (.bl iH):=by have:(((E.length:Nat):Int) == 0)=false:=beq_eq_false_iff_ne.mpr (by omega);simp only [eqD,eqN,eqS,this]
 have h:ixD (.tup [.str w,d]) (.int 0)=.ok (.str w):=by simp [ixD,at0]
 refine runD_ap.trans ?_;unfold wW;simp only [qv,ax,aP,ac,am,Nat.reduceAdd,Nat.reduceSub,ao,aR,aS];refine (jl (ρ1:=[iD B,iD (.at_ b E)]) ?_).trans ?_;·simp only [vg,qK,jx,kM,hd,qE,kE,qY,kY,n,yR,aX,if_false,wL]
 ·rw [jw,jx];unfold qdI;simp only [hd,qE,ae,af,hg,a,kY,h,qY,aN,aO];rfl
variable {j:Nat}
theorem Yj {bs:List Bool} (h1:bs[j]?=iD iI) (h2:∀ i,i < j->bs[i]?=iD iI->False):bs.findIdx? id=iD j:=by
 rw [bJ];obtain ⟨G,e⟩:=aA.mp h1;refine ⟨G,by rw [e]; rfl,λi hi=>?_⟩;have t:i < bs.length:=by omega
 cases q:bs[i] with
 | false=>simp
 | true=>exact (h2 i hi (by rw [aM t,q])).elim
theorem Yk:∀ (l:List (Str×Int)) (ds:List D) (j:Nat) (d:D),(xV ds l)[j]?=iD d->ds[j]?=iD d\/∃ e∈l,e.2.toNat=j/\d=.str e.1
 | [],ds,j,d,h=>.inl h
 | x::l,ds,j,d,h=>by
  rcases Yk l _ j d h with h | ⟨e,he,r⟩
  ·by_cases q:x.2.toNat=j
   ·subst q;rw [List.getElem?_set] at h;split at h
    ·split at h;·cases h; exact .inr ⟨x,ay ..,rfl,rfl⟩
     ·cases h
    ·exact .inl h
   ·rw [aj q] at h; exact .inl h
  ·exact .inr ⟨e,ai _ he,r⟩
section
theorem qcE {e:Str×Int} (h:e∈ws.zip (ws.map (num l p q r))):e.1∈ws/\e.2=num l p q r e.1:=by
 rw [List.zip_map_right] at h;obtain ⟨x,hx,rfl⟩:=aF.mp h;have:∀ (us:List Str),x∈us.zip us->x.1∈us/\x.2=x.1:=by
  intro us
  induction us with
  | nil=>intro h; cases h
  | cons a t j=>
   intro h;rw [List.zip_cons_cons] at h;rcases ah.mp h with rfl | h;·exact ⟨ay ..,rfl⟩
   ·exact ⟨ai _ (j h).1,(j h).2⟩
 have:=this ws hx;exact ⟨this.1,by show num l p q r x.2=num l p q r x.1; rw [this.2]⟩
theorem GW (M:Made ws p q r l):0<=num l p q r w/\num l p q r w < r:=by have:=M.r0;exact ⟨dY _ (by omega),db _ (by omega)⟩
theorem GX (M:Made ws p q r l) (n:(ws.map (num l p q r)).Nodup) (hw:w∈ws):uT (.lst (sdL ws p q r l)) (.str w)=.ok (.int (num l p q r w)):=by
 obtain ⟨v,e⟩:=WR w _ (qbS (ws:=ws) (p:=p) (q:=q) (r:=r) (l:=l));have c:=qbR M n hw;have hb:=GW (w:=w) M;have f:((sdL ws p q r l).map λd=>eqN 7 d (.str w) == iD iI).findIdx? id=iD (num l p q r w).toNat:=by
  refine Yj ?_ λi hi h=>?_;·rw [aJ,c,bf,GQ 7 (.inr ⟨w,rfl⟩)];rfl
  ·rw [aJ] at h;cases a:(sdL ws p q r l)[i]? with
   | none=>rw [a] at h; cases h
   | some d=>
    rw [a,bf] at h;rcases Yk _ _ _ _ a with z | ⟨x,hx,z,rfl⟩
    ·have:=cT (cf z);subst this;cases h
    ·have h:x.1=w:=by simpa [eqN,eqS] using h
     obtain ⟨_,D⟩:=qcE hx;rw [h] at D;rw [D] at z;omega
 simp only [uT,e,f];rw [Int.toNat_of_nonneg hb.1]
theorem qcF (M:Made ws p q r l) (n:(ws.map (num l p q r)).Nodup) (hw:w∈ws):ans ws p q r l w=.int (num l p q r w):=by unfold ans;rw [if_pos (by rw [WU M n]; exact decide_eq_true hw),GX M n hw]
theorem GY (M:Made ws p q r l) (n:(ws.map (num l p q r)).Nodup) (hw:w∉ws):ans ws p q r l w=.non:=by unfold ans;rw [if_neg (by rw [WU M n,decide_eq_false hw]; simp)]
noncomputable def how (ws:List Str) (p q r:Int) (l:List (Str×Int)) (w:Str):Int:=if eqB (fnd ws p q r l w) w=iI then 0 else if noB (fnd ws p q r l w)=iI then 2 else 1
theorem qf6 {a c:Str} (l:List (Str×Int)) (h:qQ [w] p q=[(a,c)]):(LS (qQ [w] p q)).all (λx=>decide (x∈jk l))=iI↔a∈jk l/\c∈jk l:=by
 rw [bh,h];constructor;·intro z;exact ⟨of_decide_eq_true (z a (mem_LS.mpr ⟨_,ay ..,.inl rfl⟩)),of_decide_eq_true (z c (mem_LS.mpr ⟨_,ay ..,.inr rfl⟩))⟩
 ·intro z x hx;obtain ⟨y,k,e⟩:=mem_LS.mp hx;rw [aK.mp k] at e;rcases e with rfl | rfl;·exact decide_eq_true z.1
  ·exact decide_eq_true z.2
theorem qcG (x:Str):Uz (.str x) (.dct (bk l))=.ok (.bl (!decide (x∈jk l))):=by have:=qcy l x;simp [Uz,qaj,this]
theorem gE (i:Int):∀ is:List Int,xO 7 (.int i) (is.map D.int)=iD (decide (i∈is))
 | []=>rfl
 | a::is=>by
  rw [ax];unfold xO;rw [gE i is];by_cases h:a=i;·subst h; simp [eqN,eqS]
  ·have h':¬i=a:=λz=>h z.symm;simp [eqN,eqS,h,h']
end
section
theorem qbU {gs:List D->Out (D×List D)} {W L R P B:D} {a c:Str} (h:gs [.tup [.str w],L]=.ok (.lst [.tup [.str a,.str c]],[.non,.non])) (K:Sl->Out (Fl×Sl)):Xh [.val,.val,.val,.val,.val] (jf (qcd (d2 ixD (qC [.vl,.vl] gs (qe (wG (qe (qg 4) qF)) (qe (qg 1) qF))) (dC (.int 0))) (wf 2 (qS (gNm 8) (qS (gNm 9) we)))) K [iD W,iD L,iD R,iD P,iD (.str w),iD B,iF,iF,iF,iF])=Xh [.val,.val,.val,.val,.val] (K [iD W,iD L,iD R,iD P,iD (.str w),iD B,iF,iF,iD (.str a),iD (.str c)]):=by
 have z1:1<=sizeLine:=jd (by omega);have i:ixD (.lst [.tup [.str a,.str c]]) (.int 0)=.ok (.tup [.str a,.str c]):=by simp [ixD,at0]
 refine jl ?_;rw [ZQ];simp only [jx,ka,qG,jG,qy,ae,af,qE,qM,ac,am,dJ,if_pos z1,qH,bf,h,kS,jK,kY,i,qY];simp [wf,qS,we]
theorem qbV (hw:xK w) (hl:WW p q):yi [.tup [.str w],Ld p q]=.ok (.lst [.tup [.str (wm w p),.str (wm w q)]],[.non,.non]):=
 yj (ws:=[w]) ⟨by simp,by simp,by simp,λx hx=>by rw [aK.mp hx]; exact hw⟩ hl
theorem qf7 (M:Made ws p q r l) (o:(ws.map (num l p q r)).Nodup) (hw:xK w):UY [Wd ws,Ld p q,.int r,.tup (prL l),.str w]=.ok (.tup [ans ws p q r l w,.int (how ws p q r l w)],[.non,.non,.non,.non,.non]):=by
 have V:=qbV hw M.hl;have hd:=WP (xu M.rise);have r0:=M.r0;have y:=Vp M.hw M.hl (r:=r) (by omega) M.all;rw [JE,gC] at y;have z1:1<=sizeLine:=jd (by omega);have z2:2<=sizeLine:=jd (by omega);have N:qQ [w] p q=[(wm w p,wm w q)]:=rfl;have S:=qf6 (w:=w) (p:=p) (q:=q) l N;have g:=qcG (l:=l) (wm w p);have B:=qcG (l:=l) (wm w q);refine runD_ap.trans ?_;unfold Gw;simp only [qv,ax,aP,ac,am,Nat.reduceAdd,Nat.reduceSub,ao,aR,aS];generalize x:Wd ws=WS;generalize Q:Ld p q=LD at V ⊢;refine (jl (ρ1:=[iD WS,iD LD,iD (.int r),iD (.tup (prL l)),iD (.str w),iD (.dct (bk l)),iF,iF,iF,iF]) (by simp [hd])).trans ?_;refine (qbU V _).trans ?_;by_cases hA:wm w p∈jk l/\wm w q∈jk l
 ·have J:fnd ws p q r l w=((sdL ws p q r l)[(num l p q r w).toNat]?).getD .non:=by unfold fnd;rw [if_pos (S.mpr hA)]
  rw [decide_eq_true hA.1] at g;rw [decide_eq_true hA.2] at B;have i1:=Xc hA.1;have i2:=Xc hA.2;have P:0 < r:=by omega
  have s:Ub (.int (yS l (wm w p)+yS l (wm w q))) (.int r)=.ok (.int (num l p q r w)):=by simp [Ub,Qa,P,num]
  refine (jl (ρ1:=[iD WS,iD LD,iD (.int r),iD (.tup (prL l)),iD (.str w),iD (.dct (bk l)),iF,iF,iD (.str (wm w p)),iD (.str (wm w q))]) (by simp only [vg,ZO,qK,jx,qy,ae,af,qE,g,B,qY,fM,yR,aX,if_false,wL])).trans ?_;refine (jl (ρ1:=[iD WS,iD LD,iD (.int r),iD (.tup (prL l)),iD (.str w),iD (.dct (bk l)),iD (.int (num l p q r w)),iF,iD (.str (wm w p)),iD (.str (wm w q))]) (by simp only [jH,jx,qy,ae,af,qE,i1,i2,qY,wc,Qa,s,ac,am,Nat.reduceAdd,Nat.reduceLT,if_true,aN,aO])).trans ?_;have y:Ww [WS,LD,.int r,.dct (bk l)]=.ok (.tup ((ws.map (num l p q r)).map D.int),[.non,.non,.non,.non]):=by rw [<-x,<-Q]; exact y
  refine (jl (ρ1:=[iD WS,iD LD,iD (.int r),iD (.tup (prL l)),iD (.str w),iD (.dct (bk l)),iD (.int (num l p q r w)),iD (.tup ((ws.map (num l p q r)).map D.int)),iD (.str (wm w p)),iD (.str (wm w q))]) (by simp only [jH,ka,qG,qM,qy,ae,af,qE,qH,bf,y,kS,jK,ac,am,Nat.reduceAdd,Nat.reduceLT,if_true,aN,aO])).trans ?_;have n:Uz (.int (num l p q r w)) (.tup ((ws.map (num l p q r)).map D.int))=.ok (.bl (!decide (num l p q r w∈ws.map (num l p q r)))):=by show JY _ _=_;simp only [JY,inD,gE,qE]
  by_cases I:num l p q r w∈ws.map (num l p q r)
  ·rw [decide_eq_true I] at n;obtain ⟨u,L,C⟩:=aF.mp I;have m:=qbR M o L;rw [C] at m;rw [m,cE] at J;obtain ⟨j,G⟩:=dG L;have Y:j < ws.length:=(aA.mp G).1;have W:Qr (.tup ((ws.map (num l p q r)).map D.int)) (.int (num l p q r w))=.ok (.int (j:Nat)):=by
    have Z:(((ws.map (num l p q r)).map D.int).map λd=>eqN 7 d (.int (num l p q r w)) == iD iI).findIdx? id=iD j:=by
     refine Yj ?_ λi hi h=>?_;·rw [aJ,aJ,aJ,G];simp [eqN,eqS,C]
     ·rw [aJ,aJ,aJ] at h;have v:i < ws.length:=by omega
      rw [aM v] at h;have h:num l p q r ws[i]=num l p q r w:=by simpa [eqN,eqS] using h
      have U:(ws.map (num l p q r))[i]?=iD (num l p q r w):=by rw [aJ,aM v,bf,h]
      have T:(ws.map (num l p q r))[j]?=iD (num l p q r w):=by rw [aJ,G,bf,C]
      have:=(List.getElem?_inj (by rw [aH]; omega) o).mp (U.trans T.symm);omega
    simp only [Qr,gE,Z]
   have t:ixD WS (.int (j:Nat))=.ok (.str u):=by
    rw [<-x];have:atI (ws.map D.str) ((j:Nat):Int)=iD (.str u):=by rw [ug,aJ,G]; rfl
    simp only [ixD,this]
   have a:eqD (.str u) (.str w)=.ok (.bl (decide (u=w))):=by simp [eqD,eqN,eqS] <;> rfl
   refine (jl (ρ1:=[iD WS,iD LD,iD (.int r),iD (.tup (prL l)),iD (.str w),iD (.dct (bk l)),iD (.int (num l p q r w)),iD (.tup ((ws.map (num l p q r)).map D.int)),iD (.str (wm w p)),iD (.str (wm w q))]) (by simp only [vg,qK,jx,qy,ae,af,qE,n,qY,fM,yR,aX,if_false,wL])).trans ?_;rw [jw,uS];unfold dM;by_cases E:u=w
   ·rw [decide_eq_true E] at a;subst E;rw [qcF M o L];have b:how ws p q r l u=0:=by unfold how; rw [J]; simp [eqB]
    rw [b];simp only [qK,jx,qy,ae,af,qE,qgw,if_true,W,qY,t,a,yR,jG,qG,kY,qM,ac,am,Nat.reduceAdd,if_pos z2];rfl
   ·rw [decide_eq_false E] at a;have H:w∉ws:=λK=>E (by
     obtain ⟨k,A⟩:=dG K;have X:k < ws.length:=(aA.mp A).1;have U:(ws.map (num l p q r))[k]?=iD (num l p q r w):=by rw [aJ,A]; rfl
     have T:(ws.map (num l p q r))[j]?=iD (num l p q r w):=by rw [aJ,G,bf,C]
     have:=(List.getElem?_inj (by rw [aH]; omega) o).mp (U.trans T.symm);subst this;rw [G] at A;cases A;rfl)
    rw [GY M o H];have b:how ws p q r l w=1:=by unfold how; rw [J]; simp [eqB,noB,E]
    rw [b];simp only [qK,jx,qy,ae,af,qE,qgw,if_true,W,qY,t,a,yR,aX,if_false,jG,qG,kY,qM,ac,am,Nat.reduceAdd,if_pos z2];rfl
  ·rw [decide_eq_false I] at n;have O:(sdL ws p q r l)[(num l p q r w).toNat]?=(ao r.toNat D.non)[(num l p q r w).toNat]?:=by refine xw _ _ _ λe F z=>I ?_;obtain ⟨e1,e2⟩:=qcE F;have b1:=GW (w:=w) M;have b2:=GW (w:=e.1) M;rw [e2] at z;exact aF.mpr ⟨e.1,e1,by omega⟩
   have J:fnd ws p q r l w=.non:=by
    rw [J,O];cases q:(ao r.toNat D.non)[(num l p q r w).toNat]? with
    | none=>rfl
    | some d=>exact cT (cf q)
   have c:ans ws p q r l w=.non:=by unfold ans; rw [J]; rfl
   have b:how ws p q r l w=2:=by unfold how; rw [J]; rfl
   rw [c,b,wg];simp only [vg,qK,jx,qy,ae,af,qE,n,qY,fH,yR,if_true,jw,jG,qG,kY,qM,ac,am,Nat.reduceAdd,if_pos z2];rfl
 ·have J:fnd ws p q r l w=.non:=by unfold fnd;rw [if_neg λz=>hA (S.mp z)]
  have c:ans ws p q r l w=.non:=by unfold ans; rw [J]; rfl
  have b:how ws p q r l w=2:=by unfold how; rw [J]; rfl
  rw [c,b,wg];by_cases f:wm w p∈jk l;·have R:wm w q∉jk l:=λz=>hA ⟨f,z⟩;rw [decide_eq_true f] at g;rw [decide_eq_false R] at B;simp only [vg,ZO,qK,jx,qy,ae,af,qE,g,B,qY,fM,fH,yR,aX,if_false,if_true,jw,jG,qG,kY,qM,ac,am,Nat.reduceAdd,if_pos z2];rfl
  ·rw [decide_eq_false f] at g;simp only [vg,ZO,qK,jx,qy,ae,af,qE,g,qY,fH,yR,if_true,jw,jG,qG,kY,qM,ac,am,Nat.reduceAdd,if_pos z2];rfl
end
abbrev ref (k:Int):D:=.tup [.str "refused",.int k]
theorem js (h:qak ca) (k:y∈CS) (x:Str) (b:Bool) (hx:x∈CS:=by decide +kernel) (e:decide (y=x)=b:=by decide +kernel):Kz ca CS x (ca y)=iD b:=by
 unfold Kz;rw [if_pos (aF.mpr ⟨y,k,rfl⟩),<-e];by_cases z:y=x;·simp [z]
 ·have:ca y≠ca x:=λw=>z (h y k x hx w);simp [z,this]
theorem GZ (k:y∈CS):qfo ca CS (ca y)=iD true:=by unfold qfo;rw [if_pos (aF.mpr ⟨y,k,rfl⟩)]
theorem qcH (k:y∈CS):Zs ca CS y=iD (ca y):=by unfold Zs;rw [if_pos k]
theorem Xf (h:qak ca):zm ca [.xcp (ca "NoWord")]=.ok (ref 4,[.non]):=by
 refine runD_ap.trans ?_;have k:(au "NoWord")∈CS:=by decide +kernel
 have i:=js h k "NoWords" iH;have p:=js h k "NoLook" iH;have o:=js h k "NoNumbers" iH;have g:=js h k "NoRoom" iH;have y:=js h k "NoWord" iI;have m:=js h k "NoWorths" iH;have l:=js h k "Never" iH;have f:=js h k "Full" iH;have j:=js h k "Known" iH;have D:=js h k "NoPlace" iH;have c:=js h k "NoLetters" iH;have b:=js h k "NoText" iH;have a12:=js h k "Nothing" iH;have T:=GZ (ca:=ca) k;have e:4<=sizeLine:=jd (by omega);have d:8<=sizeLine:=jd (by omega);have a:12<=sizeLine:=jd (by omega);have z:12 < sizeLine:=aQ (by decide) big;have z2:2<=sizeLine:=jd (by omega);simp [zl,qv,qB,gF,i,p,o,g,y,m,l,f,j,D,c,b,a12,T,e,d,a,z,z2,zF,qcg,Zo,Kv,vR,neD,eqN,eqS,uO,Kw,YG,List.countP_cons,List.findIdx?_cons]
theorem JG (h:qak ca):zm ca [.xcp (ca "Nothing")]=.ok (ref 12,[.non]):=by
 refine runD_ap.trans ?_;have k:(au "Nothing")∈CS:=by decide +kernel
 have i:=js h k "NoWords" iH;have p:=js h k "NoLook" iH;have o:=js h k "NoNumbers" iH;have g:=js h k "NoRoom" iH;have y:=js h k "NoWord" iH;have m:=js h k "NoWorths" iH;have l:=js h k "Never" iH;have f:=js h k "Full" iH;have j:=js h k "Known" iH;have D:=js h k "NoPlace" iH;have c:=js h k "NoLetters" iH;have b:=js h k "NoText" iH;have a12:=js h k "Nothing" iI;have T:=GZ (ca:=ca) k;have e:4<=sizeLine:=jd (by omega);have d:8<=sizeLine:=jd (by omega);have a:12<=sizeLine:=jd (by omega);have z:12 < sizeLine:=aQ (by decide) big;have z2:2<=sizeLine:=jd (by omega);simp [zl,qv,qB,gF,i,p,o,g,y,m,l,f,j,D,c,b,a12,T,e,d,a,z,z2,zF,qcg,Zo,Kv,vR,neD,eqN,eqS,uO,Kw,YG,List.countP_cons,List.findIdx?_cons]
section
variable {g:Nat}
theorem qhX (h1:ρ[i]?=iD (iD (bkD ca ws p q r l b))) (h2:ρ[g]?=iD (iD (.at_ b (aD A)))) (hA:∀ x∈A,NS x.2) (hl:A.length<=100):dMR (ca "Book") "counts" "asked" g (jM ca) (qg i) ρ=.ok (cnt A,ρ):=by have h:=vy (lk:=Ld p q) (r:=.int r) (t:=.tup (prL l)) (sd:=sdL ws p q r l) (b:=b);have o:=WT (lk:=Ld p q) (r:=.int r) (t:=.tup (prL l)) (sd:=sdL ws p q r l) (b:=b) (n := "counts") (by decide +kernel);have d:=Xe (ca:=ca) (lk:=Ld p q) (r:=.int r) (t:=.tup (prL l)) (sd:=sdL ws p q r l) (b:=b) hA hl;unfold dMR;simp only [qy,h1,qE,o,and_self,if_true,h,h2,d];rfl
theorem qiz (M:Made ws p q r l) (a:(ws.map (num l p q r)).Nodup) (hw:xK w) (h1:ρ[i]?=iD (iD (bkD ca ws p q r l b))) (h2:ρ[g]?=iD (iD (.at_ b (aD A)))) (c:ρ[j]?=iD (iD (.str w))) (hl:A.length<=100):dMG (ca "Book") "ask" "asked" g (vD ca) (qg i) (qe (qg j) qF) ρ=.ok (ans ws p q r l w,ρ.set g (iD (.at_ b (aD (A++[(w,fnd ws p q r l w)]))))):=by
 have h:=vy (lk:=Ld p q) (r:=.int r) (t:=.tup (prL l)) (sd:=sdL ws p q r l) (b:=b);have o:=WT (lk:=Ld p q) (r:=.int r) (t:=.tup (prL l)) (sd:=sdL ws p q r l) (b:=b) (n := "ask") (by decide +kernel);have f:=qea (ca:=ca) M a hw (b:=b) (es:=aD A) (by rw [aH]; omega);have e:aD A++[.tup [.str w,fnd ws p q r l w]]=aD (A++[(w,fnd ws p q r l w)]):=by simp [aD]
 rw [e] at f;unfold dMG;simp only [qy,h1,h2,c,qE,o,and_self,if_true,qG,qM,h,aR,aS,f,ac,am,Nat.reduceAdd,ae,af]
theorem qht (h1:ρ[i]?=iD (iD (bkD ca ws p q r l b))) (h2:ρ[g]?=iD (iD (.at_ b (aD (A++[(w,d)]))))) (hl:A.length<=100):dMG (ca "Book") "undo" "asked" g (kQ ca) (qg i) qF ρ=.ok (.str w,ρ.set g (iD (.at_ b (aD A)))):=by
 have h:=vy (lk:=Ld p q) (r:=.int r) (t:=.tup (prL l)) (sd:=sdL ws p q r l) (b:=b);have o:=WT (lk:=Ld p q) (r:=.int r) (t:=.tup (prL l)) (sd:=sdL ws p q r l) (b:=b) (n := "undo") (by decide +kernel);have f:=qeb (ca:=ca) (lk:=Ld p q) (r:=.int r) (t:=.tup (prL l)) (sd:=sdL ws p q r l) (b:=b) (es:=aD A) (w:=w) (d:=d) (by rw [aH]; exact hl);have e:aD A++[.tup [.str w,d]]=aD (A++[(w,d)]):=by simp [aD]
 rw [e] at f;unfold dMG;simp only [qy,h1,h2,qE,o,and_self,if_true,qM,h,aR,aS,f,ac,am,Nat.reduceAdd,ae,af]
theorem qec {r t:D}:kQ ca [.ins (ca "Book") (bk5 lk r t sd b),.at_ b []]=.exc "Nothing" [iD .non,iD (.at_ b [])]:=by
 have I:=f5 (c:=ca "Book") (vy (lk:=lk) (r:=r) (t:=t) (sd:=sd) (b:=b));generalize h:(D.ins (ca "Book") (bk5 lk r t sd b))=B at I;have hd:jP 1 (d1 (zV (ca "Book") "asked") (qg 0)) [iD B,iD (.at_ b [])]=.ok (.lst [],[iD B,iD (.at_ b [])]):=by unfold jP;simp only [kM,qy,ae,af,qE,I,qY,if_true]
 have n:eqD (.int (([]:List D).length:Nat)) (.int 0)=.ok (.bl iI):=rfl;refine runD_ap.trans ?_;unfold wW;simp only [qv,ax,aP,ac,am,Nat.reduceAdd,Nat.reduceSub,ao,aR,aS,wg,vg,qK,jx,kM,hd,qE,kE,qY,kY,n,yR,if_true];rfl
theorem qed {r t:D} (h:km [d]=.exc "NoWord" [iD .non]):vD ca [.ins (ca "Book") (bk5 lk r t sd b),d,.at_ b es]=.exc "NoWord" [iD .non,iD .non,iD (.at_ b es)]:=by refine runD_ap.trans ?_;unfold uN;simp only [qv,ax,aP,ac,am,Nat.reduceAdd,Nat.reduceSub,ao,aR,aS,wg,UH,ka,qG,qM,qy,ae,af,qE,qH,bf,h];simp [KN,jK,qB]
theorem qf8 (hC:qak ca) (h:km [d]=.exc "NoWord" [iD .non]) (u:eqD d (.str "undo")=.ok (.bl iH)):Vi ca [bkD ca ws p q r l b,d,.at_ b es]=.ok (ref 4,[.non,.non,.at_ b es]):=by
 have k:=vy (lk:=Ld p q) (r:=.int r) (t:=.tup (prL l)) (sd:=sdL ws p q r l) (b:=b);have o:=WT (lk:=Ld p q) (r:=.int r) (t:=.tup (prL l)) (sd:=sdL ws p q r l) (b:=b) (n := "ask") (by decide +kernel);have f:=qed (ca:=ca) (b:=b) (lk:=Ld p q) (r:=.int r) (t:=.tup (prL l)) (sd:=sdL ws p q r l) (es:=es) h;have a:=qcH (ca:=ca) (y := "NoWord") (by decide +kernel);have hw:=Xf hC;have g:dMG (ca "Book") "ask" "asked" 2 (vD ca) (qg 0) (qe (qg 1) qF) [iD (bkD ca ws p q r l b),iD d,iD (.at_ b es),iF]=.exc "NoWord" [iD (bkD ca ws p q r l b),iD d,iD (.at_ b es),iF]:=by unfold dMG;simp only [qy,qE,o,and_self,if_true,qG,qM,k,aR,aS,f,ac,am,Nat.reduceAdd,ae,af,ax,aP,cE,aN,aO]
 refine runD_ap.trans ?_;unfold Xa VQ;simp only [qv,ax,aP,ac,am,Nat.reduceAdd,Nat.reduceSub,ao,aR,aS,jw,uS,qK,jx,qy,ae,af,qE,kY,u,qY,yR,aX,if_false,g];simp [a,qH,jK,hw,qB]
theorem qee (hC:qak ca):Vi ca [bkD ca ws p q r l b,.str "undo",.at_ b []]=.ok (ref 12,[.non,.non,.at_ b []]):=by
 have h:=vy (lk:=Ld p q) (r:=.int r) (t:=.tup (prL l)) (sd:=sdL ws p q r l) (b:=b);have o:=WT (lk:=Ld p q) (r:=.int r) (t:=.tup (prL l)) (sd:=sdL ws p q r l) (b:=b) (n := "undo") (by decide +kernel);have f:=qec (ca:=ca) (b:=b) (lk:=Ld p q) (r:=.int r) (t:=.tup (prL l)) (sd:=sdL ws p q r l);have a:=qcH (ca:=ca) (y := "Nothing") (by decide +kernel);have hw:=JG hC;have d:eqD (.str "undo") (.str "undo")=.ok (.bl iI):=by simp [eqD,eqN,eqS]
 have g:dMG (ca "Book") "undo" "asked" 2 (kQ ca) (qg 0) qF [iD (bkD ca ws p q r l b),iD (.str "undo"),iD (.at_ b []),iF]=.exc "Nothing" [iD (bkD ca ws p q r l b),iD (.str "undo"),iD (.at_ b []),iF]:=by unfold dMG;simp only [qy,qE,o,and_self,if_true,qG,qM,h,aR,aS,f,ac,am,Nat.reduceAdd,ae,af,ax,aP,cE,aN,aO]
 refine runD_ap.trans ?_;unfold Xa VQ;simp only [qv,ax,aP,ac,am,Nat.reduceAdd,Nat.reduceSub,ao,aR,aS,jw,uS,qK,jx,qy,ae,af,qE,kY,d,qY,yR,if_true,g];simp [a,qH,jK,hw,qB]
theorem qef (hl:A.length<=100):Vi ca [bkD ca ws p q r l b,.str "undo",.at_ b (aD (A++[(w,d)]))]=.ok (.str w,[.non,.non,.at_ b (aD A)]):=by
 have h:eqD (.str "undo") (.str "undo")=.ok (.bl iI):=by simp [eqD,eqN,eqS]
 have g:=qht (ca:=ca) (ws:=ws) (p:=p) (q:=q) (r:=r) (l:=l) (b:=b) (A:=A) (w:=w) (d:=d) (ρ:=[iD (bkD ca ws p q r l b),iD (.str "undo"),iD (.at_ b (aD (A++[(w,d)]))),iF]) (i:=0) (g:=2) rfl rfl hl;refine runD_ap.trans ?_;unfold Xa VQ;simp only [qv,ax,aP,ac,am,Nat.reduceAdd,Nat.reduceSub,ao,aR,aS,jw,uS,qK,jx,qy,ae,af,qE,kY,h,qY,yR,if_true,g];rfl
theorem qf9 (M:Made ws p q r l) (n:(ws.map (num l p q r)).Nodup) (hw:xK w) (d:w ≠ "undo") (hl:A.length<=100):Vi ca [bkD ca ws p q r l b,.str w,.at_ b (aD A)]=.ok (ans ws p q r l w,[.non,.non,.at_ b (aD (A++[(w,fnd ws p q r l w)]))]):=by
 have d:eqD (.str w) (.str "undo")=.ok (.bl iH):=by simp [eqD,eqN,eqS,d]
 have g:=qiz (ca:=ca) (b:=b) (A:=A) (ρ:=[iD (bkD ca ws p q r l b),iD (.str w),iD (.at_ b (aD A)),iF]) (i:=0) (g:=2) (j:=1) M n hw rfl rfl rfl hl;refine runD_ap.trans ?_;unfold Xa VQ;simp only [qv,ax,aP,ac,am,Nat.reduceAdd,Nat.reduceSub,ao,aR,aS,jw,uS,qK,jx,qy,ae,af,qE,kY,d,qY,yR,aX,if_false,g];rfl
noncomputable def ODD:List D:=[.non,(.str ""),(.int 5),(.str "Ab"),(.str "abcdefg"),(.tup [(.str "a")]),(.str "a b")]
theorem qeg:∀ d∈ODD,km [d]=.exc "NoWord" [iD .non]/\eqD d (.str "undo")=.ok (.bl iH):=by intro d hd;unfold ODD at hd;simp only [ah,bi,or_false] at hd;rcases hd with rfl | rfl | rfl | rfl | rfl | rfl | rfl <;> exact ⟨by kernel_rfl,by kernel_rfl⟩
end
variable {W:List Str}
section
variable {b1 b2:Addr}
abbrev lg (ws:List Str) (p q r:Int) (l:List (Str×Int)) (W:List Str):List (Str×D):=W.map λw=>(w,fnd ws p q r l w)
theorem qhu:∀ x∈lg ws p q r l W,NS x.2:=λx hx=>by obtain ⟨w,_,rfl⟩:=aF.mp hx;exact GU
theorem qaa:lg ws p q r l (W++[w])=lg ws p q r l W++[(w,fnd ws p q r l w)]:=by simp [lg]
noncomputable def cH (ws:List Str) (p q r:Int) (l:List (Str×Int)) (W:List Str) (j:Int):Nat:=(W.filter λw=>decide (how ws p q r l w=j)).length
theorem qab:((eqB (fnd ws p q r l w) w=iI)/\noB (fnd ws p q r l w)=iH/\how ws p q r l w=0)\/(eqB (fnd ws p q r l w) w=iH/\noB (fnd ws p q r l w)=iI/\how ws p q r l w=2)\/(eqB (fnd ws p q r l w) w=iH/\noB (fnd ws p q r l w)=iH/\how ws p q r l w=1):=by
 unfold how;rcases GU (ws:=ws) (p:=p) (q:=q) (r:=r) (l:=l) (w:=w) with h | ⟨x,h⟩
 ·rw [h]; exact .inr (.inl ⟨rfl,rfl,rfl⟩)
 ·rw [h];by_cases e:x=w;·exact .inl ⟨decide_eq_true e,rfl,by rw [if_pos (show eqB (.str x) w=iI from decide_eq_true e)]⟩
  ·exact .inr (.inr ⟨decide_eq_false e,rfl,by rw [if_neg (show ¬eqB (.str x) w=iI by simp [eqB,e]),if_neg (show ¬noB (.str x)=iI by simp [noB])]⟩)
theorem qga (W:List Str):qal (lg ws p q r l W)=cH ws p q r l W 0/\WV (lg ws p q r l W)=cH ws p q r l W 2/\cH ws p q r l W 0+cH ws p q r l W 1+cH ws p q r l W 2=W.length:=by
 induction W with
 | nil=>exact ⟨rfl,rfl,rfl⟩
 | cons w W j=>obtain ⟨i1,i2,i⟩:=j;unfold qal WV cH lg at *;rw [ax,dL,dL,dL,dL,dL,ac];rcases qab (ws:=ws) (p:=p) (q:=q) (r:=r) (l:=l) (w:=w) with ⟨a,b,c⟩ | ⟨a,b,c⟩ | ⟨a,b,c⟩ <;> simp only [a,b,c] <;> refine ⟨?_,?_,?_⟩ <;> simp <;> omega
theorem qgb (W:List Str):cnt (lg ws p q r l W)=.tup [.int (cH ws p q r l W 0:Nat),.int (cH ws p q r l W 1:Nat),.int (cH ws p q r l W 2:Nat)]:=by obtain ⟨i1,i2,c⟩:=qga (ws:=ws) (p:=p) (q:=q) (r:=r) (l:=l) W;unfold cnt;rw [i1,i2,aH];congr 4;omega
noncomputable def wy (ws:List Str) (p q r:Int) (l:List (Str×Int)) (W:List Str):List D:=W.map λw=>.tup [.str w,.int (how ws p q r l w)]
abbrev qhY:Sl->Out (D×Sl):=jo [15,14,1] 1 [2] (kx (dC (.int 3))) (gNm 0) ftT (d1 kE (jo [] 1 [0] (wo (qg 1)) (gNm 0) (qP (d2 eqD (d2 ixD (qg 0) (dC (.int 1))) (qg 1))) (qg 0)))
theorem qbW (h2:ρ[2]?=iD (iD (.lst (wy ws p q r l W)))) (h:W.length<=100):qhY ρ=.ok (.lst [.int (cH ws p q r l W 0:Nat),.int (cH ws p q r l W 1:Nat),.int (cH ws p q r l W 2:Nat)],ρ):=by
 have r3:kx (dC (.int 3)) ρ=.ok ([.int 0,.int 1,.int 2],ρ):=iR0 (k:=3) (by decide) (by decide) rfl;have i:∀ j:Int,(d1 kE (jo [] 1 [0] (wo (qg 1)) (gNm 0) (qP (d2 eqD (d2 ixD (qg 0) (dC (.int 1))) (qg 1))) (qg 0))) [iD (.int j),iD (.lst (wy ws p q r l W))]=.ok (.int (cH ws p q r l W j:Nat),[iD (.int j),iD (.lst (wy ws p q r l W))]):=λj=>by
  have c:=qcu (own:=[]) (cap:=[0]) (fi:=wo (qg 1)) (ft:=qP (d2 eqD (d2 ixD (qg 0) (dC (.int 1))) (qg 1))) (fe:=qg 0) (ρ:=[iD (.int j),iD (.lst (wy ws p q r l W))]) (ρ1:=[iD (.int j),iD (.lst (wy ws p q r l W))]) (ds:=wy ws p q r l W)
   (λd=>match d with | .tup [_,.int k]=>decide (k=j) | _=>iH) (λd=>d) (by simp) (by simp [kI]) (by unfold wy; rw [aH]; exact jd (by omega))
   (λd hd=>by
    obtain ⟨w,_,rfl⟩:=aF.mp hd;have e1:ixD (.tup [.str w,.int (how ws p q r l w)]) (.int 1)=.ok (.int (how ws p q r l w)):=by simp [ixD,at1]
    have a:eqD (.int (how ws p q r l w)) (.int j)=.ok (.bl (decide (how ws p q r l w=j))):=by simp [eqD,eqN,eqS] <;> rfl
    simp only [qK,jx,qy,kY,ax,aP,ae,af,cE,qE,e1,a,qY,yR])
   (λd hd _=>by simp)
  rw [kM,c];have e:kE (.lst (((wy ws p q r l W).filter λd=>match d with | .tup [_,.int k]=>decide (k=j) | _=>iH).map λd=>d))=.ok (.int (cH ws p q r l W j:Nat)):=by simp [kE,wy,cH,fY,eX]
  simp only [qE,e,qY]
 have c:=GE (own:=[15,14,1]) (cap:=[2]) (fi:=kx (dC (.int 3))) (fe:=d1 kE (jo [] 1 [0] (wo (qg 1)) (gNm 0) (qP (d2 eqD (d2 ixD (qg 0) (dC (.int 1))) (qg 1))) (qg 0))) (ρ:=ρ) (ρ1:=ρ) (ds:=[.int 0,.int 1,.int 2])
  (λd=>match d with | .int j=>.int (cH ws p q r l W j:Nat) | d=>d) (by decide) r3 (jd (by decide)) (λd hd=>by simp only [ax,aP,h2,cE];simp only [ah,bi,or_false] at hd;rcases hd with rfl | rfl | rfl <;> exact i _)
 exact c
noncomputable def rv (w:Str):Str:=⟨⟨w.cps.toList.reverse⟩⟩
theorem qac {w:Str} (h:xK w):xK (rv w):=⟨by show 1<=(w.cps.toList.reverse).length; rw [List.length_reverse]; exact h.1,by show (w.cps.toList.reverse).length<=6; rw [List.length_reverse]; exact h.2.1,λc d=>h.2.2 c (List.mem_reverse.mp d)⟩
theorem qgc {w:Str} (h:xK w):slD iF iF (iD (-1)) (.str w)=.ok (.str (rv w)):=by rcases yQ h with ⟨a,rfl⟩ | ⟨a,b,rfl⟩ | ⟨a,b,c,rfl⟩ | ⟨a,b,c,d,rfl⟩ | ⟨a,b,c,d,e,rfl⟩ | ⟨a,b,c,d,e,f,rfl⟩ <;> kernel_rfl
theorem qhZ {w:Str} (h:xK w):slD iF (iD 6) iF (.str w)=.ok (.str w):=by rcases yQ h with ⟨a,rfl⟩ | ⟨a,b,rfl⟩ | ⟨a,b,c,rfl⟩ | ⟨a,b,c,d,rfl⟩ | ⟨a,b,c,d,e,rfl⟩ | ⟨a,b,c,d,e,f,rfl⟩ <;> kernel_rfl
theorem qhv {w:Str} (h:xK w) {x:Nat} (hx:az x):∃ u,xK u/\slD iF (iD 6) iF (.str (w++⟨#[x]⟩))=.ok (.str u):=by
 have g:∀ {l:List Nat} {u:Str},u.cps.toList=l->(∀ c∈l,az c)->1<=l.length->l.length<=6->xK u:=λ{l u} e j h1 M=>⟨by show 1<=u.cps.size; rw [<-cC,e]; exact h1,by show u.cps.size<=6; rw [<-cC,e]; exact M,λc i=>j c (by rw [<-e]; exact i)⟩
 rcases yQ h with ⟨a,rfl⟩ | ⟨a,b,rfl⟩ | ⟨a,b,c,rfl⟩ | ⟨a,b,c,d,rfl⟩ | ⟨a,b,c,d,e,rfl⟩ | ⟨a,b,c,d,e,f,rfl⟩
 ·exact ⟨⟨#[a,x]⟩,g (l:=[a,x]) rfl (λc i=>by rcases ba.mp (show c∈[a]++[x] from i) with z | z; exact h.2.2 c z; rw [aK.mp z]; exact hx) (by simp) (by simp),by kernel_rfl⟩
 ·exact ⟨⟨#[a,b,x]⟩,g (l:=[a,b,x]) rfl (λc i=>by rcases ba.mp (show c∈[a,b]++[x] from i) with z | z; exact h.2.2 c z; rw [aK.mp z]; exact hx) (by simp) (by simp),by kernel_rfl⟩
 ·exact ⟨⟨#[a,b,c,x]⟩,g (l:=[a,b,c,x]) rfl (λy i=>by rcases ba.mp (show y∈[a,b,c]++[x] from i) with z | z; exact h.2.2 y z; rw [aK.mp z]; exact hx) (by simp) (by simp),by kernel_rfl⟩
 ·exact ⟨⟨#[a,b,c,d,x]⟩,g (l:=[a,b,c,d,x]) rfl (λy i=>by rcases ba.mp (show y∈[a,b,c,d]++[x] from i) with z | z; exact h.2.2 y z; rw [aK.mp z]; exact hx) (by simp) (by simp),by kernel_rfl⟩
 ·exact ⟨⟨#[a,b,c,d,e,x]⟩,g (l:=[a,b,c,d,e,x]) rfl (λy i=>by rcases ba.mp (show y∈[a,b,c,d,e]++[x] from i) with z | z; exact h.2.2 y z; rw [aK.mp z]; exact hx) (by simp) (by simp),by kernel_rfl⟩
 ·exact ⟨⟨#[a,b,c,d,e,f]⟩,h,by kernel_rfl⟩
theorem qad:xK "undo":=⟨by decide,by decide,λc d=>by revert c; unfold az; decide +kernel⟩
abbrev sK (ns:List Int) (t:List D) (W:List Str) (k:Option D) (ws:List Str) (p q r:Int) (l:List (Str×Int)) (ca:Str->Addr) (b1 b2:Addr) (x y z u:Option D):Sl:=
 [iD (scr ns),iD (.lst t),iD (.lst (wy ws p q r l W)),k,iD (Wd ws),iD (Ld p q),iD (.int r),iD (.tup (prL l)),iD (bkD ca ws p q r l b1),iD (bkD ca ws p q r l b2),x,y,z,u,iD (.at_ b1 (aD (lg ws p q r l W))),iD (.at_ b2 [])]
theorem qgd (ns:List Int) (t xs:List D) (hx:xs≠[]) (l:t.length < 1000):∃ d,d∈xs/\kf [scr ns,.lst t,.tup xs]=.ok (d,[.non,.lst (t++[.int 0]),.non]):=by obtain ⟨r,r0,r1,e⟩:=wl ns t (many:=xs.length) (by have:=dQ.mpr hx; omega) l;obtain ⟨d,hd,c⟩:=qct r0 r1;refine ⟨d,c,?_⟩;refine runD_ap.trans ?_;simp [Jq,qv,qB,qH,jK,kE,e,ixD,hd]
abbrev wdS:(Sl->Out (Fl×Sl))->Sl->Out (Fl×Sl):=λK=>(jf (ku 10 (qC [.vl,.sl 1,.vl] ke (qe (qg 0) (jR (qe (dC (.int 6)) qF)))))
  (jf (ku 11 (qC [.vl,.sl 1,.vl] kf (qe (qg 0) (jR (qe (qg 4) qF)))))
  (jf (ku 11 (dIf (qP (d2 eqD (qg 10) (dC (.int 1)))) (yD (qg 11) iF iF (iD (d1 YG (dC (.int 1))))) (dIf (qP (d2 eqD (qg 10) (dC (.int 2)))) (d2 wc (qg 11) (qC [.vl,.sl 1,.vl] kf (qe (qg 0) (jR (qe (yU (qe (dC (.str "a")) (qe (dC (.str "b")) (qe (dC (.str "q")) qF)))) qF))))) (qg 11))))
  (jf (ku 11 (dIf (qP (d2 eqD (qg 10) (dC (.int 3)))) (qC [.vl,.sl 1,.vl] kf (qe (qg 0) (jR (qe (yU λρ=>.ok ([.non,(.str ""),(.int 5),(.str "Ab"),(.str "abcdefg"),(.tup [(.str "a")]),(.str "a b")],ρ)) qF)))) (qg 11)))
  (jf (ku 11 (dIf (qP (d2 eqD (qg 10) (dC (.int 4)))) (dC (.str "undo")) (dIf (qgn (Qc (d1 (yB "str") (qg 11))) (qP (d2 ltD (qg 10) (dC (.int 3))))) (yD (qg 11) iF (iD (dC (.int 6))) iF) (qg 11))))
  K)))))
theorem QC (a b:Int):eqD (.int a) (.int b)=.ok (.bl (decide (a=b))):=by simp [eqD,eqN,eqS] <;> rfl
theorem qbX (ns:List Int) (hw:jS ws) (t:List D) (N:t.length < 500) (W:List Str) (k x y z u:Option D) (K:Sl->Out (Fl×Sl)):∃ v t' d,t'.length<=t.length+3/\((v=3/\d∈ODD)\/(v≠3/\∃ w,xK w/\d=.str w))/\wdS K (sK ns t W k ws p q r l ca b1 b2 x y z u)=K (sK ns t' W k ws p q r l ca b1 b2 (iD (.int v)) (iD d) z u):=by
 obtain ⟨v,M,J,H⟩:=wl ns t (many:=6) (by omega) (by omega);have s:ws.map D.str≠[]:=by have:=hw.1; cases ws with | nil=>simp at this | cons=>simp
 obtain ⟨d,hd,n⟩:=qgd ns (t++[.int 0]) (ws.map D.str) s (by rw [ap]; simp; omega);obtain ⟨w,m,rfl⟩:=aF.mp hd;have h:=hw.2.2.2 w m;have j:3<=sizeLine:=jd (by omega);have i:7<=sizeLine:=jd (by omega);have o:YG (.int 1)=.ok (.int (-1)):=rfl;have ts:∀ x:Str,yB "str" (.str x)=.ok (.bl iI):=λx=>qcx (d:=.str x) trivial;have lt:∀ a b:Int,ltD (.int a) (.int b)=.ok (.bl (decide (a < b))):=λa b=>rfl;have g1:(ku 10 (qC [.vl,.sl 1,.vl] ke (qe (qg 0) (jR (qe (dC (.int 6)) qF))))) (sK ns t W k ws p q r l ca b1 b2 x y z u)=.ok (.nx,sK ns (t++[.int 0]) W k ws p q r l ca b1 b2 (iD (.int v)) y z u):=by simp only [sK,jH,ka,qG,yG,qy,ae,af,qE,kY,qM,qH,bf,c8,H,kS,jK,ac,am,Nat.reduceAdd,Nat.reduceLT,if_true,aN,aO]
 have g2:(ku 11 (qC [.vl,.sl 1,.vl] kf (qe (qg 0) (jR (qe (qg 4) qF))))) (sK ns (t++[.int 0]) W k ws p q r l ca b1 b2 (iD (.int v)) y z u)=.ok (.nx,sK ns (t++[.int 0]++[.int 0]) W k ws p q r l ca b1 b2 (iD (.int v)) (iD (.str w)) z u):=by simp only [sK,jH,ka,qG,yG,qy,ae,af,qE,kY,qM,qH,bf,c8,n,kS,jK,ac,am,Nat.reduceAdd,Nat.reduceLT,if_true,aN,aO]
 generalize g:t++[.int 0]++[.int 0]=t2 at g2;have C:t2.length=t.length+2:=by rw [<-g]; simp
 unfold wdS;rw [qW g1,qW g2];have A:v=0\/v=1\/v=2\/v=3\/v=4\/v=5:=by omega
 rcases A with rfl | rfl | rfl | rfl | rfl | rfl
 ·refine ⟨0,t2,(.str w),(by omega),(.inr ⟨by decide,w,h,rfl⟩),?_⟩;rw [qW (ρ1:=sK ns t2 W k ws p q r l ca b1 b2 (iD (.int 0)) (iD (.str w)) z u) ?a,qW (ρ1:=sK ns t2 W k ws p q r l ca b1 b2 (iD (.int 0)) (iD (.str w)) z u) ?b,qW (ρ1:=sK ns t2 W k ws p q r l ca b1 b2 (iD (.int 0)) (iD (.str w)) z u) ?c]
  case a=>simp [sK,QC]
  case b=>simp [sK,QC]
  case c=>simp [sK,QC,ts,uO,lt,yD,ud,qhZ h]
 ·refine ⟨1,t2,(.str (rv w)),(by omega),(.inr ⟨by decide,rv w,qac h,rfl⟩),?_⟩;rw [qW (ρ1:=sK ns t2 W k ws p q r l ca b1 b2 (iD (.int 1)) (iD (.str (rv w))) z u) ?a,qW (ρ1:=sK ns t2 W k ws p q r l ca b1 b2 (iD (.int 1)) (iD (.str (rv w))) z u) ?b,qW (ρ1:=sK ns t2 W k ws p q r l ca b1 b2 (iD (.int 1)) (iD (.str (rv w))) z u) ?c]
  case a=>simp [sK,QC,o,yD,ud,qgc h]
  case b=>simp [sK,QC]
  case c=>simp [sK,QC,ts,uO,lt,yD,ud,qhZ (qac h)]
 ·obtain ⟨d,hd,e⟩:=gx ns t2 [.str "a",.str "b",.str "q"] (by simp) (by omega);have hx:∃ x,az x/\d=.str ⟨#[x]⟩:=by
   simp only [ah,bi,or_false] at hd;rcases hd with rfl | rfl | rfl;·exact ⟨97,by unfold az; decide,rfl⟩
   ·exact ⟨98,by unfold az; decide,rfl⟩
   ·exact ⟨113,by unfold az; decide,rfl⟩
  obtain ⟨x,hx,rfl⟩:=hx;obtain ⟨V,B,E⟩:=qhv h hx;have G:wc (.str w) (.str ⟨#[x]⟩)=.ok (.str (w++⟨#[x]⟩)):=by have L:w.length+(⟨#[x]⟩:Str).length<=sizeLine:=jd (by have:=h.2.1;show w.length+1<=2000;omega);simp [wc,L]
  refine ⟨2,(t2++[.int 0]),(.str V),(by rw [ap]; simp; omega),(.inr ⟨by decide,V,B,rfl⟩),?_⟩;rw [qW (ρ1:=sK ns (t2++[.int 0]) W k ws p q r l ca b1 b2 (iD (.int 2)) (iD (.str (w++⟨#[x]⟩))) z u) ?a,qW (ρ1:=sK ns (t2++[.int 0]) W k ws p q r l ca b1 b2 (iD (.int 2)) (iD (.str (w++⟨#[x]⟩))) z u) ?b,qW (ρ1:=sK ns (t2++[.int 0]) W k ws p q r l ca b1 b2 (iD (.int 2)) (iD (.str V)) z u) ?c]
  case a=>
   simp only [sK,jH,uS,qK,jx,qy,ae,af,qE,kY,QC,qY,show decide ((2:Int)=1)=iH from rfl,decide_true,yR,aX,if_false,if_true,ka,qG,yG,zU,qM,ac,am,Nat.reduceAdd,if_pos j,qH,bf,c8,e,kS,jK,aN,aO,G,Nat.reduceLT]
  case b=>simp [sK,QC]
  case c=>simp [sK,QC,ts,uO,lt,yD,ud,E]
 ·obtain ⟨d,hd,e⟩:=gx ns t2 ODD (by simp [ODD]) (by omega);refine ⟨3,(t2++[.int 0]),d,(by rw [ap]; simp; omega),(.inl ⟨rfl,hd⟩),?_⟩;have f:∃ b,yB "str" d=.ok (.bl b):=by unfold ODD at hd;simp only [ah,bi,or_false] at hd;rcases hd with rfl | rfl | rfl | rfl | rfl | rfl | rfl <;> exact ⟨_,qcx trivial⟩
  obtain ⟨I,f⟩:=f;rw [qW (ρ1:=sK ns t2 W k ws p q r l ca b1 b2 (iD (.int 3)) (iD (.str w)) z u) ?a,qW (ρ1:=sK ns (t2++[.int 0]) W k ws p q r l ca b1 b2 (iD (.int 3)) (iD d) z u) ?b,qW (ρ1:=sK ns (t2++[.int 0]) W k ws p q r l ca b1 b2 (iD (.int 3)) (iD d) z u) ?c]
  case a=>simp [sK,QC]
  case b=>
   simp only [sK,jH,uS,qK,jx,qy,ae,af,qE,kY,QC,qY,decide_true,yR,if_true,ka,qG,yG,zU,qM,ac,am,Nat.reduceAdd,if_pos i,qH,bf,c8,show kf [scr ns,.lst t2,.lst [.non,(.str ""),(.int 5),(.str "Ab"),(.str "abcdefg"),(.tup [(.str "a")]),(.str "a b")]]=_ from e,kS,jK,aN,aO,Nat.reduceLT]
  case c=>cases I <;> simp [sK,QC,f,uO,lt]
 ·refine ⟨4,t2,(.str "undo"),(by omega),(.inr ⟨by decide,_,qad,rfl⟩),?_⟩;rw [qW (ρ1:=sK ns t2 W k ws p q r l ca b1 b2 (iD (.int 4)) (iD (.str w)) z u) ?a,qW (ρ1:=sK ns t2 W k ws p q r l ca b1 b2 (iD (.int 4)) (iD (.str w)) z u) ?b,qW (ρ1:=sK ns t2 W k ws p q r l ca b1 b2 (iD (.int 4)) (iD (.str "undo")) z u) ?c]
  case a=>simp [sK,QC]
  case b=>simp [sK,QC]
  case c=>simp [sK,QC]
 ·refine ⟨5,t2,(.str w),(by omega),(.inr ⟨by decide,w,h,rfl⟩),?_⟩;rw [qW (ρ1:=sK ns t2 W k ws p q r l ca b1 b2 (iD (.int 5)) (iD (.str w)) z u) ?a,qW (ρ1:=sK ns t2 W k ws p q r l ca b1 b2 (iD (.int 5)) (iD (.str w)) z u) ?b,qW (ρ1:=sK ns t2 W k ws p q r l ca b1 b2 (iD (.int 5)) (iD (.str w)) z u) ?c]
  case a=>simp [sK,QC]
  case b=>simp [sK,QC]
  case c=>simp [sK,QC,ts,uO,lt]
end
section
variable {b1 b2:Addr}
abbrev brS:Sl->Out (Fl×Sl):=(sIf (qP (d2 eqD (qg 11) (dC (.str "undo")))) (jf (ku 12 (dIf (qP (d2 neD (qg 2) (yU qF))) (d2 ixD (d2 ixD (qg 2) (d1 YG (dC (.int 1)))) (dC (.int 0))) (wG (qe (dC (.str "refused")) (qe (dC (.int 12)) qF)))))
  (ku 2 (zX (qg 2) iF (iD (d1 YG (dC (.int 1))))))) (sIf (qP (d2 eqD (qg 10) (dC (.int 3)))) (ku 12 (wG (qe (dC (.str "refused")) (qe (dC (.int 4)) qF)))) (jf (qcd (qC [.vl,.vl,.vl,.vl,.vl] UY (qe (qg 4) (qe (qg 5) (qe (qg 6) (qe (qg 7) (qe (qg 11) qF)))))) (wf 2 (qS (gNm 12) (qS (gNm 13) we))))
  (ku 2 (d2 wc (qg 2) (yU (qe (wG (qe (qg 11) (qe (qg 13) qF))) qF)))))))
abbrev tlS (ca:Str->Addr):Sl->Out (Fl×Sl):=(jf (sIf (qP (d2 neD (KU 14 (Vi ca) (qe (qg 8) (qe (qg 11) qF))) (qg 12))) (kr (dC (.bl iH))) kn)
  (sIf (qP (d2 neD (dMR (ca "Book") "counts" "asked" 14 (jM ca) (qg 8)) (d1 wY (jo [15,14,1] 1 [2] (kx (dC (.int 3))) (gNm 0) ftT (d1 kE (jo [] 1 [0] (wo (qg 1)) (gNm 0) (qP (d2 eqD (d2 ixD (qg 0) (dC (.int 1))) (qg 1))) (qg 0))))))) (kr (dC (.bl iH))) kn))
theorem JH (ns:List Int) {t:List D} {W':List Str} {k x u:Option D} {e:D} (o:Vi ca [bkD ca ws p q r l b1,d,.at_ b1 (aD (lg ws p q r l W))]=.ok (e,[.non,.non,.at_ b1 (aD (lg ws p q r l W'))])) (h:neD e e=.ok (.bl iH)) (c:W'.length<=100):tlS ca [iD (scr ns),iD (.lst t),iD (.lst (wy ws p q r l W')),k,iD (Wd ws),iD (Ld p q),iD (.int r),iD (.tup (prL l)),iD (bkD ca ws p q r l b1),iD (bkD ca ws p q r l b2),x,iD d,iD e,u,iD (.at_ b1 (aD (lg ws p q r l W))),iD (.at_ b2 [])]=.ok (.nx,sK ns t W' k ws p q r l ca b1 b2 x (iD d) (iD e) u):=by
 have ct:neD (.tup [.int (cH ws p q r l W' 0:Nat),.int (cH ws p q r l W' 1:Nat),.int (cH ws p q r l W' 2:Nat)]) (.tup [.int (cH ws p q r l W' 0:Nat),.int (cH ws p q r l W' 1:Nat),.int (cH ws p q r l W' 2:Nat)])=.ok (.bl iH):=by simp [neD,eqN,wX,eqS]
 unfold tlS;rw [qW (ρ1:=sK ns t W' k ws p q r l ca b1 b2 x (iD d) (iD e) u) ?a]
 case a=>
  rw [vg,qK,jx];unfold KU;simp only [sK,qG,qM,qy,ae,af,qE,aR,aS,o,ac,am,Nat.reduceAdd,aN,aO,h,qY,yR,aX,if_false,wL]
 rw [vg,qK,jx,qhX (A:=lg ws p q r l W') (b:=b1) rfl rfl qhu (by rw [aH]; exact c)];simp only [qE];have f:=qbW (ws:=ws) (p:=p) (q:=q) (r:=r) (l:=l) (W:=W') (ρ:=sK ns t W' k ws p q r l ca b1 b2 x (iD d) (iD e) u) rfl c;unfold qhY at f;rw [kM,f,qgb];simp only [qE,wY,qY,ct,yR,aX,if_false,wL]
theorem qge (M:Made ws p q r l) (n:(ws.map (num l p q r)).Nodup):neD (ans ws p q r l w) (ans ws p q r l w)=.ok (.bl iH):=by
 by_cases h:w∈ws;·rw [qcF M n h]; simp [neD,eqN,eqS]
 ·rw [GY M n h]; rfl
theorem qae (xs:List D) (d:D):qgx iF (iD (-1)) (.lst (xs++[d]))=.ok (.lst xs):=by
 have:qdP (xs++[d]) iF (iD (-1))=xs:=by
  have e:HT.sIx (xs++[d]).length (xs++[d]).length (iD (-1))=xs.length:=by show (if (-1:Int) < 0 then ((-1:Int)+(((xs++[d]).length:Nat):Int)).toNat else min (-1:Int).toNat (xs++[d]).length)=_;rw [if_pos (by decide),ap,eY];omega
  unfold qdP;rw [HT.sIx_none,e];simp
 show Out.ok (D.lst (qdP (xs++[d]) iF (iD (-1))))=_;rw [this]
theorem qeh (xs:List D) (d:D):ixD (.lst (xs++[d])) (.int (-1))=.ok d:=by
 have:atI (xs++[d]) (-1)=iD d:=by unfold atI ixN;rw [if_neg (by decide),if_pos (by rw [ap]; simp; omega)];rw [ap,eY];show (xs++[d])[((-1:Int)+((xs.length+1:Nat):Int)).toNat]?=_;rw [show ((-1:Int)+((xs.length+1:Nat):Int)).toNat=xs.length by omega];simp
 simp only [ixD,this]
theorem qbY (hC:qak ca) (ns:List Int) (M:Made ws p q r l) (n:(ws.map (num l p q r)).Nodup) {t:List D} (i:W.length<=50) {k z u:Option D} {v:Int} (hd:(v=3/\d∈ODD)\/(v≠3/\∃ w,xK w/\d=.str w)):∃ W' y B,W'.length<=W.length+1/\jf brS (tlS ca) (sK ns t W k ws p q r l ca b1 b2 (iD (.int v)) (iD d) z u)=.ok (.nx,sK ns t W' k ws p q r l ca b1 b2 (iD (.int v)) (iD d) y B):=by
 have j:0<=sizeLine:=bA _;have z1:1<=sizeLine:=jd (by omega);have z2:2<=sizeLine:=jd (by omega);have s:YG (.int 1)=.ok (.int (-1)):=rfl;have m:∀ k:Int,neD (ref k) (ref k)=.ok (.bl iH):=λk=>by simp [neD,eqN,wX,eqS]
 have sn:∀ x:Str,neD (.str x) (.str x)=.ok (.bl iH):=λx=>by simp [neD,eqN,eqS]
 rcases hd with ⟨rfl,hd⟩ | ⟨I,w,hw,rfl⟩
 ·obtain ⟨o1,o2⟩:=qeg d hd;refine ⟨W,iD (ref 4),u,by omega,?_⟩;rw [qW (ρ1:=sK ns t W k ws p q r l ca b1 b2 (iD (.int 3)) (iD d) (iD (ref 4)) u) ?a]
  case a=>
   unfold brS;simp only [sK,vg,qK,jx,qy,ae,af,qE,kY,o2,qY,yR,aX,if_false,QC,decide_true,if_true,jH,jG,qG,qM,ac,am,Nat.reduceAdd,if_pos z2,Nat.reduceLT,aN,aO]
  exact JH ns (qf8 hC o1 o2) (m 4) (by omega)
 ·by_cases f:w = "undo"
  ·subst f;have G:eqD (.str "undo") (.str "undo")=.ok (.bl iI):=by simp [eqD,eqN,eqS]
   rcases List.eq_nil_or_concat W with rfl | ⟨V,w,rfl⟩
   ·refine ⟨[],iD (ref 12),u,by simp,?_⟩;have C:neD (.lst []) (.lst [])=.ok (.bl iH):=rfl;have s0:qgx iF (iD (-1)) (.lst [])=.ok (.lst []):=rfl;rw [qW (ρ1:=sK ns t [] k ws p q r l ca b1 b2 (iD (.int v)) (iD (.str "undo")) (iD (ref 12)) u) ?a]
    case a=>
     unfold brS zX;simp only [sK,wy,aP,vg,qK,jx,qy,ae,af,qE,kY,G,qY,yR,if_true,wg,jH,uS,zU,qM,am,if_pos j,C,aX,if_false,jG,qG,ac,Nat.reduceAdd,if_pos z2,Nat.reduceLT,aN,aO,ud,kM,s,s0]
    exact JH ns (W:=[]) (W':=[]) (qee hC) (m 12) (by simp)
   ·rw [List.concat_eq_append];rw [List.concat_eq_append] at i;have K:V.length+1<=50:=by rw [ap] at i; exact i
    refine ⟨V,iD (.str w),u,by rw [ap]; omega,?_⟩;have e:wy ws p q r l (V++[w])=wy ws p q r l V++[.tup [.str w,.int (how ws p q r l w)]]:=by simp [wy]
    have n1:∀ (xs:List D) (d:D),neD (.lst (xs++[d])) (.lst [])=.ok (.bl iI):=λxs d=>by cases xs <;> simp [neD,eqN,wX]
    have E:ixD (.tup [.str w,.int (how ws p q r l w)]) (.int 0)=.ok (.str w):=by simp [ixD,at0]
    have o:=qef (ca:=ca) (ws:=ws) (p:=p) (q:=q) (r:=r) (l:=l) (b:=b1) (A:=lg ws p q r l V) (w:=w) (d:=fnd ws p q r l w) (by rw [aH]; omega);rw [<-qaa] at o;rw [qW (ρ1:=[iD (scr ns),iD (.lst t),iD (.lst (wy ws p q r l V)),k,iD (Wd ws),iD (Ld p q),iD (.int r),iD (.tup (prL l)),iD (bkD ca ws p q r l b1),iD (bkD ca ws p q r l b2),iD (.int v),iD (.str "undo"),iD (.str w),u,iD (.at_ b1 (aD (lg ws p q r l (V++[w])))),iD (.at_ b2 [])]) ?a]
    case a=>
     unfold brS zX;simp only [sK,e,vg,qK,jx,qy,ae,af,qE,kY,G,qY,yR,if_true,wg,jH,uS,zU,qM,am,if_pos j,n1,kM,s,qeh,E,ac,Nat.reduceAdd,Nat.reduceLT,aN,aO,ud,qae]
    exact JH ns o (sn w) (by omega)
  ·have G:eqD (.str w) (.str "undo")=.ok (.bl iH):=by simp [eqD,eqN,eqS,f]
   have J:decide (v=3)=false:=decide_eq_false I;refine ⟨W++[w],iD (ans ws p q r l w),iD (.int (how ws p q r l w)),by simp,?_⟩;have h:=qf7 (r:=r) (l:=l) M n hw;have o:=qf9 (ca:=ca) (b:=b1) (A:=lg ws p q r l W) M n hw f (by rw [aH]; omega);rw [<-qaa] at o;have e:wy ws p q r l (W++[w])=wy ws p q r l W++[.tup [.str w,.int (how ws p q r l w)]]:=by simp [wy]
   have H:(wy ws p q r l W).length+1<=sizeLine:=jd (by unfold wy; rw [aH]; omega);have g:wc (.lst (wy ws p q r l W)) (.lst [.tup [.str w,.int (how ws p q r l w)]])=.ok (.lst (wy ws p q r l (W++[w]))):=by rw [e];simp [wc,H]
   rw [qW (ρ1:=[iD (scr ns),iD (.lst t),iD (.lst (wy ws p q r l (W++[w]))),k,iD (Wd ws),iD (Ld p q),iD (.int r),iD (.tup (prL l)),iD (bkD ca ws p q r l b1),iD (bkD ca ws p q r l b2),iD (.int v),iD (.str w),iD (ans ws p q r l w),iD (.int (how ws p q r l w)),iD (.at_ b1 (aD (lg ws p q r l W))),iD (.at_ b2 [])]) ?a]
   case a=>
    unfold brS;simp only [sK,vg,qK,jx,qy,ae,af,qE,kY,G,qY,yR,aX,if_false,QC,J];rw [qW (ρ1:=sK ns t W k ws p q r l ca b1 b2 (iD (.int v)) (iD (.str w)) (iD (ans ws p q r l w)) (iD (.int (how ws p q r l w)))) ?c]
    case c=>
     rw [ZQ];simp only [ka,qG,qM,qy,ae,af,qE,qH,bf,h,kS,jK];simp [wf,qS,we,sK]
    simp only [sK,jH,jx,qy,ae,af,qE,zU,jG,qG,qM,ac,am,Nat.reduceAdd,if_pos z2,if_pos z1,g,qY,Nat.reduceLT,if_true,aN,aO]
   exact JH ns o (qge M n) (by rw [ap]; simp; omega)
theorem Yl (hC:qak ca) (ns:List Int) (M:Made ws p q r l) (h:(ws.map (num l p q r)).Nodup):∀ (ds t:List D) (W:List Str) (k x y z u:Option D),t.length+3 * ds.length < 500->W.length+ds.length<=20 ->∃ t' W' k' n s c V,zd (gNm 3) (wdS (jf brS (tlS ca))) ds (sK ns t W k ws p q r l ca b1 b2 x y z u)=.ok (.nx,sK ns t' W' k' ws p q r l ca b1 b2 n s c V)
 | [],t,W,k,x,y,z,u,_,_=>⟨t,W,k,x,y,z,u,rfl⟩
 | d::ds,t,W,k,x,y,z,u,h1,h2=>by rw [ac] at h1 h2;obtain ⟨v,f,d1,m,hd,e⟩:=qbX (ca:=ca) (p:=p) (q:=q) (r:=r) (l:=l) (b1:=b1) (b2:=b2) ns M.hw t (by omega) W (iD d) x y z u (jf brS (tlS ca));obtain ⟨g,z1,a,j,i⟩:=qbY (b1:=b1) (b2:=b2) hC ns M h (t:=f) (W:=W) (by omega) (k:=iD d) (z:=z) (u:=u) hd;rw [i] at e;obtain ⟨t',W',k',n,s,c,V,b⟩:=Yl hC ns M h ds f g (iD d) (iD (.int v)) (iD d1) z1 a (by omega) (by omega);exact ⟨t',W',k',n,s,c,V,by rw [JF (ρ1:=sK ns t W (iD d) ws p q r l ca b1 b2 x y z u) rfl e,b]⟩
theorem qaf {r t:D}:kD ca [.ins (ca "Book") (bk5 lk r t sd b)]=.ok (.lst sd,[.non]):=by have m:=f5 (c:=ca "Book") (yl (lk:=lk) (r:=r) (t:=t) (sd:=sd) (b:=b));refine runD_ap.trans ?_;unfold wU;simp only [qv,ax,aP,ac,am,Nat.reduceAdd,Nat.reduceSub,ao,aR,aS,jw,kM,qy,ae,qE,m,qY,YH];rfl
theorem qh0 (h:ρ[i]?=iD (iD (bkD ca ws p q r l b))):KR (ca "Book") "places" (kD ca) (qg i) ρ=.ok (.lst (sdL ws p q r l),ρ):=by have o:=WT (lk:=Ld p q) (r:=.int r) (t:=.tup (prL l)) (sd:=sdL ws p q r l) (b:=b) (n := "places") (by decide +kernel);unfold KR;simp only [qy,h,qE,o,and_self,if_true,qaf]
theorem qgf {ca:Str->Addr} (hC:qak ca) (ns:List Int):∃ ρ1 h j e m a d,Gy ca (qv qbG [scr ns])=.ok (.nx,ρ1)/\Gz ρ1=.ok (h,j)/\jJ ca h=.ok e/\GA j=.ok (m,a)/\jJ ca m=.ok d/\a.length=16 /\
  ∀ b1 b2,∃ ρ',UZ ca ((((a.set 8 (iD (.ins (ca "Book") (vO "asked" (.raw (.ref b1)) e)))).set 9 (iD (.ins (ca "Book") (vO "asked" (.raw (.ref b2)) d)))).set 14 (iD (.at_ b1 []))).set 15 (iD (.at_ b2 [])))=.ok (.rt (.bl iI),ρ'):=by
 have o:0<=sizeLine:=bA _;have u:3<=sizeLine:=jd (by omega);obtain ⟨ws,p,q,r,l,f,M,t,v,g1⟩:=qd6 ns [] (by simp);rw [am] at v;have c:=qd8 (ca:=ca) M t;refine ⟨[iD (scr ns),iD (.lst f),iF,iF,iD (Wd ws),iD (Ld p q),iD (.int r),iD (.tup (prL l)),iF,iF,iF,iF,iF,iF,iF,iF],[Wd ws,Ld p q,.int r,.tup (prL l)],[iD (scr ns),iD (.lst f),iF,iF,iD (Wd ws),iD (Ld p q),iD (.int r),iD (.tup (prL l)),iF,iF,iF,iF,iF,iF,iF,iF],bk4 (Ld p q) (.int r) (.tup (prL l)) (sdL ws p q r l),[Wd ws,Ld p q,.int r,.tup (prL l)],[iD (scr ns),iD (.lst f),iF,iF,iD (Wd ws),iD (Ld p q),iD (.int r),iD (.tup (prL l)),iF,iF,iF,iF,iF,iF,iF,iF],bk4 (Ld p q) (.int r) (.tup (prL l)) (sdL ws p q r l),?_,rfl,c,rfl,c,rfl,λb1 b2=>?_⟩;·unfold Gy;simp only [qv,ax,aP,ac,am,Nat.reduceAdd,Nat.reduceSub,ao,aR,aS];rw [qW (ρ1:=[iD (scr ns),iD (.lst []),iF,iF,iF,iF,iF,iF,iF,iF,iF,iF,iF,iF,iF,iF]) (by simp [o])];simp [qH,jK,g1,wf,qS,we]
 ·rw [qhV,qhV];show ∃ ρ',UZ ca [iD (scr ns),iD (.lst f),iF,iF,iD (Wd ws),iD (Ld p q),iD (.int r),iD (.tup (prL l)),iD (bkD ca ws p q r l b1),iD (bkD ca ws p q r l b2),iF,iF,iF,iF,iD (.at_ b1 []),iD (.at_ b2 [])]=.ok (.rt (.bl iI),ρ');obtain ⟨n,C,n1,y⟩:=wl ns f (many:=17) (by omega) (by omega);obtain ⟨t',W',k',x,s,z,V,e1⟩:=Yl (b1:=b1) (b2:=b2) hC ns M t (JJ 0 n.toNat) (f++[.int 0]) [] iF iF iF iF iF (by rw [ap,qhW,aH,cQ]; simp; omega) (by rw [qhW,aH,cQ]; simp; omega);refine ⟨sK ns t' W' k' ws p q r l ca b1 b2 x s z V,?_⟩;unfold UZ;rw [qW (ρ1:=sK ns f [] iF ws p q r l ca b1 b2 iF iF iF iF) (by simp [o,wy]),qW (ρ1:=sK ns t' W' k' ws p q r l ca b1 b2 x s z V) ?g3]
  case g3=>
   rw [ZP,iR0 (k:=n) (ρ1:=sK ns (f++[.int 0]) [] iF ws p q r l ca b1 b2 iF iF iF iF) C (by omega) ?g4];·simp only [qE];exact e1
   ·simp only [sK,ka,qG,yG,qy,ae,af,qE,kY,qM,qH,bf,c8,y,kS,jK,aN,aO]
  ·have c2:=qhX (ca:=ca) (ws:=ws) (p:=p) (q:=q) (r:=r) (l:=l) (b:=b2) (A:=[]) (ρ:=sK ns t' W' k' ws p q r l ca b1 b2 x s z V) (i:=9) (g:=15) rfl rfl (by simp) (by simp);have w:eqD (cnt []) (.tup [.int 0,.int 0,.int 0])=.ok (.bl iI):=by kernel_rfl
   have I:=qhr (qbS (ws:=ws) (p:=p) (q:=q) (r:=r) (l:=l));rw [jw,qbg,jx,c2];simp only [qE,jG,qG,kY,qM,ac,am,Nat.reduceAdd,if_pos u,w,qY,ZN,if_true];rw [jx,qh0 (b:=b2) rfl];simp only [qE];rw [qh0 (b:=b1) rfl];simp only [qE,I,qY]
end
end Kx
namespace Kx
open PySem PySem.Spec PyProof.Rows L2 L2.D2
variable {us:List iG} {P:List iG->Prop}
theorem qh1 (hl:us.length=0) (h:P []):P us:=List.length_eq_zero_iff.mp hl ▸ h
theorem qgg {n:Nat} (hl:us.length=n+1):∃ a l,us=a::l/\l.length=n:=by
 cases us with
 | nil=>cases hl
 | cons a l=>exact ⟨a,l,rfl,Nat.succ.inj hl⟩
theorem qgh (hl:us.length=1) (h:∀ a,P [a]):P us:=by obtain ⟨a,l,rfl,e⟩:=qgg hl;exact qh1 (P:=λl=>P (a::l)) e (h a)
theorem qgB (hl:us.length=2) (h:∀ a b,P [a,b]):P us:=by obtain ⟨a,l,rfl,e⟩:=qgg hl;exact qgh (P:=λl=>P (a::l)) e (h a)
theorem qh2 (hl:us.length=3) (h:∀ a b c,P [a,b,c]):P us:=by obtain ⟨a,l,rfl,e⟩:=qgg hl;exact qgB (P:=λl=>P (a::l)) e (h a)
theorem qh3 (hl:us.length=4) (h:∀ a b c d,P [a,b,c,d]):P us:=by obtain ⟨a,l,rfl,e⟩:=qgg hl;exact qh2 (P:=λl=>P (a::l)) e (h a)
theorem qh4 (hl:us.length=5) (h:∀ a b c d e,P [a,b,c,d,e]):P us:=by obtain ⟨a,l,rfl,e⟩:=qgg hl;exact qh3 (P:=λl=>P (a::l)) e (h a)
variable {K:Frag} {h:Heap} {mg:Str->Option iG}
theorem qei (X:K.In h) (G:h.Ns mainGlobals mg) {x:Str} {st:Stmt} {ps:List Str} {f:Addr} {oc:iG} {od an:Option Addr} {osl:Array (Option iG)} {kV doc pm cdv ct:iG}
  (a:nsIn K mainGlobals x=iD (iD (.ref f))) (l:K.lookup f=iD ⟨oc,od,.func (bX x x (wF st) (jm st) (qd st) .none kV doc pm an cdv ct),osl⟩) (c:codeIn K cdv x=iI) (k:keepIn K (.ref f)=iI)
  (hb:∀ (kV doc pm:iG) (an:Option Addr) (cdv ct:iG) (us:List iG),us.length=ps.length->bindArgs (bX x x (wF st) (jm st) (qd st) .none kV doc pm an cdv ct) ⟨us,[]⟩=pure (ps.zip us)):jF K mg x st ps:=
 ⟨f,_,vE l c k,lq X G a,(vE l c k).binds hb⟩
variable {x:Str}
theorem qag {l:List Str} {f:Str->Addr} (nd:(l.map f).Nodup) {y:Str} (hx:x∈l) (k:y∈l) (e:f x=f y):x=y:=by obtain ⟨i,hi,rfl⟩:=fm.mp hx;obtain ⟨j,G,rfl⟩:=fm.mp k;have q:=(fO (h₀:=by simpa using hi) (h₁:=by simpa using G) nd).mp (show (l.map f)[i]'(by simpa using hi)=(l.map f)[j]'(by simpa using G) by simpa using e);subst q;rfl
noncomputable def caT (T:List (Str×Addr)) (x:Str):Addr:=(T.lookup x).getD 0
noncomputable def qbZ (K:Frag) (C:List Addr) (W:Addr):Bool:=decide C.Nodup&&C.all λc=>xcB K c&&decide (bP K (.ref c) (.ref W)=iD iI)&&decide (cj K (.ref c) (.type "ValueError")=iD iI)&&dU K c bmV "ValueError.__new__"&&C.all λd=>decide (cj K (.ref c) (.ref d)=iD (decide (c=d)))
theorem qb0 {C:List Addr} {W:Addr} (h:qbZ K C W=iI):C.Nodup/\∀ c∈C,xcB K c=iI/\bP K (.ref c) (.ref W)=iD iI/\cj K (.ref c) (.type "ValueError")=iD iI/\dU K c bmV "ValueError.__new__"=iI/\∀ d∈C,cj K (.ref c) (.ref d)=iD (decide (c=d)):=by unfold qbZ at h;rw [aZ,bh] at h;refine ⟨of_decide_eq_true h.1,λc a=>?_⟩;have q:=h.2 c a;simp only [aZ,decide_eq_true_eq,bh] at q;exact ⟨q.1.1.1.1,q.1.1.1.2,q.1.1.2,q.1.2,q.2⟩
theorem qgi {c:Str} (h:c∈CS):c = "NoWords"\/c = "NoLook"\/c = "NoNumbers"\/c = "NoRoom"\/c = "NoWord"\/c = "NoWorths"\/c = "Never"\/c = "Full"\/c = "Known"\/c = "NoPlace"\/c = "NoLetters"\/c = "NoText"\/c = "Nothing":=by simpa [CS] using h
theorem qhw (X:K.In h) (G:h.Ns mainGlobals mg) {CW B s r q p o j n m l k g b C:Addr}  {E t a M S:Tok}
    (aW:nsIn K mainGlobals "WordError"=iD (iD (.ref CW)))
    (a0:nsIn K mainGlobals "NoWords"=iD (iD (.ref s)))
    (a1:nsIn K mainGlobals "NoLook"=iD (iD (.ref r)))
    (a2:nsIn K mainGlobals "NoNumbers"=iD (iD (.ref q)))
    (a3:nsIn K mainGlobals "NoRoom"=iD (iD (.ref p)))
    (a4:nsIn K mainGlobals "NoWord"=iD (iD (.ref o)))
    (a5:nsIn K mainGlobals "NoWorths"=iD (iD (.ref j)))
    (a6:nsIn K mainGlobals "Never"=iD (iD (.ref n)))
    (a7:nsIn K mainGlobals "Full"=iD (iD (.ref m)))
    (a8:nsIn K mainGlobals "Known"=iD (iD (.ref l)))
    (a9:nsIn K mainGlobals "NoPlace"=iD (iD (.ref k)))
    (L:nsIn K mainGlobals "NoLetters"=iD (iD (.ref g)))
    (J:nsIn K mainGlobals "NoText"=iD (iD (.ref b)))
    (a12:nsIn K mainGlobals "Nothing"=iD (iD (.ref C)))
    (z_ValueError:nsIn K mainGlobals "ValueError"=iD iF)
    (z_all:nsIn K mainGlobals "all"=iD iF)
    (z_bool:nsIn K mainGlobals "bool"=iD iF)
    (z_dict:nsIn K mainGlobals "dict"=iD iF)
    (z_int:nsIn K mainGlobals "int"=iD iF)
    (z_isinstance:nsIn K mainGlobals "isinstance"=iD iF)
    (z_len:nsIn K mainGlobals "len"=iD iF)
    (z_list:nsIn K mainGlobals "list"=iD iF)
    (z_max:nsIn K mainGlobals "max"=iD iF)
    (z_min:nsIn K mainGlobals "min"=iD iF)
    (z_range:nsIn K mainGlobals "range"=iD iF)
    (z_set:nsIn K mainGlobals "set"=iD iF)
    (z_sorted:nsIn K mainGlobals "sorted"=iD iF)
    (z_str:nsIn K mainGlobals "str"=iD iF)
    (z_tuple:nsIn K mainGlobals "tuple"=iD iF)
    (z_zip:nsIn K mainGlobals "zip"=iD iF)
    (c_LEAST_PLACE:nsIn K mainGlobals "LEAST_PLACE"=iD (iD (.int (-3) E)))
    (c_MOST_LETTERS:nsIn K mainGlobals "MOST_LETTERS"=iD (iD (.int 6 t)))
    (c_MOST_PLACE:nsIn K mainGlobals "MOST_PLACE"=iD (iD (.int 2 a)))
    (c_MOST_ROOM:nsIn K mainGlobals "MOST_ROOM"=iD (iD (.int 99 M)))
    (c_MOST_WORDS:nsIn K mainGlobals "MOST_WORDS"=iD (iD (.int 6 S)))
    (ex:qbZ K [s,r,q,p,o,j,n,m,l,k,g,b,C] CW=iI)
    (aB:nsIn K mainGlobals "Book"=iD (iD (.ref B)))
    (b1:cZ K B Str.empty=iI)
    (b2:dt K B=iI)
    (b3:et K B=iI)
    (b4:aV K (.ref B) "__setattr__"=iD (iD (.builtin "object.__setattr__")))
    (n0:aV K (.ref B) "look"=iD iF)
    (n1:aV K (.ref B) "width"=iD iF)
    (n2:aV K (.ref B) "worths"=iD iF)
    (n3:aV K (.ref B) "standing"=iD iF)
    (F:aV K (.ref B) "asked"=iD iF)
    (D:bP K (.ref j) (.ref j)=iD iI)
     :
    Zt K mg (λx=>.ref (caT [("WordError",CW),("NoWords",s),("NoLook",r),("NoNumbers",q),("NoRoom",p),("NoWord",o),("NoWorths",j),("Never",n),("Full",m),("Known",l),("NoPlace",k),("NoLetters",g),("NoText",b),("Nothing",C),("Book",B)] x)) (caT [("WordError",CW),("NoWords",s),("NoLook",r),("NoNumbers",q),("NoRoom",p),("NoWord",o),("NoWorths",j),("Never",n),("Full",m),("Known",l),("NoPlace",k),("NoLetters",g),("NoText",b),("Nothing",C),("Book",B)])/\qak (caT [("WordError",CW),("NoWords",s),("NoLook",r),("NoNumbers",q),("NoRoom",p),("NoWord",o),("NoWorths",j),("Never",n),("Full",m),("Known",l),("NoPlace",k),("NoLetters",g),("NoText",b),("Nothing",C),("Book",B)])/\caT [("WordError",CW),("NoWords",s),("NoLook",r),("NoNumbers",q),("NoRoom",p),("NoWord",o),("NoWorths",j),("Never",n),("Full",m),("Known",l),("NoPlace",k),("NoLetters",g),("NoText",b),("Nothing",C),("Book",B)] "Book"=B:=by
  obtain ⟨nd,A⟩:=qb0 ex;generalize hT:([("WordError",CW),("NoWords",s),("NoLook",r),("NoNumbers",q),("NoRoom",p),("NoWord",o),("NoWorths",j),("Never",n),("Full",m),("Known",l),("NoPlace",k),("NoLetters",g),("NoText",b),("Nothing",C),("Book",B)]:List (Str×Addr))=T;have W:caT T "WordError"=CW:=by subst hT; kernel_rfl
  have eB:caT T "Book"=B:=by subst hT; kernel_rfl
  have Z:caT T "NoWords"=s:=by subst hT; kernel_rfl
  have e1:caT T "NoLook"=r:=by subst hT; kernel_rfl
  have Y:caT T "NoNumbers"=q:=by subst hT; kernel_rfl
  have V:caT T "NoRoom"=p:=by subst hT; kernel_rfl
  have U:caT T "NoWord"=o:=by subst hT; kernel_rfl
  have I:caT T "NoWorths"=j:=by subst hT; kernel_rfl
  have R:caT T "Never"=n:=by subst hT; kernel_rfl
  have Q:caT T "Full"=m:=by subst hT; kernel_rfl
  have P:caT T "Known"=l:=by subst hT; kernel_rfl
  have O:caT T "NoPlace"=k:=by subst hT; kernel_rfl
  have z:caT T "NoLetters"=g:=by subst hT; kernel_rfl
  have w:caT T "NoText"=b:=by subst hT; kernel_rfl
  have v:caT T "Nothing"=C:=by subst hT; kernel_rfl
  have N:CS.map (caT T)=[s,r,q,p,o,j,n,m,l,k,g,b,C]:=by unfold CS;simp only [ax,aP,Z,e1,Y,V,U,I,R,Q,P,O,z,w,v]
  have u:∀ c∈CS,caT T c∈[s,r,q,p,o,j,n,m,l,k,g,b,C]:=λc i=>N ▸ aF.mpr ⟨c,i,rfl⟩;refine ⟨⟨⟨λc i=>rfl,λc i=>?_,λc i=>(A _ (u c i)).1,λc i d hd=>(A _ (u c i)).2.2.2.2 _ (u d hd),λc i=>(A _ (u c i)).2.2.1⟩,λc i=>?_,λc i=>(A _ (u c i)).2.2.2.1,λx hx=>absurd hx (by simp [FS]),?_,iU X G z_ValueError,iU X G z_all,iU X G z_bool,iU X G z_dict,iU X G z_int,iU X G z_isinstance,iU X G z_len,iU X G z_list,iU X G z_max,iU X G z_min,iU X G z_range,iU X G z_set,iU X G z_sorted,iU X G z_str,iU X G z_tuple,iU X G z_zip,⟨_,lq X G c_LEAST_PLACE⟩,⟨_,lq X G c_MOST_LETTERS⟩,⟨_,lq X G c_MOST_PLACE⟩,⟨_,lq X G c_MOST_ROOM⟩,⟨_,lq X G c_MOST_WORDS⟩,?mB,?bC,?bN,?sX5⟩,?cO,eB⟩
  case mB=>rw [eB]; exact lq X G aB
  case bC=>rw [eB]; exact ⟨b1,b2,b3,b4⟩
  case bN=>
    rw [eB];intro f H;have H:f = "look"\/f = "width"\/f = "worths"\/f = "standing"\/f = "asked":=by simpa using H
    rcases H with rfl | rfl | rfl | rfl | rfl;· exact n0
    · exact n1
    · exact n2
    · exact n3
    · exact F
  case sX5=>rw [I]; exact D
  · show bP K (.ref (caT T c)) (.ref (caT T "WordError"))=iD iI;rw [W];exact (A _ (u c i)).2.1
  · rcases qgi i with rfl | rfl | rfl | rfl | rfl | rfl | rfl | rfl | rfl | rfl | rfl | rfl | rfl;· rw [Z]; exact lq X G a0
    · rw [e1]; exact lq X G a1
    · rw [Y]; exact lq X G a2
    · rw [V]; exact lq X G a3
    · rw [U]; exact lq X G a4
    · rw [I]; exact lq X G a5
    · rw [R]; exact lq X G a6
    · rw [Q]; exact lq X G a7
    · rw [P]; exact lq X G a8
    · rw [O]; exact lq X G a9
    · rw [z]; exact lq X G L
    · rw [w]; exact lq X G J
    · rw [v]; exact lq X G a12
  · show mg "WordError"=iD (.ref (caT T "WordError"));rw [W];exact lq X G aW
  case cO=>
    intro x hx y hy e;rw [<-N] at nd;exact qag nd hx hy e
structure Tx (K:Frag) (mg:Str->Option iG) (ca:Str->Addr):Prop where
 x_Book_counts:xT K (ca "Book") "counts" "Book.counts" qV ["self"]
 x_is_between:jF K mg "is_between" vU ["thing", "least", "most"]
 x_check_room:jF K mg "check_room" vW ["thing"]
 x_is_letter:jF K mg "is_letter" wN ["thing"]
 x_is_worth:jF K mg "is_worth" uH ["thing", "room"]
 x_is_worths:jF K mg "is_worths" jI ["thing", "room"]
 x_check_worths:jF K mg "check_worths" kU ["thing", "room"]
 x_is_word:jF K mg "is_word" wz ["thing"]
 x_is_words:jF K mg "is_words" vB ["thing"]
 x_check_words:jF K mg "check_words" vw ["thing"]
 x_is_look:jF K mg "is_look" wA ["thing"]
 x_check_look:jF K mg "check_look" vX ["thing"]
 x_letter_at:jF K mg "letter_at" wS ["word", "place"]
 x_pairs:jF K mg "pairs" xf ["words", "look"]
 x_letters_of:jF K mg "letters_of" jr ["seen"]
 x_within:jF K mg "within" zf ["total", "room"]
 x_numbered:jF K mg "numbered" kj ["words", "look", "room", "worths"]
 x_Book___init__:qdE K (ca "Book") "Book.__init__" jn ["self", "words", "look", "room", "worths"]
 x_Book_places:xT K (ca "Book") "places" "Book.places" jN ["self"]
 x_Lcell_at:jF K mg "_law_cell_at" uL ["_law_script", "_law_k"]
 x_Lmixed:jF K mg "_law_mixed" zh ["_law_script", "_law_k", "_law_many"]
 x_Ldraw:jF K mg "_law_draw" Jo ["_law_script", "_law_town", "_law_many"]
 x_Lpick:jF K mg "_law_pick" Jp ["_law_script", "_law_town", "_law_some"]
 x_Lat:jF K mg "_law_at" YY ["_law_word_here", "_law_place"]
 x_Lseen:jF K mg "_law_seen" xh ["_law_words_here", "_law_look_here"]
 x_Lby:jF K mg "_law_by" YZ ["_law_words_here", "_law_look_here", "_law_room", "_law_book"]
 x_Lword:jF K mg "_law_word" xi ["_law_script", "_law_town", "_law_letters_here", "_law_most"]
 x_Lwords:jF K mg "_law_words" zj ["_law_script", "_law_town", "_law_most"]
 x_Llook:jF K mg "_law_look" Jv ["_law_script", "_law_town"]
 x_Lletters:jF K mg "_law_letters" uM ["_law_words_here", "_law_look_here"]
 x_Lmade:jF K mg "_law_made" xm ["_law_script", "_law_town", "_law_most", "_law_wide"]
 x_Lgood:jF K mg "_law_good" Jw ["_law_script", "_law_town"]
 x_Book_undo:xT K (ca "Book") "undo" "Book.undo" kP ["self"]
 x_check_word:jF K mg "check_word" vZ ["thing"]
 x_Book_found_for:xT K (ca "Book") "found_for" "Book.found_for" jg ["self", "word"]
 x_Book_ask:xT K (ca "Book") "ask" "Book.ask" vC ["self", "word"]
 x_Lwhich:jF K mg "_law_which" zk ["_law_e"]
 x_Ldo:jF K mg "_law_do" qbF ["_law_book", "_law_word_here"]
 x_Ldue:jF K mg "_law_due" UX ["_law_names", "_law_look_here", "_law_room", "_law_line", "_law_word_here"]
variable {ca:Str->Addr}
theorem qgj {P:iL} {w:iM} {base:Heap} {cv:Str->iG} {f:Addr} {fd:i6} (Z:Zt K mg cv ca) (T:Tx K mg ca) (F:Fun K "law" "law" Jz f fd):FnOk P w K mg base (CXk P w) 10 f fd ["_law_script"] (spL K ca):=by have i:=gM (P:=P) (w:=w) (base:=base) Z T.x_Book_counts ;have o:=Je (P:=P) (w:=w) (base:=base) Z T.x_is_between ;have m:=Jg (P:=P) (w:=w) (base:=base) Z T.x_check_room o;have r:=KZ (P:=P) (w:=w) (base:=base) Z T.x_is_letter ;have v:=Wl (P:=P) (w:=w) (base:=base) Z T.x_is_worth o r;have q:=Va (P:=P) (w:=w) (base:=base) Z T.x_is_worths v;have s:=ge (P:=P) (w:=w) (base:=base) Z T.x_check_worths q;have e:=YV (P:=P) (w:=w) (base:=base) Z T.x_is_word r;have x:=Wn (P:=P) (w:=w) (base:=base) Z T.x_is_words e;have g:=gO (P:=P) (w:=w) (base:=base) Z T.x_check_words x;have B:=YX (P:=P) (w:=w) (base:=base) Z T.x_is_look o;have p:=Ji (P:=P) (w:=w) (base:=base) Z T.x_check_look B;have t:=Vb (P:=P) (w:=w) (base:=base) Z T.x_letter_at ;have H:=qbr (P:=P) (w:=w) (base:=base) Z T.x_pairs g p t;have j:=Jk (P:=P) (w:=w) (base:=base) Z T.x_letters_of ;have C:=Gm (P:=P) (w:=w) (base:=base) Z T.x_within ;have d:=Wr (P:=P) (w:=w) (base:=base) Z T.x_numbered m s H j C;have c:=xU (P:=P) (w:=w) (base:=base) Z T.x_Book___init__ d;have h:=gQ (P:=P) (w:=w) (base:=base) Z T.x_Book_places ;have z:=Wt (P:=P) (w:=w) (base:=base) Z T.x_Lcell_at ;have G:=Gn (P:=P) (w:=w) (base:=base) Z T.x_Lmixed z;have a:=qbt (P:=P) (w:=w) (base:=base) Z T.x_Ldraw G;have k:=qbv (P:=P) (w:=w) (base:=base) Z T.x_Lpick a;have R:=qfR (P:=P) (w:=w) (base:=base) Z T.x_Lat ;have n:=qbx (P:=P) (w:=w) (base:=base) Z T.x_Lseen R;have N:=qfT (P:=P) (w:=w) (base:=base) Z T.x_Lby n;have I:=qbA (P:=P) (w:=w) (base:=base) Z T.x_Lword a k;have D:=Gs (P:=P) (w:=w) (base:=base) Z T.x_Lwords a k I;have L:=qbC (P:=P) (w:=w) (base:=base) Z T.x_Llook a;have y:=WB (P:=P) (w:=w) (base:=base) Z T.x_Lletters n;have J:=qbD (P:=P) (w:=w) (base:=base) Z T.x_Lmade a k D L y;have M:=qbE (P:=P) (w:=w) (base:=base) Z T.x_Lgood N J;have u:=Vg (P:=P) (w:=w) (base:=base) Z T.x_Book_undo ;have l:=Jy (P:=P) (w:=w) (base:=base) Z T.x_check_word e;have b:=xo (P:=P) (w:=w) (base:=base) Z T.x_Book_found_for d;have A:=WH (P:=P) (w:=w) (base:=base) Z T.x_Book_ask l b;have E:=Gv (P:=P) (w:=w) (base:=base) Z T.x_Lwhich ;have Q:=qfV (P:=P) (w:=w) (base:=base) Z T.x_Ldo A u E;have O:=qdV (P:=P) (w:=w) (base:=base) Z T.x_Ldue n N;exact qfW Z F i h c a k M Q O
def qb1 (K:Frag):Sp:=λvs H Q _=>∃ (a:Addr) (ns:List Int),vs=[.ref a]/\SqL K H a (ns.map V.int)/\∀ H',Q (.bl iI) H'
theorem Ym {F:Hp}:∀ ns:List Int,IsL K F (ns.map V.int) (ns.map D.int)
 | []=>.nil
 | n::ns=>.cons (.int n) (Ym ns)
theorem qhx (h:qak ca) (vs:List V) (H:Hp) (Q:VK) (E:XK) (q:qb1 K vs H Q E):spL K ca vs H Q E:=by obtain ⟨a,ns,rfl,c,hq⟩:=q;obtain ⟨ρ1,n,j,e,m,l,b,h1,h2,i,f,d,M,L⟩:=qgf h ns;refine ⟨H,[scr ns],.ref a,rfl,rfl,Same.refl _,.cons (.lst c (Ym ns)) .nil,ρ1,n,j,e,m,l,b,.bl iI,h1,h2,i,f,d,⟨by omega,by omega,by omega,by omega⟩,L,λv F' H' is=>?_⟩;cases is;exact hq H'
abbrev NsX (K:Frag) (x:Str) (f:Addr):Prop:=nsIn K mainGlobals x=iD (iD (.ref f))
abbrev CdX (K:Frag) (v:iG) (x:Str):Prop:=codeIn K v x=iI
abbrev KpX (K:Frag) (f:Addr):Prop:=keepIn K (.ref f)=iI
abbrev LkX (K:Frag) (x:Str) (st:Stmt) (f:Addr) (oc:iG) (od an:Option Addr) (sl:Array (Option iG)) (kV d pm cd ct:iG):Prop:=K.lookup f=iD ⟨oc,od,.func (bX x x (wF st) (jm st) (qd st) .none kV d pm an cd ct),sl⟩
def Dx (K:Frag) (x:Str) (st:Stmt):Prop:=∃ (f:Addr) (oc:iG) (od an:Option Addr) (sl:Array (Option iG)) (kV d pm cd ct:iG),NsX K x f/\LkX K x st f oc od an sl kV d pm cd ct/\CdX K cd x/\KpX K f
theorem jT (X:K.In h) (G:h.Ns mainGlobals mg) {st:Stmt} {ps:List Str} (q:Dx K x st) (hb:∀ (kV doc pm:iG) (an:Option Addr) (cdv ct:iG) (us:List iG),us.length=ps.length->bindArgs (bX x x (wF st) (jm st) (qd st) .none kV doc pm an cdv ct) ⟨us,[]⟩=pure (ps.zip us):=by
  intro _ _ _ _ _ _ us hl;first | refine qh1 (P:=λus=>bindArgs _ ⟨us,[]⟩=pure (dh _ us)) hl ?_ | refine qgh (P:=λus=>bindArgs _ ⟨us,[]⟩=pure (dh _ us)) hl ?_ | refine qgB (P:=λus=>bindArgs _ ⟨us,[]⟩=pure (dh _ us)) hl ?_ | refine qh2 (P:=λus=>bindArgs _ ⟨us,[]⟩=pure (dh _ us)) hl ?_ | refine qh3 (P:=λus=>bindArgs _ ⟨us,[]⟩=pure (dh _ us)) hl ?_ | refine qh4 (P:=λus=>bindArgs _ ⟨us,[]⟩=pure (dh _ us)) hl ?_
  all_goals intros; rfl):jF K mg x st ps:=by
 obtain ⟨f,oc,od,an,sl,kV,d,pm,cd,ct,a,l,c,k⟩:=q;exact qei X G a l c k hb
abbrev LkM (K:Frag) (x q:Str) (st:Stmt) (f:Addr) (oc:iG) (od an:Option Addr) (sl:Array (Option iG)) (kV d pm cd ct:iG):Prop:=K.lookup f=iD ⟨oc,od,.func (bX x q (wF st) (jm st) (qd st) .none kV d pm an cd ct),sl⟩
theorem qgk {l:fW} {w:iM} {fa:Addr} (X:K.In h) (G:h.Ns mainGlobals mg) (hfa:mg "law"=iD (.ref fa)) {CW B C0 C1 C2 C3 C4 C5 C6 C7 C8 C9 O N L:Addr} {a t b M S:Tok} {f0 n m j i g:Addr} {v0 g0 h0 i0 j0 m0 v17 g17 h17 i17 j17 m17 v18 g18 h18 i18 j18 m18 v32 g32 h32 i32 j32 m32 v34 g34 h34 i34 j34 m34 v35 g35 h35 i35 j35 m35:iG} {o0 p0 o17 p17 o18 p18 o32 p32 o34 p34 o35 p35:Option Addr} {s0 s17 s18 s32 s34 s35:Array (Option iG)}
  (aW:nsIn K mainGlobals "WordError"=iD (iD (.ref CW)))
  (a0:nsIn K mainGlobals "NoWords"=iD (iD (.ref C0)))
  (a1:nsIn K mainGlobals "NoLook"=iD (iD (.ref C1)))
  (a2:nsIn K mainGlobals "NoNumbers"=iD (iD (.ref C2)))
  (a3:nsIn K mainGlobals "NoRoom"=iD (iD (.ref C3)))
  (a4:nsIn K mainGlobals "NoWord"=iD (iD (.ref C4)))
  (a5:nsIn K mainGlobals "NoWorths"=iD (iD (.ref C5)))
  (a6:nsIn K mainGlobals "Never"=iD (iD (.ref C6)))
  (a7:nsIn K mainGlobals "Full"=iD (iD (.ref C7)))
  (a8:nsIn K mainGlobals "Known"=iD (iD (.ref C8)))
  (a9:nsIn K mainGlobals "NoPlace"=iD (iD (.ref C9)))
  (a10:nsIn K mainGlobals "NoLetters"=iD (iD (.ref O)))
  (a11:nsIn K mainGlobals "NoText"=iD (iD (.ref N)))
  (a12:nsIn K mainGlobals "Nothing"=iD (iD (.ref L)))
  (z_ValueError:nsIn K mainGlobals "ValueError"=iD iF)
  (z_all:nsIn K mainGlobals "all"=iD iF)
  (z_bool:nsIn K mainGlobals "bool"=iD iF)
  (z_dict:nsIn K mainGlobals "dict"=iD iF)
  (z_int:nsIn K mainGlobals "int"=iD iF)
  (z_isinstance:nsIn K mainGlobals "isinstance"=iD iF)
  (z_len:nsIn K mainGlobals "len"=iD iF)
  (z_list:nsIn K mainGlobals "list"=iD iF)
  (z_max:nsIn K mainGlobals "max"=iD iF)
  (z_min:nsIn K mainGlobals "min"=iD iF)
  (z_range:nsIn K mainGlobals "range"=iD iF)
  (z_set:nsIn K mainGlobals "set"=iD iF)
  (z_sorted:nsIn K mainGlobals "sorted"=iD iF)
  (z_str:nsIn K mainGlobals "str"=iD iF)
  (z_tuple:nsIn K mainGlobals "tuple"=iD iF)
  (z_zip:nsIn K mainGlobals "zip"=iD iF)
  (c_LEAST_PLACE:nsIn K mainGlobals "LEAST_PLACE"=iD (iD (.int (-3) a)))
  (c_MOST_LETTERS:nsIn K mainGlobals "MOST_LETTERS"=iD (iD (.int 6 t)))
  (c_MOST_PLACE:nsIn K mainGlobals "MOST_PLACE"=iD (iD (.int 2 b)))
  (c_MOST_ROOM:nsIn K mainGlobals "MOST_ROOM"=iD (iD (.int 99 M)))
  (c_MOST_WORDS:nsIn K mainGlobals "MOST_WORDS"=iD (iD (.int 6 S)))
  (ex:qbZ K [C0,C1,C2,C3,C4,C5,C6,C7,C8,C9,O,N,L] CW=iI)
  (aB:nsIn K mainGlobals "Book"=iD (iD (.ref B)))
  (b1:cZ K B Str.empty=iI)
  (b2:dt K B=iI)
  (b3:et K B=iI)
  (b4:aV K (.ref B) "__setattr__"=iD (iD (.builtin "object.__setattr__")))
  (n0:aV K (.ref B) "look"=iD iF)
  (n1:aV K (.ref B) "width"=iD iF)
  (n2:aV K (.ref B) "worths"=iD iF)
  (n3:aV K (.ref B) "standing"=iD iF)
  (n4:aV K (.ref B) "asked"=iD iF)
  (sx5:bP K (.ref C5) (.ref C5)=iD iI)
  (b_0:aV K (.ref B) "counts"=iD (iD (.ref f0))) (l_0:LkM K "counts" "Book.counts" qV f0 v0 o0 p0 s0 g0 h0 i0 j0 m0) (d_0:codeIn K j0 "Book.counts"=iI) (J:keepIn K (.ref f0)=iI) (q_0:cP K (.ref f0)=iI)
  (q1:Dx K "is_between" vU)
  (q2:Dx K "check_room" vW)
  (q3:Dx K "is_letter" wN)
  (q4:Dx K "is_worth" uH)
  (q5:Dx K "is_worths" jI)
  (q6:Dx K "check_worths" kU)
  (q7:Dx K "is_word" wz)
  (q8:Dx K "is_words" vB)
  (q9:Dx K "check_words" vw)
  (q10:Dx K "is_look" wA)
  (q11:Dx K "check_look" vX)
  (q12:Dx K "letter_at" wS)
  (q13:Dx K "pairs" xf)
  (q14:Dx K "letters_of" jr)
  (q15:Dx K "within" zf)
  (q16:Dx K "numbered" kj)
  (b_17:aV K (.ref B) "__init__"=iD (iD (.ref n))) (x:LkM K "__init__" "Book.__init__" jn n v17 o17 p17 s17 g17 h17 i17 j17 m17) (I:codeIn K j17 "Book.__init__"=iI) (y:keepIn K (.ref n)=iI) (Y:cP K (.ref n)=iI) (y1:fV K B=iI) (y2:keepIn K (.ref B)=iI)
  (b_18:aV K (.ref B) "places"=iD (iD (.ref m))) (u:LkM K "places" "Book.places" jN m v18 o18 p18 s18 g18 h18 i18 j18 m18) (D:codeIn K j18 "Book.places"=iI) (f:keepIn K (.ref m)=iI) (W:cP K (.ref m)=iI)
  (q19:Dx K "_law_cell_at" uL)
  (q20:Dx K "_law_mixed" zh)
  (q21:Dx K "_law_draw" Jo)
  (q22:Dx K "_law_pick" Jp)
  (q23:Dx K "_law_at" YY)
  (q24:Dx K "_law_seen" xh)
  (q25:Dx K "_law_by" YZ)
  (q26:Dx K "_law_word" xi)
  (q27:Dx K "_law_words" zj)
  (q28:Dx K "_law_look" Jv)
  (q29:Dx K "_law_letters" uM)
  (q30:Dx K "_law_made" xm)
  (q31:Dx K "_law_good" Jw)
  (b_32:aV K (.ref B) "undo"=iD (iD (.ref j))) (r:LkM K "undo" "Book.undo" kP j v32 o32 p32 s32 g32 h32 i32 j32 m32) (C:codeIn K j32 "Book.undo"=iI) (d:keepIn K (.ref j)=iI) (V:cP K (.ref j)=iI)
  (q33:Dx K "check_word" vZ)
  (b_34:aV K (.ref B) "found_for"=iD (iD (.ref i))) (p:LkM K "found_for" "Book.found_for" jg i v34 o34 p34 s34 g34 h34 i34 j34 m34) (A:codeIn K j34 "Book.found_for"=iI) (c:keepIn K (.ref i)=iI) (U:cP K (.ref i)=iI)
  (b_35:aV K (.ref B) "ask"=iD (iD (.ref g))) (o:LkM K "ask" "Book.ask" vC g v35 o35 p35 s35 g35 h35 i35 j35 m35) (z:codeIn K j35 "Book.ask"=iI) (k:keepIn K (.ref g)=iI) (R:cP K (.ref g)=iI)
  (q36:Dx K "_law_which" zk)
  (q37:Dx K "_law_do" qbF)
  (q38:Dx K "_law_due" UX)
  (q39:Dx K "law" Jz) :
  ∃ fd:i6,(∀ (s:iJ) (v:iG),lJ s fd ⟨[v],[]⟩ [("_law_script",v)])/\∀ base:Heap,K.In base->base.Ns mainGlobals mg->FnOk l.prog w K mg base (CXk l.prog w) 10 fa fd ["_law_script"] (qb1 K):=by
 obtain ⟨f39,_,_,_,_,_,_,_,_,_,b_39,l_39,d_39,k_39⟩:=q39;have e:=hfa.symm.trans (lq X G b_39);cases e;obtain ⟨Z,cok,eB⟩:=qhw X G aW a0 a1 a2 a3 a4 a5 a6 a7 a8 a9 a10 a11 a12 z_ValueError z_all z_bool z_dict z_int z_isinstance z_len z_list z_max z_min z_range z_set z_sorted z_str z_tuple z_zip c_LEAST_PLACE c_MOST_LETTERS c_MOST_PLACE c_MOST_ROOM c_MOST_WORDS ex aB b1 b2 b3 b4 n0 n1 n2 n3 n4 sx5;have T:Tx K mg (caT [("WordError",CW),("NoWords",C0),("NoLook",C1),("NoNumbers",C2),("NoRoom",C3),("NoWord",C4),("NoWorths",C5),("Never",C6),("Full",C7),("Known",C8),("NoPlace",C9),("NoLetters",O),("NoText",N),("Nothing",L),("Book",B)]):=⟨by rw [eB]; exact ⟨f0,_,(vE (st:=qV) l_0 d_0 J),⟨b_0,q_0,J⟩,(vE (st:=qV) l_0 d_0 J).binds (λ_ _ _ _ _ _ us hl=>by revert hl; refine λhl=>qgh (P:=λus=>bindArgs _ ⟨us,[]⟩=pure (dh _ us)) hl ?_; intros; rfl)⟩,jT X G q1,jT X G q2,jT X G q3,jT X G q4,jT X G q5,jT X G q6,jT X G q7,jT X G q8,jT X G q9,jT X G q10,jT X G q11,jT X G q12,jT X G q13,jT X G q14,jT X G q15,jT X G q16,by rw [eB]; exact ⟨n,_,(vE (st:=jn) x I y),⟨y1,b_17,Y,y2⟩,(vE (st:=jn) x I y).binds (λ_ _ _ _ _ _ us hl=>by revert hl; refine λhl=>qh4 (P:=λus=>bindArgs _ ⟨us,[]⟩=pure (dh _ us)) hl ?_; intros; rfl)⟩,by rw [eB]; exact ⟨m,_,(vE (st:=jN) u D f),⟨b_18,W,f⟩,(vE (st:=jN) u D f).binds (λ_ _ _ _ _ _ us hl=>by revert hl; refine λhl=>qgh (P:=λus=>bindArgs _ ⟨us,[]⟩=pure (dh _ us)) hl ?_; intros; rfl)⟩,jT X G q19,jT X G q20,jT X G q21,jT X G q22,jT X G q23,jT X G q24,jT X G q25,jT X G q26,jT X G q27,jT X G q28,jT X G q29,jT X G q30,jT X G q31,by rw [eB]; exact ⟨j,_,(vE (st:=kP) r C d),⟨b_32,V,d⟩,(vE (st:=kP) r C d).binds (λ_ _ _ _ _ _ us hl=>by revert hl; refine λhl=>qgh (P:=λus=>bindArgs _ ⟨us,[]⟩=pure (dh _ us)) hl ?_; intros; rfl)⟩,jT X G q33,by rw [eB]; exact ⟨i,_,(vE (st:=jg) p A c),⟨b_34,U,c⟩,(vE (st:=jg) p A c).binds (λ_ _ _ _ _ _ us hl=>by revert hl; refine λhl=>qgB (P:=λus=>bindArgs _ ⟨us,[]⟩=pure (dh _ us)) hl ?_; intros; rfl)⟩,by rw [eB]; exact ⟨g,_,(vE (st:=vC) o z k),⟨b_35,R,k⟩,(vE (st:=vC) o z k).binds (λ_ _ _ _ _ _ us hl=>by revert hl; refine λhl=>qgB (P:=λus=>bindArgs _ ⟨us,[]⟩=pure (dh _ us)) hl ?_; intros; rfl)⟩,jT X G q36,jT X G q37,jT X G q38⟩
 have F:=vE (st:=Jz) l_39 d_39 k_39;exact ⟨_,λs v=>.of_eq rfl,λbase _ _=>(qgj (P:=l.prog) (w:=w) (base:=base) Z T F).imp λvs H Q E q=>qhx cok vs H Q E q⟩
theorem qiA {l:fW} {q:iL} {loose:List Str} {XP:(Str->Option iG)->Heap->Prop} {YP:iM->Heap->Prop} {d:DefRec} {K:lz->Frag} (b:l.most=iD 63) (hdf:d.params.defaults=[])
  (B:∀ (w:iM) (h:Heap),YP w h->(K w.params).In h)
  (F:∀ (w:iM) (mg:Str->Option iG) (fa:Addr) (h:Heap),(K w.params).In h->h.Ns mainGlobals mg->mg d.name=iD (.ref fa) ->∃ fd:i6,(∀ (s:iJ) (u:iG),lJ s fd ⟨[u],[]⟩ [("_law_script",u)])/\∀ base:Heap,(K w.params).In base->base.Ns mainGlobals mg->FnOk l.prog w (K w.params) mg base (CXk l.prog w) 10 fa fd ["_law_script"] (qb1 (K w.params))) :
  PySem.W.WalkO q loose XP YP l.row.toRowW d [] (λf vs=>iC f vs):=
 L2.qc3 (n:=63) (k:=10) (x := "_law_script") (CX:=λw=>CXk l.prog w) (sp:=λw=>qb1 (K w.params)) b (by decide) hdf ⟨rfl,by decide,by decide⟩ B F (λ_ _ a ns hl _ S=>⟨a,ns,rfl,S,λ_=>rfl⟩) λw H s e s' z=>by obtain ⟨ex,T,C,H',_,_,_,_,_,_,_,_,_,_,q⟩:=z;exact q.elim
end Kx
open PySem PySem.W PyProof.Rows
set_option maxRecDepth 100000 in
set_option maxHeartbeats 0 in
theorem PySem.Challenge.cw_lookwords_k23_whole_asked_books_holds : PySem.Challenge.rw_lookwords_k23_whole_asked_books.Holds := by
  refine Kx.hd ?_;k_fill
  refine Kx.qiA (l := PySem.Challenge.rw_lookwords_k23_whole_asked_books) rfl rfl (λw h Y => PySem.W.kIn_of Y) ?F
  case F =>
    intro w mg fa h X G g;refine' Kx.qgk X G g ?_ ?_ ?_ ?_ ?_ ?_ ?_ ?_ ?_ ?_ ?_ ?_ ?_ ?_ ?_ ?_ ?_ ?_ ?_ ?_ ?_ ?_ ?_ ?_ ?_ ?_ ?_ ?_ ?_ ?_ ?_ ?_ ?_ ?_ ?_ ?_ ?_ ?_ ?_ ?_ ?_ ?_ ?_ ?_ ?_ ?_ ?_ ?_ ?_ ?_ ?_ ?_ ?_ ?_ ?_ ?_ ?_ ?_ ?_ ?_ ?_ ?_ ?_ ?_ ?_ ?_ ?_ ?_ ?_ ?_ ?_ ?_ ?_ ?_ ?_ ?_ ?_ ?_ ?_ ?_ ?_ ?_ ?_ ?_ ?_ ?_ ?_ ?_ ?_ ?_ ?_ ?_ ?_ ?_ ?_ ?_ ?_ ?_ ?_ ?_ ?_ ?_ ?_ ?_ ?_ ?_ ?_ ?_ ?_ ?_ ?_ ?_ ?_;all_goals try first | k_is | exact ⟨_, _, _, _, _, _, _, _, _, _, by unfold Kx.NsX; k_is, by unfold Kx.LkX; k_is, by unfold Kx.CdX; k_is, by unfold Kx.KpX; k_is⟩ | (unfold Kx.LkM; k_is) | kernel_rfl
