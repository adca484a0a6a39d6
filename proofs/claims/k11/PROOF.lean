import PyProof.Rows.All
import KE.KTryMore
import KE.KDictOf
import KE.KItem
import KE.KRevSl
import KE.KRevIter
import KE.KDictList
import PySem.Challenge.RW_lookwords_k11_whole_places
open Option renaming some→ip,none→iq
open PySem renaming wpAny_bind→ir,Value→iu,Shared→iB,wpAny_pure→iC,Program→iE,World→iF,wpAny_newObj_type→iG,Around→iH,sizeLine_eq→iI,wpAny_holding→iJ,codeAny_builtin→iK,wpAny_call_entry→iM,SetTable→iN,wpAny_askSetting→iO,Keyword→iP,wpAny_setState_of→iQ,builtinLookup_eq_fast→iR,wpAny_truthy_bool→iS,wpAny_callSpecial?_slot→iT,wpAny_mono→iU,wpAny_Call_Name_kw→iV,OsState→iW,wpAny_passesOwn→iY,FuncData→iZ,plainId_quiet→i4,wpAny_setEntries_of→i5,NameKind→i6,wpAny_isInstance→i7,tupleKind_room_in1→i8,wpAny_typeOf→i9,typeLookup_type→j0,wpAny_attempt→j3,isSubtype_type→j4,wpAny_setField→j5,call_meets→j6,Scope→j7,codeAny_mono→j9,fits_of_scanBound→k6,wpAny_rule→k7,wpAny_execs_nil→k8,Params→la,IsPart→lb,wpAny_seqItems→lc,wpAny_fieldsOf→lf,concat_meets→lh,GenState→lj,DictEntry→ll,BindsTo→lm,Paired→lq,Result→lr,ItemsOf→lu
open Bool renaming false→iw,true→iA
open PySem.W renaming mg_none_of→iL,boot_heap→iX,mg_of→j8,boot_drawn→lg
open PyProof.Rows renaming AllBare→k9,StrsAre→li
open List renaming mem_cons_of_mem→aa,mem_cons→ac,mem_map→af,length_append→ah,mem_cons_self→ai,mem_append→aj,mem_singleton→ao,length_cons→ap,getElem?_set_ne→au,size_toArray→ax,length_map→ay,getElem?_eq_some_iff→aB,getElem?_eq_getElem→aC,map_cons→aE,getElem?_set_self→aF,getElem?_map→aG,range→aK,nodup_cons→aL,all_eq_true→aM,pairwise_cons→aP,mem_append_right→aQ,append_assoc→aS,Nodup→aU,map_map→aV,replicate→aX,mem_of_getElem?→aY,filterMap_cons→bb,length_nil→bf,append_nil→bi,mem_filter→br,getElem?_replicate→bt,not_mem_nil→bv,find?_cons_of_neg→bA,mem_range→bD,getElem?_append_right→bF,find?_cons_of_pos→bI,getElem?_eq_none_iff→bJ,mem_of_find?_eq_some→bM,map_congr_left→bP,nodup_append→bQ,exists_mem_of_length_pos→bR,mem_append_left→bW,getElem_mem→bY,findIdx?_eq_some_iff_getElem→bZ,map_nil→cg,length_range→ck,length_pos_of_mem→cm,length_pos_iff→cr,foldl_cons→cu,map_append→cw,nil_append→cx,getElem?_append_left→cy,getElem?_eq_none→cz,reverse_cons→cC,any_cons→cM,nodup_nil→cP,replicate_zero→c8,take_length→df,mem_filterMap→dh,length_set→dm,find?_cons→dn,length_replicate→dt,length_filter_le→dw,pairwise_flatMap→dB,flatMap_cons→dF,pairwise_map→dG,mem_reverse→dJ,drop_eq_getElem_cons→dL,filter_eq_self→dO,take_succ_cons→dP,find?_eq_none→dZ,pairwise_singleton→d8,getElem?_cons_succ→d9,getElem?_cons_zero→eh,ext_getElem?→eU,getElem?_toArray→eY,lookup_cons→eZ,mem_flatMap→fg,mem_iff_getElem→fk,of_mem_zip→fm,length_reverse→fq,length→fB,foldl_append→fG,all_cons→fL,getElem_inj→fO,length_take→fP,cons_append→fS,zipIdx_cons→fU,find?_some→fZ,zip→g6
open PySem.Heap renaming get?_push_of_some→ae,get?_push_size→aq,lt_size→aA,get?_update_self→bo,SameBut→bH,get?_update_other→cJ,size_push→cN,ExtBut→ic
open Or renaming inl→aw,inr→ci
open Nat renaming le_refl→aD,ne_of_lt→aH,lt_of_lt_of_le→aI,le_trans→bg,zero_le→bE,lt_irrefl→cK,ne_of_gt→cT,le_of_lt→dg,le_of_eq→ez,lt_trans→eJ,sub_self→fy,le_succ→fC,lt_succ_of_lt→fF,mod_lt→fW,succ_mul→fX,mul_assoc→hZ,min_self→ia,mul_comm→ib
open PySem.Builtin.Slice renaming sliceAdjust→aJ,slicePlaces→bx
open Bool renaming and_eq_true→aN,false_ne_true→bz
open Option renaming some→aO,map_eq_some_iff→bc,bind_eq_some_iff→cB,isSome_map→fE,getD_some→fQ
open PySem.PassesOwn renaming leaving→aR
open Int renaming emod_eq_of_lt→aZ,emod_lt_of_pos→bV,emod_nonneg→cI,eq_ofNat_of_zero_le→db,dvd_self_sub_emod→dA,dvd_sub→dI,dvd_of_emod_eq_zero→ei,emod_eq_zero_of_dvd→et,dvd_add→fH,mul_assoc→fN,one_mul→g5,mul_sub→ig
open PySem.Value renaming bool→ba,ref→cq,none→cV,isStrOf_shape→c6,builtin→dq,isStrOf→fJ,type→fV,int→g7,str→g8
open PySem.Str renaming ofString→be,length→h7
open Ne renaming symm→bh
open PySem.W renaming hideAll→bj,exmOne→bG,emptyDict→ce,fnOf→cf,kitOne→cj,instObj→cQ,kia_one→cR,hideAll_none→cS,hideAll_get→c7,excIn→dS,of_hideAll→dX,cellsFrom_some→eG,methodObj→fz,OpenLaw→fY,lookIn→g0
open PySem.Builtin.List renaming listExtendWith→bn,listSameRef→cY,listTooLong→dR
open Sum renaming inr→bp,inl→fh
open PySem renaming mem_of_lookup→bq,call→ij
open PySem.SetTable renaming below→bu,grown→c9,laid→hV
open PySem.Around renaming under_plainId→bw
open PySem.NameKind renaming free→bB
open PyProof.Rows renaming callWith_type1→bC,slot_tuple_getitem→cZ
open Classical renaming byContradiction→bK
open Array renaming getElem?_eq_getElem→bL,length_toList→bN,getElem?_toList→bS,getElem?_eq_none→dj,mk→f9
open PySem.Heap.SameBut renaming update→bO
open Eq renaming trans→bT
open PySem.F renaming called_set→bU,plainAttrs_list→bX,slot_list_index→cE,slot_tuple_getattribute→dN,args_tuple_add_2→dQ,slot_list_getattribute→dU,entry_tuple_add→d4,type_list_index→d6,slot_tuple_add→eI,slot_dict_get→eX
open False renaming elim→cA
open PySem.SeqAt renaming ne_of_list_tuple→cF,EqAt→im
open ForInStep renaming yield→cG
open PySem.Builtin.Frozenset renaming updateFrom→cH
open List.Perm renaming refl→cO
open List.Pairwise renaming imp→cU,nil→dD,imp_of_mem→dW,map→fI
open PySem.Obj renaming mapSeq→cW,putSet→h8
open PySem.Builtin.Tuple renaming tupleExact→cX
open PySem.Builtin.Str renaming strSliceIndices→dE
open True renaming intro→dH
open PySem.Calls renaming spliced_cons→dY,evalArgs_plain→fj,spliced_nil→fA
open PyProof.Rows.F renaming plain_set_update_loop→d7
open PySem.Paired renaming length→fK
open PySem.Shared renaming TypeIs→fM
open PySem.Txt renaming join→fR
open PySem.Expr renaming Constant→g9
open PySem.W.KF renaming type_class→hJ
open Prod renaming ext→ii
noncomputable section
open PySem.W (Frag nsIn keepIn codeIn mg_of mg_none_of)
set_option Elab.async false
set_option linter.all false
set_option maxRecDepth 100000
namespace Kx
noncomputable section
open PySem PySem.W PySem.Calls PyProof.Rows
noncomputable def zP:Pos:=⟨0,0,0,0⟩
noncomputable def anV:Option iu:=ip (.ref 6)
noncomputable def hA (P:la):List Obj:=(iX P).objs.toList++[⟨.type "tuple",iq,.seq #[] 0,#[]⟩,⟨.none,iq,.fields #[],#[]⟩,
 ⟨.type "code",iq,.fields #[.str "<module>" 182,.str "<module>" 183,.str "/claim/cut.py" 184,.int 1 0,.int 0 0,.int 0 0,.int 0 0,.int 0 0,.ref 11,.bool iw,.int 181 0,.ref 12,.none,.none,.none,.none,.int 185 0,.int 1 0,.str "/claim/cut.py" 186],#[]⟩,
 ⟨.type "frame",iq,.plain,#[ip (.ref 13),ip (.ref 3),ip (.ref 3),iq,ip (.str "__main__" 164),iq,ip (.ref 0)]⟩]
noncomputable def enP (p:iE):Env:={ scope:=p.main.scope,locals:=mainNs,globals:=mainNs,cells:=[],code:=.ref 13,frame:=ip 14 }
noncomputable def cdP (p:iE):Code:=.body (behindTheImports p) (enP p)
noncomputable def trA:List Obj->Nat->BT->BT
 | [],_,t=>t
 | o::l,i,t=>trA l (i+1) (t.ins i o)
noncomputable def SA (w:iF) (os:iW):SharedT:=⟨trA (hA w.params) 0 .nil,15,(iX w.params).life,f9 [],lg,187,os⟩
noncomputable def kH (P:la) (s:Str) (t:Nat) (v:iu):ll:=⟨PyData.keyHash P s,.str s t,v⟩
noncomputable def eM:iu:=.str "lookwords.errors" 187
noncomputable def eT (a:List iu):Obj:=⟨.type "tuple",iq,.seq ⟨a⟩ 0,#[]⟩
noncomputable def eF (c:iu) (a:List iu):Obj:=⟨c,iq,.fields ⟨a⟩,#[]⟩
noncomputable def eB:iu:=.type "builtin_function_or_method"
noncomputable def eD (a:List ll) (n:Nat):Obj:=⟨.type "dict",iq,.dict ⟨a⟩ n,#[]⟩
noncomputable def eA (P:la) (s:Str) (b:iu) (n t l:Nat):List Obj:=[eT [b],eF eB [.builtin "type.__prepare__",.type "type"],
 eD [kH P "__module__" (t+7) eM,kH P "__qualname__" (t+9) (.str s (t+8)),kH P "__firstlineno__" (t+11) (.int l (t+10)),kH P "__static_attributes__" (t+12) (.ref (n+7))] 4,
 eT [],eF .none [],eF (.type "code") [.str s (t+2),.str s (t+3),.str "/claim/cut.py" (t+4),.int l 0,.int 0 0,.int 0 0,.int 0 0,.int 0 0,.ref (n+3),.bool iw,.int 181 0,.ref (n+4),.none,.none,.none,.none,.int ((t+5:Nat):Int) 0,.int l 0,.str "/claim/cut.py" (t+6)],
 ⟨.type "frame",iq,.plain,#[ip (.ref (n+5)),ip (.ref 3),ip (.ref (n+2)),iq,ip eM,iq,ip (.ref 0)]⟩,eT []]
noncomputable def eC (s:Str) (b:iu) (n t:Nat) (m sub:List iu):Obj:=⟨.type "type",iq,.cls { name:=s,bases:=[b],mro:=.ref (n+9)::m,ns:=n+8,qualname:=s,subclasses:=sub },#[ip (.ref n),iq,ip (.str s t),ip (.str s (t+8)),ip (.builtin "ValueError.__new__"),ip (.bool iA)]⟩
noncomputable def eS (a:Nat):List Obj:=[eF (.type "super") [.ref a,.ref a,.ref a],eF eB [.builtin "object.__init_subclass__",.ref a]]
noncomputable def eK (P:la) (t l:Nat) (n:Nat):List ll:=[kH P "__module__" (t+7) eM,kH P "__firstlineno__" (t+11) (.int l (t+10)),kH P "__static_attributes__" (t+12) (.ref (n+7))]
noncomputable def eV:List iu:=[.type "ValueError",.type "Exception",.type "BaseException",.type "object"]
noncomputable def eL (P:la):List Str->Nat->Nat->Nat->List Obj
 | [],_,_,_=>[]
 | s::r,n,t,l=>eA P s (.ref 24) n t l++eD (eK P t l n++[kH P "__doc__" (t+13) .none]) 2::eC s (.ref 24) n t (.ref 24::eV) []::eS (n+9)++eL P r (n+12) (t+16) (l+2)
noncomputable def eE (P:la):List Str->Nat->Nat->List ll
 | [],_,_=>[]
 | s::r,n,t=>kH P s (t+15) (.ref (n+9))::eE P r (n+12) (t+16)
noncomputable def eR:Nat->Nat->List iu
 | 0,_=>[]
 | k+1,n=>.ref n::eR k (n+12)
noncomputable def eQ:Nat->Nat->Nat->List iu
 | 0,_,_=>[]
 | k+1,n,l=>.int l 0::.int 0 0::.ref n::eQ k (n+12) (l+2)
noncomputable def eO (P:la) (L:List Str):Obj:=match (boot_o_3 P).data with
 | .dict a _=>eD (kH P "__name__" 165 eM::a.toList.drop 1++kH P "WordError" 206 (.ref 24)::eE P L 28 207) (L.length+10)
 | _=>eT []
noncomputable def hC (P:la) (L:List Str):List Obj:=(hA P).take 3++eO P L::((hA P).drop 4).take 8++eF .none (.int 2 0::.int 0 0::.ref 20::eQ L.length 33 4)::(hA P).drop 13 ++
 eA P "WordError" (.type "ValueError") 15 189 2++eD (eK P 189 2 15++[kH P "__weakref__" 203 (.ref 25),kH P "__doc__" 204 .none]) 3::eC "WordError" (.type "ValueError") 15 189 eV (eR L.length 37) ::
 eF (.type "getset_descriptor") [.str "__weakref__" 202,.ref 24,.builtin "ExceptionGroup.__weakref__",.none]::eS 24++eL P L 28 207 4
noncomputable def SC (L:List Str) (w:iF) (os:iW):SharedT:=⟨trA (hC w.params L) 0 .nil,12 * L.length+28,(iX w.params).life,f9 [],lg,16 * L.length+207,os⟩
noncomputable def zC (L:List Str):Pos:=⟨2 * L.length+2,0,2 * L.length+3,8⟩
noncomputable def ZM (L:List Str) (p:iE) (w:iF) (M:Nat) (os:iW):Option (Flow×Code×iB):=
 (segRunT treeTable p w 11 anV 1 M (SC L w os) (piecesOf ((behindTheImports p).drop (L.length+2)) (enP p) (cdP p) (zC L) [topFrame zP])).bind λr=>
  (topRun treeTable p w 11 anV 5 r.2.1.abs (restOf [] (enP p) (cdP p) r.2.2.2 [topFrame zP])).map λs=>(r.1,r.2.2.1,s)
abbrev qdT (p:iE) (w:iF) (x:Flow×Code×iB):=
 (x.1,x.2.1,(staticsOk (importedModules p.main.body) (iX w.params) x.2.2.heap&&namesBound p x.2.2.heap&&gensDone x.2.2&&laidKept (iX w.params) x.2.2.heap))
abbrev Vd (p q:iE) (loose:List Str) (Xt:iB->Bool) (x:Flow×Code×iB):=openSeen q loose (importedModules p.main.body) Xt iA x.2.2
theorem left_T {L:List Str} {p q:iE} {loose:List Str} {Xt:iB->Bool} {α:Type} {Yf:iB->α} {Ya:iF->α} {N M:Nat}
  (e:opening p=plainProg p.main.scope.names) (hN:Nat.ble 600 N=iA) (f:∀ s,fenceModules? p s=ip s)
  (size:∀ w:iF,((iX w.params).isNs mainGlobals&&(f9 []:Array lj).size == 0,(iX w.params).objs.size,(iX w.params).nsMap mainGlobals "__annotations__")=(iA,11,anV))
  (pre:∀ (w:iF) (os:iW),topGo treeTable p w 11 anV 12 ⟨iX w.params,f9 [],lg,boot_toks,os⟩ (topStub p)=ip ((SA w os).abs,⟨denote treeTable (cdP p),cdP p,zP,[topFrame zP]⟩))
  (blk:∀ (w:iF) (os:iW),segRun treeTable p w 11 anV 1 1 (SA w os).abs (blockOf (behindTheImports p) (enP p) (cdP p) zP [topFrame zP])=ip (.next,(SA w os).abs,cdP p,zP))
  (le:Nat.ble (12+(1+(3500+(M+5)))) N=iA)
  (m6:∀ (w:iF) (os:iW),segRunT treeTable p w 11 anV 1 3500 (SA w os) (piecesOf ((behindTheImports p).take (L.length+2)) (enP p) (cdP p) zP [topFrame zP])=ip (.next,SC L w os,cdP p,zC L))
  (m0:∀ (w:iF) (os:iW),(ZM L p w M os).map (qdT p w)=ip (.next,cdP p,iA))
  (m1:∀ (w:iF) (os:iW),(ZM L p w M os).map (λx=>(Vd p q loose Xt x).1)=ip (openGood q loose).1)
  (m3:∀ (w:iF) (os:iW),(ZM L p w M os).map (λx=>(Vd p q loose Xt x).2.1)=ip (openGood q loose).2.1)
  (m4:∀ (w:iF) (os:iW),(ZM L p w M os).map (λx=>(Vd p q loose Xt x).2.2.1)=ip (openGood q loose).2.2.1)
  (m5:∀ (w:iF) (os:iW),(ZM L p w M os).map (λx=>(Vd p q loose Xt x).2.2.2)=ip (openGood q loose).2.2.2)
  (m2:∀ (w:iF) (os:iW),(ZM L p w M os).map (λx=>Yf x.2.2)=ip (Ya w)):LeftO p q loose Xt Yf Ya N:=λw=>by
 obtain ⟨⟨h,gs,d,k,os⟩,a,a'⟩:=bc.mp (boot_open e hN f w)
 obtain ⟨rfl,rfl,rfl,rfl⟩:h=iX w.params/\gs=f9 []/\d=lg/\k=boot_toks:=by simpa using a'
 obtain ⟨x,hx,hl⟩:=bc.mp (m0 w os)
 have l2:openSeen q loose (importedModules p.main.body) Xt iA x.2.2=openGood q loose:=by
  have a1:=m1 w os
  have a3:=m3 w os
  have a4:=m4 w os
  have a5:=m5 w os
  rw [hx] at a1 a3 a4 a5
  exact ii (aO.inj a1) (ii (aO.inj a3) (ii (aO.inj a4) (aO.inj a5)))
 obtain ⟨y,hy,hY⟩:=bc.mp (m2 w os)
 obtain rfl:y=x:=aO.inj (hy.symm.trans hx)
 obtain ⟨r,hr,hz⟩:=cB.mp hx
 obtain ⟨s,hs,rfl⟩:=bc.mp hz
 obtain ⟨fl,st,co,po⟩:=r
 unfold qdT at hl
 simp only [Prod.mk.injEq] at hl
 obtain ⟨rfl,rfl,l1⟩:=hl
 have t1:=piece_app (rest:=[]) (segRun_of hr) hs
 rw [bi] at t1
 have t1:=piece_app (segRun_of (m6 w os)) t1
 rw [List.take_append_drop] at t1
 have t2:=piece_block (blk w os) t1
 have t3:=topRun_mono (N - (12+(1+(3500+(M+5))))) _ _ _ _ (go_top (pre w os) t2)
 rw [show 12+(1+(3500+(M+5)))+(N - (12+(1+(3500+(M+5)))))=N by have:=Nat.le_of_ble_eq_true le; omega] at t3
 obtain ⟨z1,z2,z3⟩:_/\_/\_:=by simpa only [Prod.mk.injEq] using size w
 have t:topFrom treeTable p w N ⟨iX w.params,f9 [],lg,boot_toks,os⟩=ip s:=by
  unfold topFrom
  dsimp only
  rw [z1,z2,z3,t3]
  show (match staticsOk (importedModules p.main.body) (iX w.params) s.heap&&namesBound p s.heap&&gensDone s&&laidKept (iX w.params) s.heap with | true=>_ | false=>_)=_
  rw [l1]
 unfold openEnds
 rw [a]
 show (topFrom treeTable p w N _).map _=_
 rw [t]
 exact congrArg ip (ii l2 hY)
end
end Kx
noncomputable section
open PySem PySem.W PyProof.Rows
noncomputable def Kx.vq:iE:=view PySem.Challenge.pw_lookwords_k11_whole_places [1,2,3,4,5,6,7,8,9,10,11,12,13,14,16,17,18,19,20,21,22,23,24,25,26,27,28,29,30,31,32,33,35,36,37,38,39,41,42,43,44,45,46,47,48,49,50,51,52,53,54,55,56,58,59,60,61,63,64,65,66,67,68,69,70,71,72,73,74,75,76,77,78]
noncomputable def Kx.eN:List Str:=["NoWords", "NoLook", "NoNumbers", "NoRoom", "NoWord", "NoWorths", "Never", "Full", "Known", "NoPlace", "NoLetters", "NoText", "Nothing"]
noncomputable def Kx.xt (s:iB):Bool:=xlAt Kx.vq [] s&&recOk (RowW.records (OpenRow.toRowW (OpenLaw.row PySem.Challenge.rw_lookwords_k11_whole_places))) s
theorem Kx.m6:∀ (w:iF) (os:iW),segRunT treeTable PySem.Challenge.pw_lookwords_k11_whole_places w 11 Kx.anV 1 3500 (Kx.SA w os) (piecesOf ((behindTheImports PySem.Challenge.pw_lookwords_k11_whole_places).take (Kx.eN.length+2)) (Kx.enP PySem.Challenge.pw_lookwords_k11_whole_places) (Kx.cdP PySem.Challenge.pw_lookwords_k11_whole_places) Kx.zP [topFrame Kx.zP])=ip (.next,Kx.SC Kx.eN w os,Kx.cdP PySem.Challenge.pw_lookwords_k11_whole_places,Kx.zC Kx.eN):=by intro w os; kernel_rfl
theorem Kx.m0:∀ (w:iF) (os:iW),(Kx.ZM Kx.eN PySem.Challenge.pw_lookwords_k11_whole_places w 15000 os).map (Kx.qdT PySem.Challenge.pw_lookwords_k11_whole_places w)=ip (.next,Kx.cdP PySem.Challenge.pw_lookwords_k11_whole_places,iA):=by intro w os; kernel_rfl
theorem Kx.m1:∀ (w:iF) (os:iW),(Kx.ZM Kx.eN PySem.Challenge.pw_lookwords_k11_whole_places w 15000 os).map (λx=>(Kx.Vd PySem.Challenge.pw_lookwords_k11_whole_places Kx.vq [] Kx.xt x).1)=ip (openGood Kx.vq []).1:=by intro w os; kernel_rfl
theorem Kx.m3:∀ (w:iF) (os:iW),(Kx.ZM Kx.eN PySem.Challenge.pw_lookwords_k11_whole_places w 15000 os).map (λx=>(Kx.Vd PySem.Challenge.pw_lookwords_k11_whole_places Kx.vq [] Kx.xt x).2.1)=ip (openGood Kx.vq []).2.1:=by intro w os; kernel_rfl
theorem Kx.m4:∀ (w:iF) (os:iW),(Kx.ZM Kx.eN PySem.Challenge.pw_lookwords_k11_whole_places w 15000 os).map (λx=>(Kx.Vd PySem.Challenge.pw_lookwords_k11_whole_places Kx.vq [] Kx.xt x).2.2.1)=ip (openGood Kx.vq []).2.2.1:=by intro w os; kernel_rfl
theorem Kx.m5:∀ (w:iF) (os:iW),(Kx.ZM Kx.eN PySem.Challenge.pw_lookwords_k11_whole_places w 15000 os).map (λx=>(Kx.Vd PySem.Challenge.pw_lookwords_k11_whole_places Kx.vq [] Kx.xt x).2.2.2)=ip (openGood Kx.vq []).2.2.2:=by intro w os; kernel_rfl
local macro_rules | `(tactic| o_head $H) => `(tactic| (refine holds_open (q := Kx.vq) (loose := []) (Xt := Kx.xt) (XP := XL Kx.vq []) (Yf := Hook.obs $H) (Ya := Hook.val $H) (YP := Hook.says $H) (N := 20000) ?hl (Hook.of $H) (Hook.keeps $H) (fun s e => xl_of s (Bool.and_eq_true_iff.mp e).1) XL.keeps (by rfl) (by rfl) (by rfl) (fun s e => recFacts_of (Bool.and_eq_true_iff.mp e).2) (by rfl) (by first | assumption | decide +kernel) (by decide +kernel) ⟨rfl, rfl, rfl, rfl, rfl, by decide +kernel⟩ ?hw ?hc; (case hl => refine Kx.left_T (p := PySem.Challenge.pw_lookwords_k11_whole_places) (M := 15000) ?e rfl ?f ?s ?p ?b rfl Kx.m6 Kx.m0 Kx.m1 Kx.m3 Kx.m4 Kx.m5 ?m; (case e => kernel_rfl); (case f => intro s; kernel_rfl); (case s => intro w; kernel_rfl); (case p => intro w os; kernel_rfl); (case b => intro w os; kernel_rfl); (case m => intro w os; kernel_rfl))))
set_option maxHeartbeats 0 in
open_top Kx.hd for PySem.Challenge.rw_lookwords_k11_whole_places
end
namespace L2
open PySem PySem.Spec PyProof.Rows
abbrev Key:=Sum Int Str
noncomputable def gF:Key->iu->Bool
 | .inl k,v=>Value.isInt k v
 | .inr x,v=>fJ x v
noncomputable def qjD (w:iF):Key->Int
 | .inl k=>hashInt k
 | .inr x=>hashStr w x
theorem ju:∀ {k:Key} {v:iu},gF k v=iA->(∃ i t,k=fh i/\v=g7 i t)\/(∃ x t,k=bp x/\v=g8 x t)
 | .inl i,v,h=>by obtain ⟨t,e⟩:=Value.isInt_shape (k:=i) (v:=v) h;exact .inl ⟨i,t,rfl,e⟩
 | .inr x,v,h=>by obtain ⟨t,e⟩:=c6 (x:=x) (v:=v) h;exact .inr ⟨x,t,rfl,e⟩
theorem Ve (i:Int) (t:Tok):gF (.inl i) (.int i t)=true:=by simp [gF,Value.isInt]
theorem Vf (x:Str) (t:Tok):gF (.inr x) (.str x t)=true:=by simp [gF,fJ]
theorem qfJ (a b:Int):decide ((fh a:Key)=fh b)=(a == b):=by
 by_cases e:a=b;·subst e; simp
 ·have h:¬(fh a:Key)=fh b:=λq=>e (fh.inj q);rw [decide_eq_false h];exact (beq_eq_false_iff_ne.mpr e).symm
theorem qfK (a b:Str):decide ((bp a:Key)=bp b)=decide (a=b):=by
 by_cases e:a=b;·subst e; simp
 ·have h:¬(bp a:Key)=bp b:=λq=>e (bp.inj q);rw [decide_eq_false h,decide_eq_false e]
theorem qfL (a:Int) (b:Str):decide ((fh a:Key)=bp b)=false:=decide_eq_false (λq=>nomatch q)
theorem qfM (a:Str) (b:Int):decide ((bp a:Key)=fh b)=false:=decide_eq_false (λq=>nomatch q)
noncomputable def jj (prog:iE) (w:iF):PySem.KeyKind prog w Key where
 is:=gF
 hash:=qjD w
 inj:=λv a b g d=>by
  rcases ju g with ⟨i,t,rfl,rfl⟩ | ⟨x,t,rfl,rfl⟩
  ·rcases ju d with ⟨j,u,rfl,e⟩ | ⟨y,u,rfl,e⟩
   ·injection e with e1 _; rw [e1]
   ·exact nomatch e
  ·rcases ju d with ⟨j,u,rfl,e⟩ | ⟨y,u,rfl,e⟩
   ·exact nomatch e
   ·injection e with e1 _; rw [e1]
 byValue:=λk v h=>by rcases ju h with ⟨i,t,rfl,rfl⟩ | ⟨x,t,rfl,rfl⟩ <;> rfl
 pyHash:=λc h=>by
  rcases ju c with ⟨i,t,rfl,rfl⟩ | ⟨x,t,rfl,rfl⟩
  ·exact wpAny_pyHash_int h
  ·exact wpAny_pyHash_str h
 eqBool:=λf c h=>by
  rcases ju f with ⟨i,t,rfl,rfl⟩ | ⟨x,t,rfl,rfl⟩
  ·rcases ju c with ⟨j,u,rfl,rfl⟩ | ⟨y,u,rfl,rfl⟩
   ·rw [qfJ] at h; exact wpAny_eqBool_int h
   ·rw [qfL] at h; exact SeqAt.EqAt.int_str i t y u _ _ _ _ h
  ·rcases ju c with ⟨j,u,rfl,rfl⟩ | ⟨y,u,rfl,rfl⟩
   ·rw [qfM] at h; exact SeqAt.EqAt.str_int x t j u _ _ _ _ h
   ·rw [qfK] at h; exact wpAny_eqBool_str h
 «strs»:=λk x t v h=>by
  rcases ju h with ⟨i,u,rfl,e⟩ | ⟨y,u,rfl,e⟩
  ·exact nomatch e
  ·injection e with e1 _;subst e1;cases v <;> rfl
theorem WE (prog:iE) (w:iF) (i:Int) (t:Tok):(jj prog w).is (.inl i) (.int i t)=true:=Ve i t
theorem WF (prog:iE) (w:iF) (x:Str) (t:Tok):(jj prog w).is (.inr x) (.str x t)=true:=Vf x t
inductive V where
 | non | bl (b:Bool) | int (i:Int) | str (x:Str) | byt (b:Array UInt8) | flt (b:UInt64) | ref (a:Addr) | ty (n:String)
 deriving DecidableEq
def RelV:V->iu->Prop
 | .non,u=>u=cV
 | .bl b,u=>u=ba b
 | .int i,u=>∃ t,u=g7 i t
 | .str x,u=>∃ t,u=g8 x t
 | .byt b,u=>∃ t,u=Value.bytes b t
 | .flt b,u=>∃ t,u=Value.float b t
 | .ref a,u=>u=cq a
 | .ty n,u=>u=fV n
abbrev Vals:List V->List iu->Prop:=lq RelV
variable {xs:List V} {us:List iu}
theorem Vals.length (r:Vals xs us):xs.length=us.length:=fK r
theorem Vals.get:∀ {xs:List V} {us:List iu} {i:Nat} {x:V},Vals xs us->xs[i]?=ip x->∃ u,us[i]?=ip u/\RelV x u
 | _,_,_,_,.nil,e=>by simp at e
 | _,_,0,_,.cons r _,e=>by simp at e; subst e; exact ⟨_,rfl,r⟩
 | _,_,i+1,x,.cons _ t,e=>by obtain ⟨u,h1,h2⟩:=Vals.get (i:=i) (x:=x) t (by simpa using e);exact ⟨u,by simpa using h1,h2⟩
variable {u:iu}
theorem Vals.set {x:V} (r:RelV x u):∀ {xs:List V} {us:List iu} (i:Nat),Vals xs us->Vals (xs.set i x) (us.set i u)
 | _,_,_,.nil=>.nil
 | _,_,0,.cons _ t=>.cons r t
 | _,_,i+1,.cons q t=>.cons q (Vals.set r i t)
theorem Vals.append:∀ {xs ys:List V} {us ws:List iu},Vals xs us->Vals ys ws->Vals (xs++ys) (us++ws)
 | _,_,_,_,.nil,s=>s
 | _,_,_,_,.cons r t,s=>.cons r (Vals.append t s)
theorem Vals.take:∀ {xs:List V} {us:List iu} (n:Nat),Vals xs us->Vals (xs.take n) (us.take n)
 | _,_,0,_=>.nil
 | _,_,_+1,.nil=>.nil
 | _,_,n+1,.cons r t=>.cons r (Vals.take n t)
theorem Vals.none_of:∀ {xs:List V} {us:List iu} {i:Nat},Vals xs us->xs[i]?=iq->us[i]?=none:=λ{xs us i} r e=>by have h1:=r.length;have h2:xs.length<=i:=bJ.mp e;exact bJ.mpr (by omega)
def RelO:Option V->Option iu->Prop
 | some v,ip u=>RelV v u
 | none,iq=>True
 | _,_=>False
def KV {κ:Type}:List (κ×V)->List (κ×iu)->Prop:=lq λ(p:κ×V) (q:κ×iu)=>p.1=q.1/\RelV p.2 q.2
noncomputable def kV:Key->V
 | .inl i=>.int i
 | .inr x=>.str x
inductive HO where
 /-- a list -/
 | lst (xs:List V)
 /-- a tuple (never changes) -/
 | tup (xs:List V)
 /-- a dict whose keys are ints and texts; one whose keys are tuples of ints and texts (the empty one is both) -/
 | dK (kvs:List (Key×V)) | dT (kvs:List (List Key×V))
 /-- a set of ints: its members,its size -/
 | set (S:Int->Bool) (n:Nat)
 /-- an instance of the class at C,its dict at dx,its attributes -/
 | ins (C dx:Addr) (fs:List (Str×V))
 /-- the dict of the instance at x -/
 | own (x:Addr)
 /-- the dict of an exception -/
 | xd (fs:List (Str×V))
 /-- a bound method,f of x -/
 | met (f x:Addr)
 /-- a range object lo,lo+1,.. below hi -/
 | rng (lo hi:Int)
 /-- a thing that is known to the object (the script; a dict while a loop walks it): read,never written while it is so -/
 | frz (o:Obj) (u:HO)
 /-- a code object's table -/
 | tbl (ps:Array iu)
 /-- any other thing,by what is iA of its one object (a def of one's own: SetO a S n:=HO.ext λh=>..) -/
 | ext (φ:Heap->Prop)
abbrev Hp:=Addr->Option HO
noncomputable def upd (H:Hp) (a:Addr) (o:HO):Hp:=λb=>if b=a then ip o else H b
variable {H:Hp} {a:Addr} {o:HO}
theorem qu:upd H a o a=ip o:=by unfold upd; rw [if_pos rfl]
variable {b:Addr}
theorem qF (h:b≠a):upd H a o b=H b:=by unfold upd; rw [if_neg h]
theorem qh2 {u:HO} (h:H a=ip o) (h':H b=ip u) (d:o≠u):a≠b:=by intro e; subst e; rw [h] at h'; exact d (aO.inj h')
theorem qM (h:H a=ip o) (h':H b=iq):a≠b:=by intro e; subst e; rw [h] at h'; cases h'
section
variable (P:iE) (w:iF)
def ObjOk (H:Hp) (h:Heap) (a:Addr):HO->Prop
 | .lst xs=>xs.length<=sizeLine/\∃ (its:List iu) (n:Nat),Vals xs its/\h.get? a=ip { cls:=.type "list",data:=.seq its.toArray n }
 | .tup xs=>(xs.length<=sizeLine/\∃ o,h.get? a=ip o/\o.dict=iq)/\∃ its:List iu,Vals xs its/\IsTup h a its.toArray
 | .dK kvs=>kvs.length<=sizeLine/\(a == sysModules)=iw/\∃ vs,KV kvs vs/\h.DictOf (jj P w) a vs
 | .dT kvs=>kvs.length<=sizeLine/\(a == sysModules)=iw/\∃ xs:List (List Key×Addr×iu),lq (λ(p:List Key×V) (q:List Key×Addr×iu)=>p.1=q.1/\H q.2.1=ip (.tup (p.1.map kV))/\RelV p.2 q.2.2) kvs xs /\
   ∃ o es ep,h.get? a=ip o/\o.ExactDict/\o.data=.dict es ep/\es.toList=xs.map (entryOfKey (tupleKind (jj P w)))/\(xs.map (·.1)).Nodup
 | .set S n=>h.SetOf (intKind P w) a S n
 | .ins C dx fs=>H dx=ip (.own a)/\fs.length<=1000/\dx≠a/\h.get? a=ip (cQ C dx) /\
   ∃ mA,h.Ns1 dx mA/\(∀ f,RelO (fs.lookup f) (mA f))/\PySem.Within mA (fs.map (·.1))
 | .own _=>∃ o,h.get? a=ip o
 | .xd fs=>∃ mA,h.Ns1 a mA/\∀ f,RelO (fs.lookup f) (mA f)
 | .rng lo hi=>∃ t u v,h.get? a=ip { cls:=.type "range",data:=.fields #[.int lo t,.int hi u,.int 1 v] }
 | .frz o u=>h.get? a=ip o/\ObjOk H h a u
 | .tbl ps=>h.get? a=ip { cls:=.none,data:=.fields ps }
 | .met f x=>h.get? a=ip (fz (.ref f) (.ref x))
 | .ext φ=>φ h/\(∃ o,h.get? a=ip o)/\∀ h1 h2:Heap,φ h1->(∀ o,h1.get? a=ip o->h2.get? a=ip o)->φ h2
def HOk (H:Hp) (h:Heap):Prop:=∀ a o,H a=ip o->ObjOk P w H h a o
end
variable {P:iE} {w:iF} {H':Hp} {h h':Heap} {α:Type}
section
theorem ObjOk.lt (x:ObjOk P w H h a o):a < h.objs.size:=by
 cases o with
 | lst xs=>obtain ⟨_,_,_,_,e⟩:=x; exact aA e
 | tup xs=>obtain ⟨_,_,_,p⟩:=x; exact p.lt
 | dK kvs=>obtain ⟨_,_,_,_,o,_,_,e,_⟩:=x; exact aA e
 | dT kvs=>obtain ⟨_,_,_,_,o,_,_,e,_⟩:=x; exact aA e
 | set S n=>obtain ⟨o,_,_,_,e,_⟩:=x; exact aA e
 | ins C dx fs=>obtain ⟨_,_,_,e,_⟩:=x; exact aA e
 | own y=>obtain ⟨_,e⟩:=x; exact aA e
 | xd fs=>obtain ⟨_,⟨_,_,_,e,_⟩,_⟩:=x; exact aA e
 | rng lo hi=>obtain ⟨_,_,_,e⟩:=x; exact aA e
 | frz b u=>obtain ⟨e,_⟩:=x; exact aA e
 | tbl ps=>exact aA (show h.get? a=ip _ from x)
 | met f y=>exact aA (show h.get? a=ip _ from x)
 | ext φ=>obtain ⟨_,⟨_,e⟩,_⟩:=x; exact aA e
theorem Paired.mapP {β:Type} {F G:α->β->Prop}:∀ {c:List α} {l:List β},lq F c l->(∀ a b,F a b->G a b)->lq G c l
 | _,_,.nil,_=>.nil
 | _,_,.cons r t,f=>.cons (f _ _ r) (Paired.mapP t f)
theorem ObjOk.stay (x:ObjOk P w H h a o) (k:∀ b u,(b=a\/H b=ip (.own a))->h.get? b=ip u->h'.get? b=ip u)
  (m:∀ b,H b=ip (.own a)->H' b=ip (.own a)) (l:∀ b xs,H b=ip (.tup xs)->H' b=ip (.tup xs)):ObjOk P w H' h' a o:=by
 induction o with
 | lst xs=>obtain ⟨z,its,n,r,e⟩:=x; exact ⟨z,its,n,r,k _ _ (.inl rfl) e⟩
 | tup xs=>obtain ⟨⟨z,o2,i,d2⟩,its,r,g,e,c⟩:=x; exact ⟨⟨z,o2,k _ _ (.inl rfl) i,d2⟩,its,r,g,k _ _ (.inl rfl) e,c⟩
 | dK kvs=>obtain ⟨z,y,vs,r,g,es,ep,e,c⟩:=x; exact ⟨z,y,vs,r,g,es,ep,k _ _ (.inl rfl) e,c⟩
 | dT kvs=>obtain ⟨z,y,xs,r,g,es,ep,e,c⟩:=x;exact ⟨z,y,xs,Paired.mapP r λp q z=>⟨z.1,l _ _ z.2.1,z.2.2⟩,g,es,ep,k _ _ (.inl rfl) e,c⟩
 | set S n=>obtain ⟨g,es,ep,t,e,c⟩:=x; exact ⟨g,es,ep,t,k _ _ (.inl rfl) e,c⟩
 | ins C dx fs=>obtain ⟨d,z,ne,e,mA,⟨od,es,ep,i,c⟩,r⟩:=x;exact ⟨m _ d,z,ne,k _ _ (.inl rfl) e,mA,⟨od,es,ep,k _ _ (.inr d) i,c⟩,r⟩
 | own y=>obtain ⟨g,e⟩:=x; exact ⟨g,k _ _ (.inl rfl) e⟩
 | xd fs=>obtain ⟨mA,⟨od,es,ep,e,c⟩,r⟩:=x; exact ⟨mA,⟨od,es,ep,k _ _ (.inl rfl) e,c⟩,r⟩
 | rng lo hi=>obtain ⟨t,u,v,e⟩:=x; exact ⟨t,u,v,k _ _ (.inl rfl) e⟩
 | frz g u j=>obtain ⟨e,q⟩:=x; exact ⟨k _ _ (.inl rfl) e,j q⟩
 | tbl ps=>have e:h.get? a=ip { cls:=.none,data:=.fields ps }:=x;show h'.get? a=ip { cls:=.none,data:=.fields ps };exact k a _ (.inl rfl) e
 | met f y=>have e:h.get? a=ip (fz (.ref f) (.ref y)):=x;show h'.get? a=ip (fz (.ref f) (.ref y));exact k a _ (.inl rfl) e
 | ext φ=>obtain ⟨p,⟨o,e⟩,st⟩:=x; exact ⟨st _ _ p λo q=>k _ _ (.inl rfl) q,⟨o,k _ _ (.inl rfl) e⟩,st⟩
theorem HOk.lt (x:HOk P w H h) (e:H a=ip o):a < h.objs.size:=(x a o e).lt
theorem HOk.fresh (x:HOk P w H h) (e:h.objs.size<=a):H a=none:=by
 cases q:H a with
 | none=>rfl
 | some u=>exact absurd (aI (x.lt q) e) (cK _)
theorem HOk.kept (x:HOk P w H h) (k:∀ b u,h.get? b=ip u->h'.get? b=ip u):HOk P w H h':=λa o e=>
 (x a o e).stay (λb u _ q=>k b u q) (λ_ q=>q) λ_ _ q=>q
theorem HOk.laid (x:HOk P w H h) (k:∀ b u,h.get? b=ip u->h'.get? b=ip u) (hp:h.objs.size<=a) (new:ObjOk P w (upd H a o) h' a o):HOk P w (upd H a o) h':=λb u e=>by
 have n:=x.fresh hp;by_cases d:b=a;·subst d; rw [qu] at e; cases e; exact new
 ·rw [qF d] at e;exact (x b u e).stay (λc v _ q=>k c v q) (λc q=>by rw [qF (qM q n)]; exact q) λc xs q=>by rw [qF (qM q n)]; exact q
end
def Rd (H:Hp) (a:Addr) (u:HO):Prop:=H a=ip u\/∃ o,H a=ip (.frz o u)
theorem Rd.ok {u:HO} (r:Rd H a u) (x:HOk P w H h):ObjOk P w H h a u:=by
 rcases r with r | ⟨o,r⟩
 ·exact x a u r
 ·obtain ⟨_,q⟩:=x a _ r;exact q
def Mut:Option HO->Prop
 | some (.lst _)=>True
 | some (.dK _)=>True
 | some (.dT _)=>True
 | some (.set _ _)=>True
 | some (.ins _ _ _)=>True
 | some (.ext _)=>True
 | _=>False
section
variable {x e:Addr} {o':HO}
theorem HOk.write (ok:HOk P w H h) (m:Mut (H x)) (i:e=x\/H e=ip (.own x)) (k:∀ b u,b≠e->h.get? b=ip u->h'.get? b=ip u) (o:∃ u,h'.get? e=ip u)
  (new:ObjOk P w (upd H x o') h' x o'):HOk P w (upd H x o') h':=λb u q=>by
 have n:∀ c y,H c=ip (.own y)->c≠x:=λc y r z=>by subst z; rw [r] at m; exact m
 have p:∀ c xs,H c=ip (.tup xs)->c≠x:=λc xs r z=>by subst z; rw [r] at m; exact m
 by_cases f:b=x;·subst f; rw [qu] at q; cases q; exact new
 ·rw [qF f] at q;by_cases a:b=e
  ·have g:H b=ip (.own x):=by
    rcases i with z | z;·exact absurd (a.trans z) f
    ·rw [a]; exact z
   rw [q] at g; cases g;obtain ⟨v,j⟩:=o;exact ⟨v,by rw [a]; exact j⟩
  ·refine (ok b u q).stay (λc v d r=>k c v ?_ r) (λc r=>by rw [qF (n c b r)]; exact r) λc xs r=>by rw [qF (p c xs r)]; exact r
   rcases d with rfl | d;·exact a
   ·rintro rfl;rcases i with z | z;·exact n c b d z
    ·rw [d] at z; cases z; exact f rfl
end
structure Un (fs ex:List Addr) (H H':Hp) (h h':Heap):Prop where
 keep:∀ b o,h.get? b=ip o->H b=iq->b∉fs->b∉ex->h'.get? b=ip o
 slot:∀ b o,h.get? b=ip o->H b=iq->b∈fs->b∉ex->∃ sl,h'.get? b=ip { o with slots:=sl }
 free:∀ b o,h.get? b=ip o->H b=iq->b∉ex->H' b=iq
 there:∀ b o,h.get? b=ip o->b∉ex->∃ o',h'.get? b=ip o'
 tups:∀ b xs,H b=ip (.tup xs)->H' b=ip (.tup xs)
 frzs:∀ b o u,H b=ip (.frz o u)->H' b=ip (.frz o u)
 tbls:∀ b ps,H b=ip (.tbl ps)->∃ more,H' b=ip (.tbl (ps++more))
section
variable {fs fs' ex ex':List Addr} {H1 H2:Hp} {h1 h2:Heap} {x e:Addr}
theorem Un.any (u:Un fs ex H H1 h h1) {o:Obj} (q:h.get? b=ip o) (n:H b=iq) (hx:b∉ex):∃ sl,h1.get? b=ip { o with slots:=sl }:=by
 by_cases d:b∈fs;·exact u.slot b o q n d hx
 ·exact ⟨o.slots,u.keep b o q n d hx⟩
theorem Un.kept (k:∀ b u,h.get? b=ip u->h'.get? b=ip u):Un fs ex H H h h':=
 ⟨λb o q _ _ _=>k b o q,λb o q _ _ _=>⟨o.slots,k b o q⟩,λ_ _ _ n _=>n,λb o q _=>⟨o,k b o q⟩,λ_ _ q=>q,λ_ _ _ q=>q,λ_ ps q=>⟨#[],by rw [q]; simp⟩⟩
theorem Un.refl:Un fs ex H H h h:=Un.kept λ_ _ q=>q
theorem Un.laid (k:∀ b u,h.get? b=ip u->h'.get? b=ip u) (hp:h.objs.size<=a) (c:H a=iq):Un fs ex H (upd H a o) h h' where
 keep:=λb u q _ _ _=>k b u q
 slot:=λb u q _ _ _=>⟨u.slots,k b u q⟩
 free:=λb u q n _=>by rw [qF (aH (aI (aA q) hp))]; exact n
 there:=λb u q _=>⟨u,k b u q⟩
 tups:=λb xs q=>by rw [qF (qM q c)]; exact q
 frzs:=λb u xs q=>by rw [qF (qM q c)]; exact q
 tbls:=λb ps q=>⟨#[],by rw [qF (qM q c),q]; simp⟩
theorem Un.write (m:Mut (H x)) (i:e=x\/H e=ip (.own x)) (k:∀ b u,b≠e->h.get? b=ip u->h'.get? b=ip u) (d:∃ u,h'.get? e=ip u):Un fs ex H (upd H x o) h h':=by
 have hx:∀ b,H b=iq->b≠x:=λb n z=>by subst z; rw [n] at m; exact m
 have f:∀ b,H b=iq->b≠e:=λb n z=>by
  subst z;rcases i with r | r;·exact hx b n r
  ·rw [n] at r; cases r
 have c:∀ b u,H b=ip u->¬Mut (ip u)->b≠x:=λb u q nm z=>by subst z; rw [q] at m; exact nm m
 refine ⟨λb u q n _ _=>k b u (f b n) q,λb u q n _ _=>⟨u.slots,k b u (f b n) q⟩,λb u q n _=>by rw [qF (hx b n)]; exact n,λb u q _=>?_,λb xs q=>by rw [qF (c b _ q λz=>z)]; exact q,λb u xs q=>by rw [qF (c b _ q λz=>z)]; exact q,λb ps q=>⟨#[],by rw [qF (c b _ q λz=>z),q]; simp⟩⟩;by_cases a:b=e;·subst a; exact d
 ·exact ⟨u,k b u a q⟩
end
noncomputable def trk (h:Heap) (H:Hp):List Addr:=(aK h.objs.size).filter λa=>(H a).isSome
noncomputable def qbw (h:Heap) (H:Hp):Heap:=bj h (trk h H)
theorem ZN (h:Heap) (H:Hp):(qbw h H).objs.size=h.objs.size:=PySem.W.hideAll_size _ _
theorem qbx {o:Obj} (e:h.get? b=ip o) (n:H b=iq):(qbw h H).get? b=ip o:=
 c7 _ e λc=>by have q:(H b).isSome=true:=(br.mp c).2;rw [n] at q; simp at q
theorem qdU {o:Obj} (e:(qbw h H).get? b=ip o):h.get? b=ip o/\H b=none:=by
 have a:h.get? b=ip o:=dX (trk h H) e;refine ⟨a,?_⟩;cases q:H b with
 | none=>rfl
 | some x=>have c:b∈trk h H:=br.mpr ⟨bD.mpr (aA a),by simp [q]⟩;have z:(qbw h H).get? b=none:=cS (trk h H) c;rw [z] at e; cases e
noncomputable def qdV (g h:Heap) (L:Addr):List (Addr×Obj):=(aK h.objs.size).filterMap λa=>if a=L\/(g.get? a).isSome=iA then iq else (h.get? a).map λo=>(a,o)
noncomputable def rest (g h:Heap) (L d:Addr):List (Addr×Obj):=(qdV g h L).filter λp=>decide (p.1≠d)
structure Mod (K:Frag) (mg:Str->Option iu) (base:Heap):Prop where
 kin:K.In base
 glob:base.Ns mainGlobals mg
 blt:∃ mb,base.Ns builtinsNs mb/\∀ x:Str,x ≠ "__name__"->mb x=bootBuiltins x
 nolimit:base.NoLimit
structure Cx where
 prog:iE
 w:iF
 K:Frag
 mg:Str->Option iu
 base:Heap
 A:iH
 N:List Str
 s₀:iB
 H₀:Hp
 env:Env
 outer:List Env
 stack:List Env
 ex:List Addr
 fn:Str->Bool
 calm:Bool
 pn:List (Addr×Obj)
 xe:iu->iB->Prop
noncomputable def frs (l:List Env):List Addr:=l.filterMap (·.frame)
abbrev Cx.fs (X:Cx):List Addr:=frs X.outer
def Vis (sc:j7) (x:Str):Prop:=sc.names.lookup x=ip .local\/sc.names.lookup x=ip .cell\/sc.names.lookup x=ip .free
def Loc (sc:j7) (x:Str):Prop:=sc.names.lookup x=ip .local\/sc.names.lookup x=ip .cell
def Vb (env:Env) (h:Heap) (m:Str->Option iu) (x:Str) (u:iu):Prop:=
 (env.kindOf x=ip .local/\m x=ip u)\/((env.kindOf x=ip .cell\/env.kindOf x=ip .free)/\∃ c,env.cells.lookup x=ip c/\h.IsCell c (ip u))
structure Cx.Ok (X:Cx):Prop where
 mod:Mod X.K X.mg X.base
 kind:X.env.scope.kind=.function
 glob:X.env.globals=mainGlobals
 blt:X.env.builtins=builtinsNs
 above:X.s₀.heap.objs.size<=X.env.locals
 inj:∀ x y c,X.env.cells.lookup x=ip c->X.env.cells.lookup y=ip c->x=y
 has:∀ x,(X.env.kindOf x=ip .cell\/X.env.kindOf x=ip .free)->∃ c,X.env.cells.lookup x=ip c
 cab:∀ x c,X.fn x=iA->X.env.cells.lookup x=ip c->X.s₀.heap.objs.size<=c
 hd:X.calm=iA->X.A.handled=iq
 frames:X.A.frames=ip X.stack
 stk:X.stack=X.outer\/(X.stack=X.env::X.outer/\X.env.frame=ip X.env.locals)
 exf:∀ b∈X.ex,b≠X.env.locals/\∀ x c,X.env.cells.lookup x=ip c->c≠b
 bs:∀ b o,X.base.get? b=ip o->X.s₀.heap.get? b=ip o/\X.H₀ b=iq
 bsz:X.base.objs.size<=X.s₀.heap.objs.size
 noex:∀ b o,X.base.get? b=ip o->b∉X.ex
 exfs:∀ b∈X.ex,b∉X.fs
 funs:X.s₀.heap.FunFrames X.base X.outer
 frf:∀ b∈X.fs,X.H₀ b=iq
structure Inv (X:Cx) (pins:List (Addr×Obj)) (σ:List (Option V)) (H:Hp) (s:iB):Prop where
 ok:X.Ok
 os:s.os=X.s₀.os
 bare:k9 s.gens
 base:Un X.fs X.ex X.H₀ H X.s₀.heap s.heap
 loc:∃ m,s.heap.Ns X.env.locals m/\∀ (i:Nat) (x:Str) (v:V),X.N[i]?=ip x->σ[i]?=ip (ip v)->Vis X.env.scope x->∃ u,RelV v u/\Vb X.env s.heap m x u
 cell:∀ x c,X.env.cells.lookup x=ip c->∃ v,s.heap.IsCell c v
 free:H X.env.locals=iq
 freeC:∀ x c,X.env.cells.lookup x=ip c->H c=iq
 pin:∀ p∈X.pn++pins,s.heap.get? p.1=ip p.2/\H p.1=iq/\p.1≠X.env.locals/\p.1∉X.fs/\∀ v,p.2.data≠.cell v
 hok:HOk X.prog X.w H s.heap
 len:σ.length=X.N.length
variable {x:Str} {X:Cx} {pins:List (Addr×Obj)} {s s':iB} {t' i:Nat} {it:Addr} {v:V}
section
variable {σ:List (Option V)}
theorem Cx.Ok.nofr (ok:X.Ok) {o:Obj} (e:X.base.get? b=ip o):b∉X.fs:=λd=>by have:=(ok.funs.mem d).1;rw [e] at this; cases this
theorem Inv.bs (I:Inv X pins σ H s):∀ b o,X.base.get? b=ip o->s.heap.get? b=ip o/\H b=none:=λb o e=>
 ⟨I.base.keep b o (I.ok.bs b o e).1 (I.ok.bs b o e).2 (I.ok.nofr e) (I.ok.noex b o e),I.base.free b o (I.ok.bs b o e).1 (I.ok.bs b o e).2 (I.ok.noex b o e)⟩
theorem Inv.bk (I:Inv X pins σ H s):∀ b o,X.base.get? b=ip o->s.heap.get? b=ip o:=λb o e=>(I.bs b o e).1
theorem Inv.mod (I:Inv X pins σ H s):Mod X.K X.mg X.base:=I.ok.mod
theorem Inv.kIn (I:Inv X pins σ H s):X.K.In s.heap:=I.ok.mod.kin.keeps I.bk
theorem Inv.nolimit (I:Inv X pins σ H s):s.heap.NoLimit:=I.ok.mod.nolimit.keeps I.bk
theorem Inv.fr (I:Inv X pins σ H s):∃ m,Fr X.base X.env.locals s.heap m:=
 let ⟨m,n,_⟩:=I.loc
 ⟨m,n,I.bk,bg I.ok.bsz I.ok.above⟩
theorem Inv.lt (I:Inv X pins σ H s):X.env.locals < s.heap.objs.size:=let ⟨_,n,_⟩:=I.loc; n.lt
theorem Inv.sz (I:Inv X pins σ H s):X.s₀.heap.objs.size<=s.heap.objs.size:=bg I.ok.above (dg I.lt)
theorem Inv.nofs (I:Inv X pins σ H s) (h:s.heap.objs.size<=a):a∉X.fs:=λd=>by obtain ⟨_,o,m,_⟩:=I.ok.funs.mem d;exact absurd (aI (aA m) (bg I.sz h)) (cK _)
theorem Inv.cne (I:Inv X pins σ H s):∀ x c,X.env.cells.lookup x=ip c->c≠X.env.locals:=λx c e z=>by obtain ⟨v,o,b,hd⟩:=I.cell x c e;obtain ⟨m,⟨o',es,ep,h,a,_⟩,_⟩:=I.loc;rw [z,h] at b; cases b; rw [a] at hd; cases hd
theorem Inv.funs (I:Inv X pins σ H s):s.heap.FunFrames X.base X.outer:=by
 have all:∀ (l:List Env),(∀ b∈frs l,b∈X.fs)->X.s₀.heap.FunFrames X.base l->s.heap.FunFrames X.base l:=by
  intro l
  induction l with
  | nil=>intro _ _; trivial
  | cons env r j=>intro c hl;obtain ⟨k,⟨L,o,h,n,m,hd⟩,f⟩:=hl;have a:L∈X.fs:=c L (by unfold frs; rw [bb,h]; exact ai);obtain ⟨sl,e⟩:=I.base.slot L o m (I.ok.frf L a) a λz=>I.ok.exfs L z a;exact ⟨k,⟨L,_,h,n,e,hd⟩,j (λb d=>c b (by unfold frs; rw [bb,h]; exact aa _ d)) f⟩
 exact all X.outer (λ_ d=>d) I.ok.funs
theorem Inv.stack (I:Inv X pins σ H s):s.heap.FunFrames X.base X.stack:=by
 rcases I.ok.stk with e | ⟨e,hf⟩
 ·rw [e]; exact I.funs
 ·rw [e];obtain ⟨m,n,_⟩:=I.loc;refine .cons (by rw [I.ok.kind]; decide) hf n ?_ I.funs;exact Heap.get?_none_of_le (bg I.ok.bsz I.ok.above)
theorem Inv.stkSub (I:Inv X pins σ H s):∀ b∈frs X.stack,b∈X.env.locals::X.fs:=λb d=>by
 rcases I.ok.stk with e | ⟨e,hf⟩
 ·rw [e] at d; exact aa _ d
 ·rw [e] at d;unfold frs at d;rw [bb,hf] at d;exact d
theorem Inv.stkFree (I:Inv X pins σ H s):∀ b∈frs X.stack,H b=none:=λb d=>by
 rcases ac.mp (I.stkSub b d) with e | d;·rw [e]; exact I.free
 ·obtain ⟨_,o,m,_⟩:=I.ok.funs.mem d;exact I.base.free b o m (I.ok.frf b d) λz=>I.ok.exfs b z d
theorem Inv.step {g':Array lj} {t':Nat} {d':Drawn} {ch:List Addr} (I:Inv X pins σ H s)
  (a:∀ b∈ch,(b∈X.ex\/X.s₀.heap.objs.size<=b)/\b≠X.env.locals/\(∀ x c,X.env.cells.lookup x=ip c->c≠b)/\∀ p∈X.pn++pins,p.1≠b)
  (keep:∀ b o,b≠X.env.locals->b∉X.fs->b∉ch->s.heap.get? b=ip o->H b=iq->h'.get? b=ip o)
  (slot:∀ b o,b≠X.env.locals->b∈X.fs->b∉ch->s.heap.get? b=ip o->H b=iq->∃ sl,h'.get? b=ip { o with slots:=sl }) (free:∀ b o,b∉ch->s.heap.get? b=ip o->H b=iq->H' b=iq)
  (there:∀ b o,b∉ch->s.heap.get? b=ip o->∃ o',h'.get? b=ip o')
  (tups:∀ b xs,H b=ip (.tup xs)->H' b=ip (.tup xs)) (frzs:∀ b o u,H b=ip (.frz o u)->H' b=ip (.frz o u)) (tbls:∀ b ps,H b=ip (.tbl ps)->∃ more,H' b=ip (.tbl (ps++more)))
  (ns:∀ m,s.heap.Ns X.env.locals m->h'.Ns X.env.locals m) (hok:HOk X.prog X.w H' h') (hg:k9 g') :
  Inv X pins σ H' { s with heap:=h',gens:=g',drawn:=d',toks:=t' }:=by
 have L:∀ b o,X.s₀.heap.get? b=ip o->b≠X.env.locals:=λb o e=>aH (aI (aA e) I.ok.above);have C:∀ b o,X.s₀.heap.get? b=ip o->b∉X.ex->b∉ch:=λb o e hx f=>by
  rcases (a b f).1 with z | z;·exact hx z
  ·exact absurd (aI (aA e) z) (cK _)
 have K:∀ x c,X.env.cells.lookup x=ip c->∀ v,s.heap.IsCell c v->h'.IsCell c v:=λx c e v ⟨o,g,hd⟩=>by
  have h:c∉ch:=λz=>(a c z).2.2.1 x c e rfl;by_cases A:c∈X.fs;·obtain ⟨sl,q⟩:=slot c o (I.cne x c e) A h g (I.freeC x c e);exact ⟨_,q,hd⟩
  ·exact ⟨o,keep c o (I.cne x c e) A h g (I.freeC x c e),hd⟩
 refine ⟨I.ok,I.os,hg,⟨λb o e n f hx=>?_,λb o e n f hx=>?_,λb o e n hx=>?_,λb o e hx=>?_,λb xs e=>tups b xs (I.base.tups b xs e),λb o xs e=>frzs b o xs (I.base.frzs b o xs e),λb ps e=>?_⟩,?_,λx c e=>?_,?_,λx c e=>?_,λp hp=>?_,hok,I.len⟩;·exact keep b o (L b o e) f (C b o e hx) (I.base.keep b o e n f hx) (I.base.free b o e n hx)
 ·obtain ⟨sl,e1⟩:=I.base.slot b o e n f hx;obtain ⟨t,j⟩:=slot b _ (L b o e) f (C b o e hx) e1 (I.base.free b o e n hx);exact ⟨t,j⟩
 ·obtain ⟨o',e1⟩:=I.base.there b o e hx;exact free b o' (C b o e hx) e1 (I.base.free b o e n hx)
 ·obtain ⟨o',e1⟩:=I.base.there b o e hx;exact there b o' (C b o e hx) e1
 ·obtain ⟨m1,e1⟩:=I.base.tbls b ps e;obtain ⟨B,j⟩:=tbls b _ e1;exact ⟨m1++B,by rw [j,Array.append_assoc]⟩
 ·obtain ⟨m,D,hl⟩:=I.loc;refine ⟨m,ns m D,λi x v e1 j E=>?_⟩;obtain ⟨u,r,l⟩:=hl i x v e1 j E;refine ⟨u,r,?_⟩;rcases l with l | ⟨k,c,e,z⟩
  ·exact .inl l
  ·exact .inr ⟨k,c,e,K x c e _ z⟩
 ·obtain ⟨v,z⟩:=I.cell x c e;exact ⟨v,K x c e v z⟩
 ·obtain ⟨m,⟨o,_,_,g,_⟩,_⟩:=I.loc;exact free _ o (λz=>(a _ z).2.1 rfl) g I.free
 ·obtain ⟨v,o,g,hd⟩:=I.cell x c e;exact free c o (λz=>(a c z).2.2.1 x c e rfl) g (I.freeC x c e)
 ·obtain ⟨e,n,ne,y,d⟩:=I.pin p hp;have h:p.1∉ch:=λz=>(a p.1 z).2.2.2 p hp rfl;exact ⟨keep p.1 p.2 ne y h e n,free p.1 p.2 h e n,ne,y,d⟩
theorem Inv.un (I:Inv X pins σ H s) (u:Un X.fs [] H H' s.heap h') (hok:HOk X.prog X.w H' h'):Inv X pins σ H' { s with heap:=h',toks:=t' }:=by obtain ⟨m,⟨o,es,ep,c,r⟩,_⟩:=id I.loc;obtain ⟨sl,L⟩:=u.any c I.free (by simp);exact I.step (g':=s.gens) (d':=s.drawn) (ch:=[]) (λ_ z=>nomatch z) (λb o _ d _ e n=>u.keep b o e n d (by simp)) (λb o _ d _ e n=>u.slot b o e n d (by simp)) (λb o _ e n=>u.free b o e n (by simp)) (λb o _ e=>u.there b o e (by simp)) u.tups u.frzs u.tbls (λg f=>by obtain ⟨o',es',a,h,r'⟩:=f;rw [c] at h; cases h;exact ⟨_,es',a,L,r'⟩) hok I.bare
theorem Inv.call {g':Array lj} {t':Nat} {d':Drawn} {ch:List Addr} (I:Inv X pins σ H s) (u:Un (frs X.stack) ch H H' s.heap h') (hok:HOk X.prog X.w H' h') (hg:k9 g')
  (a:∀ b∈ch,(b∈X.ex\/X.s₀.heap.objs.size<=b)/\b≠X.env.locals/\(∀ x c,X.env.cells.lookup x=ip c->c≠b)/\∀ p∈X.pn++pins,p.1≠b) :
  Inv X pins σ H' { s with heap:=h',gens:=g',drawn:=d',toks:=t' }:=by
 obtain ⟨m,⟨o,es,ep,g,r⟩,_⟩:=id I.loc;obtain ⟨sl,L⟩:=u.any g I.free λz=>(a _ z).2.1 rfl;exact I.step (ch:=ch) a (λb o L j d e n=>u.keep b o e n (λz=>(ac.mp (I.stkSub b z)).elim L j) d) (λb o _ _ d e n=>u.any e n d) (λb o d e n=>u.free b o e n d) (λb o d e=>u.there b o e d) u.tups u.frzs u.tbls (λk i=>by obtain ⟨o',es',f,h,r'⟩:=i;rw [g] at h; cases h;exact ⟨_,es',f,L,r'⟩) hok hg
theorem Inv.turned {t':Nat} (I:Inv X pins σ H s) (k:∀ b o,b≠it->s.heap.get? b=ip o->h'.get? b=ip o) (f:H it=iq) (a:it≠X.env.locals)
  (h1:it∈X.ex\/X.s₀.heap.objs.size<=it) (h2:∀ x c,X.env.cells.lookup x=ip c->c≠it) (j:∀ p∈X.pn++pins,p.1≠it):Inv X pins σ H { s with heap:=h',toks:=t' }:=by
 have t:∀ b u,H b=ip u->b≠it:=λb u e z=>by rw [z,f] at e; cases e
 refine I.step (g':=s.gens) (d':=s.drawn) (ch:=[it]) (λb i=>?_) (λb o _ _ d e _=>k b o (λz=>d (by simp [z])) e) (λb o _ _ d e _=>⟨o.slots,k b o (λz=>d (by simp [z])) e⟩) (λ_ _ _ _ n=>n)
  (λb o d e=>⟨o,k b o (λz=>d (by simp [z])) e⟩) (λ_ _ e=>e) (λ_ _ _ e=>e) (λb ps e=>⟨#[],by rw [e]; simp⟩) (λm g=>?_) (λb u e=>?_) I.bare
 ·have e:b=it:=by simpa using i
  subst e;exact ⟨h1,a,h2,j⟩
 ·obtain ⟨o,es,ep,h,r⟩:=g;exact ⟨o,es,ep,k _ o (bh a) h,r⟩
 ·refine (I.hok b u e).stay (λc v d q=>k c v ?_ q) (λ_ q=>q) λ_ _ q=>q;rcases d with z | z;·rw [z]; exact t b u e
  ·exact t c _ z
theorem Inv.tok (I:Inv X pins σ H s) (t:Nat):Inv X pins σ H { s with toks:=t }:=I.un (h':=s.heap) (t':=t) Un.refl I.hok
theorem Inv.kept (I:Inv X pins σ H s) (k:∀ b u,s.heap.get? b=ip u->h'.get? b=ip u):Inv X pins σ H { s with heap:=h',toks:=t' }:=I.un (Un.kept k) (I.hok.kept k)
theorem Inv.laid {t':Nat} (I:Inv X pins σ H s) (k:∀ b u,s.heap.get? b=ip u->h'.get? b=ip u) (hp:s.heap.objs.size<=a) (new:ObjOk X.prog X.w (upd H a o) h' a o):Inv X pins σ (upd H a o) { s with heap:=h',toks:=t' }:=I.un (Un.laid k hp (I.hok.fresh hp)) (I.hok.laid k hp new)
theorem Inv.write {x e:Addr} {o:HO} {t':Nat} (I:Inv X pins σ H s) (m:Mut (H x)) (i:e=x\/H e=ip (.own x)) (k:∀ b u,b≠e->s.heap.get? b=ip u->h'.get? b=ip u) (h:∃ u,h'.get? e=ip u)
  (new:ObjOk X.prog X.w (upd H x o) h' x o):Inv X pins σ (upd H x o) { s with heap:=h',toks:=t' }:=I.un (Un.write m i k h) (I.hok.write m i k h new)
theorem Inv.weak {σ':List (Option V)} (I:Inv X pins σ H s) (hl:σ'.length=σ.length) (w:∀ (i:Nat) v,σ'[i]?=ip (ip v)->σ[i]?=ip (ip v)):Inv X pins σ' H s:=
 ⟨I.ok,I.os,I.bare,I.base,let ⟨m,n,h⟩:=I.loc; ⟨m,n,λi x v e1 e E=>h i x v e1 (w i v e) E⟩,I.cell,I.free,I.freeC,I.pin,I.hok,hl.trans I.len⟩
theorem Inv.pins_of {a:List (Addr×Obj)} (I:Inv X pins σ H s) (h:∀ p∈a,s.heap.get? p.1=ip p.2/\H p.1=iq/\p.1≠X.env.locals/\p.1∉X.fs/\∀ v,p.2.data≠.cell v):Inv X a σ H s:=
 ⟨I.ok,I.os,I.bare,I.base,I.loc,I.cell,I.free,I.freeC,λp hp=>(aj.mp hp).elim (λz=>I.pin p (bW _ z)) (h p),I.hok,I.len⟩
theorem Yj {N:List Str} (h:N.Nodup) {j:Nat} (a:N[i]?=ip x) (b:N[j]?=ip x):i=j:=by obtain ⟨h1,e1⟩:=aB.mp a;obtain ⟨h2,e⟩:=aB.mp b;exact (fO h).mp (e1.trans e.symm)
theorem Vg {M:Model} {A:iH} {E:iu->iB->Prop} {Q:Unit->iB->Prop} (I:Inv X pins σ H s) (hN:X.N.Nodup) (hi:X.N[i]?=ip x) (hx:Loc X.env.scope x) (r:RelV v u)
  (h:∀ s',Inv X pins (σ.set i (ip v)) H s'->(∃ a,bH a s.heap s'.heap/\(a=X.env.locals\/X.env.cells.lookup x=ip a))->Q () s') (hf:X.fn x=iA\/X.env.scope.names.lookup x=ip .local:=by first | exact .inl rfl | exact .inr rfl | assumption):wpAny M A (storeName X.env x u) Q E s:=by
 obtain ⟨m,hn,hl⟩:=id I.loc;have P:(X.env.scope.kind == .class||(X.env.scope.kind == .module&&X.env.locals != X.env.globals))=false:=by rw [I.ok.kind]; rfl
 have D:i < σ.length:=by rw [I.len]; exact (aB.mp hi).1
 have cne:=I.cne;have t:∀ {a:Addr} {h':Heap},(∃ o,s.heap.get? a=ip o/\H a=iq)->bH a s.heap h'->HOk X.prog X.w H h':=λ{a h'} ha f b ob e=>by
  obtain ⟨_,_,l⟩:=ha;refine (I.hok b ob e).stay (λc T g q=>(f.2 c ?_).trans q) (λ_ q=>q) λ_ _ q=>q;rintro rfl;rcases g with rfl | g;·rw [l] at e; cases e
  ·rw [l] at g; cases g
 rcases hx with C | C
 ·refine wpAny_storeName_local C hn (λh' F f=>?_) P;obtain ⟨oL,_,_,Z,_⟩:=id hn;refine h _ ⟨I.ok,I.os,I.bare,⟨λb o e n K hx=>?_,λb o e n K hx=>?_,I.base.free,λb o e hx=>?_,I.base.tups,I.base.frzs,I.base.tbls⟩,⟨_,F,λj y V e1 B e3=>?_⟩,λy c e=>?_,I.free,I.freeC,λp hp=>?_,t ⟨oL,Z,I.free⟩ f,by simpa using I.len⟩ ⟨_,f,.inl rfl⟩;·exact (f.2 b (aH (aI (aA e) I.ok.above))).trans (I.base.keep b o e n K hx)
  ·obtain ⟨sl,e1⟩:=I.base.slot b o e n K hx;exact ⟨sl,(f.2 b (aH (aI (aA e) I.ok.above))).trans e1⟩
  ·obtain ⟨o',e1⟩:=I.base.there b o e hx;exact ⟨o',(f.2 b (aH (aI (aA e) I.ok.above))).trans e1⟩
  ·by_cases G:j=i;·subst G;rw [hi] at e1; cases e1;rw [aF D] at B;cases B;exact ⟨u,r,.inl ⟨C,by simp⟩⟩
   ·rw [au (bh G)] at B;obtain ⟨W,r',q⟩:=hl j y V e1 B e3;refine ⟨W,r',?_⟩;rcases q with ⟨k,e⟩ | ⟨k,c,e,z⟩
    ·refine .inl ⟨k,?_⟩;have:y≠x:=λe=>G (Yj hN e1 (e ▸ hi));simp [this,e]
    ·exact .inr ⟨k,c,e,z.sameBut f (cne y c e)⟩
  ·obtain ⟨T,z⟩:=I.cell y c e;exact ⟨T,z.sameBut f (cne y c e)⟩
  ·obtain ⟨e,n,ne,Y,d⟩:=I.pin p hp;exact ⟨(f.2 p.1 ne).trans e,n,ne,Y,d⟩
 ·have J:X.fn x=true:=by
   rcases hf with z | z;·exact z
   ·rw [z] at C; cases C
  obtain ⟨c,g⟩:=I.ok.has x (.inl C);obtain ⟨T,z⟩:=I.cell x c g;refine wpAny_storeName_cell I.ok.kind C g z (λh' S f=>?_);obtain ⟨oc,O,L⟩:=id z;refine h { s with heap:=h' } ⟨I.ok,I.os,I.bare,⟨λb o e n K hx=>?_,λb o e n K hx=>?_,I.base.free,λb o e hx=>?_,I.base.tups,I.base.frzs,I.base.tbls⟩,⟨m,hn.sameBut f (bh (cne x c g)),λj y V e1 B e3=>?_⟩,λy U e=>?_,I.free,I.freeC,λp hp=>?_,t ⟨oc,O,I.freeC x c g⟩ f,by simpa using I.len⟩ ⟨c,f,.inr g⟩;·exact (f.2 b (aH (aI (aA e) (I.ok.cab x c J g)))).trans (I.base.keep b o e n K hx)
  ·obtain ⟨sl,e1⟩:=I.base.slot b o e n K hx;exact ⟨sl,(f.2 b (aH (aI (aA e) (I.ok.cab x c J g)))).trans e1⟩
  ·obtain ⟨o',e1⟩:=I.base.there b o e hx;exact ⟨o',(f.2 b (aH (aI (aA e) (I.ok.cab x c J g)))).trans e1⟩
  ·by_cases G:j=i;·subst G;rw [hi] at e1; cases e1;rw [aF D] at B;cases B;exact ⟨u,r,.inr ⟨.inl C,c,g,S⟩⟩
   ·rw [au (bh G)] at B;obtain ⟨W,r',q⟩:=hl j y V e1 B e3;refine ⟨W,r',?_⟩;rcases q with q | ⟨k,U,e,z'⟩
    ·exact .inl q
    ·refine .inr ⟨k,U,e,z'.sameBut f ?_⟩;rintro rfl;exact G (Yj hN e1 (I.ok.inj _ _ _ e g ▸ hi))
  ·by_cases R:U=c;·subst R; exact ⟨_,S⟩
   ·obtain ⟨w2,z2⟩:=I.cell y U e;exact ⟨w2,z2.sameBut f R⟩
  ·obtain ⟨e,n,ne,Y,d⟩:=I.pin p hp;refine ⟨(f.2 p.1 ?_).trans e,n,ne,Y,d⟩;intro q;rw [q,O] at e;have q':oc=p.2:=aO.inj e;exact d T (by rw [<-q']; exact L)
theorem Jy {M:Model} {A:iH} {E:iu->iB->Prop} {Q:Unit->iB->Prop} (I:Inv X pins σ H s) (a:X.N.Nodup) (hi:X.N[i]?=ip x) (hx:Loc X.env.scope x) (r:RelV v u)
  (h:∀ s',Inv X pins (σ.set i (ip v)) H s'->Q () s') (f:X.fn x=iA\/X.env.scope.names.lookup x=ip .local:=by first | exact .inl rfl | exact .inr rfl | assumption):wpAny M A (storeName X.env x u) Q E s:=
 Vg I a hi hx r (λs' b _=>h s' b) f
theorem Inv.call' {ch:List Addr} (I:Inv X pins σ H s) (m:s'.os=s.os) (u:Un (frs X.stack) ch H H' s.heap s'.heap) (hok:HOk X.prog X.w H' s'.heap) (hg:k9 s'.gens)
  (a:∀ b∈ch,(b∈X.ex\/X.s₀.heap.objs.size<=b)/\b≠X.env.locals/\(∀ x c,X.env.cells.lookup x=ip c->c≠b)/\∀ p∈X.pn++pins,p.1≠b):Inv X pins σ H' s':=by
 obtain ⟨h',g',d',t',o'⟩:=s';have e:o'=s.os:=m;subst e;exact I.call (g':=g') (t':=t') (d':=d') u hok hg a
end
abbrev XK:=iu->Option Addr->Hp->Prop
abbrev St:=List (Option V)
abbrev VK:=V->Hp->Prop
abbrev TE:=St->Hp->VK->Prop
abbrev TT:=St->Hp->(Bool->Hp->Prop)->Prop
abbrev TA:=St->Hp->(List V->Hp->Prop)->Prop
structure Ends where
 nx:St->Hp->Prop
 rt:VK
 bk:St->Hp->Prop:=λ_ _=>False
 ct:St->Hp->Prop:=λ_ _=>False
abbrev TS:=Ends->St->Hp->Prop
def EP (X:Cx) (pins:List (Addr×Obj)) (σ:St) (Q:VK) (u:iu) (s':iB):Prop:=∃ v H',Inv X pins σ H' s'/\RelV v u/\Q v H'
def TP (X:Cx) (pins:List (Addr×Obj)) (σ:St) (Q:Bool->Hp->Prop) (b:Bool) (s':iB):Prop:=∃ H',Inv X pins σ H' s'/\Q b H'
def AP (X:Cx) (pins:List (Addr×Obj)) (σ:St) (Q:List V->Hp->Prop) (us:List iu) (s':iB):Prop:=∃ vs H',Inv X pins σ H' s'/\Vals vs us/\Q vs H'
def SP (X:Cx) (pins:List (Addr×Obj)) (D:Ends) (f:Flow) (s':iB):Prop:=
 match f with
 | .next=>∃ σ' H',Inv X pins σ' H' s'/\D.nx σ' H'
 | .brk=>∃ σ' H',Inv X pins σ' H' s'/\D.bk σ' H'
 | .cont=>∃ σ' H',Inv X pins σ' H' s'/\D.ct σ' H'
 | .ret u=>∃ v σ' H',Inv X pins σ' H' s'/\RelV v u/\D.rt v H'
structure PE (X:Cx) (e:Expr) (t:TE):Prop where
 run:∀ (pins:List (Addr×Obj)) (s:iB) (σ:St) (H:Hp) (Q:VK),Inv X pins σ H s->t σ H Q->wpAny (model X.prog X.w) X.A (eval e X.env) (EP X pins σ Q) X.xe s
instance {X:Cx} {e:Expr} {t:TE}:CoeFun (PE X e t) (λ_=>∀ (pins:List (Addr×Obj)) (s:iB) (σ:St) (H:Hp) (Q:VK),Inv X pins σ H s->t σ H Q->wpAny (model X.prog X.w) X.A (eval e X.env) (EP X pins σ Q) X.xe s):=⟨λh=>h.run⟩
structure PT (X:Cx) (e:Expr) (t:TT):Prop where
 run:∀ (pins:List (Addr×Obj)) (s:iB) (σ:St) (H:Hp) (Q:Bool->Hp->Prop),Inv X pins σ H s->t σ H Q->wpAny (model X.prog X.w) X.A (isTrue e X.env (eval e X.env)) (TP X pins σ Q) X.xe s
instance {X:Cx} {e:Expr} {t:TT}:CoeFun (PT X e t) (λ_=>∀ (pins:List (Addr×Obj)) (s:iB) (σ:St) (H:Hp) (Q:Bool->Hp->Prop),Inv X pins σ H s->t σ H Q->wpAny (model X.prog X.w) X.A (isTrue e X.env (eval e X.env)) (TP X pins σ Q) X.xe s):=⟨λh=>h.run⟩
structure PW (X:Cx) (e:Expr) (t:TT):Prop where
 run:∀ (whole:Sem iu) (pins:List (Addr×Obj)) (s:iB) (σ:St) (H:Hp) (Q:Bool->Hp->Prop),Inv X pins σ H s->t σ H Q->wpAny (model X.prog X.w) X.A (isTrue e X.env whole) (TP X pins σ Q) X.xe s
instance {X:Cx} {e:Expr} {t:TT}:CoeFun (PW X e t) (λ_=>∀ (whole:Sem iu) (pins:List (Addr×Obj)) (s:iB) (σ:St) (H:Hp) (Q:Bool->Hp->Prop),Inv X pins σ H s->t σ H Q->wpAny (model X.prog X.w) X.A (isTrue e X.env whole) (TP X pins σ Q) X.xe s):=⟨λh=>h.run⟩
variable {e:Expr}
theorem PW.pt {t:TT} (h:PW X e t):PT X e t:=⟨h.run _⟩
structure PA (X:Cx) (es:List Expr) (t:TA):Prop where
 run:∀ (pos:Pos) (pins:List (Addr×Obj)) (s:iB) (σ:St) (H:Hp) (Q:List V->Hp->Prop),Inv X pins σ H s->t σ H Q->wpAny (model X.prog X.w) X.A (spliced (backTo pos (starEach es X.env))) (AP X pins σ Q) X.xe s
instance {X:Cx} {es:List Expr} {t:TA}:CoeFun (PA X es t) (λ_=>∀ (pos:Pos) (pins:List (Addr×Obj)) (s:iB) (σ:St) (H:Hp) (Q:List V->Hp->Prop),Inv X pins σ H s->t σ H Q->wpAny (model X.prog X.w) X.A (spliced (backTo pos (starEach es X.env))) (AP X pins σ Q) X.xe s):=⟨λh=>h.run⟩
structure PS (X:Cx) (st:Stmt) (t:TS):Prop where
 run:∀ (pins:List (Addr×Obj)) (s:iB) (σ:St) (H:Hp) (D:Ends),Inv X pins σ H s->t D σ H->wpAny (model X.prog X.w) X.A (exec st X.env) (SP X pins D) X.xe s
instance {X:Cx} {st:Stmt} {t:TS}:CoeFun (PS X st t) (λ_=>∀ (pins:List (Addr×Obj)) (s:iB) (σ:St) (H:Hp) (D:Ends),Inv X pins σ H s->t D σ H->wpAny (model X.prog X.w) X.A (exec st X.env) (SP X pins D) X.xe s):=⟨λh=>h.run⟩
structure PSs (X:Cx) (st:List Stmt) (t:TS):Prop where
 run:∀ (pins:List (Addr×Obj)) (s:iB) (σ:St) (H:Hp) (D:Ends),Inv X pins σ H s->t D σ H->wpAny (model X.prog X.w) X.A (execs st X.env) (SP X pins D) X.xe s
instance {X:Cx} {st:List Stmt} {t:TS}:CoeFun (PSs X st t) (λ_=>∀ (pins:List (Addr×Obj)) (s:iB) (σ:St) (H:Hp) (D:Ends),Inv X pins σ H s->t D σ H->wpAny (model X.prog X.w) X.A (execs st X.env) (SP X pins D) X.xe s):=⟨λh=>h.run⟩
variable {A:iH} {E:iu->iB->Prop}
theorem thn {t:Sem α} {Q b:α->iB->Prop} {M:Model} (h:wpAny M A t Q E s) (c:∀ a s,Q a s->b a s):wpAny M A t b E s:=iU h c λ_ _ x=>x
variable {σ:St} {pos:Pos} {Q:iu->iB->Prop} {ta:TE} {c:Expr}
section
def qh3 (i:Nat):TE:=λσ H Q=>∃ v,σ[i]?=ip (ip v)/\Q v H
def tC (v:V):TE:=λ_ H Q=>Q v H
theorem yC (j:X.N[i]?=ip x) (f:Vis X.env.scope x) (hd:(x == ("__debug__":Str))=false:=by decide) (d:(x == ("__classdict__":Str))=false:=by decide):PE X (.Name x pos) (qh3 i):=by
 refine ⟨?_⟩;intro pins s σ H Q I h;obtain ⟨v,e,h⟩:=h;obtain ⟨m,n,hl⟩:=I.loc;obtain ⟨u,r,l⟩:=hl i x v j e f;have fin:EP X pins σ Q u s:=⟨v,H,I,r,h⟩
 rcases l with ⟨k,g⟩ | ⟨k,c,b,a⟩
 ·exact wpAny_Name (wpAny_loadName_local I.ok.kind k n g fin) hd
 ·rcases k with k | k;·exact wpAny_Name (wpAny_loadName_cell I.ok.kind k b a fin) hd
  ·exact wpAny_Name (wpAny_loadName_free I.ok.kind k b a fin d) hd
theorem qdd {i j pos}:PE X (.Constant (.int i) j pos) (tC (.int i)):=⟨λ_ _ _ H _ I h=>wpAny_Constant_int ⟨.int i,H,I.tok _,⟨_,rfl⟩,h⟩⟩
theorem qdW {b j pos}:PE X (.Constant (.bool b) j pos) (tC (.bl b)):=⟨λ_ _ _ H _ I h=>Constant_bool ⟨.bl b,H,I,rfl,h⟩⟩
theorem qfN {j pos}:PE X (.Constant .none j pos) (tC .non):=⟨λ_ _ _ H _ I h=>Constant_none ⟨.non,H,I,rfl,h⟩⟩
theorem qde {x j pos}:PE X (.Constant (.str x) j pos) (tC (.str x)):=⟨λ_ _ _ H _ I h=>Calls.Constant_str ⟨.str x,H,I.tok _,⟨_,rfl⟩,h⟩⟩
def Gl (X:Cx) (x:Str):Prop:=X.env.kindOf x=ip .globalImplicit
theorem xR {E:iu->iB->Prop} {pos:Pos} (I:Inv X pins σ H s) (hg:Gl X x) (c:X.mg x=ip u) (h:Q u s)
  (hd:(x == ("__debug__":Str))=false:=by decide):wpAny (model X.prog X.w) X.A (eval (.Name x pos) X.env) Q E s:=
 Calls.Name_function_global I.ok.kind hg (Calls.loadGlobal_global (by rw [I.ok.glob]; exact I.mod.glob.keeps I.bk) c h) hd
theorem zv {E:iu->iB->Prop} {pos:Pos} (I:Inv X pins σ H s) (hg:Gl X x) (m:X.mg x=iq) (c:bootBuiltins x=ip u) (h:Q u s)
  (n:x ≠ "__name__":=by decide) (hd:(x == ("__debug__":Str))=false:=by decide):wpAny (model X.prog X.w) X.A (eval (.Name x pos) X.env) Q E s:=by
 obtain ⟨mb,h1,h2⟩:=I.mod.blt;exact Calls.Name_function_global I.ok.kind hg (Calls.loadGlobal_builtin (by rw [I.ok.glob]; exact I.mod.glob.keeps I.bk) m (by rw [I.ok.blt]; exact h1.keeps I.bk) ((h2 x n).trans c) h) hd
theorem ZO (hg:Gl X x) (c:X.mg x=ip u) (r:RelV v u) (hd:(x == ("__debug__":Str))=false:=by decide):PE X (.Name x pos) (tC v):=⟨λ_ _ _ H _ I h=>xR I hg c ⟨v,H,I,r,h⟩ hd⟩
theorem ZP (hg:Gl X x) (m:X.mg x=iq) (c:bootBuiltins x=ip u) (r:RelV v u) (n:x ≠ "__name__":=by decide) (hd:(x == ("__debug__":Str))=false:=by decide):PE X (.Name x pos) (tC v):=⟨λ_ _ _ H _ I h=>zv I hg m c ⟨v,H,I,r,h⟩ n hd⟩
variable {a b:Expr} {tb:TE}
variable {tA tB':TT} {rest:List Expr}
def qjE (t u:TT):TT:=λσ H Q=>t σ H λc H1=>if c=iA then u σ H1 Q else Q iw H1
def tOr (t u:TT):TT:=λσ H Q=>t σ H λc H1=>if c=iA then Q iA H1 else u σ H1 Q
def qjF (t:TT):TT:=λσ H Q=>t σ H λc H1=>Q (!c) H1
theorem qdX (g:PT X a tA):PW X (.BoolOp .And [a] pos) tA:=by
 refine ⟨?_⟩;intro w pins s σ H Q I h;refine isTrue_and (thn (g pins s σ H Q I h) λc s1 e=>?_);cases c with
 | true=>exact isTrue_and_nil e
 | false=>exact e
theorem qfO (g:PT X a tA):PW X (.BoolOp .Or [a] pos) tA:=by
 refine ⟨?_⟩;intro w pins s σ H Q I h;refine isTrue_or (thn (g pins s σ H Q I h) λc s1 e=>?_);cases c with
 | false=>exact isTrue_or_nil e
 | true=>exact e
theorem qfP (g:PT X a tA) (e:PW X (.BoolOp .And (b::rest) pos) tB'):PW X (.BoolOp .And (a::b::rest) pos) (qjE tA tB'):=by
 refine ⟨?_⟩;intro w pins s σ H Q I h;refine isTrue_and (thn (g pins s σ H _ I h) λc s1 ⟨H1,d,q⟩=>?_);cases c with
 | true=>exact e w pins s1 σ H1 Q d q
 | false=>exact ⟨H1,d,q⟩
theorem qh4 (g:PT X a tA) (e:PW X (.BoolOp .Or (b::rest) pos) tB'):PW X (.BoolOp .Or (a::b::rest) pos) (tOr tA tB'):=by
 refine ⟨?_⟩;intro w pins s σ H Q I h;refine isTrue_or (thn (g pins s σ H _ I h) λc s1 ⟨H1,d,q⟩=>?_);cases c with
 | true=>exact ⟨H1,d,q⟩
 | false=>exact e w pins s1 σ H1 Q d q
theorem qfQ (g:PT X a tA):PT X (.UnaryOp .Not a pos) (qjF tA):=by refine ⟨?_⟩;intro pins s σ H Q I h;exact isTrue_not (g pins s σ H (λc H1=>Q (!c) H1) I h)
def qh5 (ta tb:TE):TE:=λσ H Q=>ta σ H λx H1=>∃ c,x=.bl c/\if c=iA then tb σ H1 Q else Q (.bl iw) H1
theorem qfR {op} {t:TE} (h:PE X a t):PE X (.BoolOp op [a] pos) t:=⟨λpins s σ H Q I w=>BoolOp_one (h pins s σ H Q I w)⟩
theorem qfS (g:PE X a ta) (e:PE X (.BoolOp .And (b::rest) pos) tb):PE X (.BoolOp .And (a::b::rest) pos) (qh5 ta tb):=by
 refine ⟨?_⟩;intro pins s σ H Q I h;refine BoolOp_and (thn (g pins s σ H _ I h) λv s1 ⟨x,H1,d,r1,q⟩=>?_);obtain ⟨c,rfl,q⟩:=q;cases r1;refine iS ?_;cases c with
 | true=>exact e pins s1 σ H1 Q d q
 | false=>exact ⟨.bl iw,H1,d,rfl,q⟩
def tIf (t:TT) (ta tb:TE):TE:=λσ H Q=>t σ H λc H1=>if c=iA then ta σ H1 Q else tb σ H1 Q
theorem qby (f:PT X c tA) (i:PE X a ta) (g:PE X b tb):PE X (.IfExp c a b pos) (tIf tA ta tb):=by
 refine ⟨?_⟩;intro pins s σ H Q I h;refine wpAny_IfExp (thn (f pins s σ H _ I h) λd s1 ⟨H1,e,q⟩=>?_);cases d with
 | true=>exact i pins s1 σ H1 Q e q
 | false=>exact g pins s1 σ H1 Q e q
end
def SqL (K:Frag) (H:Hp) (a:Addr) (xs:List V):Prop:=
 Rd H a (.lst xs) \/
  ∃ (o:Obj) (its:Array iu) (n:Nat),K.lookup a=ip o/\o.cls=.type "list"/\o.dict=iq/\o.data=.seq its n/\its.size<=sizeLine/\Vals xs its.toList
def SqT (K:Frag) (H:Hp) (a:Addr) (xs:List V):Prop:=
 Rd H a (.tup xs) \/
  ∃ (o:Obj) (its:Array iu) (n:Nat),K.lookup a=ip o/\(o.cls=.type "tuple"/\o.dict=iq)/\o.data=.seq its n/\its.size<=sizeLine/\Vals xs its.toList
noncomputable def qjG:iu->Option V
 | .none=>ip .non
 | .bool b=>ip (.bl b)
 | .int i _=>ip (.int i)
 | .str x _=>ip (.str x)
 | .bytes b _=>ip (.byt b)
 | .float b _=>ip (.flt b)
 | .ref a=>ip (.ref a)
 | .type n=>ip (.ty n)
 | _=>iq
theorem RelV.abs {x:V} (r:RelV x u):qjG u=ip x:=by
 cases x with
 | non=>cases r; rfl
 | bl _=>cases r; rfl
 | int _=>obtain ⟨t,rfl⟩:=r; rfl
 | str _=>obtain ⟨t,rfl⟩:=r; rfl
 | byt _=>obtain ⟨t,rfl⟩:=r; rfl
 | flt _=>obtain ⟨t,rfl⟩:=r; rfl
 | ref _=>cases r; rfl
 | ty _=>cases r; rfl
theorem RelV.inj {x y:V} (r:RelV x u) (q:RelV y u):x=y:=aO.inj (r.abs.symm.trans q.abs)
theorem Vals.inj:∀ {xs ys:List V} {us:List iu},Vals xs us->Vals ys us->xs=ys
 | _,_,_,.nil,.nil=>rfl
 | _,_,_,.cons r t,.cons r' t'=>by rw [r.inj r',Vals.inj t t']
variable {K:Frag}
section
variable {ys:List V}
theorem SqT.of (h:H a=ip (.tup xs)):SqT K H a xs:=.inl (.inl h)
theorem Inv.list (I:Inv X pins σ H s) (h:SqL X.K H a xs):∃ its:List iu,Vals xs its/\PlainL s.heap a its.toArray/\xs.length<=sizeLine:=by
 rcases h with h | ⟨o,its,n,hk,hc,hd,hs,hz,r⟩
 ·obtain ⟨z,its,n,r,e⟩:=h.ok I.hok;exact ⟨its,r,⟨_,n,e,rfl,rfl,rfl⟩,z⟩
 ·refine ⟨its.toList,r,⟨o,n,I.kIn a o hk,hc,hd,by simpa using hs⟩,?_⟩;have e:=r.length;simp only [bN] at e;omega
theorem Inv.tuple (I:Inv X pins σ H s) (h:SqT X.K H a xs):∃ its:List iu,Vals xs its/\IsTup s.heap a its.toArray/\xs.length<=sizeLine:=by
 rcases h with h | ⟨o,its,n,hk,hc,hs,hz,r⟩
 ·obtain ⟨⟨z,_⟩,its,r,p⟩:=h.ok I.hok;exact ⟨its,r,p,z⟩
 ·refine ⟨its.toList,r,⟨o,I.kIn a o hk,hc.1,n,by simpa using hs⟩,?_⟩;have e:=r.length;simp only [bN] at e;omega
theorem Inv.tupleN (I:Inv X pins σ H s) (h:SqT X.K H a xs):∃ o,s.heap.get? a=ip o/\o.dict=none:=by
 rcases h with h | ⟨o,its,n,hk,hc,hs,hz,r⟩
 ·obtain ⟨⟨z,w⟩,its,r,p⟩:=h.ok I.hok;exact w
 ·exact ⟨o,I.kIn a o hk,hc.2⟩
theorem Inv.list_inj (I:Inv X pins σ H s) (h:SqL X.K H a xs) (h':SqL X.K H a ys):xs=ys:=by
 obtain ⟨its,r,⟨o,n,e,_,_,d⟩,_⟩:=I.list h;obtain ⟨its',r',⟨o',c,b,_,_,d'⟩,_⟩:=I.list h';rw [e] at b; cases b;rw [d] at d';injection d' with d1 _;have:its=its':=by simpa using congrArg Array.toList d1
 subst this;exact r.inj r'
theorem Inv.tuple_inj (I:Inv X pins σ H s) (h:SqT X.K H a xs) (h':SqT X.K H a ys):xs=ys:=by
 obtain ⟨its,r,⟨o,e,_,n,d⟩,_⟩:=I.tuple h;obtain ⟨its',r',⟨o',b,_,c,d'⟩,_⟩:=I.tuple h';rw [e] at b; cases b;rw [d] at d';injection d' with d1 _;have:its=its':=by simpa using congrArg Array.toList d1
 subst this;exact r.inj r'
end
variable {te:TE} {tc:TT}
section
variable {st:Stmt} {rest:List Stmt} {t u:TS}
def qh6:TS:=λD σ H=>D.nx σ H
def qjH (t u:TS):TS:=λD σ H=>t { D with nx:=u D } σ H
theorem WG:PSs X [] qh6:=⟨λ_ _ σ H _ I h=>k8 ⟨σ,H,I,h⟩⟩
theorem qbz (h1:PS X st t) (h2:PSs X rest u):PSs X (st::rest) (qjH t u):=by
 refine ⟨?_⟩;intro pins s σ H D I h;refine wpAny_execs_cons (thn (h1 pins s σ H { D with nx:=u D } I h) λf s1 q=>?_);cases f with
 | next=>obtain ⟨σ',H',b,q⟩:=q;exact h2 pins s1 σ' H' D b q
 | ret v=>exact q
 | brk=>exact q
 | cont=>exact q
theorem qdY (h1:PS X st t):PSs X [st] t:=by
 refine ⟨?_⟩;intro pins s σ H D I h;refine wpAny_execs_cons (thn (h1 pins s σ H D I h) λf s1 q=>?_);cases f with
 | next=>exact k8 q
 | ret v=>exact q
 | brk=>exact q
 | cont=>exact q
theorem Inv.quiet (I:Inv X pins σ H s):interactive X.env=false:=by simp [interactive,I.ok.kind]
def qh7 (te:TE):TS:=λD σ H=>te σ H λ_ H1=>D.nx σ H1
theorem qdZ (i:PE X e te) (c:swapsWith e iq pos.line X.env=pure false:=by rfl):PS X (.Expr e pos) (qh7 te):=by refine ⟨?_⟩;intro pins s σ H D I h;exact wpAny_Expr_any (thn (i pins s σ H _ I h) λv s1 ⟨x,H1,d,r1,q⟩=>⟨σ,H1,d,q⟩) I.quiet c
def qjI (te:TE):TS:=λD σ H=>te σ H D.rt
theorem qfT (i:PE X e te):PS X (.Return (ip e) pos) (qjI te):=by refine ⟨?_⟩;intro pins s σ H D I h;exact wpAny_Return_some (thn (i pins s σ H _ I h) λv s1 ⟨x,H1,d,r1,q⟩=>⟨x,σ,H1,d,r1,q⟩)
def qjJ (c:TT) (t u:TS):TS:=λD σ H=>c σ H λb H1=>if b=iA then t D σ H1 else u D σ H1
theorem qh8 {a b:List Stmt} (f:PT X c tc) (i:PSs X a t) (g:PSs X b u):PS X (.If c a b pos) (qjJ tc t u):=by
 refine ⟨?_⟩;intro pins s σ H D I h;refine wpAny_If (thn (f pins s σ H _ I h) λd s1 ⟨H1,e,q⟩=>?_);cases d with
 | true=>exact i pins s1 σ H1 D e q
 | false=>exact g pins s1 σ H1 D e q
end
abbrev TG:=V->St->Hp->(St->Hp->Prop)->Prop
abbrev TGs:=List V->St->Hp->(St->Hp->Prop)->Prop
structure PG (X:Cx) (target:Expr) (t:TG):Prop where
 run:∀ (pins:List (Addr×Obj)) (s:iB) (σ:St) (H:Hp) (v:V) (u:iu) (Q:St->Hp->Prop),Inv X pins σ H s->RelV v u->t v σ H Q ->wpAny (model X.prog X.w) X.A (assign target X.env u) (λ_ s'=>∃ σ' H',Inv X pins σ' H' s'/\Q σ' H') X.xe s
instance {X:Cx} {target:Expr} {t:TG}:CoeFun (PG X target t) (λ_=>∀ (pins:List (Addr×Obj)) (s:iB) (σ:St) (H:Hp) (v:V) (u:iu) (Q:St->Hp->Prop),Inv X pins σ H s->RelV v u->t v σ H Q ->wpAny (model X.prog X.w) X.A (assign target X.env u) (λ_ s'=>∃ σ' H',Inv X pins σ' H' s'/\Q σ' H') X.xe s):=⟨λh=>h.run⟩
structure PGs (X:Cx) (ts:List Expr) (t:TGs):Prop where
 run:∀ (pins:List (Addr×Obj)) (s:iB) (σ:St) (H:Hp) (vs:List V) (us:List iu) (Q:St->Hp->Prop),Inv X pins σ H s->Vals vs us->t vs σ H Q ->wpAny (model X.prog X.w) X.A (assignInOrder ((assignEach ts X.env).map (·.2)) us) (λ_ s'=>∃ σ' H',Inv X pins σ' H' s'/\Q σ' H') X.xe s
instance {X:Cx} {ts:List Expr} {t:TGs}:CoeFun (PGs X ts t) (λ_=>∀ (pins:List (Addr×Obj)) (s:iB) (σ:St) (H:Hp) (vs:List V) (us:List iu) (Q:St->Hp->Prop),Inv X pins σ H s->Vals vs us->t vs σ H Q ->wpAny (model X.prog X.w) X.A (assignInOrder ((assignEach ts X.env).map (·.2)) us) (λ_ s'=>∃ σ' H',Inv X pins σ' H' s'/\Q σ' H') X.xe s):=⟨λh=>h.run⟩
abbrev qh9:=V->V->V->Hp->(Hp->Prop)->Prop
def qja (X:Cx) (t:qh9):Prop:=
 ∀ (pins:List (Addr×Obj)) (s:iB) (σ:St) (H:Hp) (o i v:V) (a b u:iu) (Q:Hp->Prop),Inv X pins σ H s->RelV o a->RelV i b->RelV v u->t o i v H Q ->wpAny (model X.prog X.w) X.A (setItem a b u) (λ_ s'=>∃ H',Inv X pins σ H' s'/\Q H') X.xe s
variable {es:List Expr} {tg:Expr}
section
def qfU (i:Nat):TG:=λv σ H Q=>Q (σ.set i (ip v)) H
theorem qd0 (a:X.N.Nodup) (hi:X.N[i]?=ip x) (hx:Loc X.env.scope x) (f:X.fn x=iA\/X.env.scope.names.lookup x=ip .local:=by first | exact .inl rfl | exact .inr rfl | assumption):PG X (.Name x pos) (qfU i):=by refine ⟨?_⟩;intro pins s σ H v u Q I r h;exact wpAny_assign_Name (Jy I a hi hx r (λs' b=>⟨_,H,b,h⟩) f)
def qjK:TGs:=λvs σ H Q=>vs=[]/\Q σ H
def qia (t:TG) (u:TGs):TGs:=λvs σ H Q=>∃ v r,vs=v::r/\t v σ H λσ' H'=>u r σ' H' Q
theorem qd1:PGs X [] qjK:=by refine ⟨?_⟩;intro pins s σ H vs us Q I r h;obtain ⟨e,h⟩:=h;subst e;cases r;exact assignInOrder_nil ⟨σ,H,I,h⟩
theorem qbA {t:TG} {u:TGs} (h1:PG X e t) (h2:PGs X es u)
  (c:(assignEach (e::es) X.env).map (·.2)=assign e X.env::(assignEach es X.env).map (·.2):=by rfl):PGs X (e::es) (qia t u):=by
 refine ⟨?_⟩;intro pins s σ H vs us Q I r h;obtain ⟨v,vr,e1,h⟩:=h;subst e1;cases r with
 | cons r a=>rw [c];refine assignInOrder_cons (thn (h1 pins s σ H _ _ _ I r h) λ_ s1 ⟨σ1,H1,d,q⟩=>?_);exact h2 pins s1 σ1 H1 _ _ Q d a q
def qjL (K:Frag) (n:Nat) (t:TGs):TG:=λv σ H Q=>∃ a xs,v=.ref a/\SqT K H a xs/\xs.length=n/\t xs σ H Q
theorem qfV {k:Nat} {t:TGs} {n:Nat} (g:X.calm=iA) (h:PGs X es t)
  (f:(assignEach es X.env).length=n:=by rfl) (c:(assignEach es X.env).findIdx? (·.1)=none:=by rfl):PG X (.Tuple es k pos) (qjL X.K n t):=by
 refine ⟨?_⟩;intro pins s σ H v u Q I r w;obtain ⟨a,xs,e1,hq,hl,w⟩:=w;subst e1;cases r;obtain ⟨its,d,l,z⟩:=I.tuple hq;refine assign_Tuple_tuple (I.ok.hd g) l (by simp [f,<-hl,d.length]) c λh' hx=>?_;have i:Inv X pins σ H { s with heap:=h' }:=I.kept (t':=s.toks) λb o e=>hx b o (aH (aA e)) e;exact h pins _ σ H xs _ Q i (by simpa using d) w
def qjM (to a:TE) (t:qh9):TG:=λv σ H Q=>to σ H λo H1=>a σ H1 λi H2=>t o i v H2 λb=>Q σ b
theorem qfW {o i:Expr} {to c:TE} {t:qh9} (m:PE X o to) (hi:PE X i c) (f:qja X t)
  (g:∀ v,assign (.Subscript o i pos) X.env v=(do
   let a <-holding [v] (eval o X.env)
   let b <-holding [v,a] (eval i X.env)
   standAt pos
   holding [v,a,b] (setItem a b v)
   release [v,a,b] []):=by intro _; rfl):PG X (.Subscript o i pos) (qjM to c t):=by
 refine ⟨?_⟩;intro pins s σ H v u Q I r h;rw [g];refine ir (iJ (thn (m pins s σ H _ I h) λa s1 ⟨x,H1,l,r1,e⟩=>?_));refine ir (iJ (thn (hi pins s1 σ H1 _ l e) λb s2 ⟨y,H2,k,r2,d⟩=>?_));refine ir (wpAny_standAt (ir (iJ (thn (f pins s2 σ H2 x y v a b u _ k r1 r2 r d) λ_ s3 ⟨n,j,q⟩=>?_))));exact wpAny_release ⟨σ,n,j,q⟩
def qjb (te:TE) (g:TG):TS:=λD σ H=>te σ H λx H1=>g x σ H1 D.nx
theorem qdf {g:TG} (i:PE X e te) (hg:PG X tg g) (c:swapsWithSole [tg] e pos.line X.env=pure false:=by rfl) (w:swappedStores [tg] e X.env=pure none:=by rfl)
  (h1:(assignEach [tg] X.env).map (·.2)=[assign tg X.env]:=by rfl):PS X (.Assign [tg] e pos) (qjb te g):=by
 refine ⟨?_⟩;intro pins s σ H D I h;refine wpAny_Assign_stores (thn (i pins s σ H _ I h) λv s1 ⟨x,H1,d,r1,a⟩=>?_) c w;rw [h1];exact thn (hg pins s1 σ H1 x v _ d r1 a) λ_ s2 q=>q
theorem qdg {pos':Pos} (b:X.N.Nodup) (hi:X.N[i]?=ip x) (hx:Loc X.env.scope x) (a:PE X e te) (c:swapsWith e (ip (.Name x pos')) pos.line X.env=pure false:=by rfl) (f:X.fn x=iA\/X.env.scope.names.lookup x=ip .local:=by first | exact .inl rfl | exact .inr rfl | assumption):PS X (.Assign [.Name x pos'] e pos) (qjb te (qfU i)):=by refine ⟨?_⟩;intro pins s σ H D I h;refine wpAny_Assign_Name (thn (a pins s σ H _ I h) λv s1 ⟨y,H1,d,r1,q⟩=>?_) c;exact Jy d b hi hx r1 (λs2 k=>⟨_,H1,k,q⟩) f
end
variable {tb:TS} {body:List Stmt}
section
def qfX (c:TT) (tb:TS):TS:=λD σ H=>∃ W:Nat->St->Hp->Prop,(∃ m,W m σ H)/\∀ m σ H,W m σ H ->c σ H λb H1=>if b=iA then ∃ N:St->Hp->Prop,(∀ σ' H',N σ' H'->∃ g,g < m/\W g σ' H')/\tb { D with nx:=N,ct:=N,bk:=D.nx } σ H1 else D.nx σ H1
theorem qbB (hp:PassesOwn (model X.prog X.w) X.A X.env X.xe) (t:PT X c tc) (u:PSs X body tb):PS X (.While c body [] pos) (qfX tc tb):=by
 refine ⟨?_⟩;intro pins s σ H D I h;obtain ⟨W,⟨m0,r⟩,turn⟩:=h;refine wpAny_While (codeAny_whileLoop (λn s'=>∃ σ' H',Inv X pins σ' H' s'/\W n σ' H') ?_ m0 ⟨σ,H,I,r⟩);rintro n s1 ⟨σ1,H1,x,p⟩;refine iY hp (thn (t pins s1 σ1 H1 _ x (turn n σ1 H1 p)) λb s2 ⟨H2,o,e⟩=>?_);cases b with
 | true=>
  obtain ⟨N,l,e⟩:=e;rw [if_pos rfl];refine iY hp (thn (u pins s2 σ1 H2 _ o e) λf s3 q=>?_);cases f with
  | next=>obtain ⟨a,d,k,i⟩:=q;obtain ⟨m,j,g⟩:=l a d i;exact ⟨m,j,a,d,k,g⟩
  | cont=>obtain ⟨a,d,k,i⟩:=q;obtain ⟨m,j,g⟩:=l a d i;exact ⟨m,j,a,d,k,g⟩
  | brk=>exact q
  | ret v=>exact q
 | false=>rw [if_neg bz];exact k8 ⟨σ1,H2,o,e⟩
end
structure It where
 go:Nat->Hp->Prop
 yld:Nat->Hp->V->Hp->Prop
 stop:Nat->Hp->Prop
def WC (X:Cx) (pins:List (Addr×Obj)) (H:Hp) (b:Addr):Prop:=
 H b=iq/\b≠X.env.locals/\b∉X.fs/\(b∈X.ex\/X.s₀.heap.objs.size<=b)/\(∀ x c,X.env.cells.lookup x=ip c->c≠b)/\∀ p∈X.pn++pins,p.1≠b
theorem Inv.fpOk (I:Inv X pins σ H s) (d:s.heap.objs.size<=b) (n:H' b=iq):WC X pins H' b:=by
 refine ⟨n,cT (aI I.lt d),I.nofs d,.inr (bg I.sz d),λx c e z=>?_,λp hp z=>?_⟩;·obtain ⟨v,q⟩:=I.cell x c e;exact absurd (aI q.lt (by rw [z]; exact d)) (cK _)
 ·exact absurd (aI (aA (I.pin p hp).1) (by rw [z]; exact d)) (cK _)
structure Turn (P:iE) (w:iF) (K:Frag) (tg:Expr) (J:It) (fp:List Addr) (it:Addr) (tn:Nat->Heap->Prop):Prop where
 mem:it∈fp
 obj:∀ i h,tn i h->∀ b∈fp,∃ o,h.get? b=ip o/\∀ v,o.data≠.cell v
 keep:∀ i h h',tn i h->(∀ b∈fp,∀ o,h.get? b=ip o->h'.get? b=ip o)->tn i h'
 item:∀ (X:Cx),X.prog=P->X.w=w->X.K=K->X.calm=iA->∀ (i:Nat) (pins:List (Addr×Obj)) (s:iB) (σ:St) (H:Hp) (E:iu->iB->Prop),Inv X pins σ H s->(∀ b∈fp,WC X pins H b)->tn i s.heap->J.go i H ->wpAny (model P w) X.A (pyNext (.ref it)) (λr s1=>∃ u,r=ip u /\
   wpAny (model P w) X.A (letOwnedTupleGo tg (.ref it) u) (λ_ s2=>∃ x H',Inv X pins σ H' s2/\RelV x u/\J.yld i H x H'/\tn (i+1) s2.heap/\∀ b∈fp,H' b=iq) E s1) E s
 done:∀ (X:Cx),X.prog=P->X.w=w->X.K=K->X.calm=iA->∀ (i:Nat) (pins:List (Addr×Obj)) (s:iB) (σ:St) (H:Hp) (E:iu->iB->Prop),Inv X pins σ H s->(∀ b∈fp,WC X pins H b)->tn i s.heap->J.stop i H ->wpAny (model P w) X.A (pyNext (.ref it)) (λr s1=>r=iq/\Inv X pins σ H s1) E s
 self:∀ (A:iH) (i:Nat) (s:iB) (Q:iu->iB->Prop) (E:iu->iB->Prop),tn i s.heap->Q (.ref it) s->wpAny (model P w) A (pyIter (.ref it)) Q E s
abbrev TI:=St->Hp->(It->Hp->Prop)->Prop
def PIE (X:Cx) (pins:List (Addr×Obj)) (σ:St) (tg:Expr) (R:It->Hp->Prop) (i:iu) (s2:iB):Prop:=
 ∃ (it:Addr) (fp:List Addr) (tn:Nat->Heap->Prop) (J:It) (H':Hp),i=.ref it/\Inv X pins σ H' s2/\Turn X.prog X.w X.K tg J fp it tn/\tn 0 s2.heap/\(∀ b∈fp,WC X pins H' b)/\R J H'
structure PI (X:Cx) (tg iter:Expr) (wi:TI):Prop where
 run:∀ (pins:List (Addr×Obj)) (s:iB) (σ:St) (H:Hp) (R:It->Hp->Prop),Inv X pins σ H s->wi σ H R ->wpAny (model X.prog X.w) X.A (eval iter X.env) (λv s1=>wpAny (model X.prog X.w) X.A (pyIter v) (PIE X pins σ tg R) X.xe s1) X.xe s
instance {X:Cx} {tg iter:Expr} {wi:TI}:CoeFun (PI X tg iter wi) (λ_=>∀ (pins:List (Addr×Obj)) (s:iB) (σ:St) (H:Hp) (R:It->Hp->Prop),Inv X pins σ H s->wi σ H R ->wpAny (model X.prog X.w) X.A (eval iter X.env) (λv s1=>wpAny (model X.prog X.w) X.A (pyIter v) (PIE X pins σ tg R) X.xe s1) X.xe s):=⟨λh=>h.run⟩
theorem ZQ {M:Model} {A:iH} {E:iu->iB->Prop} {tg:Expr} {u:iu} {o:Obj} {n:String} {vs:Array iu} {Q:Unit->iB->Prop} (m:s.heap.get? it=ip o) (d:o.cls=.type n) (hd:o.data=.fields vs)
    (a:["enumerate", "zip", "dict_itemiterator", "dict_reverseitemiterator", "odict_iterator", "itertools.zip_longest", "itertools.pairwise"].contains n=iw) (c:Q () s):wpAny M A (letOwnedTupleGo tg (.ref it) u) Q E s:=by
  unfold letOwnedTupleGo;cases tg <;> first
    | exact iC c
    | (cases u <;> first
        | exact iC c
        | (refine ir (wpAny_load m ?_)
           rw [d,hd];show wpAny M A (if (["enumerate", "zip", "dict_itemiterator", "dict_reverseitemiterator", "odict_iterator", "itertools.zip_longest", "itertools.pairwise"].contains n&&vs[0]? == ip (rawInt _))=iA then _ else _) Q E s;rw [if_neg (by intro h; rw [a,Bool.false_and] at h; cases h)];exact iC c))
noncomputable def Itl (K:Frag) (a:Addr):It:=
 ⟨λi H=>∃ xs x,SqL K H a xs/\xs[i]?=ip x,λi H x H'=>H'=H/\∀ xs,SqL K H a xs->xs[i]?=ip x,λi H=>∃ xs,SqL K H a xs/\xs.length<=i⟩
noncomputable def Itt (K:Frag) (a:Addr):It:=
 ⟨λi H=>∃ xs x,SqT K H a xs/\xs[i]?=ip x,λi H x H'=>H'=H/\∀ xs,SqT K H a xs->xs[i]?=ip x,λi H=>∃ xs,SqT K H a xs/\xs.length<=i⟩
noncomputable def Itr (lo:Int) (n:Nat):It:=⟨λi _=>i < n,λi H x H'=>H'=H/\x=.int (lo+i),λi _=>n<=i⟩
theorem ZR (a it:Addr):Turn P w K tg (Itl K a) [it] it (λi h=>h.IsListIter it a i) where
 mem:=by simp
 obj:=λi h st b f=>by
  have e:b=it:=by simpa using f
  subst e;obtain ⟨o,e,c,d⟩:=st;exact ⟨o,e,λv z=>by rw [d] at z; cases z⟩
 keep:=λi h h' st k=>st.at λo e=>k it (by simp) o e
 item:=by intro X m l n y i pins s σ H E I j st hg;subst m l n;obtain ⟨xs,x,hq,hx⟩:=hg;obtain ⟨its,r,p,C⟩:=I.list hq;obtain ⟨u,G,B⟩:=r.get hx;obtain ⟨f0,f1,f2,t,f4,q⟩:=j it (by simp);refine wpAny_pyNext_list_item st p.isList (x:=u) (by simpa using G) λh' g A=>?_;have L:Inv X pins σ H { s with heap:=h' }:=I.turned (t':=s.toks) (λb o f e=>(A.2 b f).trans e) f0 f1 t f4 q;obtain ⟨o,e,c,d⟩:=id g;exact ⟨u,rfl,ZQ (s:={ s with heap:=h' }) e c d (by decide) ⟨x,H,L,B,⟨rfl,λys D=>by rw [I.list_inj D hq]; exact hx⟩,g,λb f=>(j b f).1⟩⟩
 done:=by intro X m l n y i pins s σ H E I j st hg;subst m l n;obtain ⟨xs,hq,hx⟩:=hg;obtain ⟨its,r,p,C⟩:=I.list hq;obtain ⟨f0,f1,f2,t,f4,q⟩:=j it (by simp);have hl:=r.length;exact wpAny_pyNext_list_end (I.ok.hd y) st p.isList (by simp; omega) λh' J=>⟨rfl,I.turned (t':=s.toks) (λb o f e=>J b o f e) f0 f1 t f4 q⟩
 self:=λ_ _ _ _ _ st h=>wpAny_pyIter_listiter st h
theorem XQ (a it:Addr):Turn P w K tg (Itt K a) [it] it (λi h=>h.IsTupleIter it a i) where
 mem:=by simp
 obj:=λi h st b f=>by
  have e:b=it:=by simpa using f
  subst e;obtain ⟨o,e,c,d⟩:=st;exact ⟨o,e,λv z=>by rw [d] at z; cases z⟩
 keep:=λi h h' st k=>st.at λo e=>k it (by simp) o e
 item:=by intro X m l n y i pins s σ H E I j st hg;subst m l n;obtain ⟨xs,x,hq,hx⟩:=hg;obtain ⟨its,r,p,C⟩:=I.tuple hq;obtain ⟨u,G,B⟩:=r.get hx;obtain ⟨f0,f1,f2,t,f4,q⟩:=j it (by simp);refine wpAny_pyNext_tuple_item st (show s.heap.IsTuple a its.toArray from p) (x:=u) (by simpa using G) λh' g A=>?_;have L:Inv X pins σ H { s with heap:=h' }:=I.turned (t':=s.toks) (λb o f e=>(A.2 b f).trans e) f0 f1 t f4 q;obtain ⟨o,e,c,d⟩:=id g;exact ⟨u,rfl,ZQ (s:={ s with heap:=h' }) e c d (by decide) ⟨x,H,L,B,⟨rfl,λys D=>by rw [I.tuple_inj D hq]; exact hx⟩,g,λb f=>(j b f).1⟩⟩
 done:=by intro X m l n y i pins s σ H E I j st hg;subst m l n;obtain ⟨xs,hq,hx⟩:=hg;obtain ⟨its,r,p,C⟩:=I.tuple hq;obtain ⟨f0,f1,f2,t,f4,q⟩:=j it (by simp);have hl:=r.length;exact wpAny_pyNext_tuple_end (I.ok.hd y) st (show s.heap.IsTuple a its.toArray from p) (by simp; omega) λh' J=>⟨rfl,I.turned (t':=s.toks) (λb o f e=>J b o f e) f0 f1 t f4 q⟩
 self:=λ_ _ _ _ _ st h=>wpAny_pyIter_tupleiter st h
theorem XR (it:Addr) (lo:Int) (n:Nat):Turn P w K tg (Itr lo n) [it] it (λi h=>IsRangeIter h it (lo+(i:Nat) * 1) ((n:Int) - (i:Nat)) 1) where
 mem:=by simp
 obj:=λi h st b d=>by
  have e:b=it:=by simpa using d
  subst e;exact ⟨_,st,λv z=>by have p:Data.fields _=Data.cell v:=z;cases p⟩
 keep:=λi h h' st k=>k it (by simp) _ st
 item:=by intro X m a j c i pins s σ H E I f st hg;subst m a j;obtain ⟨f0,f1,f2,l,f4,q⟩:=f it (by simp);have W:=Walks.range (prog:=X.prog) (w:=X.w) (I.ok.hd c) it lo 1 n;refine W.item i s _ _ hg st λv h' tk u g r=>?_;obtain ⟨t,rfl⟩:=u;have x:Inv X pins σ H { s with heap:=h',toks:=tk }:=I.turned (λb o d e=>r b o (by simpa using d) e) f0 f1 l f4 q;refine ⟨_,rfl,ZQ (s:={ s with heap:=h',toks:=tk }) (n := "range_iterator") g rfl rfl (by decide) ⟨.int (lo+i),H,x,⟨t,?_⟩,⟨rfl,rfl⟩,g,λb d=>(f b d).1⟩⟩;rw [Int.mul_one]
 done:=by intro X m a j c i pins s σ H E I f st hg;subst m a j;obtain ⟨f0,f1,f2,l,f4,q⟩:=f it (by simp);exact wpAny_pyNext_range_end (I.ok.hd c) st (by have:n<=i:=hg; omega) λh' J=>⟨rfl,I.turned (t':=s.toks) (λb o d e=>J b o d e) f0 f1 l f4 q⟩
 self:=λ_ _ _ _ _ st h=>wpAny_pyIter_rangeiter st h
variable {p:Pos} {fp:List Addr}
section
theorem qbC {R:It->Hp->Prop} {E:iu->iB->Prop} {lo hi:Int} {t u v:Tok} {tk:Nat} (I:Inv X pins σ H s) (h1:-(2 ^ 62)<=lo) (h2:lo < 2 ^ 62) (j:-(2 ^ 62)<=hi) (a:hi < 2 ^ 62)
  (q:R (Itr lo (hi - lo).toNat) H):wpAny (model X.prog X.w) X.A (pyIter (.ref s.heap.objs.size)) (PIE X pins σ tg R) E { s with heap:=s.heap.push { cls:=.type "range",data:=.fields #[.int lo t,.int hi u,.int 1 v] },toks:=tk }:=by
 refine wpAny_pyIter_range (IsRange.new ..) (small_one h1 h2 j a) ?_;have d:Inv X pins σ H { s with heap:=s.heap.push { cls:=.type "range",data:=.fields #[.int lo t,.int hi u,.int 1 v] },toks:=tk }:=I.kept λb o e=>ae _ e;refine ⟨(s.heap.push { cls:=.type "range",data:=.fields #[.int lo t,.int hi u,.int 1 v] }).objs.size,[(s.heap.push { cls:=.type "range",data:=.fields #[.int lo t,.int hi u,.int 1 v] }).objs.size],_,_,H,rfl,d.kept (t':=tk) λb o e=>ae _ e,XR _ lo (hi - lo).toNat,?_,λb h=>?_,q⟩
 ·have e1:lo+((0:Nat):Int) * 1=lo:=by simp
  have i:(((hi - lo).toNat:Nat):Int) - ((0:Nat):Int)=Builtin.Range.rangeSize lo hi 1:=by rw [rangeSize_one]; split <;> omega
  show IsRangeIter _ _ (lo+((0:Nat):Int) * 1) ((((hi - lo).toNat:Nat):Int) - ((0:Nat):Int)) 1;rw [e1,i];exact aq _ rfl
 ·have e:b=(s.heap.push { cls:=.type "range",data:=.fields #[.int lo t,.int hi u,.int 1 v] }).objs.size:=by simpa using h
  subst e;exact d.fpOk (aD _) (d.hok.fresh (aD _))
def qib (ta:TA):TI:=λσ H R=>ta σ H λvs H1=>∃ j:Int,vs=[.int j]/\-(2 ^ 62)<=j/\j < 2 ^ 62/\R (Itr 0 j.toNat) H1
theorem ZS {a:Expr} {ta:TA} (hg:Gl X "range") (m:X.mg "range"=iq) (g:PA X [a] ta) (f:starEach [a] X.env=[(iw,eval a X.env)]:=by rfl):PI X tg (.Call (.Name "range" p) [a] [] pos) (qib ta):=by
 refine ⟨?_⟩;intro pins s σ H R I h;refine Call_ (zv I hg m boot_range (bC (thn (g pos pins s σ H _ I h) λus s1 ⟨vs,H1,i,r1,b⟩=>?_) f rfl));obtain ⟨j,e,b,d,q⟩:=b;subst e;cases r1 with
 | cons r c=>cases c;obtain ⟨t,rfl⟩:=r;exact call_range_1 (qbC i (by omega) (by omega) b d (by simpa using q))
def qjN (wi:TI) (g:TG) (tb:TS):TS:=λD σ H=>wi σ H λJ H1=>∃ W:Nat->Nat->St->Hp->Prop,(∃ m,W 0 m σ H1)/\∀ i m σ H,W i m σ H ->(J.stop i H/\D.nx σ H)\/(J.go i H/\∃ N:St->Hp->Prop,(∀ σ' H',N σ' H'->∃ b,b < m/\W (i+1) b σ' H')/\∀ x H',J.yld i H x H'->g x σ H' λa H2=>tb { D with nx:=N,ct:=N,bk:=D.nx } a H2)
noncomputable def Vh (fp:List Addr) (h:Heap):List (Addr×Obj):=fp.filterMap λb=>(h.get? b).map λo=>(b,o)
theorem ye {o:Obj} (d:b∈fp) (e:h.get? b=ip o):(b,o)∈Vh fp h:=dh.mpr ⟨b,d,by rw [e]; rfl⟩
theorem ZT {p:Addr×Obj} (hp:p∈Vh fp h):p.1∈fp/\h.get? p.1=ip p.2:=by
 obtain ⟨b,d,e⟩:=dh.mp hp;cases q:h.get? b with
 | none=>rw [q] at e; cases e
 | some o=>rw [q] at e;have a:(b,o)=p:=aO.inj e;subst a;exact ⟨d,q⟩
theorem Inv.pinned (I:Inv X pins σ H s) (f:∀ b∈fp,WC X pins H b) (m:∀ b∈fp,∃ o,s.heap.get? b=ip o/\∀ v,o.data≠.cell v):Inv X (pins++Vh fp s.heap) σ H s:=
 I.pins_of λp hp=>(aj.mp hp).elim (λz=>I.pin p (aQ _ z)) λz=>by obtain ⟨h,e⟩:=ZT z;obtain ⟨f0,f1,f2,_⟩:=f p.1 h;obtain ⟨o,a,d⟩:=m p.1 h;rw [e] at a; cases a;exact ⟨e,f0,f1,f2,d⟩
theorem Inv.unpinned {pl:List (Addr×Obj)} (I:Inv X (pins++pl) σ H s):Inv X pins σ H s:=I.pins_of λp hp=>I.pin p (aQ _ (bW _ hp))
theorem qfY {iter:Expr} {wi:TI} {g:TG} {pos:Pos} (hp:PassesOwn (model X.prog X.w) X.A X.env X.xe) (Q:X.calm=iA) (hi:PI X tg iter wi) (hg:PG X tg g) (j:PSs X body tb)
  (hs:∀ x,foldedSetIterable iter X.env x=pure x:=by intro _; rfl):PS X (.For tg iter body [] pos) (qjN wi g tb):=by
 refine ⟨?_⟩;intro pins s σ H D I h;refine wpAny_For (thn (hi pins s σ H _ I h) λv s1 h1=>thn h1 λitv s2 h2=>?_) hs;obtain ⟨it,fp,tn,J,H2,e,I2,T,K,f2,W,⟨m0,F⟩,turn⟩:=h2;subst e;have t:∀ {H':Hp},(∀ b∈fp,H' b=iq)->∀ b∈fp,WC X pins H' b:=λhn b j=>⟨hn b j,(f2 b j).2⟩
 refine codeAny_forLoop_any (λn s'=>∃ i σ' H',Inv X pins σ' H' s'/\tn i s'.heap/\(∀ b∈fp,H' b=iq)/\W i n σ' H') ?_ m0 ⟨0,σ,H2,I2,K,λb j=>(f2 b j).1,F⟩;rintro n s3 ⟨i,c,E,R,z,C,Z⟩;rcases turn i n c E Z with ⟨stop,qn⟩ | ⟨go,N,hN,step⟩
 ·refine iY hp (thn (T.done X rfl rfl rfl Q i pins s3 c E X.xe R (t C) z stop) λr s4 ⟨M,I4⟩=>?_);subst M;exact k8 ⟨c,E,I4,qn⟩
 ·refine iY hp (thn (T.item X rfl rfl rfl Q i pins s3 c E X.xe R (t C) z go) λr s4 ⟨u,M,h4⟩=>?_);subst M;refine iY hp (thn h4 λ_ s5 ⟨x,S,I5,r5,U,y,O⟩=>?_);have P:=I5.pinned (t O) (T.obj _ _ y);refine iY hp (thn (hg _ s5 c S x u _ P r5 (step x S U)) λ_ s6 ⟨G,H6,I6,q6⟩=>?_);refine iY hp (thn (j _ s6 G H6 _ I6 q6) λf L q=>?_);have k:∀ {a:St} {p:Hp},Inv X (pins++Vh fp s5.heap) a p L->N a p->∃ m,m < n/\∃ i σ' H',Inv X pins σ' H' L/\tn i L.heap/\(∀ b∈fp,H' b=iq)/\W i m σ' H':=λ{a p} l B=>by obtain ⟨m',hm,Y⟩:=hN a p B;refine ⟨m',hm,i+1,a,p,l.unpinned,T.keep _ _ _ y λb j o e=>(l.pin (b,o) (aQ _ (aQ _ (ye j e)))).1,λb j=>?_,Y⟩;obtain ⟨o,e,d⟩:=T.obj _ _ y b j;exact (l.pin (b,o) (aQ _ (aQ _ (ye j e)))).2.1
  cases f with
  | next=>obtain ⟨a,p,l,B⟩:=q; exact k l B
  | cont=>obtain ⟨a,p,l,B⟩:=q; exact k l B
  | brk=>obtain ⟨a,p,l,q⟩:=q; exact ⟨a,p,l.unpinned,q⟩
  | ret v=>obtain ⟨V,a,p,l,r7,q⟩:=q; exact ⟨V,a,p,l.unpinned,r7,q⟩
end
abbrev R2:=V->V->Hp->VK->Prop
def OpR (X:Cx) (f:iu->iu->Sem iu) (r:R2):Prop:=
 ∀ (pins:List (Addr×Obj)) (s:iB) (σ:St) (H:Hp) (x y:V) (v u:iu) (Q:VK),Inv X pins σ H s->RelV x v->RelV y u->r x y H Q ->wpAny (model X.prog X.w) X.A (f v u) (EP X pins σ Q) X.xe s
def UnR (X:Cx) (f:iu->Sem iu) (r:V->Hp->VK->Prop):Prop:=
 ∀ (pins:List (Addr×Obj)) (s:iB) (σ:St) (H:Hp) (x:V) (v:iu) (Q:VK),Inv X pins σ H s->RelV x v->r x H Q ->wpAny (model X.prog X.w) X.A (f v) (EP X pins σ Q) X.xe s
def uz (X:Cx) (f:iu) (r:List V->Hp->VK->Prop):Prop:=
 ∀ (pins:List (Addr×Obj)) (s:iB) (σ:St) (H:Hp) (xs:List V) (us:List iu) (Q:VK),Inv X pins σ H s->Vals xs us->r xs H Q ->wpAny (model X.prog X.w) X.A (call f us) (EP X pins σ Q) X.xe s
def qjO (X:Cx) (r:V->Hp->(Bool->Hp->Prop)->Prop):Prop:=
 ∀ (pins:List (Addr×Obj)) (s:iB) (σ:St) (H:Hp) (x:V) (v:iu) (Q:Bool->Hp->Prop),Inv X pins σ H s->RelV x v->r x H Q ->wpAny (model X.prog X.w) X.A (truthy v) (TP X pins σ Q) X.xe s
def tOp (r:R2) (ta tb:TE):TE:=λσ H Q=>ta σ H λx H1=>tb σ H1 λy H2=>r x y H2 Q
def tUn (r:V->Hp->VK->Prop) (ta:TE):TE:=λσ H Q=>ta σ H λx H1=>r x H1 Q
def rI (C:Int->Int->Prop) (g:Int->Int->V):R2:=λx y H Q=>∃ i j,x=.int i/\y=.int j/\C i j/\Q (g i j) H
def rI0 (g:Int->Int->V):R2:=λx y H Q=>∃ i j,x=.int i/\y=.int j/\Q (g i j) H
def rU (g:Int->V):V->Hp->VK->Prop:=λx H Q=>∃ i,x=.int i/\Q (g i) H
variable {r:R2}
section
variable {a b:Expr} {tb tc:TE}
theorem qic (j:PE X a ta) (i:PE X b tb) {R:V->V->Hp->Prop} (I:Inv X pins σ H s)
  (h:ta σ H λx H1=>tb σ H1 λy H2=>R x y H2) {Q:iu->iB->Prop} {f:iu->iu->Sem iu}
  (g:∀ v u s2 x y H2,Inv X pins σ H2 s2->RelV x v->RelV y u->R x y H2->wpAny (model X.prog X.w) X.A (f v u) Q X.xe s2) :
  wpAny (model X.prog X.w) X.A (eval a X.env) (λv d=>wpAny (model X.prog X.w) X.A (eval b X.env) (λu c=>wpAny (model X.prog X.w) X.A (f v u) Q X.xe c) X.xe d) X.xe s:=by
 refine thn (j pins s σ H _ I h) λv s1 ⟨x,H1,l,r1,e⟩=>?_;refine thn (i pins s1 σ H1 _ l e) λu s2 ⟨y,H2,k,r2,q⟩=>?_;exact g v u s2 x y H2 k r1 r2 q
theorem qid {op:Operator} (m:OpR X (binaryOp op) r) (g:PE X a ta) (e:PE X b tb):PE X (.BinOp a op b pos) (tOp r ta tb):=by refine ⟨?_⟩;intro pins s σ H Q I h;exact wpAny_BinOp (qic g e I h λv u s2 x y H2 k d c q=>m pins s2 σ H2 x y v u Q k d c q)
theorem qie {op:UnaryOp} {r:V->Hp->VK->Prop} (m:UnR X (unaryOp op) r) (g:PE X a ta):PE X (.UnaryOp op a pos) (tUn r ta):=by refine ⟨?_⟩;intro pins s σ H Q I h;exact UnaryOp_ (thn (g pins s σ H _ I h) λv s1 ⟨x,H1,d,r1,q⟩=>m pins s1 σ H1 x v Q d r1 q)
theorem opI {f:iu->iu->Sem iu} {C:Int->Int->Prop} {g:Int->Int->Int}
  (r:∀ (i j:Int) (t u:Tok) (s:iB) (Q:iu->iB->Prop) (E:iu->iB->Prop),C i j->Q (.int (g i j) s.toks) { s with toks:=s.toks+1 }->wpAny (model X.prog X.w) X.A (f (.int i t) (.int j u)) Q E s) :
  OpR X f (rI C λi j=>.int (g i j)):=by
 intro pins s σ H x y v u Q I d c h;obtain ⟨i,j,rfl,rfl,a,q⟩:=h;obtain ⟨t,rfl⟩:=d;obtain ⟨t',rfl⟩:=c;exact r i j t t' s _ _ a ⟨.int (g i j),H,I.tok _,⟨_,rfl⟩,q⟩
theorem qjc {f:iu->iu->Sem iu} {g:Int->Int->Int}
  (r:∀ (i j:Int) (t u:Tok) (s:iB) (Q:iu->iB->Prop) (E:iu->iB->Prop),Q (.int (g i j) s.toks) { s with toks:=s.toks+1 }->wpAny (model X.prog X.w) X.A (f (.int i t) (.int j u)) Q E s) :
  OpR X f (rI0 λi j=>.int (g i j)):=by
 intro pins s σ H x y v u Q I d c h;obtain ⟨i,j,rfl,rfl,q⟩:=h;obtain ⟨t,rfl⟩:=d;obtain ⟨t',rfl⟩:=c;exact r i j t t' s _ _ ⟨.int (g i j),H,I.tok _,⟨_,rfl⟩,q⟩
theorem qhJ {f:iu->iu->Sem iu} {g:Int->Int->Bool}
  (r:∀ (i j:Int) (t u:Tok) (s:iB) (Q:iu->iB->Prop) (E:iu->iB->Prop),Q (.bool (g i j)) s->wpAny (model X.prog X.w) X.A (f (.int i t) (.int j u)) Q E s) :
  OpR X f (rI0 λi j=>.bl (g i j)):=by
 intro pins s σ H x y v u Q I d c h;obtain ⟨i,j,rfl,rfl,q⟩:=h;obtain ⟨t,rfl⟩:=d;obtain ⟨t',rfl⟩:=c;exact r i j t t' s _ _ ⟨.bl (g i j),H,I,rfl,q⟩
def qd2 (i j:Int):Prop:=0 < j/\j < 1073741824
def qfA (i j:Int):Prop:=0<=j/\j<=1000000/\i.natAbs < 2 ^ 64
def CMul (i j:Int):Prop:=(-(2 ^ 64) < i/\i < 2 ^ 64)\/(-(2 ^ 64) < j/\j < 2 ^ 64)
theorem CMul.ok {i j:Int} (h:CMul i j):IntMulOk i j:=by
 rcases h with ⟨h1,h2⟩ | ⟨h1,h2⟩
 ·exact .of_left (intBits_le_64 h1 h2)
 ·exact .of_right (intBits_le_64 h1 h2)
theorem qfZ:OpR X (binaryOp .Add) (rI0 λi j=>.int (i+j)):=qjc λ_ _ _ _ _ _ _ q=>add_int q
theorem qf0:OpR X (binaryOp .Sub) (rI0 λi j=>.int (i - j)):=qjc λ_ _ _ _ _ _ _ q=>sub_int q
theorem qf1:OpR X (binaryOp .Mult) (rI CMul λi j=>.int (i * j)):=opI λ_ _ _ _ _ _ _ d q=>mul_int q d.ok
theorem qd3:OpR X (binaryOp .FloorDiv) (rI qd2 λi j=>.int (i / j)):=opI λi j _ _ _ _ _ d q=>by have h1:(0:Int) < j:=d.1;have h2:j < 1073741824:=d.2;exact floordiv_int (by omega) (by rw [Int.fdiv_eq_ediv_of_nonneg i (by omega)]; exact q) (.inl (PyProof.noPylong_small (by omega)))
theorem qf2:OpR X (binaryOp .Mod) (rI (λ_ j=>0 < j) λi j=>.int (i % j)):=opI λi j _ _ _ _ _ d q=>by have h1:(0:Int) < j:=d;exact mod_int' (by omega) (by rw [Int.fmod_eq_emod_of_nonneg i (by omega)]; exact q)
theorem qdh:OpR X (binaryOp .Pow) (rI qfA λi j=>.int (i ^ j.toNat)):=opI λ_ _ _ _ _ _ _ d q=>pow_int_small d.1 d.2.1 d.2.2 q
theorem unI {f:iu->Sem iu} {g:Int->Int}
  (r:∀ (i:Int) (t:Tok) (s:iB) (Q:iu->iB->Prop) (E:iu->iB->Prop),Q (.int (g i) s.toks) { s with toks:=s.toks+1 }->wpAny (model X.prog X.w) X.A (f (.int i t)) Q E s) :
  UnR X f (rU λi=>.int (g i)):=by
 intro pins s σ H x v Q I d h;obtain ⟨i,rfl,q⟩:=h;obtain ⟨t,rfl⟩:=d;exact r i t s _ _ ⟨.int (g i),H,I.tok _,⟨_,rfl⟩,q⟩
theorem qf3:UnR X (unaryOp .USub) (rU λi=>.int (-i)):=unI λ_ _ _ _ _ q=>neg_int q
end
variable {op op':CmpOp} {r':R2}
section
variable {a b:Expr} {tb tc:TE}
theorem ZU {Q:VK} {k k':Bool} (I:Inv X pins σ H s) (q:Q (.bl k) H) (e:k=k'):EP X pins σ Q (.bool k') s:=by subst e;exact ⟨.bl k,H,I,rfl,q⟩
theorem qif:OpR X (compareOp .Lt) (rI0 λi j=>.bl (decide (i < j))):=qhJ λ_ _ _ _ _ _ _ q=>lt_int q
theorem qig:OpR X (compareOp .LtE) (rI0 λi j=>.bl (decide (i<=j))):=qhJ λ_ _ _ _ _ _ _ q=>le_int q
theorem qih:OpR X (compareOp .Gt) (rI0 λi j=>.bl (decide (j < i))):=qhJ λ_ _ _ _ _ _ _ q=>gt_int q
theorem qii:OpR X (compareOp .GtE) (rI0 λi j=>.bl (decide (j<=i))):=qhJ λ_ _ _ _ _ _ _ q=>ge_int q
theorem ZV:OpR X (compareOp .Lt) (λx y H Q=>∃ i j,x=.str i/\y=.str j/\Q (.bl (decide (i.cps.toList < j.cps.toList))) H):=by intro pins s σ H x y v u Q I d c h;obtain ⟨i,j,rfl,rfl,q⟩:=h;obtain ⟨t,rfl⟩:=d;obtain ⟨t',rfl⟩:=c;exact lt_str (ZU I q rfl)
theorem qd4:OpR X (compareOp .IsNot) (λx y H Q=>y=.non/\Q (.bl (!decide (x=.non))) H):=by
 intro pins s σ H x y v u Q I d c h;obtain ⟨rfl,q⟩:=h;cases c;refine isnot_none_gen (ZU I q ?_);cases x <;> first
  | (cases d; rfl)
  | (obtain ⟨t,rfl⟩:=d; rfl)
theorem qdi (b:Expr) (h:op≠.In:=by decide) (h2:op≠.NotIn:=by decide):behindInMarks op b=false:=by
 have e1:(op == CmpOp.In)=false:=by cases op <;> first | rfl | exact absurd rfl h
 have i:(op == CmpOp.NotIn)=false:=by cases op <;> first | rfl | exact absurd rfl h2
 cases b <;> simp [behindInMarks,e1,i]
theorem qd5 (m:OpR X (compareOp op) r) (g:PE X a ta) (f:PE X b tb) (e:behindInMarks op b=iw):PE X (.Compare a [op] [b] pos) (tOp r ta tb):=by refine ⟨?_⟩;intro pins s σ H Q I h;exact wpAny_Compare1 (qic g f I h λv u s2 x y H2 k d c q=>m pins s2 σ H2 x y v u Q k d c q) e
def qf4 (t:TE):TT:=λσ H Q=>t σ H λx H'=>∃ k,x=.bl k/\Q k H'
theorem qd6 (m:OpR X (compareOp op) r) (j:PE X a ta) (i:PE X b tb) (g:behindInMarks op b=iw):PT X (.Compare a [op] [b] pos) (qf4 (tOp r ta tb)):=by
 refine ⟨?_⟩;intro pins s σ H Q I h;refine wpAny_isTrue_Compare1 (thn (j pins s σ H _ I h) λv s1 ⟨x,H1,o,r1,f⟩=>thn (i pins s1 σ H1 _ o f) λu s2 ⟨y,H2,n,r2,d⟩=>
  thn (m pins s2 σ H2 x y v u _ n r1 r2 d) λc s3 ⟨z,p,l,r3,k,e,q⟩=>?_) g
 subst e;cases r3;exact iS ⟨p,l,q⟩
def ZW (r r':R2) (ta tb tc:TE):TE:=λσ H Q=>ta σ H λx H1=>tb σ H1 λy H2=>r x y H2 λz b=>∃ k,z=.bl k /\
 (if k=iA then tc σ b λT a=>r' y T a Q else Q (.bl iw) b)
theorem qbD (o:OpR X (compareOp op) r) (f:OpR X (compareOp op') r') (A:PE X a ta) (w:PE X b tb) (t:PE X c tc)
  (n:lastMarks [op,op'] [b,c]=false:=by with_unfolding_all rfl):PE X (.Compare a [op,op'] [b,c] pos) (ZW r r' ta tb tc):=by
 refine ⟨?_⟩;intro pins s σ H Q I h;refine Compare_chain (thn (A pins s σ H _ I h) λv s1 ⟨x,H1,D,r1,m⟩=>chain_link (thn (w pins s1 σ H1 _ D m) λu s2 ⟨y,H2,C,r2,l⟩=>
  thn (o pins s2 σ H2 x y v u _ C r1 r2 l) λd s3 ⟨z,g,j,r3,k,e,q⟩=>?_)) n
 subst e;cases r3;refine iS ?_;cases k with
 | false=>exact ite_ff ⟨.bl iw,g,j,rfl,q⟩
 | true=>exact ite_tt (chain_last (thn (t pins s3 σ g _ j q) λT s4 ⟨p,E,B,r4,i⟩=>f pins s4 σ E y p u T Q B r2 r4 i))
theorem qbE (t:OpR X (compareOp op) r) (f:OpR X (compareOp op') r') (C:PE X a ta) (B:PE X b tb) (A:PE X c tc)
  (w:lastMarks [op,op'] [b,c]=false:=by with_unfolding_all rfl):PT X (.Compare a [op,op'] [b,c] pos) (qf4 (ZW r r' ta tb tc)):=by
 refine ⟨?_⟩;intro pins s σ H Q I h;refine isTrue_chain (thn (C pins s σ H _ I h) λv s1 ⟨x,H1,L,r1,n⟩=>test_link (thn (B pins s1 σ H1 _ L n) λu s2 ⟨y,H2,K,r2,m⟩=>
  thn (t pins s2 σ H2 x y v u _ K r1 r2 m) λd s3 ⟨z,g,j,r3,k,e,q⟩=>?_)) w
 subst e;cases r3;refine iS ?_;cases k with
 | false=>obtain ⟨k',E,o⟩:=q;cases E;exact ite_ff ⟨g,j,o⟩
 | true=>refine ite_tt (test_last (thn (A pins s3 σ g _ j q) λT s4 ⟨p,M,J,r4,l⟩=>thn (f pins s4 σ M y p u T _ J r2 r4 l) λd' s5 ⟨N,S,G,r5,k2,D,i⟩=>?_));subst D;cases r5;exact iS ⟨S,G,i⟩
def qij (K:Frag) (x:V) (H:Hp) (k:Bool):Prop:=
 match x with
 | .non=>k=iw
 | .bl b=>k=b
 | .int i=>k=(i != 0)
 | .str y=>y.length<=sizeLine/\k=((y.length:Int) != 0)
 | .byt y=>y.size<=sizeLine/\k=((y.size:Int) != 0)
 | .ref p=>(∃ xs,SqL K H p xs/\k=!xs.isEmpty)\/(∃ xs,SqT K H p xs/\k=!xs.isEmpty)\/∃ kvs,H p=ip (.dK kvs)/\k=!kvs.isEmpty
 | _=>False
theorem XS {κ:Type} {kvs:List (κ×V)} {vs:List (κ×iu)} (r:KV kvs vs):(!vs.isEmpty)=!kvs.isEmpty:=by cases r <;> rfl
theorem QV {its:List iu} (r:Vals xs its):(!its.toArray.isEmpty)=!xs.isEmpty:=by cases r <;> simp
theorem QW:(sizeLine:Nat) < 2 ^ 63:=by rw [iI]; decide
theorem qf5:qjO X (λx H Q=>∃ k,qij X.K x H k/\Q k H):=by
 intro pins s σ H x v Q I d h;obtain ⟨k,e,q⟩:=h;have hl:=QW;have c:sizeLine=16777216:=iI;cases x with
 | non=>cases d;have a:k=false:=e;subst a;exact truthy_none ⟨H,I,q⟩
 | bl b=>cases d;have a:k=b:=e;subst a;exact iS ⟨H,I,q⟩
 | int i=>obtain ⟨t,rfl⟩:=d;have a:k=(i != 0):=e;subst a;exact PySem.P.truthy_int ⟨H,I,q⟩
 | str y=>obtain ⟨t,rfl⟩:=d;obtain ⟨hy,a⟩:y.length<=sizeLine/\k=((y.length:Int) != 0):=e;subst a;exact PySem.P.truthy_str (by omega) ⟨H,I.tok _,q⟩
 | byt y=>obtain ⟨t,rfl⟩:=d;obtain ⟨hy,a⟩:y.size<=sizeLine/\k=((y.size:Int) != 0):=e;subst a;exact PySem.W.truthy_bytes (by omega) ⟨H,I.tok _,q⟩
 | ref p=>
  cases d;have a:(∃ xs,SqL X.K H p xs/\k=!xs.isEmpty)\/(∃ xs,SqT X.K H p xs/\k=!xs.isEmpty)\/∃ kvs,H p=ip (.dK kvs)/\k=!kvs.isEmpty:=e;rcases a with ⟨xs,hx,a⟩ | ⟨xs,hx,a⟩ | ⟨kvs,hx,a⟩
  ·subst a;obtain ⟨its,r,pl,z⟩:=I.list hx;have n:=r.length;exact wpAny_truthy_list pl.isList (by simp only [ax]; omega) ⟨H,I.tok _,by rw [QV r]; exact q⟩
  ·subst a;obtain ⟨its,r,pl,z⟩:=I.tuple hx;have n:=r.length;exact truthy_tuple pl (by simp only [ax]; omega) ⟨H,I.tok _,by rw [QV r]; exact q⟩
  ·subst a;obtain ⟨z,hS,vs,r,m⟩:kvs.length<=sizeLine/\(p == sysModules)=iw/\∃ vs,KV kvs vs/\s.heap.DictOf (jj X.prog X.w) p vs:=I.hok p _ hx;have n:kvs.length=vs.length:=fK r;exact wpAny_truthy_dict hS m (by omega) ⟨H,I.tok _,by rw [XS r]; exact q⟩
 | _=>exact (show False from e).elim
theorem qbF (g:PE X a ta) (i:∀ whole,isTrue a X.env whole=(do let v <-whole; standAt a.pos; holding [v] (truthy v))):PT X a (λσ H Q=>ta σ H λx H'=>∃ k,qij X.K x H' k/\Q k H'):=by refine ⟨?_⟩;intro pins s σ H Q I h;exact isTrue_plain (thn (g pins s σ H _ I h) λv s1 ⟨x,H1,d,r1,q⟩=>qf5 pins s1 σ H1 x v Q d r1 q) (i _)
theorem XT:OpR X (binaryOp .Add) (λx y H Q=>∃ i j,x=.str i/\y=.str j/\i.length+j.length<=sizeLine/\Q (.str (i++j)) H):=by intro pins s σ H x y v u Q I d c h;obtain ⟨i,j,rfl,rfl,z,q⟩:=h;obtain ⟨t,rfl⟩:=d;obtain ⟨t',rfl⟩:=c;exact add_str (λt' tk=>⟨.str (i++j),H,I.tok _,⟨_,rfl⟩,q⟩) z
theorem yL {x:V} (r:Vals [x] us):∃ u,us=[u]/\RelV x u:=by
 cases r with
 | cons r1 r2=>cases r2; exact ⟨_,rfl,r1⟩
theorem qbG {x y:V} (r:Vals [x,y] us):∃ u T,us=[u,T]/\RelV x u/\RelV y T:=by
 cases r with
 | cons r1 r2=>
  cases r2 with
  | cons r3 r4=>cases r4; exact ⟨_,_,rfl,r1,r3⟩
theorem ZX (d:X.calm=iA):uz X (.builtin "max") (λxs H Q=>∃ i j,xs=[.int i,.int j]/\Q (.int (if j > i then j else i)) H):=by
 intro pins s σ H xs us Q I r h;obtain ⟨i,j,rfl,q⟩:=h;obtain ⟨u,T,rfl,⟨t,rfl⟩,⟨t',rfl⟩⟩:=qbG r;refine max_two_ints (I.ok.hd d) λh' tk k=>⟨_,H,I.kept k,?_,q⟩
 by_cases G:j > i;·rw [if_pos G,if_pos G]; exact ⟨_,rfl⟩
 ·rw [if_neg G,if_neg G]; exact ⟨_,rfl⟩
theorem ZY (d:X.calm=iA):uz X (.builtin "min") (λxs H Q=>∃ i j,xs=[.int i,.int j]/\Q (.int (if j < i then j else i)) H):=by
 intro pins s σ H xs us Q I r h;obtain ⟨i,j,rfl,q⟩:=h;obtain ⟨u,T,rfl,⟨t,rfl⟩,⟨t',rfl⟩⟩:=qbG r;refine min_two_ints (I.ok.hd d) λh' tk k=>⟨_,H,I.kept k,?_,q⟩
 by_cases G:j < i;·rw [if_pos G,if_pos G]; exact ⟨_,rfl⟩
 ·rw [if_neg G,if_neg G]; exact ⟨_,rfl⟩
def qjP (K:Frag) (x:V) (H:Hp) (n:Nat):Prop:=
 match x with
 | .str y=>y.length<=sizeLine/\n=y.length
 | .byt y=>y.size<=sizeLine/\n=y.size
 | .ref p=>(∃ xs,SqL K H p xs/\n=xs.length)\/∃ xs,SqT K H p xs/\n=xs.length
 | _=>False
theorem Jz:uz X (.builtin "len") (λxs H Q=>∃ x n,xs=[x]/\qjP X.K x H n/\Q (.int n) H):=by
 intro pins s σ H xs us Q I r h;obtain ⟨x,n,rfl,e,q⟩:=h;obtain ⟨u,rfl,d⟩:=yL r;have hl:=QW;have c:sizeLine=16777216:=iI;cases x with
 | str y=>obtain ⟨t,rfl⟩:=d;obtain ⟨hy,b⟩:y.length<=sizeLine/\n=y.length:=e;subst b;exact len_str (by omega) ⟨.int _,H,I.tok _,⟨_,rfl⟩,q⟩
 | byt y=>obtain ⟨t,rfl⟩:=d;obtain ⟨hy,b⟩:y.size<=sizeLine/\n=y.size:=e;subst b;exact PySem.W.len_bytes (by omega) ⟨.int _,H,I.tok _,⟨_,rfl⟩,q⟩
 | ref p=>
  cases d;have b:(∃ xs,SqL X.K H p xs/\n=xs.length)\/∃ xs,SqT X.K H p xs/\n=xs.length:=e;rcases b with ⟨xs,hx,b⟩ | ⟨xs,hx,b⟩
  ·subst b;obtain ⟨its,r',pl,z⟩:=I.list hx;have a:=r'.length;exact Calls.call_len_list pl.isList (by simp only [ax]; omega) ⟨.int xs.length,H,I.tok _,⟨_,by simp only [ax]; rw [a]⟩,q⟩
  ·subst b;obtain ⟨its,r',pl,z⟩:=I.tuple hx;have a:=r'.length;exact len_tuple pl (by simp only [ax]; omega) ⟨.int xs.length,H,I.tok _,⟨_,by simp only [ax]; rw [a]⟩,q⟩
 | _=>exact (show False from e).elim
end
structure ObjM (h:Heap) (x dx C:Addr) (mA:Str->Option iu):Prop where
 obj:h.get? x=ip (cQ C dx)
 ns:h.Ns1 dx mA
 ne:dx≠x
variable {dx:Addr} {mA:Str->Option iu}
theorem ZZ (n:h.Ns1 dx mA):∃ od,h.get? dx=ip od/\∀ name,g0 name od=ip (mA name):=by
 obtain ⟨o,es,ep,m,hd,k,_,c⟩:=n;refine ⟨o,m,λname=>?_⟩;have e:=c name;unfold nsFind findBy at e;rw [<-Array.find?_toList] at e;unfold g0;rw [hd];dsimp only;split;·rename_i y q;rw [q] at e;exact congrArg ip e
 ·rename_i q;rw [q] at e;have a:es.toList.any (·.refKey)=false:=by rw [List.any_eq_false];intro y D;obtain ⟨z,t,b⟩:=k y (Array.mem_toList_iff.mp D);simp [DictEntry.refKey,b]
  have d:¬es.toList.any (·.refKey)=true:=by rw [a]; exact bz
  rw [if_neg d];exact congrArg ip e
variable {C:Addr}
theorem ObjM.look {x:Addr} (I:ObjM h x dx C mA):∃ od,PySem.W.InstAt h x (cQ C dx) C (ip od)/\∀ name,g0 name od=ip (mA name):=
 let ⟨od,m,hl⟩:=ZZ I.ns
 ⟨od,⟨I.obj,rfl,rfl,m⟩,hl⟩
theorem RelO.some_of {o:Option iu} (r:RelO (ip v) o):∃ u,o=ip u/\RelV v u:=by
 cases o with
 | none=>exact (show False from r).elim
 | some u=>exact ⟨u,rfl,r⟩
section
variable {fs:List (Str×V)} {f:Str}
theorem Inv.made (I:Inv X pins σ H s):Inv X pins σ (upd (upd H s.heap.objs.size (.own (s.heap.objs.size+1))) (s.heap.objs.size+1) (.ins C s.heap.objs.size []))
  { s with heap:=(s.heap.push ce).push (cQ C s.heap.objs.size) }:=by
 have e1:(s.heap.push ce).get? s.heap.objs.size=ip ce:=aq s.heap rfl;have c:((s.heap.push ce).push (cQ C s.heap.objs.size)).get? (s.heap.objs.size+1)=ip (cQ C s.heap.objs.size):=by have:=aq (s.heap.push ce) (o:=cQ C s.heap.objs.size) rfl;rwa [cN] at this
 have E:(s.heap.push ce).Ns s.heap.objs.size (λ_=>iq):=⟨ce,#[],_,e1,rfl,(λe i=>absurd i (by simp)),λ_=>rfl⟩
 have d:=I.laid (a:=s.heap.objs.size) (o:=.own (s.heap.objs.size+1)) (h':=s.heap.push ce) (t':=s.toks) (λb u q=>ae _ q) (aD _) ⟨_,e1⟩;refine d.laid (a:=s.heap.objs.size+1) (o:=.ins C s.heap.objs.size []) (t':=s.toks) (λb u q=>ae _ q) (ez (cN _ _)) ?_;have ne:s.heap.objs.size≠s.heap.objs.size+1:=aH (Nat.lt_succ_self _);refine ⟨by rw [qF ne,qu],bE _,ne,c,λ_=>iq,(Heap.Ns1.of_empty E).at λo q=>ae _ q,λ_=>dH,λy D=>absurd rfl D⟩
end
structure Room (k:Nat) (A:iH):Prop where
 hd:A.handled=iq
 dp:A.depth+3 * k+5 < recursionLimit
 un:A.units+16 * k+200 < cLine
theorem Room.mono {j k:Nat} (r:Room k A) (h:j<=k):Room j A:=⟨r.hd,by have:=r.dp; omega,by have:=r.un; omega⟩
theorem Room.deeper {k:Nat} (r:Room (k+1) A) (env:Env):Room k (A.deeper env):=
 ⟨r.hd,by have:=r.dp; show A.depth+1+3 * k+5 < _; omega,by have:=r.un; show A.units+3+16 * k+200 < _; omega⟩
theorem Room.in1 {k:Nat} (r:Room (k+1) A):Room k A.in1:=
 ⟨r.hd,by have:=r.dp; show A.depth+3 * k+5 < _; omega,by have:=r.un; show A.units+1+16 * k+200 < _; omega⟩
theorem Room.depth {k:Nat} (r:Room k A):A.depth < recursionLimit:=by have:=r.dp; omega
theorem Room.units {k:Nat} (r:Room k A):A.units+64 < cLine:=by have:=r.un; omega
def qhK:TA:=λ_ H Q=>Q [] H
def XU (ta:TE) (tr:TA):TA:=λσ H Q=>ta σ H λx H1=>tr σ H1 λxs H2=>Q (x::xs) H2
section
variable {t:TA}
theorem jH:PA X [] qhK:=⟨λ_ _ _ _ H Q I h=>fA ⟨[],H,I,.nil,h⟩⟩
theorem qU (g:PE X e te) (f:PA X es t) (c:starEach (e::es) X.env=(iw,eval e X.env)::starEach es X.env:=by rfl):PA X (e::es) (XU te t):=by refine ⟨?_⟩;intro pos pins s σ H Q I h;rw [c];show wpAny _ _ (spliced ((iw,eval e X.env)::backTo pos (starEach es X.env))) _ _ s;refine dY (thn (g pins s σ H _ I h) λu s1 ⟨x,H1,a,r1,q⟩=>?_);exact thn (f pos pins s1 σ H1 _ a q) λus s2 ⟨xs,H2,k,r2,d⟩=>⟨x::xs,H2,k,.cons r1 r2,d⟩
def qjQ (t:TA):TE:=λσ H Q=>t σ H λxs H1=>xs.length<=sizeLine/\∀ p,H1 p=iq->Q (.ref p) (upd H1 p (.tup xs))
def qjR (t:TA):TE:=λσ H Q=>t σ H λxs H1=>xs.length<=sizeLine/\∀ p,H1 p=iq->Q (.ref p) (upd H1 p (.lst xs))
theorem qf6 {x1} (h:PA X es t):PE X (.Tuple es x1 pos) (qjQ t):=by refine ⟨?_⟩;intro pins s σ H Q I hq;refine wpAny_Tuple_spliced (thn (h pos pins s σ H _ I hq) λus s1 ⟨xs,H1,d,r,z,q⟩=>⟨by rw [<-r.length]; exact z,?_⟩);have f:H1 s1.heap.objs.size=none:=d.hok.fresh (aD _);refine ⟨.ref s1.heap.objs.size,upd H1 s1.heap.objs.size (.tup xs),d.laid (t':=s1.toks) (λb u e=>ae _ e) (aD _) ?_,rfl,q _ f⟩;exact ⟨⟨z,_,aq _ rfl,rfl⟩,us,r,⟨_,aq _ rfl,rfl,_,rfl⟩⟩
theorem qf7 (h:PA X es t):PE X (.List es pos) (qjR t):=by refine ⟨?_⟩;intro pins s σ H Q I hq;refine wpAny_List_spliced (thn (h pos pins s σ H _ I hq) λus s1 ⟨xs,H1,d,r,z,q⟩=>⟨by rw [<-r.length]; exact z,?_⟩);have f:H1 s1.heap.objs.size=none:=d.hok.fresh (aD _);refine ⟨.ref s1.heap.objs.size,upd H1 s1.heap.objs.size (.lst xs),d.laid (t':=s1.toks) (λb u e=>ae _ e) (aD _) ?_,rfl,q _ f⟩;exact ⟨z,us,0,r,aq _ rfl⟩
end
abbrev Sp:=List V->Hp->VK->XK->Prop
abbrev CXT:=List Env->Hp->iB->XK->iu->iB->Prop
structure Env0 (P:iE) (w:iF) (K:Frag) (mg:Str->Option iu) (base:Heap) (A:iH) (outer:List Env) (s:iB) (H:Hp):Prop where
 frames:A.frames=ip outer
 mod:Mod K mg base
 bs:∀ b o,base.get? b=ip o->s.heap.get? b=ip o/\H b=iq
 bsz:base.objs.size<=s.heap.objs.size
 funs:s.heap.FunFrames base outer
 frf:∀ b∈frs outer,H b=iq
 hok:HOk P w H s.heap
 bare:k9 s.gens
def CE (outer:List Env) (P:iE) (w:iF) (H:Hp) (s:iB) (Q:VK) (u:iu) (s':iB):Prop:=
 ∃ v H',s'.os=s.os/\k9 s'.gens/\Un (frs outer) [] H H' s.heap s'.heap/\HOk P w H' s'.heap/\RelV v u/\Q v H'
def CR (CX:CXT) (outer:List Env) (P:iE) (w:iF) (H:Hp) (s:iB) (Q:VK) (E:XK) (r:lr) (s':iB):Prop:=
 match r with
 | .ok (.ret u)=>CE outer P w H s Q u s'
 | .ok _=>False
 | .error e=>CX outer H s E e s'
structure FnOk (P:iE) (w:iF) (K:Frag) (mg:Str->Option iu) (base:Heap) (CX:CXT) (k:Nat) (f:Addr) (fd:iZ) (ps:List Str) (sp:Sp):Prop where
 len:∀ vs H Q E,sp vs H Q E->vs.length=ps.length
 run:∀ (A:iH) (outer:List Env) (s:iB) (H:Hp) (args:Args) (us:List iu) (vs:List V) (Q:VK) (E:XK),Room k A->Env0 P w K mg base A outer s H->lm s fd args (ps.zip us)->Vals vs us->sp vs H Q E ->codeAny (model P w) A (.call (.ref f) args) (CR CX outer P w H s Q E) s
variable {f:Addr} {mg:Str->Option iu} {base:Heap} {CX:CXT} {fd:iZ} {ps:List Str} {sp:Sp}
theorem FnOk.imp {k:Nat} {a:Sp} (F:FnOk P w K mg base CX k f fd ps sp)
  (h:∀ vs H Q E,a vs H Q E->sp vs H Q E):FnOk P w K mg base CX k f fd ps a:=
 ⟨λvs H Q E q=>F.len vs H Q E (h _ _ _ _ q),λA outer s H args us vs Q E r i d c b=>F.run A outer s H args us vs Q E r i d c (h _ _ _ _ b)⟩
theorem Env0.in1 {outer:List Env} (e:Env0 P w K mg base A outer s H):Env0 P w K mg base A.in1 outer s H:=⟨e.frames,e.mod,e.bs,e.bsz,e.funs,e.frf,e.hok,e.bare⟩
section
theorem Inv.env0 (I:Inv X pins σ H s):Env0 X.prog X.w X.K X.mg X.base X.A X.stack s H:=
 ⟨I.ok.frames,I.ok.mod,I.bs,bg I.ok.bsz I.sz,I.stack,I.stkFree,I.hok,I.bare⟩
theorem Inv.after {Q:VK} (I:Inv X pins σ H s) (h:CE X.stack X.prog X.w H s Q u s'):EP X pins σ Q u s':=by obtain ⟨v,H',os,bare,un,hok,r,q⟩:=h;obtain ⟨a,g,d,t,o⟩:=s';obtain rfl:o=s.os:=os;exact ⟨v,H',I.call (h':=a) (g':=g) (d':=d) (t':=t) (ch:=[]) un hok bare (λb z=>absurd z (by simp)),r,q⟩
end
def qik (sp:Sp) (dvs:List V) (E:XK) (t:TA):TE:=λσ H Q=>t σ H λvs H1=>sp (vs++dvs) H1 Q E
def Binds (K:Frag) (fd:iZ) (ps:List Str) (ds:List iu):Prop:=
 ∀ (s:iB) (us:List iu),K.In s.heap->(us++ds).length=ps.length->lm s fd ⟨us,[]⟩ (ps.zip (us++ds))
theorem Binds.all (h:∀ us:List iu,us.length=ps.length->bindArgs fd ⟨us,[]⟩=pure (ps.zip us)):Binds K fd ps []:=λs us _ hl=>by rw [bi] at hl ⊢;exact .of_eq (h us hl)
def ur (CX:CXT) (X:Cx) (E:XK):Prop:=∀ (pins:List (Addr×Obj)) (σ:St) (H:Hp) (s:iB) (e:iu) (s':iB),Inv X pins σ H s->CX X.stack H s E e s'->X.xe e s'
variable {apos:Pos}
section
variable {k:Nat} {dvs:List V} {ds:List iu} {E:XK} {m:Str} {o:Expr} {t:TA}
theorem qf8 {pins:List (Addr×Obj)} {σ:St} {H:Hp} {s:iB} {Q:VK} {us:List iu} {vs:List V} (F:FnOk X.prog X.w X.K X.mg X.base CX k f fd ps sp) (a:Room k X.A) (d:Binds X.K fd ps ds) (hd:Vals dvs ds) (hx:ur CX X E)
  (I:Inv X pins σ H s) (r:Vals vs us) (h:sp (vs++dvs) H Q E):wpAny (model X.prog X.w) X.A (call (.ref f) us) (EP X pins σ Q) X.xe s:=by
 have r2:Vals (vs++dvs) (us++ds):=r.append hd;have hl:(us++ds).length=ps.length:=by rw [<-r2.length]; exact F.len _ _ _ _ h
 refine wpAny_call (j9 (F.run X.A X.stack s H ⟨us,[]⟩ (us++ds) (vs++dvs) Q E a I.env0 (d s us I.kIn hl) r2 h) λr s' hq=>?_);cases r with
 | error e=>exact hx pins σ H s e s' I hq
 | ok l=>
  cases l with
  | ret u=>exact I.after hq
  | next=>exact cA hq
  | brk=>exact cA hq
  | cont=>exact cA hq
theorem qd7 (F:FnOk X.prog X.w X.K X.mg X.base CX k f fd ps sp) (a:Room k X.A) (hg:Gl X x) (c:X.mg x=ip (.ref f)) (g:keepIn X.K (.ref f)=iA) (j:Binds X.K fd ps ds) (hd:Vals dvs ds) (hx:ur CX X E)
  (m:PA X (e::es) t) (b:(x == ("__debug__":Str))=false:=by decide) (i:starEach (e::es) X.env=(iw,eval e X.env)::starEach es X.env:=by rfl) (l:(backTo pos (starEach es X.env)).any (·.1)=false:=by rfl) :
  PE X (.Call (.Name x p) (e::es) [] pos) (qik sp dvs E t):=by
 refine ⟨?_⟩;intro pins s σ H Q I h;refine iV (xR I hg c ?_ b);refine PySem.W.callWith_K (h₀:=X.base) I.ok.mod.kin g (thn (m pos pins s σ H _ I h) λus s1 ⟨vs,H1,d,r,q⟩=>⟨d.kIn,?_⟩) i l;exact qf8 F a j hd hx d r q
end
section
variable {k:Nat} {ks:List Str} {E:XK} {m:Str} {kpos:Pos} {o:Expr} {kws:List iP} {t tk:TA} {nm:Option Str}
variable {g:List iu->List iu->List iu} {gV:List V->List V->List V}
end
structure FnScope (N P:List Str) (sc:j7):Prop where
 kind:sc.kind=.function
 co:sc.isCoroutine=iw
 gen:sc.isGenerator=iw
 nd:N.Nodup
 pre:N.take P.length=P
 par:∀ x∈P,sc.names.lookup x=ip .local\/sc.names.lookup x=ip .cell
 nofree:∀ y∈sc.names,y.2≠.free
variable {kindOf:Str->Option i6}
theorem Vi:∀ {binds:List (Str×iu)} {m:Str->Option iu},(∀ v,(x,v)∉binds)->bindL kindOf binds m x=m x
 | [],_,_=>rfl
 | (n,v)::r,m,h=>by
  unfold bindL;rw [Vi λw a=>h w (aa _ a)];split
  ·have:x≠n:=by rintro rfl; exact h v ai
   simp [this]
  ·rfl
theorem Vj:∀ {binds:List (Str×iu)} {m:Str->Option iu},(∀ v,(x,v)∉binds)->bindC kindOf binds m x=m x
 | [],_,_=>rfl
 | (n,v)::r,m,h=>by
  unfold bindC;rw [Vj λw a=>h w (aa _ a)];split;·rfl
  ·have:x≠n:=by rintro rfl; exact h v ai
   simp [this]
theorem gG {kindOf:Str->Option i6} {x:Str} {v:iu}:∀ {P:List Str} {vs:List iu} {i:Nat} {m:Str->Option iu},P.Nodup->P[i]?=ip x->vs[i]?=ip v->kindOf x=ip .local ->bindL kindOf (P.zip vs) m x=ip v
 | [],_,_,_,_,h,_,_=>by simp at h
 | _::_,[],_,_,_,_,h,_=>by simp at h
 | p::P,w::vs,0,m,nd,h1,h2,hk=>by simp at h1 h2; subst h1; subst h2;show bindL kindOf ((p,w)::P.zip vs) m p=_;unfold bindL;rw [Vi λv c=>(aL.mp nd).1 (fm c).1,if_pos hk];simp
 | p::P,w::vs,i+1,m,nd,h1,h2,hk=>by show bindL kindOf ((p,w)::P.zip vs) m x=_;unfold bindL;exact gG (i:=i) (aL.mp nd).2 (by simpa using h1) (by simpa using h2) hk
theorem gH {kindOf:Str->Option i6} {x:Str} {v:iu}:∀ {P:List Str} {vs:List iu} {i:Nat} {m:Str->Option iu},P.Nodup->P[i]?=ip x->vs[i]?=ip v->kindOf x≠ip .local ->bindC kindOf (P.zip vs) m x=ip v
 | [],_,_,_,_,h,_,_=>by simp at h
 | _::_,[],_,_,_,_,h,_=>by simp at h
 | p::P,w::vs,0,m,nd,h1,h2,hk=>by simp at h1 h2; subst h1; subst h2;show bindC kindOf ((p,w)::P.zip vs) m p=_;unfold bindC;rw [Vj λv c=>(aL.mp nd).1 (fm c).1,if_neg hk];simp
 | p::P,w::vs,i+1,m,nd,h1,h2,hk=>by show bindC kindOf ((p,w)::P.zip vs) m x=_;unfold bindC;exact gH (i:=i) (aL.mp nd).2 (by simpa using h1) (by simpa using h2) hk
noncomputable def wj (N:List Str) (vs:List V):St:=vs.map ip++aX (N.length - vs.length) iq
def qd8 (CX:CXT) (P:iE) (w:iF) (K:Frag) (mg:Str->Option iu) (base:Heap) (N:List Str) (qual:Str) (scope:j7) (f:Addr) (cd:iu) (A:iH) (outer:List Env) (s:iB) (H:Hp) (E:XK):Cx where
 prog:=P
 w:=w
 K:=K
 mg:=mg
 base:=base
 A:=A.deeper (envOfC qual scope s.heap.objs.size f cd)
 N:=N
 s₀:=s
 H₀:=H
 env:=envOfC qual scope s.heap.objs.size f cd
 outer:=outer
 stack:=envOfC qual scope s.heap.objs.size f cd::outer
 ex:=[]
 calm:=iA
 fn:=λ_=>iA
 pn:=[]
 xe:=λe s'=>wpAny (model P w) (A.deeper (envOfC qual scope s.heap.objs.size f cd)) (leaving (envOfC qual scope s.heap.objs.size f cd) e) (λ_ a=>CX outer H s E e a) (λb a=>CX outer H s E b a) s'
theorem zY {sc:j7} {n:Nat} (h:sc.names.lookup x=ip .cell):∃ c,(cellsFrom n sc.names []).lookup x=ip c:=by have q:=eG sc.names n [] (.inl h);exact Option.isSome_iff_exists.mp q
theorem Ga {CX:CXT} {P:iE} {w:iF} {K:Frag} {mg:Str->Option iu} {base:Heap} {N ps:List Str} {qual:Str} {scope:j7} {f:Addr} {cd:iu} {A:iH} {outer:List Env} {s s1:iB} {H:Hp} {E:XK} {us:List iu} {vs:List V}
  (S:FnScope N ps scope) (hd:A.handled=iq) (d:Env0 P w K mg base A outer s H) (hl:vs.length=ps.length) (r:Vals vs us)
  (x:InCallC s s.heap.objs.size (bindL (envOfC qual scope s.heap.objs.size f cd).kindOf (ps.zip us) λ_=>iq) (cellsFrom (s.heap.objs.size+1) scope.names []) (bindC (envOfC qual scope s.heap.objs.size f cd).kindOf (ps.zip us) λ_=>iq) s1) :
  Inv (qd8 CX P w K mg base N qual scope f cd A outer s H E) [] (wj N vs) H s1:=by
 have t:ps.length<=N.length:=by have:=congrArg fB S.pre; rw [fP] at this; omega
 obtain ⟨h1,tk,rfl,m⟩:=x.done;have g:∀ b:Addr,b∉(qd8 CX P w K mg base N qual scope f cd A outer s H E).ex:=λb z=>absurd (show b∈([]:List Addr) from z) (by simp);refine ⟨⟨d.mod,S.kind,rfl,rfl,aD _,λy z c h1 h2=>?_,λy D=>?_,λy c _ h=>?_,λ_=>hd,Around.frames_deeper d.frames,.inr ⟨rfl,rfl⟩,λb z=>absurd z (g b),d.bs,d.bsz,λb _ _=>g b,λb z=>absurd z (g b),d.funs,d.frf⟩,rfl,d.bare,Un.kept m,⟨_,x.toInCall.ns,λi y v h1 h2 C=>?_⟩,λy c h=>⟨_,x.cell y c h⟩,d.hok.fresh (aD _),λy c h=>?_,λp hp=>absurd (show p∈([]:List (Addr×Obj)) from hp) (by simp),d.hok.kept m,?_⟩;·exact name_of_addr x.apart (bq h1) (bq h2)
 ·have D:scope.names.lookup y=ip .cell\/scope.names.lookup y=ip .free:=D;rcases D with D | D;·exact zY D
  ·exact absurd rfl (S.nofree _ (bq D))
 ·exact dg (x.above y c (bq h))
 ·have hi:i < vs.length:=by
   unfold wj at h2;by_cases hi:i < vs.length;·exact hi
   ·rw [bF (by simpa using hi)] at h2;rw [bt] at h2;split at h2 <;> cases h2
  have B:vs[i]?=ip v:=by
   unfold wj at h2;rw [cy (by simpa using hi),aG] at h2;cases e:vs[i]? with
   | none=>rw [e] at h2; cases h2
   | some a=>rw [e] at h2; cases h2; rfl
  obtain ⟨u,l,o⟩:=r.get B;have hp:ps[i]?=ip y:=by rw [<-S.pre,List.getElem?_take_of_lt (by omega)]; exact h1
  have j:ps.Nodup:=by rw [<-S.pre]; exact S.nd.sublist (List.take_sublist _ _)
  refine ⟨u,o,?_⟩;rcases S.par y (aY hp) with k | k;·exact .inl ⟨k,gG j hp l k⟩
  ·obtain ⟨c,e⟩:=zY (n:=s.heap.objs.size+1) k;refine .inr ⟨.inl k,c,e,?_⟩;have q:=x.cell y c e;rw [gH j hp l (by show scope.names.lookup y≠_; rw [k]; decide)] at q;exact q
 ·exact d.hok.fresh (dg (x.above y c (bq h)))
 ·unfold wj;show _=N.length;rw [ah,ay,dt];omega
theorem qil {CX:CXT} {P:iE} {w:iF} {K:Frag} {mg:Str->Option iu} {base:Heap} {k:Nat} {f:Addr} {name qual:Str} {params:Arguments} {body:List Stmt} {scope:j7} {m kV doc pm cdv ct oc:iu} {an od:Option Addr}
  {osl:Array (Option iu)} {N ps:List Str} {sp:Sp} (z:K.lookup f=ip ⟨oc,od,.func (cf name qual params body scope m kV doc pm an cdv ct),osl⟩) (j:codeIn K cdv qual=iA) (S:FnScope N ps scope)
  (len:∀ vs H Q E,sp vs H Q E->vs.length=ps.length)
  (a:∀ (A:iH) (outer:List Env) (s:iB) (H:Hp) (vs:List V) (Q:VK) (E:XK),Room k (A.deeper (envOfC qual scope s.heap.objs.size f cdv))->sp vs H Q E ->∃ t,PSs (qd8 CX P w K mg base N qual scope f cdv A outer s H E) body t/\t { nx:=λ_ H'=>Q .non H',rt:=Q } (wj N vs) H) :
  FnOk P w K mg base CX (k+1) f (cf name qual params body scope m kV doc pm an cdv ct) ps sp:=by
 refine ⟨len,λA outer s H args us vs Q E i d G r p=>?_⟩;have hl:=len _ _ _ _ p;have X:K.In s.heap:=d.mod.kin.keeps λb o e=>(d.bs b o e).1;have l:s.heap.NoLimit:=d.mod.nolimit.keeps λb o e=>(d.bs b o e).1;have h:∀ y∈ps.zip us,scope.names.lookup y.1=ip .local\/(scope.names.lookup y.1=ip .cell/\((cellsFrom (s.heap.objs.size+1) scope.names []).lookup y.1).isSome=iA):=λ⟨n,v⟩ D=>by
  rcases S.par n (fm D).1 with q | q;·exact .inl q
  ·exact .inr ⟨q,eG _ _ _ (.inl q)⟩
 refine codeAny_call_function i.depth (X _ _ z) rfl S.co S.gen rfl (PySem.W.codeRec_of X j) (G _ _ _ _ ?_);refine wpAny_newFunctionEnv_cells S.kind h λenv C s1 x=>?_;subst C;refine ⟨l.keeps x.toInCall.keep,codeAny_func ?_⟩;obtain ⟨t,B,hq⟩:=a A outer s H vs Q E (i.deeper _) p;have I:Inv (qd8 CX P w K mg base N qual scope f cdv A outer s H E) [] (wj N vs) H s1:=Ga S i.hd d hl r x;refine iU (B [] s1 (wj N vs) H _ I hq) (λL s' c=>?_) λe s' c=>c;have fin:∀ {σ':St} {H':Hp} {v:V} {u:iu},Inv (qd8 CX P w K mg base N qual scope f cdv A outer s H E) [] σ' H' s'->RelV v u->Q v H'->CE outer P w H s Q u s':=
  λ{σ' H' v u} J g q=>⟨v,H',J.os,J.bare,J.base,J.hok,g,q⟩
 cases L with
 | ret u=>obtain ⟨v,σ',H',J,g,q⟩:=c;exact fin J g q
 | next=>obtain ⟨σ',H',J,q⟩:=c;exact fin (v:=V.non) (u:=cV) J rfl q
 | brk=>obtain ⟨_,_,_,q⟩:=c;exact cA q
 | cont=>obtain ⟨_,_,_,q⟩:=c;exact cA q
section
variable {t:TA} {id T:String} {r:List V->Hp->VK->Prop}
def tCB (r:List V->Hp->VK->Prop) (t:TA):TE:=λσ H Q=>t σ H λvs H1=>r vs H1 Q
theorem wM (d:uz X (.builtin id) r) (hg:Gl X x) (m:X.mg x=iq) (c:bootBuiltins x=ip (.builtin id)) (g:PA X (e::es) t) (n:x ≠ "__name__":=by decide) (b:(x == ("__debug__":Str))=false:=by decide)
  (i:starEach (e::es) X.env=(iw,eval e X.env)::starEach es X.env:=by rfl) (l:(backTo pos (starEach es X.env)).any (·.1)=false:=by rfl):PE X (.Call (.Name x p) (e::es) [] pos) (tCB r t):=by
 refine ⟨?_⟩;intro pins s σ H Q I h;refine iV (zv I hg m c ?_ n b);exact PyProof.Rows.callWith_builtin1 (thn (g pos pins s σ H _ I h) λus s1 ⟨vs,H1,a,r1,q⟩=>d pins s1 σ H1 vs us Q a r1 q) i l
theorem uA (d:uz X (.type T) r) (hg:Gl X x) (m:X.mg x=iq) (c:bootBuiltins x=ip (.type T)) (g:PA X (e::es) t) (n:x ≠ "__name__":=by decide) (b:(x == ("__debug__":Str))=false:=by decide)
  (i:starEach (e::es) X.env=(iw,eval e X.env)::starEach es X.env:=by rfl) (l:(backTo pos (starEach es X.env)).any (·.1)=false:=by rfl):PE X (.Call (.Name x p) (e::es) [] pos) (tCB r t):=by
 refine ⟨?_⟩;intro pins s σ H Q I h;refine iV (zv I hg m c ?_ n b);exact bC (thn (g pos pins s σ H _ I h) λus s1 ⟨vs,H1,a,r1,q⟩=>d pins s1 σ H1 vs us Q a r1 q) i l
end
end L2
namespace HT
open PySem PyProof.Rows
section
open PySem.SeqAt
open PySem.AutoSeq1 (wpAny_loadPart')
open PySem.MeetsSeq PySem.MeetsSeq2 PySem.MeetsSeq3
end
section
variable {prog:iE} {w:iF} {A:iH} {E:iu->iB->Prop} {s:iB}
theorem cat_tup {t b:Addr} {vs ws:List iu} {Q:iu->iB->Prop} (l:IsTup s.heap t vs.toArray) (k:IsTup s.heap b ws.toArray) (v:vs≠[])
  (h1:ws=[]->Q (.ref t) s) (h2:ws≠[]->Q (.ref s.heap.objs.size) { s with heap:=s.heap.push { cls:=.type "tuple",data:=.seq (vs++ws).toArray } })
  (hsz:vs.length+ws.length<=sizeLine):wpAny (model prog w) A (binaryOp .Add (.ref t) (.ref b)) Q E s:=by
 obtain ⟨⟨cls,dd,data,sl⟩,m,i,n,hd⟩:=id l;obtain ⟨⟨j,d,g,a⟩,h,c,n2,hd2⟩:=id k;simp only at i hd c hd2;subst i hd c hd2;have e:vs.toArray++ws.toArray=(vs++ws).toArray:=by simp
 by_cases f:ws=[]
 ·exact lh ⟨_,m,rfl⟩ ⟨_,h,rfl⟩ noFill_tuple_add seq_tuple_add eI d4 (dQ _ _)
   (tuple_addW1 t b vs.toArray ws.toArray n n2 dd d sl a (by simpa using v) (by simp [f])) ⟨m,h,h1 f⟩
 ·refine lh ⟨_,m,rfl⟩ ⟨_,h,rfl⟩ noFill_tuple_add seq_tuple_add eI d4 (dQ _ _)
   (tuple_addW2 t b vs.toArray ws.toArray n n2 dd d sl a (by simpa using v) (by simpa using f) (by rw [ax,ax]; exact hsz)) ⟨m,h,?_⟩
  rw [e];exact h2 f
theorem slicePart_ {v:iu} {o:Option Int} {Q:Option Int->iB->Prop} (p:lb v o) (h:Q o s):wpAny (model prog w) A (Builtin.Slice.slicePartIndex v) Q E s:=by
 cases p with
 | none=>exact slicePart_none h
 | int i t=>exact slicePart_int h
end
end HT
namespace L2
open PySem PySem.Spec PyProof.Rows
abbrev TO:=St->Hp->(Option Int->Hp->Prop)->Prop
def PO (X:Cx) (e:Option Expr) (t:TO):Prop:=
 ∀ (pins:List (Addr×Obj)) (s:iB) (σ:St) (H:Hp) (Q:Option Int->Hp->Prop),Inv X pins σ H s->t σ H Q ->wpAny (model X.prog X.w) X.A (evalPart e X.env) (λu s'=>∃ o H',Inv X pins σ H' s'/\lb u o/\Q o H') X.xe s
def qd9:TO:=λ_ H Q=>Q iq H
def qim (t:TE):TO:=λσ H Q=>t σ H λx H1=>∃ i,x=.int i/\Q (ip i) H1
variable {X:Cx} {e:Expr} {pos:Pos} {xs:List V} {us:List iu}
section
variable {te:TE} {lo hi:Option Expr} {tl th:TO} {p2:Pos}
theorem qea:PO X iq qd9:=by intro pins s σ H Q I h;rw [evalPart_none];exact iC ⟨iq,H,I,.none,h⟩
theorem qeb (h:PE X e te):PO X (ip e) (qim te):=by intro pins s σ H Q I w;rw [evalPart_some];refine thn (h pins s σ H _ I w) λu s1 ⟨x,H1,d,r1,a⟩=>?_;obtain ⟨i,rfl,q⟩:=a;obtain ⟨t,rfl⟩:=r1;exact ⟨ip i,H1,d,.int i t,q⟩
def qin (K:Frag):R2:=λx y H Q=>∃ a b xs ys,x=.ref a/\y=.ref b/\SqT K H a xs/\SqT K H b ys/\xs≠[]/\xs.length+ys.length<=sizeLine /\
 (ys=[]->Q (.ref a) H)/\(ys≠[]->∀ p,H p=iq->Q (.ref p) (upd H p (.tup (xs++ys))))
theorem Vals.nil_iff (r:Vals xs us):us=[]↔xs=[]:=by
 cases r with
 | nil=>simp
 | cons _ _=>simp
theorem qec:OpR X (binaryOp .Add) (qin X.K):=by intro pins s σ H x y v u Q I d r h;obtain ⟨a,b,xs,ys,rfl,rfl,j,g,hx,c,f,e⟩:=h;cases d;cases r;obtain ⟨its,r1,p1,_⟩:=I.tuple j;obtain ⟨i,r2,p2,_⟩:=I.tuple g;refine HT.cat_tup p1 p2 (λz=>hx (r1.nil_iff.mp z)) (λz=>⟨.ref a,H,I,rfl,f (r2.nil_iff.mp z)⟩) (λz=>?_) (by rw [<-r1.length,<-r2.length]; exact c);refine ⟨.ref s.heap.objs.size,_,I.laid (t':=s.toks) (o:=.tup (xs++ys)) (λb k q=>ae _ q) (aD _) ?_,rfl,e (λw=>z (r2.nil_iff.mpr w)) _ (I.hok.fresh (aD _))⟩;exact ⟨⟨by rw [ah]; exact c,_,aq _ rfl,rfl⟩,_,r1.append r2,IsTup.new _ _⟩
end
noncomputable def ixN (n:Nat) (i:Int):Option Nat:=if 0<=i then (if i < n then ip i.toNat else iq) else if -(n:Int)<=i then ip (i+n).toNat else iq
variable {α:Type}
noncomputable def atI (xs:List α) (i:Int):Option α:=(ixN xs.length i).bind λj=>xs[j]?
variable {n j:Nat} {i:Int}
theorem Gb (h:ixN n i=ip j):seqIndex? i n=ip j/\j < n/\-(n:Int)<=i/\i < n:=by
 unfold ixN at h;by_cases a:0<=i
 ·rw [if_pos a] at h;by_cases h1:i < n;·rw [if_pos h1] at h;have e:i.toNat=j:=aO.inj h;exact ⟨by rw [seqIndex_of a h1,e],by omega,by omega,h1⟩
  ·rw [if_neg h1] at h; cases h
 ·rw [if_neg a] at h;by_cases h1:-(n:Int)<=i;·rw [if_pos h1] at h;have e:(i+n).toNat=j:=aO.inj h;exact ⟨by rw [seqIndex_neg (by omega) h1,e],by omega,h1,by omega⟩
  ·rw [if_neg h1] at h; cases h
theorem WH {xs:List α} {v:α} (h:atI xs i=ip v):∃ j,seqIndex? i xs.length=ip j/\xs[j]?=ip v/\j < xs.length/\-(xs.length:Int)<=i/\i < xs.length:=by
 unfold atI at h;cases e:ixN xs.length i with
 | none=>rw [e] at h; cases h
 | some j=>rw [e] at h;obtain ⟨h1,h2,b,a⟩:=Gb e;exact ⟨j,h1,h,h2,b,a⟩
theorem wk {xs:List α} {v:α} (h:xs[j]?=ip v):atI xs (j:Int)=ip v:=by
 have G:j < xs.length:=(aB.mp h).1;have e:ixN xs.length (j:Int)=ip j:=by unfold ixN;rw [if_pos (by omega),if_pos (by omega)]; simp
 unfold atI; rw [e]; exact h
def WJ (b:Expr):Prop:=∀ o i,subscripted b iw o i=operate [o,i] (getItem o i)
def IxR (X:Cx) (r:R2):Prop:=
 ∀ (value e:Expr) (pins:List (Addr×Obj)) (s:iB) (σ:St) (H:Hp) (x y:V) (v u:iu) (Q:VK),Inv X pins σ H s->RelV x v->RelV y u->r x y H Q ->subscripted e iw v u=operate [v,u] (getItem v u)->wpAny (model X.prog X.w) X.A (subscriptTail value e v u) (EP X pins σ Q) X.xe s
def MtR (X:Cx) (id:String) (r:V->List V->Hp->VK->Prop):Prop:=
 ∀ (pins:List (Addr×Obj)) (s:iB) (σ:St) (H:Hp) (x:V) (xs:List V) (v:iu) (us:List iu) (Q:VK),Inv X pins σ H s->RelV x v->Vals xs us->r x xs H Q ->wpAny (model X.prog X.w) X.A (call (.builtin id) (v::us)) (EP X pins σ Q) X.xe s
variable {pins:List (Addr×Obj)} {σ:St} {H:Hp} {s:iB} {p:Addr} {T:String}
section
variable {a b:Expr} {ta tb:TE}
theorem IxR.or {r r':R2} (h:IxR X r) (h':IxR X r'):IxR X (λx y H Q=>r x y H Q\/r' x y H Q):=by
 intro value e pins s σ H x y v u Q I d c q a;rcases q with q | q;·exact h value e pins s σ H x y v u Q I d c q a
 ·exact h' value e pins s σ H x y v u Q I d c q a
theorem qf9 {r:R2} (f:IxR X r) (i:PE X a ta) (g:PE X b tb) (e:WJ b):PE X (.Subscript a b pos) (tOp r ta tb):=by refine ⟨?_⟩;intro pins s σ H Q I h;exact Subscript_ (qic i g I h λv u s2 x y H2 k d c q=>f a b pins s2 σ H2 x y v u Q k d c q (e _ _))
def qjd (K:Frag):R2:=λx y H Q=>∃ p xs i v,x=.ref p/\y=.int i/\SqL K H p xs/\atI xs i=ip v/\Q v H
def qje (K:Frag):R2:=λx y H Q=>∃ p xs i v,x=.ref p/\y=.int i/\SqT K H p xs/\atI xs i=ip v/\Q v H
def qjf:R2:=λx y H Q=>∃ z i c,x=.str z/\y=.int i/\z.length<=sizeLine/\atI z.cps.toList i=ip c/\Q (.str ⟨#[c]⟩) H
theorem ix_list:IxR X (qjd X.K):=by
 intro value e pins s σ H x y v u Q I g f h c;obtain ⟨p,xs,i,z,rfl,rfl,hq,k,q⟩:=h;cases g;obtain ⟨t,rfl⟩:=f;obtain ⟨its,r,pl,n⟩:=I.list hq;obtain ⟨j,h1,h2,A,m,l⟩:=WH k;obtain ⟨w,d,a⟩:=r.get h2;have hl:=r.length;have o:=QW;have fin:EP X pins σ Q w s:=⟨z,H,I,a,q⟩
 by_cases b:0<=i
 ·have G:i.toNat=j:=by rw [seqIndex_of b l] at h1;exact aO.inj h1
  exact item_listR pl.isList b (by omega) (by rw [G]; simpa using d) fin c
 ·have G:(i+(its.toArray.size:Int)).toNat=j:=by rw [seqIndex_neg (by omega) m] at h1;rw [ax,<-hl];exact aO.inj h1
  exact subscriptTail_builtinR (x:=w) pl.isList.typeIs slot_list_getitem.lookup
   (wpAny_getItem_list_neg (Q:=λr s'=>r=w/\EP X pins σ Q r s') pl.isList (by omega) (by rw [ax] <;> omega) (by omega) (by rw [G]; simpa using d) ⟨rfl,fin⟩) c
theorem ix_tup:IxR X (qje X.K):=by
 intro value e pins s σ H x y v u Q I d c h b;obtain ⟨p,xs,i,z,rfl,rfl,hq,f,q⟩:=h;cases d;obtain ⟨t,rfl⟩:=c;obtain ⟨its,r,pl,k⟩:=I.tuple hq;obtain ⟨j,h1,h2,o,m,l⟩:=WH f;obtain ⟨w,g,a⟩:=r.get h2;have hl:=r.length;have n:=QW;have fin:EP X pins σ Q w s:=⟨z,H,I,a,q⟩
 exact subscriptTail_builtinR (x:=w) pl.typeIs slot_tuple_getitem.lookup
  (getItem_tuple (j:=j) (Q:=λr s'=>r=w/\EP X pins σ Q r s') pl (by omega) (by omega) (by rw [ax,<-hl]; exact h1) (by simpa using g) ⟨rfl,fin⟩) b
theorem qga:IxR X qjf:=by
 intro value e pins s σ H x y v u Q I d r h a;obtain ⟨z,i,c,rfl,rfl,k,b,q⟩:=h;obtain ⟨t,rfl⟩:=d;obtain ⟨t',rfl⟩:=r;obtain ⟨j,h1,h2,m,f,l⟩:=WH b;have hl:z.cps.toList.length=z.length:=by simp [h7]
 rw [hl] at h1 f l;have n:=QW;exact tail_any (typeIs_str s z t) slot_str_getitem.lookup (getItem_str (c:=c) (by have e1:decide (i < -(2 ^ 63:Int))=false:=decide_eq_false (by omega);have g:decide (i ≥ 2 ^ 63)=false:=decide_eq_false (by omega);rw [e1,g,Bool.or_false]) (by rw [h1]; simpa using h2) ⟨.str ⟨#[c]⟩,H,I.tok _,⟨_,rfl⟩,q⟩) a
def rIx (K:Frag):R2:=λx y H Q=>qjd K x y H Q\/qje K x y H Q\/qjf x y H Q
theorem qgb:IxR X (rIx X.K):=ix_list.or (ix_tup.or qga)
theorem XV (its:List iu) (n j:Nat) (u:iu):cW (·.setIfInBounds j u) { cls:=.type "list",data:=.seq its.toArray n }={ cls:=.type "list",data:=.seq (its.set j u).toArray n }:=by simp [cW]
theorem Inv.lst (I:Inv X pins σ H s) (h:H p=ip (.lst xs)):∃ (its:List iu) (n:Nat),Vals xs its/\s.heap.get? p=ip { cls:=.type "list",data:=.seq its.toArray n }/\xs.length<=sizeLine:=by obtain ⟨z,its,n,r,e⟩:=I.hok p _ h;exact ⟨its,n,r,e,z⟩
theorem Inv.lstUpd {ys:List V} {its its':List iu} {n c:Nat} {f:Obj->Obj} (I:Inv X pins σ H s) (h:H p=ip (.lst xs))
  (m:s.heap.get? p=ip { cls:=.type "list",data:=.seq its.toArray n }) (a:f { cls:=.type "list",data:=.seq its.toArray n }={ cls:=.type "list",data:=.seq its'.toArray c }) (r:Vals ys its') (z:ys.length<=sizeLine) (t:Nat) :
  Inv X pins σ (upd H p (.lst ys)) { s with heap:=s.heap.update p f,toks:=t }:=by
 have e:(s.heap.update p f).get? p=ip { cls:=.type "list",data:=.seq its'.toArray c }:=by rw [bo f m (by rw [a] <;> rfl),a]
 refine I.write (x:=p) (e:=p) (by rw [h]; trivial) (.inl rfl) (λb u d q=>(cJ _ _ (bh d)).trans q) ⟨_,e⟩ ?_;exact ⟨z,its',c,r,e⟩
def qio:V->V->V->Hp->(Hp->Prop)->Prop:=λo i v H Q=>∃ p xs k j,o=.ref p/\i=.int k/\H p=ip (.lst xs)/\ixN xs.length k=ip j/\Q (upd H p (.lst (xs.set j v)))
theorem qbH:qja X qio:=by
 intro pins s σ H o i v w x u Q I g l f h;obtain ⟨p,xs,k,j,rfl,rfl,hp,G,q⟩:=h;cases g;obtain ⟨t,rfl⟩:=l;obtain ⟨its,n,r,m,z⟩:=I.lst hp;obtain ⟨h1,h2,c,b⟩:=Gb G;have hl:=r.length;have y:=QW;have e:Inv X pins σ (upd H p (.lst (xs.set j v))) { s with heap:=s.heap.update p (cW (·.setIfInBounds j u)) }:=
  I.lstUpd hp m (XV its n j u) (r.set f j) (by rw [dm]; exact z) s.toks
 by_cases d:0<=k
 ·have a:k.toNat=j:=by rw [seqIndex_of d b] at h1;exact aO.inj h1
  exact PySem.W.ki_setAt m d (by omega) (by rw [ax,<-hl]; exact b) (by rw [a]; exact ⟨_,e,q⟩)
 ·have a:(k+(its.toArray.size:Int)).toNat=j:=by rw [seqIndex_neg (by omega) c] at h1;rw [ax,<-hl];exact aO.inj h1
  exact PySem.W.ki_setBack m (by omega) (by rw [ax,<-hl]; exact c) (by omega) (by rw [a]; exact ⟨_,e,q⟩)
theorem zw:uz X (.type "list") (λxs H Q=>∃ p ys,xs=[.ref p]/\(SqL X.K H p ys\/SqT X.K H p ys)/\∀ l,H l=iq->Q (.ref l) (upd H l (.lst ys))):=by
 intro pins s σ H xs us Q I r h;obtain ⟨p,ys,rfl,hq,q⟩:=h;obtain ⟨u,rfl,x⟩:=yL r;cases x;have fin:∀ (its:List iu),Vals ys its->ys.length<=sizeLine->∀ (h':Heap) (U:Nat),(∀ b o',s.heap.get? b=ip o'->h'.get? b=ip o') ->h'.get? s.heap.objs.size=ip { cls:=.type "list",dict:=iq,data:=.seq its.toArray U,slots:=#[] }->EP X pins σ Q (.ref s.heap.objs.size) { s with heap:=h' }:=λits r' z h' U kp e=>
  ⟨.ref s.heap.objs.size,_,I.laid (t':=s.toks) kp (aD _) (show ObjOk X.prog X.w _ h' _ (.lst ys) from ⟨z,its,U,r',e⟩),rfl,q _ (I.hok.fresh (aD _))⟩
 rcases hq with hq | hq;·obtain ⟨its,r',pl,z⟩:=I.list hq;have a:=r'.length;obtain ⟨o,m,d,n,hd⟩:=pl.isList;exact call_list_seq p (.inl rfl) m d hd (λh' U kp e=>fin its r' z h' U kp e) (by simp only [ax] <;> omega)
 ·obtain ⟨its,r',pl,z⟩:=I.tuple hq;have a:=r'.length;obtain ⟨o,m,d,n,hd⟩:=pl;exact call_list_seq p (.inr rfl) m d hd (λh' U kp e=>fin its r' z h' U kp e) (by simp only [ax] <;> omega)
theorem xb:uz X (.type "tuple") (λxs H Q=>∃ p ys,xs=[.ref p]/\((SqL X.K H p ys/\∀ l,H l=iq->Q (.ref l) (upd H l (.tup ys)))\/(SqT X.K H p ys/\Q (.ref p) H))):=by
 intro pins s σ H xs us Q I r h;obtain ⟨p,ys,rfl,h⟩:=h;obtain ⟨u,rfl,x⟩:=yL r;cases x;rcases h with ⟨hq,q⟩ | ⟨hq,q⟩
 ·obtain ⟨its,r',pl,z⟩:=I.list hq;have n:=r'.length;refine call_tuple_list pl.isList (λh' kp=>?_) (by simp only [ax] <;> omega);have d:Inv X pins σ H { s with heap:=h' }:=I.kept (t':=s.toks) kp;have k:Inv X pins σ (upd H h'.objs.size (.tup ys)) { s with heap:=h'.push { cls:=.type "tuple",data:=.seq its.toArray } }:=
   d.laid (t':=s.toks) (λb o e=>ae _ e) (aD _) (show ObjOk X.prog X.w _ _ _ (.tup ys) from ⟨⟨z,_,aq _ rfl,rfl⟩,its,r',IsTup.new _ _⟩)
  exact ⟨.ref h'.objs.size,_,k,rfl,q _ (d.hok.fresh (aD _))⟩
 ·obtain ⟨its,r',pl,z⟩:=I.tuple hq;exact call_tuple_same pl ⟨.ref p,H,I,rfl,q⟩
def tyV (K:Frag) (T:String) (x:V) (H:Hp):Prop:=match x with
 | .str _=>T = "str"
 | .int _=>T = "int"
 | .ref p=>(T = "list"/\∃ xs,SqL K H p xs)\/(T = "tuple"/\∃ o,K.lookup p=ip o/\o.cls=.type "tuple"/\o.dict=iq) \/
   (T = "dict"/\((∃ kvs,H p=ip (.dK kvs))\/∃ kvs,H p=ip (.dT kvs)))\/(T = "set"/\∃ S n,H p=ip (.set S n))
 | _=>False
theorem qgc {x:V} {v:iu} (I:Inv X pins σ H s) (r:RelV x v) (ty:tyV X.K T x H):s.TypeIs v T/\∀ a,v=.ref a->∃ d,s.heap.get? a=ip d/\d.dict=none:=by
 cases x with
 | str z=>obtain ⟨t,rfl⟩:=r;cases (show T = "str" from ty);exact ⟨typeIs_str s z t,λ_ e=>nomatch e⟩
 | int i=>obtain ⟨t,rfl⟩:=r;cases (show T = "int" from ty);exact ⟨typeIs_int s i t,λ_ e=>nomatch e⟩
 | ref p=>
  cases r;rcases ty with ⟨rfl,xs,hq⟩ | ⟨rfl,o,k,h,hd⟩ | ⟨rfl,k⟩ | ⟨rfl,S,n,k⟩
  ·obtain ⟨its,_,pl,_⟩:=I.list hq;refine ⟨pl.isList.typeIs,λa e=>?_⟩;cases e;obtain ⟨o,n,e,c,hd,_⟩:=pl;exact ⟨o,e,hd⟩
  ·refine ⟨⟨o,I.kIn p o k,h⟩,λa e=>?_⟩;cases e;exact ⟨o,I.kIn _ o k,hd⟩
  ·have z:∃ o,s.heap.get? p=ip o/\o.ExactDict:=by
    rcases k with ⟨kvs,k⟩ | ⟨kvs,k⟩
    ·obtain ⟨_,_,_,_,o,_,_,e,ex,_⟩:=I.hok p _ k;exact ⟨o,e,ex⟩
    ·obtain ⟨_,_,_,_,o,_,_,e,ex,_⟩:=I.hok p _ k;exact ⟨o,e,ex⟩
   obtain ⟨o,e,ex⟩:=z;refine ⟨⟨o,e,ex.1⟩,λa b=>?_⟩;cases b;exact ⟨o,e,ex.2.1⟩
  ·obtain ⟨o,_,_,_,e,ex,_⟩:=I.hok p _ k;refine ⟨⟨o,e,ex.1⟩,λa b=>?_⟩;cases b;exact ⟨o,e,ex.2.1⟩
 | _=>exact cA ty
def tBM (K:Frag) (T:String) (r:V->List V->Hp->VK->Prop) (to:TE) (t:TA):TE:=λσ H Q=>to σ H λx H1=>tyV K T x H1/\t σ H1 λxs H2=>r x xs H2 Q
variable {o:Expr} {es:List Expr} {to:TE} {t:TA} {name:Str} {apos cpos:Pos} {id:String} {r:V->List V->Hp->VK->Prop}
theorem WK (p:PlainAttrs T) (slot:Slot T name id) (y:typeOf (.builtin id)=pure (.type "method_descriptor")) (g:MtR X id r) (m:PE X o to) (i:PA X (e::es) t)
  (b:attributeBase o name X.env (eval o X.env)=eval o X.env:=by rfl)
  (w:((backTo cpos (starEach (e::es) X.env)).all (λx=>!x.1)&&(backToKw cpos (keywordEach [] X.env)).all (λx=>x.1.isSome)
   && decide ((e::es).length+([]:List iP).length+(if ([]:List iP).isEmpty then 0 else 1) < 30))=true:=by rfl)
  (a:(apos.endLine == cpos.line)=true:=by rfl) (f:starEach (e::es) X.env=(iw,eval e X.env)::starEach es X.env:=by rfl) (n:(backTo cpos (starEach es X.env)).any (·.1)=false:=by rfl) :
  PE X (.Call (.Attribute o name apos) (e::es) [] cpos) (tBM X.K T r to t):=by
 refine ⟨?_⟩;intro pins s σ H Q I h;refine wpAny_Call_method_late b w a rfl (thn (m pins s σ H _ I h) λv s1 ⟨x,H1,d,r1,ty,c⟩=>?_);obtain ⟨h1,h2⟩:=qgc d r1 ty;refine ⟨T,id,p,slot,y,h1,h2,?_⟩;have hA:=i cpos pins s1 σ H1 _ d c;rw [f] at hA ⊢;refine Calls.callWith_builtin (by show (iw||(backTo cpos (starEach es X.env)).any (·.1))=iw; rw [n] <;> rfl) (fj ?_);exact thn hA λus s2 ⟨vs,H2,k,r2,q⟩=>g pins s2 σ H2 x vs v us Q k r1 r2 q
end
def MtM (X:Cx) (id:String) (r:V->List V->Hp->VK->Prop):Prop:=
 ∀ (pins:List (Addr×Obj)) (s:iB) (σ:St) (H:Hp) (x:V) (xs:List V) (v:iu) (us:List iu) (Q:VK),Inv X pins σ H s->RelV x v->Vals xs us->r x xs H Q ->wpAny (model X.prog X.w) X.A (call (.builtin id) (v::us)) (EP X pins σ Q) X.xe s
theorem Vals.one:∀ {x:V} {us:List iu},Vals [x] us->∃ u,us=[u]/\RelV x u
 | _,_,.cons r .nil=>⟨_,rfl,r⟩
theorem Vals.two:∀ {x y:V} {us:List iu},Vals [x,y] us->∃ u v,us=[u,v]/\RelV x u/\RelV y v
 | _,_,_,.cons r (.cons q .nil)=>⟨_,_,rfl,r,q⟩
theorem Vals.zero:∀ {us:List iu},Vals [] us->us=[]
 | _,.nil=>rfl
theorem Vals.eraseIdx:∀ {xs:List V} {us:List iu} (i:Nat),Vals xs us->Vals (xs.eraseIdx i) (us.eraseIdx i)
 | _,_,_,.nil=>.nil
 | _,_,0,.cons _ t=>t
 | _,_,i+1,.cons r t=>.cons r (Vals.eraseIdx i t)
theorem Vals.reverse (h:Vals xs us):Vals xs.reverse us.reverse:=by
 induction h with
 | nil=>exact .nil
 | cons r t j=>rw [cC,cC]; exact Vals.append j (.cons r .nil)
theorem Vals.rep (h:Vals xs us):∀ k:Nat,Vals (aX k xs).flatten (aX k us).flatten
 | 0=>.nil
 | k+1=>by rw [List.replicate_succ,List.replicate_succ,List.flatten_cons,List.flatten_cons];exact Vals.append h (Vals.rep h k)
theorem Vk:∀ (l:List α) (i:Nat),(l.eraseIdx i).length<=l.length
 | [],_=>aD _
 | _::_,0=>fC _
 | _::r,i+1=>Nat.succ_le_succ (Vk r i)
section
variable {l b:Addr} {ys zs:List V}
theorem Inv.lset {its its':List iu} {n:Nat} {f:Array iu->Array iu} {t':Nat} (I:Inv X pins σ H s) (b:H l=ip (.lst xs))
  (e:s.heap.get? l=ip { cls:=.type "list",data:=.seq its.toArray n }) (a:f its.toArray=its'.toArray) (c:Vals ys its') (z:ys.length<=sizeLine) :
  Inv X pins σ (upd H l (.lst ys)) { s with heap:=s.heap.update l (cW f),toks:=t' }:=by
 have q:=PySem.IsL.update e f;rw [a] at q;refine I.write (x:=l) (e:=l) (by rw [b]; exact trivial) (.inl rfl) (λg u d h=>(cJ s.heap (cW f) (bh d)).trans h) ⟨_,q⟩ ?_;exact ⟨z,its',_,c,q⟩
theorem Inv.lnew {its:List iu} {t':Nat} (I:Inv X pins σ H s) (c:Vals ys its) (z:ys.length<=sizeLine):Inv X pins σ (upd H s.heap.objs.size (.lst ys)) { s with heap:=s.heap.push { cls:=.type "list",data:=.seq its.toArray },toks:=t' }:=
 I.laid (λ_ _ q=>ae _ q) (aD _) ⟨z,its,0,c,aq _ rfl⟩
theorem Inv.fresh (I:Inv X pins σ H s):H s.heap.objs.size=none:=I.hok.fresh (aD _)
theorem Inv.lstM (I:Inv X pins σ H s) (b:H l=ip (.lst xs)):xs.length<=sizeLine/\∃ (its:List iu) (n:Nat),Vals xs its/\xs.length=its.length/\s.heap.get? l=ip { cls:=.type "list",data:=.seq its.toArray n }:=by obtain ⟨z,its,n,r,e⟩:=I.hok l _ b;exact ⟨z,its,n,r,r.length,e⟩
theorem qbI (h:n<=sizeLine):dR n=false:=by unfold dR;exact decide_eq_false (by omega)
end
section
def WL:V->List V->Hp->VK->Prop:=λx vs H Q=>∃ l xs y,x=.ref l/\vs=[y]/\H l=ip (.lst xs)/\xs.length < sizeLine/\Q .non (upd H l (.lst (xs++[y])))
theorem Vl:MtM X "list.append" WL:=by intro pins s σ H x vs v us Q I d a h;obtain ⟨l,xs,y,rfl,rfl,b,c,q⟩:=h;cases d;obtain ⟨u,rfl,B⟩:=a.one;obtain ⟨z,its,n,r,hl,e⟩:=I.lstM b;refine j6 F.slot_list_append ⟨_,e,rfl⟩ F.entry_list_append (F.args_list_append_2 _ _) (PySem.list_append l its.toArray n u (by rw [ax]; omega)) ⟨e,?_⟩;refine ⟨.non,_,I.lset (its':=its++[u]) b e (by simp) (r.append (.cons B .nil)) ?_,rfl,q⟩;rw [ah,List.length_singleton];omega
def qed:V->List V->Hp->VK->Prop:=λx vs H Q=>∃ l b xs zs,x=.ref l/\vs=[.ref b]/\H l=ip (.lst xs)/\H b=ip (.lst zs)/\xs.length+zs.length<=sizeLine/\Q .non (upd H l (.lst (xs++zs)))
theorem Gc:MtM X "list.extend" qed:=by
 intro pins s σ H x vs v us Q I d c h;obtain ⟨l,b,xs,zs,rfl,rfl,a,j,m,q⟩:=h;cases d;obtain ⟨u,rfl,B⟩:=c.one;cases B;obtain ⟨z,its,n,r,hl,e⟩:=I.lstM a;obtain ⟨N,i,n2,r2,f,k⟩:=I.lstM j;have hsz:its.toArray.size+i.toArray.size<=sizeLine:=by rw [ax,ax]; omega
 have g:¬(!its.toArray.isEmpty&&dR (its.toArray.size+i.toArray.size))=true:=by rw [qbI hsz,Bool.and_false];exact bz
 refine j6 F.slot_list_extend ⟨_,e,rfl⟩ F.entry_list_extend (F.args_list_extend_2 _ _)
  (AutoSeq1.list_extend_list_list_0 l its.toArray n b i.toArray n2 g (by rw [ax]; omega) (by omega)) ⟨e,k,?_⟩
 refine ⟨.non,_,I.lset (its':=its++i) a e (by simp) (r.append r2) ?_,rfl,q⟩;rw [ah];omega
def qgd:V->List V->Hp->VK->Prop:=λx vs H Q=>∃ l xs i k y,x=.ref l/\vs=[.int i]/\H l=ip (.lst xs)/\-(2 ^ 63)<=i/\i < 2 ^ 63/\seqIndex? i xs.length=ip k/\xs[k]?=ip y/\Q y (upd H l (.lst (xs.eraseIdx k)))
theorem qbJ:MtM X "list.pop" qgd:=by
 intro pins s σ H x vs v us Q I d c h;obtain ⟨l,xs,i,k,y,rfl,rfl,b,h1,h2,g,D,q⟩:=h;cases d;obtain ⟨u,rfl,B⟩:=c.one;obtain ⟨t,rfl⟩:=B;obtain ⟨z,its,n,r,hl,e⟩:=I.lstM b;obtain ⟨w,f,a⟩:=r.get D;refine j6 F.slot_list_pop ⟨_,e,rfl⟩ F.entry_list_pop (F.args_list_pop_2 _ _)
  (MeetsSeq.list_pop_at l its.toArray n i t k w (fitsIndex_both h1 h2) (by rw [ax,<-hl]; exact g) (by rw [<-bS]; exact f) (by rw [ax]; omega)) ⟨e,?_⟩
 refine ⟨y,_,I.lset (its':=its.eraseIdx k) b e ?_ (r.eraseIdx k) ?_,a,q⟩;·show its.toArray.eraseIdxIfInBounds k=(its.eraseIdx k).toArray;rw [List.eraseIdxIfInBounds_toArray]
 ·have:=Vk xs k;omega
end
end L2
namespace Att
open PySem PySem.W PySem.Calls PyProof.Rows
theorem gI {P:la} {h:Heap}:∀ (ns:List Int) (vs:List iu),WellAll P h vs (ns.map WData.int)->IntsAre vs ns:=by
 intro ns
 induction ns with
 | nil=>intro vs w;rw [cg] at w;cases w;exact .nil
 | cons n ns j=>
  intro vs w;rw [aE] at w;cases w with
  | cons a b=>cases a;exact .cons _ _ (j _ b)
theorem Gd {l:OpenLaw} {n:Nat} (s:l.most=ip n) {P:la} {h:Heap} {args:List WData} {v:List iu}
  (e:l.row.toRowW.claim.pre args=iA) (i:WellAll P h v args) :
  ∃ a vs ns,v=[cq a]/\args=[WData.list (ns.map WData.int)]/\h.get? a=ip { cls:=.type "list",data:=.seq vs.toArray }/\IntsAre vs ns/\ns.length<=n:=by
 have j:WShape.hasAll [] args [.list .int]=true:=(pre_splitW e).1;have k:l.pre.holds [] { args:=args }=true:=(pre_splitW e).2;obtain ⟨d,r,rfl,h1,h2⟩:=hasAllW_cons j;obtain rfl:=hasAllW_nil h2;obtain ⟨xs,rfl,t⟩:=hasW_list h1;obtain ⟨ns,rfl⟩:=items_int t;have b:ns.length<=n:=by
  unfold OpenLaw.pre at k;have g:(WTm.not (.lt (.lit (.int (n:Int))) (.len (.arg 0)))).holds [] { args:=[.list (ns.map .int)] }=true:=by have g:=(holds_andW k).1;rw [s] at g;exact g
  have f:=condW_of g (w_not (w_lt w_lit (w_len_list (w_arg rfl))));rw [ay] at f;refine Nat.le_of_not_lt λq=>?_;have m:(n:Int) < ((ns.length:Nat):Int):=by omega
  first
   | (rw [decide_eq_true m] at f; exact absurd f (by decide))
   | (simp at f; omega)
 cases i with
 | cons p w=>
  cases w;cases p with
  | list o c=>exact ⟨_,_,ns,rfl,rfl,o,gI ns _ c,b⟩
theorem Ge (l:OpenLaw) (args:List WData):l.row.toRowW.claim.post args (.bool iA) args=true:=
 postW_of (r:=l.row.toRowW) (X:=(iA == iA))
  (show WShape.has [] (.bool iA) .bool=iA by first | rfl | decide | simp [WShape.has,WShape.arms,WShape.armsAll])
  (show (WTm.eq .res (.lit (.bool iA))).value [] { args:=args,res:=ip (.bool iA),after:=args }=ip (.bool (iA == iA)) from w_eq_bool (w_res rfl) w_lit) rfl
theorem attach_call {l:OpenLaw} {n:Nat} {q:iE} {loose:List Str} {XP:(Str->Option iu)->Heap->Prop} {YP:iF->Heap->Prop} {d:DefRec}
  (p:l.most=ip n) (hdf:d.params.defaults=[])
  (call:∀ (w:iF) (s₀ s:iB) (mg mb:Str->Option iu) (fa:Addr) (o:Obj) (pm cd doc:iu) (a:Addr) (vs:List iu) (ns:List Int),Ground q loose [] XP w s₀ mg mb s.heap->YP w s.heap ->s.heap.get? fa=ip o->o.data=.func (docDef d.name d.params d.body d.scope pm cd doc)->s.heap.CodeRec cd d.name->mg d.name=ip (.ref fa) ->s.heap.get? a=ip { cls:=.type "list",data:=.seq vs.toArray }->IntsAre vs ns->ns.length<=n->s.gens=#[] ->codeAny (model l.prog w) callerA (.call (.ref fa) ⟨[.ref a],[]⟩) (λr s'=>r=.ok (.ret (.bool iA))/\OldK s.heap s'.heap/\s'.os=s.os/\k9 s'.gens) s) :
  WalkO q loose XP YP l.row.toRowW d [] (λf vs=>ij f vs):=by
 intro w s₀ s mg mb G Y fa o pm cd doc V kV m hd c D g hg args v as e y k i u;obtain rfl:V=.none:=Dflts.none D hdf;obtain rfl:kV=.none:=Dflts.noKw D;obtain ⟨a,vs,ns,rfl,rfl,j,h,b⟩:=Gd p e i;refine enter_call (j9 (call w s₀ s mg mb fa o pm cd doc a vs ns G Y m (fd_plain hd) c g j h b hg) λr s' hq=>?_);obtain ⟨rfl,h2,z,x⟩:=hq;exact ⟨.inl ⟨.bool iA,.bool iA,[],rfl,λ_=>rfl,.bool iA,Ge l _,λ_=>⟨dD,λ_ t=>(nomatch t)⟩⟩,h2,z,x⟩
end Att
namespace L2
open PySem PySem.Spec PyProof.Rows
theorem Vm:∀ {vs:List iu} {ns:List Int},IntsAre vs ns->Vals (ns.map V.int) vs
 | _,_,.nil=>.nil
 | _,_,.cons n t h=>.cons ⟨t,rfl⟩ (Vm h)
def qip (H:Hp):Prop:=∀ b,H b=iq\/∃ o xs,H b=ip (.frz o (.lst xs))
theorem qbK {P:iE} {w:iF} {K:Frag} {mg mb:Str->Option iu} {CX:CXT} {k:Nat} {fa a:Addr} {fd:iZ} {x:Str} {sp:Sp} {c:iB} {vs:List iu} {ns:List Int}
  (N:K.In c.heap) (A:c.heap.Ns mainGlobals mg) (g:c.heap.Ns builtinsNs mb) (J:∀ x:Str,x ≠ "__name__"->mb x=bootBuiltins x) (B:c.heap.NoLimit) (hg:c.gens=#[])
  (D:c.heap.get? a=ip { cls:=.type "list",data:=.seq vs.toArray }) (hi:IntsAre vs ns) (hl:ns.length<=sizeLine) (S:Room k callerA)
  (F:∀ base:Heap,K.In base->base.Ns mainGlobals mg->FnOk P w K mg base CX k fa fd [x] sp) (l:∀ (s:iB) (u:iu),lm s fd ⟨[u],[]⟩ [(x,u)])
  (G:∀ H:Hp,qip H->SqL K H a (ns.map V.int)->sp [.ref a] H (λv _=>v=.bl iA) λ_ _ _=>False)
  (X:∀ H e s',CX [] H c (λ_ _ _=>False) e s'->False) :
  codeAny (model P w) callerA (.call (.ref fa) ⟨[.ref a],[]⟩) (λr s'=>r=.ok (.ret (.bool iA))/\OldK c.heap s'.heap/\s'.os=c.os/\k9 s'.gens) c:=by
 have M:=Vm hi;have t:=hi.length;have j:∀ H:Hp,qip H->SqL K H a (ns.map V.int)->HOk P w H c.heap->(∀ b,H b≠iq->b=a)->(H a≠iq->K.lookup a=iq) ->codeAny (model P w) callerA (.call (.ref fa) ⟨[.ref a],[]⟩) (λr s'=>r=.ok (.ret (.bool iA))/\OldK c.heap s'.heap/\s'.os=c.os/\k9 s'.gens) c:=by
  intro H O T hok hA W;have f:∀ {b:Addr} {o:Obj},c.heap.get? b=ip o->H b=iq->(qbw c.heap H).get? b=ip o:=λe n=>qbx e n;have E:∀ {b:Addr} {o:Obj} {es:Array ll} {ep:Nat},c.heap.get? b=ip o->o.data=.dict es ep->H b=none:=λ{b o es ep} e d=>by
   cases q:H b with
   | none=>rfl
   | some u=>have L:b=a:=hA b (by rw [q]; simp);subst L;rw [D] at e; cases e;have d':Data.seq vs.toArray _=Data.dict es ep:=d;cases d'
  have i:∀ {b:Addr} {m:Str->Option iu},c.heap.Ns b m->(qbw c.heap H).Ns b m:=λ{b m} ⟨o,es,ep,e,d,r⟩=>⟨o,es,ep,f e (E e d),d,r⟩
  have C:K.In (qbw c.heap H):=λb o e=>f (N b o e) (by
   cases q:H b with
   | none=>rfl
   | some u=>have L:b=a:=hA b (by rw [q]; simp);subst L;rw [W (by rw [q]; simp)] at e; cases e)
  have U:Mod K mg (qbw c.heap H):=⟨C,i A,⟨mb,i g,J⟩,let ⟨mc,h1,h2⟩:=B; ⟨mc,i h1,h2⟩⟩
  have e0:Env0 P w K mg (qbw c.heap H) callerA [] c H:=⟨rfl,U,λb o e=>qdU e,ez (ZN _ _),trivial,λb g=>absurd (show b∈([]:List Addr) from g) (by simp),hok,.of_eq hg⟩
  refine j9 ((F _ C (i A)).run callerA [] c H ⟨[.ref a],[]⟩ [.ref a] [.ref a] _ _ S e0 (l c (.ref a)) (.cons rfl .nil) (G H O T)) λr s' h=>?_;cases r with
  | error e=>exact (X H e s' h).elim
  | ok Y=>
   cases Y with
   | next=>exact cA h
   | brk=>exact cA h
   | cont=>exact cA h
   | ret u=>
    obtain ⟨v,H',os,bare,un,y,r',q⟩:=h;have R:v=.bl true:=q;subst R;obtain rfl:u=ba true:=r';refine ⟨rfl,OldK.of_keep λb o e=>?_,os,bare⟩;cases q:H b with
    | none=>exact un.keep b o e q (by intro z; exact absurd (show b∈([]:List Addr) from z) (by simp)) (by simp)
    | some u=>
     rcases O b with z | ⟨ob,xs,z⟩
     ·rw [q] at z; cases z
     ·have Q:=un.frzs b ob _ z;obtain ⟨e1,_⟩:=hok b _ z;obtain ⟨Z,_⟩:=y b _ Q;rw [e] at e1; cases e1;exact Z
 cases I:K.lookup a with
 | some o=>have e:=N a o I;rw [D] at e;cases e;refine j (λ_=>iq) (λ_=>.inl rfl) (.inr ⟨_,vs.toArray,_,I,rfl,rfl,rfl,by rw [ax,t]; exact hl,by simpa using M⟩) (λb u z=>by have p:(iq:Option HO)=ip u:=z; cases p) (λb z=>absurd rfl z) λz=>absurd rfl z
 | none=>
  refine j (λb=>if b=a then ip (.frz { cls:=.type "list",data:=.seq vs.toArray } (.lst (ns.map V.int))) else iq) (λb=>?_) (.inl (.inr ⟨{ cls:=.type "list",data:=.seq vs.toArray },if_pos rfl⟩)) (λb u z=>?_) (λb z=>?_) λ_=>I
  ·by_cases g:b=a;·exact .inr ⟨_,_,if_pos g⟩
   ·exact .inl (if_neg g)
  ·by_cases g:b=a;·have p:=(if_pos g).symm.trans z;cases p;subst g;exact ⟨D,by rw [ay]; exact hl,vs,_,M,D⟩
   ·have p:=(if_neg g).symm.trans z;cases p
  ·by_cases g:b=a;·exact g
   ·exact absurd (if_neg g) z
theorem qee {l:fY} {n k:Nat} {q:iE} {loose:List Str} {XP:(Str->Option iu)->Heap->Prop} {YP:iF->Heap->Prop} {d:DefRec} {K:la->Frag} {CX:iF->CXT} {sp:iF->Sp} {x:Str}
  (A:l.most=ip n) (r:n<=sizeLine) (hdf:d.params.defaults=[]) (z:Room k callerA)
  (D:∀ (w:iF) (h:Heap),YP w h->(K w.params).In h)
  (F:∀ (w:iF) (mg:Str->Option iu) (fa:Addr) (h:Heap),(K w.params).In h->h.Ns mainGlobals mg->mg d.name=ip (.ref fa) ->∃ fd:iZ,(∀ (s:iB) (u:iu),lm s fd ⟨[u],[]⟩ [(x,u)]) /\
    ∀ base:Heap,(K w.params).In base->base.Ns mainGlobals mg->FnOk l.prog w (K w.params) mg base (CX w) k fa fd [x] (sp w))
  (p:∀ (w:iF) (H:Hp) (a:Addr) (ns:List Int),ns.length<=n->qip H->SqL (K w.params) H a (ns.map V.int)->sp w [.ref a] H (λv _=>v=.bl iA) λ_ _ _=>False)
  (X:∀ (w:iF) (H:Hp) (s:iB) (e:iu) (s':iB),CX w [] H s (λ_ _ _=>False) e s'->False) :
  PySem.W.WalkO q loose XP YP l.row.toRowW d [] (λf vs=>ij f vs):=by
 refine Att.attach_call A hdf λw s₀ j mg mb fa o pm cd doc a vs ns G Y I hd B t m i c hg=>?_;have y:=D w _ Y;obtain ⟨fd,C,E⟩:=F w mg fa _ y G.T.g t;exact qbK y G.T.g G.T.b G.T.builtins G.T.nolimit hg m i (bg c r) z E C (λH O S=>p w H a ns c O S) λH e s'=>X w H j e s'
noncomputable def uB (s:Stmt):Arguments:=match s with
 | .FunctionDef _ a _ _ _ _ _ _ _ _=>a
 | _=>{ posonlyargs:=[],args:=[],vararg:=iq,kwonlyargs:=[],kw_defaults:=[],kwarg:=iq,defaults:=[] }
noncomputable def vb (s:Stmt):List Stmt:=match s with
 | .FunctionDef _ _ b _ _ _ _ _ _ _=>b
 | _=>[]
noncomputable def qf (s:Stmt):j7:=match s with
 | .FunctionDef _ _ _ _ _ _ sc _ _ _=>sc
 | _=>{ kind:=.function,names:=[],isGenerator:=iw,isCoroutine:=iw }
structure Fun (K:Frag) (x qual:Str) (st:Stmt) (f:Addr) (fd:iZ):Prop where
 ex:∃ (oc:iu) (od:Option Addr) (kV doc pm:iu) (an:Option Addr) (cdv ct:iu) (osl:Array (Option iu)),fd=cf x qual (uB st) (vb st) (qf st) .none kV doc pm an cdv ct/\K.lookup f=ip ⟨oc,od,.func fd,osl⟩/\codeIn K cdv qual=iA
 kp:keepIn K (.ref f)=iA
variable {P:iE} {w:iF} {K:Frag} {x qual:Str} {st:Stmt} {f:Addr}
section
variable {mg:Str->Option iu} {base:Heap}
theorem Fun.binds {fd:iZ} {ps:List Str} (F:Fun K x qual st f fd)
  (h:∀ (kV doc pm:iu) (an:Option Addr) (cdv ct:iu) (us:List iu),us.length=ps.length->bindArgs (cf x qual (uB st) (vb st) (qf st) .none kV doc pm an cdv ct) ⟨us,[]⟩=pure (ps.zip us)):Binds K fd ps []:=by
 obtain ⟨oc,od,kV,doc,pm,an,cdv,ct,osl,rfl,z,d⟩:=F.ex;exact .all (h kV doc pm an cdv ct)
theorem Gf {oc:iu} {od an:Option Addr} {osl:Array (Option iu)} {kV doc pm cdv ct:iu} (l:K.lookup f=ip ⟨oc,od,.func (cf x qual (uB st) (vb st) (qf st) .none kV doc pm an cdv ct),osl⟩)
  (c:codeIn K cdv qual=iA) (k:keepIn K (.ref f)=iA):Fun K x qual st f (cf x qual (uB st) (vb st) (qf st) .none kV doc pm an cdv ct):=⟨⟨oc,od,kV,doc,pm,an,cdv,ct,osl,rfl,l,c⟩,k⟩
end
variable {X:Cx}
section
theorem pv (i:Nat) {pos:Pos} (h:X.N[i]?=ip x:=by rfl) (c:Vis X.env.scope x:=by first | exact aw rfl | exact ci (aw rfl) | exact ci (ci rfl)) (hd:(x == ("__debug__":Str))=false:=by decide)
  (d:(x == ("__classdict__":Str))=false:=by decide):PE X (.Name x pos) (qh3 i):=yC h c hd d
end
def Same (H H':Hp):Prop:=∀ b o,H b=ip o->H' b=ip o
theorem Same.refl (H:Hp):Same H H:=λ_ _ h=>h
variable {H:Hp}
theorem Same.trans {H1 H2:Hp} (a:Same H H1) (b:Same H1 H2):Same H H2:=λc o h=>b c o (a c o h)
variable {H':Hp}
theorem Same.free (e:Same H H') {l:Addr} (h:H' l=Option.none):H l=Option.none:=by
 cases q:H l with
 | none=>rfl
 | some o=>rw [e l o q] at h;cases h
variable {a:Addr}
theorem Same.seq {xs:List V} (e:Same H H') (h:SqL K H a xs):SqL K H' a xs:=by
 rcases h with (h | ⟨o,h⟩) | h;·exact .inl (.inl (e _ _ h))
 ·exact .inl (.inr ⟨o,e _ _ h⟩)
 ·exact .inr h
variable {o:Option V} {u:iu} {d y:V}
section
variable {κ:Type} [DecidableEq κ]
noncomputable def WD (kvs:List (κ×V)) (k:κ):Option V:=(kvs.find? λkv=>decide (kv.1=k)).map (·.2)
noncomputable def QF (kvs:List (κ×V)) (k:κ) (v:V):List (κ×V):=
 if (kvs.any λkv=>decide (kv.1=k))=iA then kvs.map (λkv=>if kv.1=k then (kv.1,v) else kv) else kvs++[(k,v)]
theorem zZ {p:κ×V} {r:List (κ×V)} {k:κ} (e:p.1=k):WD (p::r) k=ip p.2:=by simp [WD,dn,e]
theorem xc {p:κ×V} {r:List (κ×V)} {k:κ} (e:¬p.1=k):WD (p::r) k=WD r k:=by simp [WD,dn,e]
theorem JA (k:κ):∀ kvs:List (κ×V),(kvs.any λkv=>decide (kv.1=k))=(WD kvs k).isSome
 | []=>rfl
 | p::r=>by
  rw [cM];by_cases e:p.1=k;·simp only [zZ e,decide_eq_true e,Bool.true_or,Option.isSome_some]
  ·rw [xc e,decide_eq_false e,Bool.false_or]; exact JA k r
theorem yM (kvs:List (κ×V)) (k:κ) (v:V):(QF kvs k v).length<=kvs.length+1:=by
 unfold QF;split;·rw [ay]; omega
 ·rw [ah,ap,bf]; omega
theorem RelO.isSome_eq {u:Option iu} (r:RelO o u):o.isSome=u.isSome:=by
 cases o with
 | none=>cases u with
  | none=>rfl
  | some _=>exact (show False from r).elim
 | some _=>cases u with
  | none=>exact (show False from r).elim
  | some _=>rfl
theorem RelO.getD {u:Option iu} {d':iu} (r:RelO o u) (rd:RelV d d'):RelV (o.getD d) (u.getD d'):=by
 cases o with
 | none=>cases u with
  | none=>exact rd
  | some _=>exact (show False from r).elim
 | some _=>cases u with
  | none=>exact (show False from r).elim
  | some _=>exact r
theorem KV.val {kvs:List (κ×V)} {vs:List (κ×iu)} (r:KV kvs vs) (k:κ):RelO (WD kvs k) (valueAt vs k):=by
 unfold KV at r
 induction r with
 | nil=>exact dH
 | @cons p q ps qs h t ih=>
  obtain ⟨h1,h2⟩:=h;by_cases e:p.1=k
  ·have a:q.1=k:=h1.symm.trans e;have b:valueAt (q::qs) k=ip q.2:=by simp [valueAt,dn,a]
   rw [zZ e,b]; exact h2
  ·have a:¬q.1=k:=λz=>e (h1.trans z);have b:valueAt (q::qs) k=valueAt qs k:=by simp [valueAt,dn,a]
   rw [xc e,b]; exact ih
theorem KV.any {kvs:List (κ×V)} {vs:List (κ×iu)} (r:KV kvs vs) (k:κ):(kvs.any λkv=>decide (kv.1=k))=vs.any λkv=>decide (kv.1=k):=by
 unfold KV at r
 induction r with
 | nil=>rfl
 | cons h t j=>rw [cM,cM,j,h.1]
theorem KV.repl {kvs:List (κ×V)} {vs:List (κ×iu)} (r:KV kvs vs) (k:κ) (c:RelV y u):KV (kvs.map λkv=>if kv.1=k then (kv.1,y) else kv) (vs.map λkv=>if kv.1=k then (kv.1,u) else kv):=by
 unfold KV at r ⊢
 induction r with
 | nil=>exact .nil
 | @cons p q ps qs h t ih=>
  rw [aE,aE];refine .cons ?_ ih;obtain ⟨h1,h2⟩:=h;by_cases e:p.1=k;·rw [if_pos e,if_pos (h1.symm.trans e)]; exact ⟨h1,c⟩
  ·rw [if_neg e,if_neg (λz=>e (h1.trans z))]; exact ⟨h1,h2⟩
theorem KV.put {kvs:List (κ×V)} {vs:List (κ×iu)} (r:KV kvs vs) (k:κ) (c:RelV y u):KV (QF kvs k y) (stored vs k u):=by
 unfold QF stored;rw [r.any k];by_cases e:(vs.any λkv=>decide (kv.1=k))=iA;·rw [if_pos e,if_pos e]; exact r.repl k c
 ·rw [if_neg e,if_neg e]; exact Paired.snoc r ⟨rfl,c⟩
theorem KV.keys {kvs:List (κ×V)} {vs:List (κ×iu)} (r:KV kvs vs):kvs.map (·.1)=vs.map (·.1):=by
 unfold KV at r
 induction r with
 | nil=>rfl
 | cons h t j=>rw [aE,aE,j,h.1]
theorem KV.length {kvs:List (κ×V)} {vs:List (κ×iu)} (r:KV kvs vs):kvs.length=vs.length:=fK r
end
theorem XW {k:Key} (r:RelV (kV k) u):(jj P w).is k u=true:=by
 cases k with
 | inl i=>obtain ⟨t,e⟩:=(show ∃ t,u=g7 i t from r); subst e; exact WE P w i t
 | inr x=>obtain ⟨t,e⟩:=(show ∃ t,u=g8 x t from r); subst e; exact WF P w x t
theorem Vn:∀ {ks:List Key} {us:List iu},Vals (ks.map kV) us->ItemsAre (jj P w) ks us
 | [],_,r=>by rw [cg] at r; cases r; exact .nil
 | k::ks,_,r=>by
  rw [aE] at r;cases r with
  | cons h t=>exact .cons (XW h) (Vn t)
abbrev KT (H:Hp):List (List Key×V)->List (List Key×Addr×iu)->Prop:=lq λp q=>p.1=q.1/\H q.2.1=ip (.tup (p.1.map kV))/\RelV p.2 q.2.2
variable {xs:List (List Key×Addr×iu)} {kvs:List (List Key×V)}
theorem KT.val (r:KT H kvs xs) (k:List Key):RelO (WD kvs k) ((atKey xs k).map (·.2)):=by
 induction r with
 | nil=>exact dH
 | @cons p q ps qs h t ih=>
  obtain ⟨h1,_,h2⟩:=h;by_cases e:p.1=k
  ·have a:q.1=k:=h1.symm.trans e;have b:atKey (q::qs) k=ip q.2:=by simp [atKey,dn,a]
   rw [zZ e,b]; exact h2
  ·have a:¬q.1=k:=λz=>e (h1.trans z);have b:atKey (q::qs) k=atKey qs k:=by simp [atKey,dn,a]
   rw [xc e,b]; exact ih
theorem KT.repl (r:KT H kvs xs) (k:List Key) (c:RelV y u):KT H (kvs.map λkv=>if kv.1=k then (kv.1,y) else kv) (xs.map (putAt k u)):=by
 induction r with
 | nil=>exact .nil
 | @cons p q ps qs h t ih=>
  rw [aE,aE];refine .cons ?_ ih;obtain ⟨h1,h2,j⟩:=h;unfold putAt;by_cases e:p.1=k;·rw [if_pos e,if_pos (h1.symm.trans e)]; exact ⟨h1,h2,c⟩
  ·rw [if_neg e,if_neg (λz=>e (h1.trans z))]; exact ⟨h1,h2,j⟩
variable {b:Addr}
theorem KT.put (r:KT H kvs xs) (k:List Key) (d:H b=ip (.tup (k.map kV))) (c:RelV y u):KT H (QF kvs k y) (storedH xs k b u):=by
 have e:(kvs.any λkv=>decide (kv.1=k))=(atKey xs k).isSome:=by rw [JA,(r.val k).isSome_eq,fE]
 unfold QF storedH;rw [e];by_cases q:(atKey xs k).isSome=iA;·rw [if_pos q,if_pos q]; exact r.repl k c
 ·rw [if_neg q,if_neg q]; exact Paired.snoc r ⟨rfl,d,c⟩
theorem KT.keeps (r:KT H kvs xs) (l:∀ b ys,H b=ip (.tup ys)->H' b=ip (.tup ys)):KT H' kvs xs:=
 Paired.mapP r λ_ _ z=>⟨z.1,l _ _ z.2.1,z.2.2⟩
section
variable {h:Heap}
theorem qge {u:HO} (ok:HOk P w H h) (e:Rd H a u):ObjOk P w H h a u:=e.ok ok
theorem Vo {kvs:List (Key×V)} (ok:HOk P w H h) (e:Rd H a (.dK kvs)):kvs.length<=sizeLine/\(a == sysModules)=iw/\∃ vs,KV kvs vs/\h.DictOf (jj P w) a vs:=
 show ObjOk P w H h a (.dK kvs) from qge ok e
theorem qiq {kvs:List (Key×V)} (ok:HOk P w H h) (e:H a=ip (.dK kvs)):kvs.length<=sizeLine/\(a == sysModules)=iw/\∃ vs,KV kvs vs/\h.DictOf (jj P w) a vs:=Vo ok (.inl e)
theorem zx {ks:List Key} (ok:HOk P w H h) (e:H a=ip (.tup (ks.map kV))):(tupleKind (jj P w)).is h ks a:=by
 obtain ⟨_,its,r,o,h1,h2,n,j⟩:=(show ObjOk P w H h a (.tup (ks.map kV)) from ok a _ e)
 exact ⟨o,its.toArray,n,h1,h2,j,by simpa using Vn r⟩
theorem WM (ok:HOk P w H h) (e:Rd H a (.dT kvs)):kvs.length<=sizeLine/\(a == sysModules)=iw /\
  ∃ xs,KT H kvs xs/\h.DictOfH (tupleKind (jj P w)) a xs:=by
 obtain ⟨z,y,xs,r,o,es,ep,h1,h2,j,c,b⟩:=(show ObjOk P w H h a (.dT kvs) from qge ok e)
 refine ⟨z,y,xs,r,o,es,ep,h1,h2,j,c,λx hx=>?_,b⟩;have all:∀ {l:List (List Key×V)} {m:List (List Key×Addr×iu)},KT H l m->∀ x∈m,(tupleKind (jj P w)).is h x.1 x.2.1:=by
  intro l m q
  induction q with
  | nil=>intro x hx; exact nomatch hx
  | @cons p q ps qs hq t ih=>
   intro x hx;rcases ac.mp hx with e | hx
   ·subst e;exact zx ok (by rw [<-hq.1]; exact hq.2.1)
   ·exact ih x hx
 exact all r x hx
theorem qir (ok:HOk P w H h) (e:H a=ip (.dT kvs)):kvs.length<=sizeLine/\(a == sysModules)=iw /\
  ∃ xs,KT H kvs xs/\h.DictOfH (tupleKind (jj P w)) a xs:=WM ok (.inl e)
end
def DGet (H:Hp) (a:Addr) (y:V) (r:Option V):Prop:=
 (∃ kvs k,Rd H a (.dK kvs)/\y=kV k/\r=WD kvs k)\/∃ kvs k b,Rd H a (.dT kvs)/\y=.ref b/\H b=ip (.tup (k.map kV))/\r=WD kvs k
def DPut (H:Hp) (a:Addr) (y v:V) (H':Hp):Prop:=
 (∃ kvs k,H a=ip (.dK kvs)/\y=kV k/\kvs.length < sizeLine/\H'=upd H a (.dK (QF kvs k v))) \/
 ∃ kvs k b,H a=ip (.dT kvs)/\y=.ref b/\H b=ip (.tup (k.map kV))/\kvs.length < sizeLine/\H'=upd H a (.dT (QF kvs k v))
theorem DGet.k {kvs:List (Key×V)} {k:Key} (e:H a=ip (.dK kvs)):DGet H a (kV k) (WD kvs k):=.inl ⟨kvs,k,.inl e,rfl,rfl⟩
theorem DGet.t {k:List Key} (e:H a=ip (.dT kvs)) (J:H b=ip (.tup (k.map kV))):DGet H a (.ref b) (WD kvs k):=.inr ⟨kvs,k,b,.inl e,rfl,J,rfl⟩
variable {v:V}
theorem DPut.k {kvs:List (Key×V)} {k:Key} (e:H a=ip (.dK kvs)) (hl:kvs.length < sizeLine):DPut H a (kV k) v (upd H a (.dK (QF kvs k v))):=.inl ⟨kvs,k,e,rfl,hl,rfl⟩
theorem DPut.t {k:List Key} {v:V} (e:H a=ip (.dT kvs)) (J:H b=ip (.tup (k.map kV))) (hl:kvs.length < sizeLine):DPut H a (.ref b) v (upd H a (.dT (QF kvs k v))):=.inr ⟨kvs,k,b,e,rfl,J,hl,rfl⟩
variable {pins:List (Addr×Obj)} {σ:St} {s:iB} {A:iH} {E Q:iu->iB->Prop} {h':Heap}
section
variable {r:iu}
theorem Inv.big (I:Inv X pins σ H s):sysModules < s.heap.objs.size:=by have h:mainGlobals < s.heap.objs.size:=(I.mod.glob.keeps I.bk).lt;exact eJ (by decide) h
theorem Gg (j:A.units+1 < cLine) (I:Inv X pins σ H s) (g:DGet H a y (ip v)) (i:RelV y u) (h:∀ T s',Inv X pins σ H s'->RelV v T->Q T s'):wpAny (model X.prog X.w) A (getItem (.ref a) u) Q E s:=by
 rcases g with ⟨kvs,k,e,f,l⟩ | ⟨kvs,k,b,e,f,J,l⟩
 ·subst f;obtain ⟨z,hd,vs,rel,dd⟩:=Vo I.hok e;obtain ⟨T,c,r⟩:=RelO.some_of (v:=v) (o:=valueAt vs k) (by rw [l]; exact rel.val k);exact wpAny_getItem_of (XW i) dd.mapOf c (h T _ (I.tok _) r)
 ·subst f;cases (show u=cq b from i);obtain ⟨z,hd,xs,rel,dd⟩:=WM I.hok e;obtain ⟨T,c,r⟩:=RelO.some_of (v:=v) (o:=(atKey xs k).map (·.2)) (by rw [l]; exact rel.val k);obtain ⟨p,hp,d⟩:=bc.mp c;refine wpAny_getItem_heap (i8 j) (zx I.hok J) dd hp ?_;rw [d];exact h T _ (I.tok _) r
theorem qjS (d:A.units+1 < cLine) (I:Inv X pins σ H s) (g:DGet H a y o) (c:RelV y u) (h:∀ s',Inv X pins σ H s'->Q (.bool o.isSome) s'):wpAny (model X.prog X.w) A (compareOp .In u (.ref a)) Q E s:=by
 rcases g with ⟨kvs,k,e,f,l⟩ | ⟨kvs,k,b,e,f,J,l⟩
 ·subst f;obtain ⟨z,hd,vs,rel,dd⟩:=Vo I.hok e;refine wpAny_in_of (XW c) hd dd.mapOf ?_;rw [<-(rel.val k).isSome_eq,<-l];exact h _ (I.tok _)
 ·subst f;cases (show u=cq b from c);obtain ⟨z,hd,xs,rel,dd⟩:=WM I.hok e;refine wpAny_in_heap (i8 d) (zx I.hok J) hd dd ?_;have q:=(rel.val k).isSome_eq;rw [fE] at q;rw [<-q,<-l];exact h _ (I.tok _)
theorem qef (d:A.units+1 < cLine) (I:Inv X pins σ H s) (g:DGet H a y o) (c:RelV y u) (h:∀ s',Inv X pins σ H s'->Q (.bool (!o.isSome)) s'):wpAny (model X.prog X.w) A (compareOp .NotIn u (.ref a)) Q E s:=by
 rcases g with ⟨kvs,k,e,f,l⟩ | ⟨kvs,k,b,e,f,J,l⟩
 ·subst f;obtain ⟨z,hd,vs,rel,dd⟩:=Vo I.hok e;refine wpAny_notIn_of (XW c) hd dd.mapOf ?_;rw [<-(rel.val k).isSome_eq,<-l];exact h _ (I.tok _)
 ·subst f;cases (show u=cq b from c);obtain ⟨z,hd,xs,rel,dd⟩:=WM I.hok e;refine wpAny_notIn_heap (i8 d) (zx I.hok J) hd dd ?_;have q:=(rel.val k).isSome_eq;rw [fE] at q;rw [<-q,<-l];exact h _ (I.tok _)
theorem Gh {t':Nat} {o:HO} (I:Inv X pins σ H s) (m:Mut (H a)) (c:bH a s.heap h') (i:∃ q,h'.get? a=ip q) (new:ObjOk X.prog X.w (upd H a o) h' a o):Inv X pins σ (upd H a o) { s with heap:=h',toks:=t' }:=
 I.write (x:=a) (e:=a) m (.inl rfl) (λb q d z=>(c.2 b d).trans z) i new
theorem qdj {H':Hp} {kvs:List (Key×V)} {vs:List (Key×iu)} (z:kvs.length<=sizeLine) (hd:(a == sysModules)=iw) (rel:KV kvs vs) (dd:h'.DictOf (jj P w) a vs):ObjOk P w H' h' a (.dK kvs):=⟨z,hd,vs,rel,dd⟩
theorem Gi {Q:Unit->iB->Prop} (t:A.units+1 < cLine) (I:Inv X pins σ H s) (g:DPut H a y v H') (n:RelV y u) (o:RelV v r) (h:∀ s',Inv X pins σ H' s'->Q () s'):wpAny (model X.prog X.w) A (setItem (.ref a) u r) Q E s:=by
 rcases g with ⟨kvs,k,e,j,l,m⟩ | ⟨kvs,k,b,e,j,J,l,m⟩
 ·subst j m;obtain ⟨z,hd,vs,rel,dd⟩:=qiq I.hok e;have f:vs.length<=sizeLine:=by rw [<-rel.length]; exact z
  have hl:(QF kvs k v).length<=sizeLine:=by have:=yM kvs k v; omega
  refine wpAny_setItem_pairs (hsz:=f) (XW n) dd λh' d i=>h _ ?_;have x:∃ q,h'.get? a=ip q:=let ⟨q,_,_,hq,_⟩:=d; ⟨q,hq⟩
  exact Gh I (by rw [e]; exact dH) i x (qdj hl hd (rel.put k o) d)
 ·subst j m;cases (show u=cq b from n);obtain ⟨z,hd,xs,rel,dd⟩:=qir I.hok e;have f:xs.length<=sizeLine:=by rw [<-fK rel]; exact z
  have hl:(QF kvs k v).length<=sizeLine:=by have:=yM kvs k v; omega
  refine wpAny_setItem_heap (hsz:=f) (i8 t) (zx I.hok J) dd λh' d i=>h _ ?_;obtain ⟨q,es,ep,hq,h2,D,C,_,B⟩:=d;refine Gh I (by rw [e]; exact dH) i ⟨q,hq⟩ ⟨hl,hd,_,(rel.put k J o).keeps λc ys p=>?_,q,es,ep,hq,h2,D,C,B⟩;rw [qF (qh2 p e (λz=>nomatch z))];exact p
end
section
variable {kvs:List (Key×V)} {k:Key}
theorem qis (I:Inv X pins σ H s) (e:Rd H a (.dK kvs)) (h:∀ t s',Inv X pins σ H s'->Q (.int kvs.length t) s'):wpAny (model X.prog X.w) A (call (.builtin "len") [.ref a]) Q E s:=by obtain ⟨z,hd,vs,rel,dd⟩:=Vo I.hok e;refine call_len_dict hd dd (by rw [<-rel.length]; rw [iI] at z; omega) ?_;rw [<-rel.length];exact h _ _ (I.tok _)
end
theorem WN (I:Inv X pins σ H s) (g:DGet H a y o):s.TypeIs (.ref a) "dict":=by
 rcases g with ⟨kvs,k,e,_,_⟩ | ⟨kvs,k,b,e,_,_,_⟩
 ·obtain ⟨_,_,vs,_,dd⟩:=Vo I.hok e;exact dd.typeIs
 ·obtain ⟨_,_,xs,_,dd⟩:=WM I.hok e;exact dd.typeIs
def qit (td ty tv:TE):TS:=λD σ H=>tv σ H λv H1=>td σ H1 λx H2=>ty σ H2 λy c=>∃ a b,x=.ref a/\DPut c a y v b/\D.nx σ b
variable {pos:Pos}
section
variable {o i e value:Expr} {pos' tpos:Pos} {td ty tv:TE}
theorem qeg (k:X.A.units+1 < cLine) (m:PE X o td) (hi:PE X i ty) (j:PE X value tv) (l:swapsWith value (ip (.Subscript o i pos')) pos.line X.env=pure iw):PS X (.Assign [.Subscript o i pos'] value pos) (qit td ty tv):=by refine ⟨?_⟩;intro pins s σ H D I h;refine wpAny_Assign_Subscript (thn (j pins s σ H _ I h) λr s1 ⟨v,H1,t,b,f⟩=>thn (m pins s1 σ H1 _ t f) λu s2 ⟨x,H2,p,d,e⟩=>thn (hi pins s2 σ H2 _ p e) λz s3 ⟨y,C,n,c,a,w,ex,g,q⟩=>?_) l;subst ex;obtain rfl:u=cq a:=d;exact Gi k n g c b λs4 B=>⟨σ,w,B,q⟩
end
theorem qbL (h:Heap) (d:sysModules < h.objs.size):ObjOk P w H (h.push { cls:=.type "dict",data:=.dict #[] }) h.objs.size (.dK []):=
 ⟨bE _,beq_eq_false_iff_ne.mpr (bh (aH d)),[],.nil,Heap.DictOf.new h⟩
def qgf:TE:=λ_ H Q=>∀ p,H p=iq->Q (.ref p) (upd H p (.dK []))
section
theorem qbM:PE X (.Dict [] [] pos) qgf:=⟨λpins s σ H Q I h=>
 wpAny_Dict_empty ⟨.ref s.heap.objs.size,_,I.laid (a:=s.heap.objs.size) (o:=.dK []) (t':=s.toks) (λ_ _ q=>ae _ q) (aD _) (qbL s.heap I.big),rfl,h _ (I.hok.fresh (aD _))⟩⟩
end
structure M1 (X:Cx) (o:Expr) (m:Str) (apos:Pos) (e:Expr) (cpos:Pos):Prop where
 base:attributeBase o m X.env (eval o X.env)=eval o X.env
 few:((backTo cpos (starEach [e] X.env)).all (λx=>!x.1)&&(backToKw cpos (keywordEach [] X.env)).all (λx=>x.1.isSome)
  && decide (([e]:List Expr).length+([]:List iP).length+(if ([]:List iP).isEmpty then 0 else 1) < 30))=iA
 line:(apos.endLine == cpos.line)=iA
 trees:backTo cpos (starEach [e] X.env)=[(iw,eval e X.env)]
structure M2 (X:Cx) (o:Expr) (m:Str) (apos:Pos) (e f:Expr) (cpos:Pos):Prop where
 base:attributeBase o m X.env (eval o X.env)=eval o X.env
 few:((backTo cpos (starEach [e,f] X.env)).all (λx=>!x.1)&&(backToKw cpos (keywordEach [] X.env)).all (λx=>x.1.isSome)
  && decide (([e,f]:List Expr).length+([]:List iP).length+(if ([]:List iP).isEmpty then 0 else 1) < 30))=iA
 line:(apos.endLine == cpos.line)=iA
 trees:backTo cpos (starEach [e,f] X.env)=[(iw,eval e X.env),(iw,eval f X.env)]
def IsD (H:Hp) (a:Addr):Prop:=(∃ kvs,Rd H a (.dK kvs))\/∃ kvs,Rd H a (.dT kvs)
theorem qgg (I:Inv X pins σ H s) (d:IsD H a):s.TypeIs (.ref a) "dict"/\(∀ b,cq a=.ref b->∃ o,s.heap.get? b=ip o/\o.dict=iq)/\(a == sysModules)=false:=by
 rcases d with ⟨kvs,e⟩ | ⟨kvs,e⟩
 ·obtain ⟨_,hd,vs,_,dd⟩:=Vo I.hok e;refine ⟨dd.typeIs,λb q=>?_,hd⟩;cases q;obtain ⟨o,_,_,h1,h2,_⟩:=dd;exact ⟨o,h1,h2.2.1⟩
 ·obtain ⟨_,hd,xs,_,dd⟩:=WM I.hok e;refine ⟨dd.typeIs,λb q=>?_,hd⟩;cases q;obtain ⟨o,_,_,h1,h2,_⟩:=dd;exact ⟨o,h1,h2.2.1⟩
section
variable {r:iu}
theorem qgh (i:A.units+1 < cLine) (I:Inv X pins σ H s) (g:DGet H a y o) (c:RelV y u) (rd:RelV d r) (h:∀ T s',Inv X pins σ H s'->RelV (o.getD d) T->Q T s'):wpAny (model X.prog X.w) A (call (.builtin "dict.get") [.ref a,u,r]) Q E s:=by
 rcases g with ⟨kvs,k,e,f,l⟩ | ⟨kvs,k,b,e,f,J,l⟩
 ·subst f;obtain ⟨z,hd,vs,rel,dd⟩:=Vo I.hok e;refine call_meetsIn eX dd.typeIs PySem.F.entry_dict_get (PySem.F.args_dict_get_3 _ _ _) (meets_dict_get_default (jj X.prog X.w) a (XW c) hd r) ⟨_,dd.mapOf,h _ _ (I.tok _) ?_⟩;rw [l];exact (rel.val k).getD rd
 ·subst f;cases (show u=cq b from c);obtain ⟨z,hd,xs,rel,dd⟩:=WM I.hok e;refine call_meetsIn eX dd.typeIs PySem.F.entry_dict_get (PySem.F.args_dict_get_3 _ _ _) (meetsH_dict_get_default (tupleKind (jj X.prog X.w)) a b hd r) ⟨i8 i,k,xs,zx I.hok J,dd,h _ _ (I.tok _) ?_⟩;rw [l];exact (rel.val k).getD rd
end
def qgi (td ty tx:TE):TE:=λσ H Q=>td σ H λx H1=>∃ a,x=.ref a/\IsD H1 a/\ty σ H1 λy H2=>tx σ H2 λz b=>∃ o,DGet b a y o/\Q (o.getD z) b
section
variable {o e f:Expr} {apos cpos:Pos} {td ty tx:TE}
theorem qbN (p:X.A.units+1 < cLine) (v:PE X o td) (B:PE X e ty) (w:PE X f tx) (m:M2 X o "get" apos e f cpos):PE X (.Call (.Attribute o "get" apos) [e,f] [] cpos) (qgi td ty tx):=by
 refine ⟨?_⟩;intro pins s σ H Q I h;refine wpAny_Call_method m.base m.few m.line PySem.F.plainAttrs_dict eX PySem.F.type_dict_get (thn (v pins s σ H _ I h) λu s1 ⟨x,H1,b,k,a,ex,d,n⟩=>?_);subst ex;obtain rfl:u=cq a:=k;obtain ⟨c,t,_⟩:=qgg b d;refine ⟨c,t,?_⟩;rw [m.trees];refine Calls.callWith_builtin rfl (fj (dY (thn (B pins s1 σ H1 _ b n) λK s2 ⟨y,H2,E,j,l⟩=>
  dY (thn (w pins s2 σ H2 _ E l) λfv s3 ⟨z,G,D,i,J,g,q⟩=>fA ?_))))
 exact qgh p D g j i λT s4 C r=>⟨_,G,C,r,q⟩
end
section
theorem Gj:uz X (.builtin "len") (λxs H Q=>∃ a kvs,xs=[V.ref a]/\H a=ip (.dK kvs)/\Q (.int kvs.length) H):=by intro pins s σ H xs us Q I r h;obtain ⟨a,kvs,rfl,g,q⟩:=h;obtain ⟨u,rfl,B⟩:=yL r;cases B;exact qis I (.inl g) λt s' b=>⟨.int kvs.length,H,b,⟨t,rfl⟩,q⟩
end
end L2
namespace L2.D2
open PySem PySem.Spec PyProof.Rows
variable {b:List Nat}
theorem ut {a:List Nat} (h:(a.all λi=>decide (i∈b))=iA):∀ i∈a,i∈b:=λi hi=>of_decide_eq_true (aM.mp h i hi)
theorem Yk {i:Nat} (h:decide (i∈b)=iw):i∉b:=of_decide_eq_false h
noncomputable def Gk:Expr->Bool
 | .Starred ..=>iw
 | _=>iA
variable {e:Expr} {env:Env}
theorem kq {es:List Expr} (h:Gk e=iA):starEach (e::es) env=(iw,eval e env)::starEach es env:=by cases e <;> first | rfl | cases h
theorem qS (h:Gk e=iA):starEach [e] env=[(iw,eval e env)]:=kq h
variable {pos:Pos}
theorem xf:∀ {es:List Expr},es.all Gk=iA->(backTo pos (starEach es env)).any (·.1)=iw
 | [],_=>rfl
 | e::es,h=>by rw [fL,aN] at h;rw [kq h.1];exact xf h.2
theorem vP (h:Gk e=iA):((backTo pos (starEach [e] env)).all (λx=>!x.1)&&(backToKw pos (keywordEach [] env)).all (λx=>x.1.isSome)
   && decide ([e].length+([]:List iP).length+(if ([]:List iP).isEmpty then 0 else 1) < 30))=true:=by rw [qS h]; rfl
inductive D where
 | non | bl (b:Bool) | int (i:Int) | str (x:Str)
 | tup (xs:List D) | lst (xs:List D) | dct (kvs:List (Key×D)) | raw (v:V)
 | xcp (C:Addr) | ins (C:Addr) (fs:List (Str×D)) | at_ (a:Addr) (xs:List D)
 deriving Inhabited
abbrev Sl:=List (Option D)
inductive Out (α:Type) where
 | ok (a:α) | exc (c:Str) (o:Sl) | bad
variable {α β:Type}
noncomputable def Out.bind (o:Out α) (k:α->Out β):Out β:=match o with
 | .ok a=>k a
 | .exc c o=>.exc c o
 | .bad=>.bad
@[simp] theorem Out.oj (a:α) (k:α->Out β):(Out.ok a).bind k=k a:=rfl
@[simp] theorem Out.exc_bind (c:Str) (o:Sl) (k:α->Out β):(Out.exc c o:Out α).bind k=.exc c o:=rfl
@[simp] theorem Out.bad_bind (k:α->Out β):(Out.bad:Out α).bind k=.bad:=rfl
noncomputable def QX (a C:Addr):HO:=.ext λh=>∃ o vs,h.get? a=ip o/\o.cls=.ref C/\o.data=.fields vs
mutual
/-- the value v is the data d,all its objects in F -/
inductive Is (K:Frag) (F:Hp):V->D->Prop
 | non:Is K F .non .non
 | bl (b:Bool):Is K F (.bl b) (.bl b)
 | int (i:Int):Is K F (.int i) (.int i)
 | str {x:Str} (h:x.length<=sizeLine):Is K F (.str x) (.str x)
 | tup {a:Addr} {xs:List V} {ds:List D} (h:SqT K F a xs) (t:IsL K F xs ds):Is K F (.ref a) (.tup ds)
 | lst {a:Addr} {xs:List V} {ds:List D} (h:SqL K F a xs) (t:IsL K F xs ds):Is K F (.ref a) (.lst ds)
 | dct {a:Addr} {kv:List (Key×V)} {kvs:List (Key×D)} (h:F a=ip (.dK kv)) (t:IsK K F kv kvs):Is K F (.ref a) (.dct kvs)
 | raw (v:V):Is K F v (.raw v)
 | xcp {a C:Addr} (h:F a=ip (QX a C)):Is K F (.ref a) (.xcp C)
 | ins {a C dx:Addr} {fv:List (Str×V)} {fs:List (Str×D)} (h:F a=ip (.ins C dx fv)) (t:IsF K F fv fs):Is K F (.ref a) (.ins C fs)
 | at_ {a:Addr} {xs:List V} {ds:List D} (h:SqL K F a xs) (t:IsL K F xs ds):Is K F (.ref a) (.at_ a ds)
inductive IsL (K:Frag) (F:Hp):List V->List D->Prop
 | nil:IsL K F [] []
 | cons {v:V} {d:D} {vs:List V} {ds:List D} (h:Is K F v d) (t:IsL K F vs ds):IsL K F (v::vs) (d::ds)
inductive IsK (K:Frag) (F:Hp):List (Key×V)->List (Key×D)->Prop
 | nil:IsK K F [] []
 | cons {k:Key} {v:V} {d:D} {vs:List (Key×V)} {ds:List (Key×D)} (h:Is K F v d) (t:IsK K F vs ds):IsK K F ((k,v)::vs) ((k,d)::ds)
inductive IsF (K:Frag) (F:Hp):List (Str×V)->List (Str×D)->Prop
 | nil:IsF K F [] []
 | cons {k:Str} {v:V} {d:D} {vs:List (Str×V)} {ds:List (Str×D)} (h:Is K F v d) (t:IsF K F vs ds):IsF K F ((k,v)::vs) ((k,d)::ds)
end
theorem qZ {K:Frag} {H H':Hp} {a:Addr} {xs:List V} (e:Same H H') (h:SqT K H a xs):SqT K H' a xs:=by
 rcases h with (h | ⟨o,h⟩) | h;·exact .inl (.inl (e _ _ h))
 ·exact .inl (.inr ⟨o,e _ _ h⟩)
 ·exact .inr h
mutual
theorem Is.mono {K:Frag} {F F':Hp} (e:Same F F'):∀ {v:V} {d:D},Is K F v d->Is K F' v d
 | _,_,.non=>.non
 | _,_,.bl b=>.bl b
 | _,_,.int i=>.int i
 | _,_,.str h=>.str h
 | _,_,.tup h t=>.tup (qZ e h) (IsL.mono e t)
 | _,_,.lst h t=>.lst (e.seq h) (IsL.mono e t)
 | _,_,.dct h t=>.dct (e _ _ h) (IsK.mono e t)
 | _,_,.raw v=>.raw v
 | _,_,.xcp h=>.xcp (e _ _ h)
 | _,_,.ins h t=>.ins (e _ _ h) (IsF.mono e t)
 | _,_,.at_ h t=>.at_ (e.seq h) (IsL.mono e t)
theorem IsL.mono {K:Frag} {F F':Hp} (e:Same F F'):∀ {vs:List V} {ds:List D},IsL K F vs ds->IsL K F' vs ds
 | _,_,.nil=>.nil
 | _,_,.cons h t=>.cons (Is.mono e h) (IsL.mono e t)
theorem IsK.mono {K:Frag} {F F':Hp} (e:Same F F'):∀ {vs:List (Key×V)} {ds:List (Key×D)},IsK K F vs ds->IsK K F' vs ds
 | _,_,.nil=>.nil
 | _,_,.cons h t=>.cons (Is.mono e h) (IsK.mono e t)
theorem IsF.mono {K:Frag} {F F':Hp} (e:Same F F'):∀ {vs:List (Str×V)} {ds:List (Str×D)},IsF K F vs ds->IsF K F' vs ds
 | _,_,.nil=>.nil
 | _,_,.cons h t=>.cons (Is.mono e h) (IsF.mono e t)
end
theorem IsL.length {K:Frag} {F:Hp}:∀ {vs:List V} {ds:List D},IsL K F vs ds->vs.length=ds.length
 | _,_,.nil=>rfl
 | _,_,.cons _ t=>congrArg (·+1) (IsL.length t)
theorem IsL.get {K:Frag} {F:Hp}:∀ {vs:List V} {ds:List D} {i:Nat} {v:V},IsL K F vs ds->vs[i]?=ip v->∃ d,ds[i]?=ip d/\Is K F v d
 | _,_,_,_,.nil,e=>by simp at e
 | _,_,0,_,.cons h _,e=>by simp at e; subst e; exact ⟨_,rfl,h⟩
 | _,_,i+1,v,.cons _ t,e=>by obtain ⟨d,h1,h2⟩:=IsL.get (i:=i) (v:=v) t (by simpa using e);exact ⟨d,by simpa using h1,h2⟩
theorem IsL.getD {K:Frag} {F:Hp}:∀ {vs:List V} {ds:List D} {i:Nat} {d:D},IsL K F vs ds->ds[i]?=ip d->∃ v,vs[i]?=ip v/\Is K F v d
 | _,_,_,_,.nil,e=>by simp at e
 | _,_,0,_,.cons h _,e=>by simp at e; subst e; exact ⟨_,rfl,h⟩
 | _,_,i+1,v,.cons _ t,e=>by obtain ⟨d,h1,h2⟩:=IsL.getD (i:=i) (d:=v) t (by simpa using e);exact ⟨d,by simpa using h1,h2⟩
theorem IsL.append {K:Frag} {F:Hp}:∀ {vs ws:List V} {ds es:List D},IsL K F vs ds->IsL K F ws es->IsL K F (vs++ws) (ds++es)
 | _,_,_,_,.nil,s=>s
 | _,_,_,_,.cons h t,s=>.cons h (IsL.append t s)
theorem IsL.take {K:Frag} {F:Hp}:∀ {vs:List V} {ds:List D} (n:Nat),IsL K F vs ds->IsL K F (vs.take n) (ds.take n)
 | _,_,0,_=>.nil
 | _,_,_+1,.nil=>.nil
 | _,_,n+1,.cons h t=>.cons h (IsL.take n t)
theorem IsL.set {K:Frag} {F:Hp} {v:V} {d:D} (h:Is K F v d):∀ {vs:List V} {ds:List D} (i:Nat),IsL K F vs ds->IsL K F (vs.set i v) (ds.set i d)
 | _,_,_,.nil=>.nil
 | _,_,0,.cons _ t=>.cons h t
 | _,_,i+1,.cons q t=>.cons q (IsL.set h i t)
def OwnIs (K:Frag) (F H:Hp) (a:Addr):D->Prop
 | .lst ds=>∃ xs,H a=ip (.lst xs)/\IsL K F xs ds
 | .dct kvs=>∃ kv,H a=ip (.dK kv)/\IsK K F kv kvs
 | .ins C fs=>∃ dx fv,H a=ip (.ins C dx fv)/\IsF K F fv fs
 | .at_ b ds=>b=a/\∃ xs,H a=ip (.lst xs)/\IsL K F xs ds
 | _=>False
def TopIs (K:Frag) (F H:Hp) (v:V) (d:D):Prop:=Is K F v d\/∃ a,v=.ref a/\OwnIs K F H a d
inductive Mo where
 | sh | fr | any
def MoIs (K:Frag) (m:Mo) (H0 F H:Hp) (v:V) (d:D):Prop:=match m with
 | .sh=>Is K F v d
 | .fr=>∃ a,v=.ref a/\H0 a=iq/\F a=iq/\OwnIs K F H a d
 | .any=>TopIs K F H v d
theorem MoIs.top {K:Frag} {m:Mo} {H0 F H:Hp} {v:V} {d:D} (h:MoIs K m H0 F H v d):TopIs K F H v d:=by
 cases m with
 | sh=>exact .inl h
 | fr=>obtain ⟨a,e,_,_,o⟩:=h; exact .inr ⟨a,e,o⟩
 | any=>exact h
structure Chg (A:Addr->Prop) (F H F' H':Hp):Prop where
 keep:∀ b o,H b=ip o->¬A b->H' b=ip o
 stay:∀ b,H b≠iq->H' b≠iq
 grow:Same F F'
 new:∀ b,F' b≠iq->F b≠iq\/H b=iq\/A b
theorem Chg.refl {A:Addr->Prop} {F H:Hp}:Chg A F H F H:=⟨λ_ _ e _=>e,λ_ h=>h,Same.refl _,λ_ h=>.inl h⟩
theorem Chg.trans {A A1:Addr->Prop} {F H F1 H1 c H2:Hp} (a:Chg A F H F1 H1) (b:Chg A1 F1 H1 c H2) (hA:∀ x,A1 x->A x\/H x=iq):Chg A F H c H2 where
 keep:=λx o e n=>b.keep x o (a.keep x o e n) λz=>(hA x z).elim n λq=>by rw [e] at q; cases q
 stay:=λx h=>b.stay x (a.stay x h)
 grow:=a.grow.trans b.grow
 new:=λx h=>by
  rcases b.new x h with q | q | q;·exact a.new x q
  ·refine .inr (.inl ?_);cases e:H x with
   | none=>rfl
   | some o=>exact absurd q (a.stay x (by rw [e]; simp))
  ·rcases hA x q with z | z;·exact .inr (.inr z)
   ·exact .inr (.inl z)
theorem Chg.trans' {A:Addr->Prop} {F H F1 H1 c H2:Hp} (a:Chg A F H F1 H1) (b:Chg A F1 H1 c H2):Chg A F H c H2:=a.trans b λ_ z=>.inl z
theorem Chg.mono {A c:Addr->Prop} {F H F1 H1:Hp} (a:Chg A F H F1 H1) (h:∀ x,A x->c x):Chg c F H F1 H1:=
 ⟨λb o e n=>a.keep b o e λz=>n (h b z),a.stay,a.grow,λb z=>(a.new b z).imp id (Or.imp id (h b))⟩
abbrev No:Addr->Prop:=λ_=>False
theorem Chg.ofNo {A:Addr->Prop} {F H F1 H1:Hp} (a:Chg No F H F1 H1):Chg A F H F1 H1:=a.mono λ_ z=>z.elim
structure Rep (K:Frag) (own:List Nat) (F H:Hp) (σ:St) (ρ:Sl):Prop where
 sub:Same F H
 len:σ.length=ρ.length
 val:∀ i d,i∉own->ρ[i]?=ip (ip d)->∃ v,σ[i]?=ip (ip v)/\Is K F v d
 ow:∀ i d,i∈own->ρ[i]?=ip (ip d)->∃ a,σ[i]?=ip (ip (.ref a))/\F a=iq/\OwnIs K F H a d
 opn:∀ i,i∈own->∃ d,ρ[i]?=ip (ip d)
 dis:∀ i j a,i∈own->j∈own->σ[i]?=ip (ip (V.ref a))->σ[j]?=ip (ip (V.ref a))->i=j
def OA (own:List Nat) (σ:St):Addr->Prop:=λb=>∃ i∈own,σ[i]?=ip (ip (V.ref b))
theorem OwnIs.there {K:Frag} {F H:Hp} {a:Addr} {d:D} (h:OwnIs K F H a d):H a≠none:=by
 cases d with
 | lst ds=>obtain ⟨xs,e,_⟩:=h; rw [e]; simp
 | dct ds=>obtain ⟨xs,e,_⟩:=h; rw [e]; simp
 | ins C fs=>obtain ⟨dx,xs,e,_⟩:=h; rw [e]; simp
 | at_ b ds=>obtain ⟨_,xs,e,_⟩:=h; rw [e]; simp
 | _=>exact h.elim
theorem OwnIs.grow {K:Frag} {F H F' H':Hp} {a:Addr} {d:D} (h:OwnIs K F H a d) (g:Same F F') (k:∀ o,H a=ip o->H' a=ip o):OwnIs K F' H' a d:=by
 cases d with
 | lst ds=>obtain ⟨xs,e,t⟩:=h; exact ⟨xs,k _ e,t.mono g⟩
 | dct ds=>obtain ⟨xs,e,t⟩:=h; exact ⟨xs,k _ e,t.mono g⟩
 | ins C fs=>obtain ⟨dx,xs,e,t⟩:=h; exact ⟨dx,xs,k _ e,t.mono g⟩
 | at_ b ds=>obtain ⟨J,xs,e,t⟩:=h; exact ⟨J,xs,k _ e,t.mono g⟩
 | _=>exact h.elim
theorem Rep.OA_there {K:Frag} {own:List Nat} {F H:Hp} {σ:St} {ρ:Sl} (r:Rep K own F H σ ρ) {b:Addr} (h:OA own σ b):H b≠iq/\F b=none:=by obtain ⟨i,hi,e⟩:=h;obtain ⟨d,hd⟩:=r.opn i hi;obtain ⟨a,e1,c,o⟩:=r.ow i d hi hd;rw [e] at e1;cases e1;exact ⟨o.there,c⟩
theorem Rep.grow {K:Frag} {own:List Nat} {F H F' H':Hp} {σ:St} {ρ:Sl} (r:Rep K own F H σ ρ) (c:Chg No F H F' H') (s:Same F' H'):Rep K own F' H' σ ρ where
 sub:=s
 len:=r.len
 val:=λi d hi e=>let ⟨v,h1,h2⟩:=r.val i d hi e; ⟨v,h1,h2.mono c.grow⟩
 ow:=λi d hi e=>by
  obtain ⟨a,h1,h2,j⟩:=r.ow i d hi e;refine ⟨a,h1,?_,j.grow c.grow λo q=>c.keep a o q λz=>z⟩;cases q:F' a with
  | none=>rfl
  | some o=>
   rcases c.new a (by rw [q]; simp) with z | z | z;·exact absurd h2 z
   ·exact absurd z j.there
   ·exact z.elim
 opn:=r.opn
 dis:=r.dis
theorem MoIs.grow {K:Frag} {A:Addr->Prop} {m:Mo} {H0 F H F' H':Hp} {v:V} {d:D} (h:MoIs K m H0 F H v d) (f:m≠.any) (c:Chg A F H F' H') (hA:∀ x,A x->H0 x≠iq):MoIs K m H0 F' H' v d:=by
 cases m with
 | sh=>exact Is.mono c.grow h
 | fr=>
  obtain ⟨a,e,b,E,o⟩:=h;have n:¬A a:=λz=>hA a z b;refine ⟨a,e,b,?_,o.grow c.grow λo q=>c.keep a o q n⟩;cases q:F' a with
  | none=>rfl
  | some u=>
   rcases c.new a (by rw [q]; simp) with z | z | z;·exact absurd E z
   ·exact absurd z o.there
   ·exact absurd z n
 | any=>exact absurd rfl f
def ZI (K:Frag) (io:List Nat) (F H:Hp) (σ:St) (ρ:Sl):Prop:=∀ i∈io,∃ d a,ρ[i]?=ip (ip d)/\σ[i]?=ip (ip (V.ref a))/\F a=iq/\OwnIs K F H a d
theorem Rep.ioIs {K:Frag} {own io:List Nat} {F H:Hp} {σ:St} {ρ:Sl} (r:Rep K own F H σ ρ) (h:∀ i∈io,i∈own):ZI K io F H σ ρ:=λi hi=>by obtain ⟨d,hd⟩:=r.opn i (h i hi);obtain ⟨a,h1,h2,j⟩:=r.ow i d (h i hi) hd;exact ⟨d,a,hd,h1,h2,j⟩
structure Ct where
 K:Frag
 cv:Str->iu
 E:XK
 io:List Nat
 mr:Mo
 ol:List Nat
 ox:List Nat
 oxs:∀ i∈ox,i∈io
def Po (C:Ct) (own:List Nat) (m:Mo) (σ:St) (F H:Hp) (r:Out (D×Sl)) (Q:VK):Prop:=match r with
 | .ok (d,ρ')=>∀ v F' H',Rep C.K own F' H' σ ρ'->Chg (OA own σ) F H F' H'->MoIs C.K m H F' H' v d->Q v H'
 | .exc c ρ'=>∀ F' H',Same F' H'->ZI C.K C.ox F' H' σ ρ'->Chg (OA own σ) F H F' H'->C.E (C.cv c) iq H'
 | .bad=>False
def tE (C:Ct) (own:List Nat) (m:Mo) (f:Sl->Out (D×Sl)):TE:=λσ H Q=>∃ F ρ,Rep C.K own F H σ ρ/\Po C own m σ F H (f ρ) Q
theorem MoIs.back {K:Frag} {m:Mo} {A:Addr->Prop} {H0 F H F1 H1:Hp} {f Ha:Hp} {v:V} {d:D} (c:Chg A f H0 F1 H1) (h:MoIs K m H1 F H v d):MoIs K m H0 F H v d:=by
 cases m with
 | sh=>exact h
 | fr=>
  obtain ⟨a,e,b,r⟩:=h;refine ⟨a,e,?_,r⟩;cases q:H0 a with
  | none=>rfl
  | some o=>exact absurd b (c.stay a (by rw [q]; simp))
 | any=>exact h
theorem Po.shift {C:Ct} {own:List Nat} {m:Mo} {σ:St} {F H F1 H1:Hp} {r:Out (D×Sl)} {Q:VK} (h:Po C own m σ F H r Q) (c:Chg (OA own σ) F H F1 H1):Po C own m σ F1 H1 r Q:=by
 cases r with
 | ok p=>exact λv F' H' a U mo=>h v F' H' a (c.trans' U) (MoIs.back (Ha:=H1) c mo)
 | exc x=>exact λF' H' s io U=>h F' H' s io (c.trans' U)
 | bad=>exact h.elim
theorem Po.bind {C:Ct} {own:List Nat} {m ma:Mo} {σ:St} {F H:Hp} {o:Out (D×Sl)} {k:D×Sl->Out (D×Sl)} {Q R:VK} (hp:Po C own m σ F H (o.bind k) Q)
  (h:∀ v F1 H1 d ρ1,Rep C.K own F1 H1 σ ρ1->Chg (OA own σ) F H F1 H1->MoIs C.K ma H F1 H1 v d->Po C own m σ F1 H1 (k (d,ρ1)) Q->R v H1):Po C own ma σ F H o R:=by
 cases o with
 | ok p=>obtain ⟨d,ρ1⟩:=p;exact λv F1 H1 a c mo=>h v F1 H1 d ρ1 a c mo (Po.shift (show Po C own m σ F H (k (d,ρ1)) Q from hp) c)
 | exc x=>exact hp
 | bad=>exact hp.elim
def PoV (C:Ct) (m:Mo) (F H:Hp) (r:Out D) (Q:VK):Prop:=match r with
 | .ok d=>∀ v F' H',Same F' H'->Chg No F H F' H'->MoIs C.K m H F' H' v d->Q v H'
 | _=>False
def OpD (X:Cx) (C:Ct) (m:Mo) (f:iu->iu->Sem iu) (g:D->D->Out D):Prop:=
 OpR X f (λx y H Q=>∃ F dx d,Same F H/\TopIs C.K F H x dx/\TopIs C.K F H y d/\PoV C m F H (g dx d) Q)
def UnD (X:Cx) (C:Ct) (m:Mo) (f:iu->Sem iu) (g:D->Out D):Prop:=
 UnR X f (λx H Q=>∃ F dx,Same F H/\TopIs C.K F H x dx/\PoV C m F H (g dx) Q)
noncomputable def Out.plain {α:Type}:Out α->Out α
 | .ok a=>.ok a
 | _=>.bad
theorem PoV.of {C:Ct} {own:List Nat} {m:Mo} {σ:St} {F H:Hp} {o:Out D} {ρ:Sl} {Q:VK} (a:Rep C.K own F H σ ρ) (h:Po C own m σ F H (o.plain.bind λd=>.ok (d,ρ)) Q):PoV C m F H o Q:=by
 cases o with
 | ok d=>exact λv F' H' s c mo=>h v F' H' (a.grow c s) c.ofNo mo
 | exc c=>exact h.elim
 | bad=>exact h.elim
noncomputable def d2 (g:D->D->Out D) (fa fb:Sl->Out (D×Sl)):Sl->Out (D×Sl):=λρ=>(fa ρ).bind λp=>(fb p.2).bind λq=>(g p.1 q.1).plain.bind λd=>.ok (d,q.2)
noncomputable def d1 (g:D->Out D) (fa:Sl->Out (D×Sl)):Sl->Out (D×Sl):=λρ=>(fa ρ).bind λp=>(g p.1).plain.bind λd=>.ok (d,p.2)
section
variable {X:Cx} {C:Ct} {own:List Nat} {a b:Expr} {fa fb:Sl->Out (D×Sl)} {m ma mb:Mo} {pos:Pos}
theorem Vp {g:D->D->Out D} {σ:St} {H:Hp} {Q:VK} (f:ma≠.any) (h:tE C own m (d2 g fa fb) σ H Q):tE C own ma fa σ H λx H1=>tE C own mb fb σ H1 λy H2=>∃ F dx i,Same F H2/\TopIs C.K F H2 x dx/\TopIs C.K F H2 y i/\PoV C m F H2 (g dx i) Q:=by obtain ⟨F,ρ,p,h⟩:=h;refine ⟨F,ρ,p,Po.bind h λv F1 H1 d ρ1 a k c h1=>⟨F1,ρ1,a,Po.bind h1 λw j H2 e ρ2 r c2 b h2=>?_⟩⟩;exact ⟨j,d,e,r.sub,(c.grow f c2 λx z=>(p.OA_there z).1).top,b.top,PoV.of r h2⟩
theorem WO {g:D->Out D} {σ:St} {H:Hp} {Q:VK} (h:tE C own m (d1 g fa) σ H Q):tE C own ma fa σ H λx H1=>∃ F dx,Same F H1/\TopIs C.K F H1 x dx/\PoV C m F H1 (g dx) Q:=by obtain ⟨F,ρ,r,h⟩:=h;refine ⟨F,ρ,r,Po.bind h λv F1 H1 d ρ1 a k c h1=>?_⟩;exact ⟨F1,d,a.sub,c.top,PoV.of a h1⟩
theorem jN {e:Expr} {t t':TE} (h:PE X e t) (i:∀ σ H Q,t' σ H Q->t σ H Q):PE X e t':=⟨λpins s σ H Q I w=>h pins s σ H Q I (i σ H Q w)⟩
theorem qbO {e:Expr} {t t':TT} (h:PT X e t) (i:∀ σ H Q,t' σ H Q->t σ H Q):PT X e t':=⟨λpins s σ H Q I w=>h pins s σ H Q I (i σ H Q w)⟩
theorem qR {op:Operator} {g:D->D->Out D} (o:OpD X C m (binaryOp op) g) (c:PE X a (tE C own ma fa)) (d:PE X b (tE C own mb fb)) (f:ma≠.any:=by decide):PE X (.BinOp a op b pos) (tE C own m (d2 g fa fb)):=
 jN (qid o c d) λ_ _ _ h=>Vp f h
theorem yD {op:CmpOp} {g:D->D->Out D} (o:OpD X C m (compareOp op) g) (c:PE X a (tE C own ma fa)) (d:PE X b (tE C own mb fb)) (f:ma≠.any:=by decide)
  (k:behindInMarks op b=false:=by first | exact qdi _ | with_unfolding_all rfl):PE X (.Compare a [op] [b] pos) (tE C own m (d2 g fa fb)):=
 jN (qd5 o c d k) λ_ _ _ h=>Vp f h
theorem qbP {op:UnaryOp} {g:D->Out D} (o:UnD X C m (unaryOp op) g) (b:PE X a (tE C own ma fa)):PE X (.UnaryOp op a pos) (tE C own m (d1 g fa)):=
 jN (qie o b) λ_ _ _ h=>WO h
end
instance:DecidableEq Mo:=λa b=>by cases a <;> cases b <;> first | exact isTrue rfl | exact isFalse (by intro h; cases h)
theorem qbQ {K:Frag} {own:List Nat} {H0 F H:Hp} {σ:St} {ρ:Sl} {v:V} {d:D} (r:Rep K own F H σ ρ) (hA:∀ b,OA own σ b->H0 b≠iq) (h:MoIs K .fr H0 F H v d):∃ F',Rep K own F' H σ ρ/\Same F F'/\Is K F' v d/\∀ b,F' b≠iq->F b≠iq\/H0 b=none:=by
 obtain ⟨a,rfl,g,E,o⟩:=h;obtain ⟨u,hu⟩:∃ u,H a=ip u:=by
  cases q:H a with
  | none=>exact absurd q o.there
  | some u=>exact ⟨u,rfl⟩
 have gr:Same F (upd F a u):=λb w e=>by rw [qF (qM e E)]; exact e
 have A:Same (upd F a u) H:=λb w e=>by
  by_cases q:b=a;·subst q; rw [qu] at e; cases e; exact hu
  ·rw [qF q] at e; exact r.sub b w e
 refine ⟨upd F a u,⟨A,r.len,λi d hi e=>?_,λi d hi e=>?_,r.opn,r.dis⟩,gr,?_,λb f=>?_⟩;·obtain ⟨v,h1,h2⟩:=r.val i d hi e;exact ⟨v,h1,h2.mono gr⟩
 ·obtain ⟨c,h1,h2,j⟩:=r.ow i d hi e;refine ⟨c,h1,?_,j.grow gr λ_ q=>q⟩;have n:c≠a:=λq=>by subst q; exact hA c ⟨i,hi,h1⟩ g
  rw [qF n]; exact h2
 ·cases d with
  | lst ds=>obtain ⟨xs,e,t⟩:=o; rw [hu] at e; cases e; exact .lst (.inl (.inl qu)) (t.mono gr)
  | dct ds=>obtain ⟨xs,e,t⟩:=o; rw [hu] at e; cases e; exact .dct qu (t.mono gr)
  | ins C fs=>obtain ⟨dx,xs,e,t⟩:=o; rw [hu] at e; cases e; exact .ins qu (t.mono gr)
  | at_ b ds=>obtain ⟨J,xs,e,t⟩:=o; rw [hu] at e; cases e; subst J; exact .at_ (.inl (.inl qu)) (t.mono gr)
  | _=>exact o.elim
 ·by_cases q:b=a;·exact .inr (by rw [q]; exact g)
  ·rw [qF q] at f; exact .inl f
theorem Po.toSh {C:Ct} {own:List Nat} {m:Mo} {σ:St} {F H:Hp} {d:Sl} {r:Out (D×Sl)} {Q:VK} (f:Rep C.K own F H σ d) (g:m≠.any) (h:Po C own .sh σ F H r Q):Po C own m σ F H r Q:=by
 cases r with
 | ok p=>
  intro v F' H' a c mo;cases m with
  | sh=>exact h v F' H' a c mo
  | fr=>
   obtain ⟨j,e,gr,is,n⟩:=qbQ a (λb z=>(f.OA_there z).1) mo;refine h v j H' e ⟨c.keep,c.stay,c.grow.trans gr,λb i=>?_⟩ is;rcases n b i with z | z;·exact c.new b z
   ·exact .inr (.inl z)
  | any=>exact absurd rfl g
 | exc x=>exact h
 | bad=>exact h.elim
section
variable {X:Cx} {C:Ct} {own:List Nat} {a b e:Expr} {f fa fb:Sl->Out (D×Sl)} {m ma mb:Mo} {pos:Pos}
theorem yy (h:PE X e (tE C own m f)) (c:m≠.any):PE X e (tE C own .sh f):=jN h λ_ _ _ ⟨F,ρ,a,p⟩=>⟨F,ρ,a,p.toSh a c⟩
noncomputable def qe (i:Nat):Sl->Out (D×Sl):=λρ=>match ρ[i]? with
 | some (ip d)=>.ok (d,ρ)
 | _=>.bad
noncomputable def dC (d:D):Sl->Out (D×Sl):=λρ=>.ok (d,ρ)
theorem qgj {i:Nat} {x:Str} (b:X.N[i]?=ip x) (c:Vis X.env.scope x) (m:i∉own) (hd:(x == ("__debug__":Str))=false:=by decide) (a:(x == ("__classdict__":Str))=false:=by decide):PE X (.Name x pos) (tE C own .sh (qe i)):=by
 refine jN (yC b c hd a) λσ H Q ⟨F,ρ,r,h⟩=>?_;unfold qe at h;cases e:ρ[i]? with
 | none=>rw [e] at h; exact h.elim
 | some o=>
  cases o with
  | none=>rw [e] at h; exact h.elim
  | some d=>rw [e] at h;obtain ⟨v,h1,h2⟩:=r.val i d m e;exact ⟨v,h1,h v F H r .refl h2⟩
theorem vd {i:Nat} {x:Str} (f:X.N[i]?=ip x) (c:Vis X.env.scope x) (m:i∈own) (hd:(x == ("__debug__":Str))=false:=by decide) (b:(x == ("__classdict__":Str))=false:=by decide):PE X (.Name x pos) (tE C own .any (qe i)):=by
 refine jN (yC f c hd b) λσ H Q ⟨F,ρ,r,h⟩=>?_;unfold qe at h;cases e:ρ[i]? with
 | none=>rw [e] at h; exact h.elim
 | some o=>
  cases o with
  | none=>rw [e] at h; exact h.elim
  | some d=>rw [e] at h;obtain ⟨a,h1,h2,j⟩:=r.ow i d m e;exact ⟨_,h1,h _ F H r .refl (.inr ⟨a,rfl,j⟩)⟩
theorem qgk {v:V} {d:D} (h:PE X e (tC v)) (i:∀ F,Is C.K F v d):PE X e (tE C own .sh (dC d)):=jN h λσ H Q ⟨F,ρ,a,h⟩=>h v F H a .refl (i F)
theorem qt {i j pos}:PE X (.Constant (.int i) j pos) (tE C own .sh (dC (.int i))):=qgk qdd λ_=>.int i
theorem gJ {i j pos}:PE X (.Constant (.bool i) j pos) (tE C own .sh (dC (.bl i))):=qgk qdW λ_=>.bl i
theorem Vq {j pos}:PE X (.Constant .none j pos) (tE C own .sh (dC .non)):=qgk qfN λ_=>.non
theorem vg {x j pos} (h:h7 x<=sizeLine:=by decide):PE X (.Constant (.str x) j pos) (tE C own .sh (dC (.str x))):=qgk qde λ_=>.str h
theorem qeh {x:Str} {v:V} {d:D} {u:iu} (hg:Gl X x) (c:X.mg x=ip u) (r:RelV v u) (i:∀ F,Is C.K F v d) (hd:(x == ("__debug__":Str))=false:=by decide):PE X (.Name x pos) (tE C own .sh (dC d)):=qgk (ZO hg c r hd) i
noncomputable def uu (g:Int->Int->Out D):D->D->Out D
 | .int i,.int j=>g i j
 | _,_=>.bad
theorem TopIs.int {K:Frag} {F H:Hp} {v:V} {i:Int} (h:TopIs K F H v (.int i)):v=.int i:=by
 rcases h with h | ⟨a,_,h⟩
 ·cases h; rfl
 ·exact h.elim
theorem TopIs.str {K:Frag} {F H:Hp} {v:V} {x:Str} (h:TopIs K F H v (.str x)):v=.str x/\x.length<=sizeLine:=by
 rcases h with h | ⟨a,_,h⟩
 ·cases h; exact ⟨rfl,by assumption⟩
 ·exact h.elim
theorem TopIs.bl {K:Frag} {F H:Hp} {v:V} {x:Bool} (h:TopIs K F H v (.bl x)):v=.bl x:=by
 rcases h with h | ⟨a,_,h⟩
 ·cases h; rfl
 ·exact h.elim
theorem TopIs.non {K:Frag} {F H:Hp} {v:V} (h:TopIs K F H v .non):v=.non:=by
 rcases h with h | ⟨a,_,h⟩
 ·cases h; rfl
 ·exact h.elim
theorem TopIs.raw {K:Frag} {F H:Hp} {v u:V} (h:TopIs K F H v (.raw u)):v=u:=by
 rcases h with h | ⟨a,_,h⟩
 ·cases h; rfl
 ·exact h.elim
theorem TopIs.lst {K:Frag} {F H:Hp} {v:V} {ds:List D} (s:Same F H) (h:TopIs K F H v (.lst ds)):∃ a xs,v=.ref a/\SqL K H a xs/\IsL K F xs ds:=by
 rcases h with h | ⟨a,e,h⟩
 ·cases h with
  | lst h t=>exact ⟨_,_,rfl,s.seq h,t⟩
 ·obtain ⟨xs,i,t⟩:=h;exact ⟨a,xs,e,.inl (.inl i),t⟩
theorem TopIs.tup {K:Frag} {F H:Hp} {v:V} {ds:List D} (s:Same F H) (h:TopIs K F H v (.tup ds)):∃ a xs,v=.ref a/\SqT K H a xs/\IsL K F xs ds:=by
 rcases h with h | ⟨a,e,h⟩
 ·cases h with
  | tup h t=>exact ⟨_,_,rfl,qZ s h,t⟩
 ·exact h.elim
theorem TopIs.dct {K:Frag} {F H:Hp} {v:V} {ds:List (Key×D)} (s:Same F H) (h:TopIs K F H v (.dct ds)):∃ a kv,v=.ref a/\H a=ip (.dK kv)/\IsK K F kv ds:=by
 rcases h with h | ⟨a,e,h⟩
 ·cases h with
  | dct h t=>exact ⟨_,_,rfl,s _ _ h,t⟩
 ·obtain ⟨xs,i,t⟩:=h;exact ⟨a,xs,e,i,t⟩
theorem Yl {fn:iu->iu->Sem iu} {P:Int->Int->Prop} [∀ i j,Decidable (P i j)] {g:Int->Int->V} {d:Int->Int->D} (m:OpR X fn (rI P g)) (hg:∀ F i j,Is C.K F (g i j) (d i j)):OpD X C .sh fn (uu λi j=>if P i j then .ok (d i j) else .bad):=by
 intro pins s σ H x y v u Q I r c h;obtain ⟨F,dx,a,A,tx,ty,po⟩:=h;cases dx <;> try exact po.elim
 cases a <;> try exact po.elim
 rename_i i j;have po:PoV C .sh F H (if P i j then .ok (d i j) else .bad) Q:=po;obtain rfl:=tx.int;obtain rfl:=ty.int;by_cases q:P i j;·rw [if_pos q] at po;exact m pins s σ H _ _ v u Q I r c ⟨i,j,rfl,rfl,q,po (g i j) F H A .refl (hg F i j)⟩
 ·rw [if_neg q] at po; exact po.elim
theorem WP {fn:iu->iu->Sem iu} {g:Int->Int->V} {d:Int->Int->D} (m:OpR X fn (rI0 g)) (hg:∀ F i j,Is C.K F (g i j) (d i j)):OpD X C .sh fn (uu λi j=>.ok (d i j)):=by
 intro pins s σ H x y v u Q I r c h;obtain ⟨F,dx,a,A,tx,ty,po⟩:=h;cases dx <;> try exact po.elim
 cases a <;> try exact po.elim
 rename_i i j;obtain rfl:=tx.int;obtain rfl:=ty.int;exact m pins s σ H _ _ v u Q I r c ⟨i,j,rfl,rfl,po (g i j) F H A .refl (hg F i j)⟩
noncomputable def JB:D->D->Out D:=uu λi j=>.ok (.int (i - j))
theorem zy:OpD X C .sh (binaryOp .Sub) JB:=WP qf0 λ_ _ _=>.int _
instance:∀ i j,Decidable (CMul i j):=λi j=>inferInstanceAs (Decidable (_\/_))
instance:∀ i j,Decidable (qd2 i j):=λi j=>inferInstanceAs (Decidable (_/\_))
noncomputable def WQ:D->D->Out D:=uu λi j=>if CMul i j then .ok (.int (i * j)) else .bad
theorem QY:OpD X C .sh (binaryOp .Mult) WQ:=Yl qf1 λ_ _ _=>.int _
noncomputable def wq:D->D->Out D:=uu λi j=>if 0 < j then .ok (.int (i % j)) else .bad
theorem kE:OpD X C .sh (binaryOp .Mod) wq:=Yl qf2 λ_ _ _=>.int _
noncomputable def xS:D->D->Out D:=uu λi j=>if qd2 i j then .ok (.int (i / j)) else .bad
theorem gK:OpD X C .sh (binaryOp .FloorDiv) xS:=Yl qd3 λ_ _ _=>.int _
noncomputable def vL (x y:Str):Bool:=decide (x.cps.toList < y.cps.toList)
noncomputable def ltD:D->D->Out D
 | .int i,.int j=>.ok (.bl (decide (i < j)))
 | .str x,.str y=>.ok (.bl (vL x y))
 | _,_=>.bad
theorem qiu:OpD X C .sh (compareOp .Lt) ltD:=by
 intro pins s σ H x y v u Q I d c h;obtain ⟨F,dx,a,A,tx,ty,po⟩:=h;cases dx <;> try exact po.elim
 ·cases a <;> try exact po.elim
  obtain rfl:=tx.int;obtain rfl:=ty.int;exact qif pins s σ H _ _ v u Q I d c ⟨_,_,rfl,rfl,po _ F H A .refl (.bl _)⟩
 ·cases a <;> try exact po.elim
  obtain ⟨rfl,_⟩:=tx.str;obtain ⟨rfl,_⟩:=ty.str;exact ZV pins s σ H _ _ v u Q I d c ⟨_,_,rfl,rfl,po _ F H A .refl (.bl _)⟩
end
noncomputable def eqS (a b:D):Option Bool:=match a with
 | .non=>match b with
  | .non=>ip iA
  | .bl _=>ip iw
  | .int _=>ip iw
  | .str _=>ip iw
  | .tup _=>ip iw
  | .lst _=>ip iw
  | .dct _ | .raw _ | .xcp _ | .ins _ _ | .at_ _ _=>iq
 | .bl x=>match b with
  | .non=>ip iw
  | .bl y=>ip (x == y)
  | .int y=>ip ((if x then 1 else 0) == y)
  | .str _=>ip iw
  | .tup _=>ip iw
  | .lst _=>ip iw
  | .dct _ | .raw _ | .xcp _ | .ins _ _ | .at_ _ _=>iq
 | .int x=>match b with
  | .non=>ip iw
  | .bl y=>ip (x == (if y then 1 else 0))
  | .int y=>ip (x == y)
  | .str _=>ip iw
  | .tup _=>ip iw
  | .lst _=>ip iw
  | .dct _ | .raw _ | .xcp _ | .ins _ _ | .at_ _ _=>iq
 | .str x=>match b with
  | .non=>ip iw
  | .bl _=>ip iw
  | .int _=>ip iw
  | .str y=>ip (x == y)
  | .tup _=>ip iw
  | .lst _=>ip iw
  | .dct _ | .raw _ | .xcp _ | .ins _ _ | .at_ _ _=>iq
 | .tup x=>match b with
  | .non=>ip iw
  | .bl _=>ip iw
  | .int _=>ip iw
  | .str _=>ip iw
  | .tup _=>iq
  | .lst _=>ip iw
  | .dct _ | .raw _ | .xcp _ | .ins _ _ | .at_ _ _=>iq
 | .lst x=>match b with
  | .non=>ip iw
  | .bl _=>ip iw
  | .int _=>ip iw
  | .str _=>ip iw
  | .tup _=>ip iw
  | .lst _=>iq
  | .dct _ | .raw _ | .xcp _ | .ins _ _ | .at_ _ _=>iq
 | .dct _ | .raw _ | .xcp _ | .ins _ _ | .at_ _ _=>iq
noncomputable def vh (f:D->D->Option Bool):List D->List D->Option Bool
 | x::xs,y::ys=>(f x y).bind λa=>(vh f xs ys).bind λb=>ip (a&&b)
 | _,_=>ip iA
noncomputable def eqN:Nat->D->D->Option Bool
 | n+1,.tup xs,.tup ys=>(vh (eqN n) xs ys).map λb=>b&&xs.length == ys.length
 | n+1,.lst xs,.lst ys=>if xs.length=ys.length then vh (eqN n) xs ys else ip iw
 | _,a,b=>eqS a b
theorem Ym {n:Nat} {a b:D} (h1:∀ xs ys,a=.tup xs->b≠.tup ys) (h2:∀ xs ys,a=.lst xs->b≠.lst ys):eqN n a b=eqS a b:=by
 cases n with
 | zero=>rfl
 | succ n=>
  cases a with
  | tup xs=>cases b with
   | tup ys=>exact absurd rfl (h1 xs ys rfl)
   | _=>rfl
  | lst xs=>cases b with
   | lst ys=>exact absurd rfl (h2 xs ys rfl)
   | _=>rfl
  | _=>rfl
noncomputable def itE (f:D->D->Option Bool) (xs ys:List D) (j:Nat):Bool:=((xs[j]?).bind λx=>(ys[j]?).bind λy=>f x y).getD iw
theorem wt {f:D->D->Option Bool}:∀ {xs ys:List D} {b:Bool},vh f xs ys=ip b->b=(aK (min xs.length ys.length)).all (itE f xs ys)
 | [],ys,b,h=>by simp [vh] at h ⊢; exact h
 | x::xs,[],b,h=>by simp [vh] at h ⊢; exact h
 | x::xs,y::ys,b,h=>by
  unfold vh at h;cases e:f x y with
  | none=>rw [e] at h; simp at h
  | some a=>
   cases i:vh f xs ys with
   | none=>rw [e,i] at h; simp at h
   | some c=>
    rw [e,i] at h;have h:(a&&c)=b:=by simpa using h
    have d:=wt i;have m:min (x::xs).length (y::ys).length=min xs.length ys.length+1:=by simp only [ap]; omega
    rw [m,List.range_succ_eq_map,fL,List.all_map];have g:itE f (x::xs) (y::ys) 0=a:=by simp [itE,e]
    have e1:(itE f (x::xs) (y::ys)) ∘ Nat.succ=itE f xs ys:=by funext j;simp [itE]
    rw [g,e1,<-d];exact h.symm
theorem Gm {f:D->D->Option Bool}:∀ {xs ys:List D} {b:Bool},vh f xs ys=ip b->∀ (j:Nat) (x y:D),xs[j]?=ip x->ys[j]?=ip y->f x y=ip (itE f xs ys j)
 | [],ys,b,_,j,x,y,hx,_=>by simp at hx
 | x::xs,[],b,_,j,_,y,_,hy=>by simp at hy
 | x::xs,y::ys,b,h,0,x',y',hx,hy=>by
  simp at hx hy;subst hx hy;unfold vh at h;cases e:f x y with
  | none=>rw [e] at h; simp at h
  | some a=>simp [itE,e]
 | x::xs,y::ys,b,h,j+1,x',y',hx,hy=>by
  unfold vh at h;cases e:f x y with
  | none=>rw [e] at h; simp at h
  | some a=>
   cases i:vh f xs ys with
   | none=>rw [e,i] at h; simp at h
   | some c=>have q:=Gm i j x' y' (by simpa using hx) (by simpa using hy);rw [q];simp [itE]
section
variable {X:Cx} {pins:List (Addr×Obj)} {σ:St} {F H:Hp} {s:iB}
theorem Gn (I:Inv X pins σ H s) (A:Same F H):∀ (n:Nat) {v:V} {d e:D} {b:Bool},Is X.K F v d->Is X.K F v e->eqN n d e=ip b->b=true:=by
 intro n
 induction n with
 | zero=>
  intro v d e b h1 h2 h;cases h1 <;> cases h2 <;> simp [eqN,eqS] at h <;> try exact h.symm
  all_goals first
   | exact h
   | (rename_i p1 _ _ _ p2 _; obtain ⟨_,_,i,_⟩:=I.list (A.seq (by assumption)); obtain ⟨_,_,f,_⟩:=I.tuple (qZ A (by assumption)); exact absurd rfl (cF i.isList f))
   | (rename_i p1 _ _ _ p2 _; obtain ⟨_,_,i,_⟩:=I.list (A.seq (by assumption)); obtain ⟨_,_,f,_⟩:=I.tuple (qZ A (by assumption)); exact absurd rfl (cF i.isList f).symm)
   | skip
 | succ n k=>
  have l:∀ {xs:List V} {ds es:List D} {b:Bool},IsL X.K F xs ds->IsL X.K F xs es->vh (eqN n) ds es=ip b->b=true:=by
   intro xs
   induction xs with
   | nil=>intro ds es b h1 h2 h; cases h1; cases h2; simp [vh] at h; exact h
   | cons x xs j=>
    intro ds es b h1 h2 h;cases h1 with
    | cons p g=>
     cases h2 with
     | cons o t=>
      rename_i d ds e es;unfold vh at h;cases q:eqN n d e with
      | none=>rw [q] at h; simp at h
      | some a=>
       cases f:vh (eqN n) ds es with
       | none=>rw [q,f] at h; simp at h
       | some c=>rw [q,f] at h;rw [k p o q,j g t f] at h;simpa using h.symm
  intro v d e b h1 h2 h;cases h1 with
  | tup p1 g=>
   cases h2 with
   | tup p2 t=>
    have e:=I.tuple_inj (qZ A p1) (qZ A p2);subst e;simp only [eqN] at h;rename_i xs ds es;cases q:vh (eqN n) ds es with
    | none=>rw [q] at h; simp at h
    | some c=>
     rw [q] at h;have hl:ds.length=es.length:=by rw [<-g.length,<-t.length]
     have m:(ds.length == es.length)=true:=by simp [hl]
     rw [l g t q] at h;simpa [m] using h.symm
   | lst p2 t=>obtain ⟨_,_,i,_⟩:=I.list (A.seq p2);obtain ⟨_,_,f,_⟩:=I.tuple (qZ A p1);exact absurd rfl (cF i.isList f)
   | _=>simp [eqN,eqS] at h
  | lst p1 g=>
   cases h2 with
   | lst p2 t=>have e:=I.list_inj (A.seq p1) (A.seq p2);subst e;simp only [eqN] at h;have hl:=g.length.symm.trans t.length;rw [if_pos hl] at h;exact l g t h
   | tup p2 t=>obtain ⟨_,_,i,_⟩:=I.list (A.seq p1);obtain ⟨_,_,f,_⟩:=I.tuple (qZ A p2);exact absurd rfl (cF i.isList f)
   | _=>simp [eqN,eqS] at h
  | _=>cases h2 <;> simp [eqN,eqS] at h <;> first | exact h.symm | exact h | skip
end
open PySem.SeqAt
section
variable {X:Cx} {pins:List (Addr×Obj)} {σ:St} {F H:Hp} {s:iB}
theorem Vals.getE {xs:List V} {us:List iu} (r:Vals xs us) {j:Nat} (h:j < us.length):∃ x,xs[j]?=ip x/\RelV x us[j]:=by
 have hl:=r.length;have G:j < xs.length:=by omega
 obtain ⟨u,e1,e⟩:=Vals.get (i:=j) (x:=xs[j]) r (by simp [G]);refine ⟨xs[j],by simp [G],?_⟩;rw [aC h] at e1;cases e1;exact e
theorem yf {A:iH} {n:Nat} {xs ys:List V} {ds es:List D} {us ws:List iu} {b:Bool} (g:∀ {v w:V} {d e:D} {u t:iu} {b:Bool},Is X.K F v d->Is X.K F w e->RelV v u->RelV w t->eqN n d e=ip b->EqAt A s u t b)
  (r1:Vals xs us) (r2:Vals ys ws) (i1:IsL X.K F xs ds) (i2:IsL X.K F ys es) (h:vh (eqN n) ds es=ip b) :
  ∀ j (h1:j < us.toArray.size) (h2:j < ws.toArray.size),EqAt A s us.toArray[j] ws.toArray[j] (itE (eqN n) ds es j):=by
 intro j h1 h2;have c:j < us.length:=by simpa using h1
 have a:j < ws.length:=by simpa using h2
 obtain ⟨x,ex,f⟩:=Vals.getE r1 c;obtain ⟨y,l,r⟩:=Vals.getE r2 a;obtain ⟨d,o,i⟩:=i1.get ex;obtain ⟨e,m,k⟩:=i2.get l;have q:=Gm h j d e o m;simpa using g i k f r q
theorem Yn {A:iH} {n:Nat} {a c:Addr} {xs ys:List V} {ds es:List D} {b:Bool} (I:Inv X pins σ H s) (j:∀ {v w:V} {d e:D} {u t:iu} {b:Bool},Is X.K F v d->Is X.K F w e->RelV v u->RelV w t->eqN n d e=ip b->EqAt A.in1 s u t b)
  (p1:SqT X.K H a xs) (p2:SqT X.K H c ys) (i1:IsL X.K F xs ds) (i2:IsL X.K F ys es) (h:eqN (n+1) (.tup ds) (.tup es)=ip b) (m:A.units < cLine):RcAt A s (.ref a) (.ref c) b:=by
 obtain ⟨us,r1,g,_⟩:=I.tuple p1;obtain ⟨ws,r2,f,_⟩:=I.tuple p2;simp only [eqN] at h;cases q:vh (eqN n) ds es with
 | none=>rw [q] at h; simp at h
 | some k=>
  rw [q] at h;have i:us.toArray.size=ds.length:=by rw [ax,<-r1.length,i1.length]
  have l:ws.toArray.size=es.length:=by rw [ax,<-r2.length,i2.length]
  have z:=RcAt.tuples (A:=A) g f m (yf (A:=A.in1) j r1 r2 i1 i2 q);rw [i,l,<-wt q] at z;have e:b=(k&&ds.length == es.length):=by simpa using h.symm
  rw [e]; exact z
theorem Yo {A:iH} {n:Nat} {a c:Addr} {xs ys:List V} {ds es:List D} {b:Bool} (I:Inv X pins σ H s) (k:∀ {v w:V} {d e:D} {u t:iu} {b:Bool},Is X.K F v d->Is X.K F w e->RelV v u->RelV w t->eqN n d e=ip b->EqAt A.in1 s u t b)
  (p1:SqL X.K H a xs) (p2:SqL X.K H c ys) (i1:IsL X.K F xs ds) (i2:IsL X.K F ys es) (h:eqN (n+1) (.lst ds) (.lst es)=ip b) (j:A.units < cLine):RcAt A s (.ref a) (.ref c) b:=by
 obtain ⟨us,r1,g,_⟩:=I.list p1;obtain ⟨ws,r2,f,_⟩:=I.list p2;have i:us.toArray.size=ds.length:=by rw [ax,<-r1.length,i1.length]
 have l:ws.toArray.size=es.length:=by rw [ax,<-r2.length,i2.length]
 simp only [eqN] at h;by_cases hl:ds.length=es.length;·rw [if_pos hl] at h;have z:=RcAt.lists (A:=A) g.isList f.isList (by omega) j (yf (A:=A.in1) k r1 r2 i1 i2 h);have e:=wt h;rw [i] at z;rw [e,show min ds.length es.length=ds.length by omega];exact z
 ·rw [if_neg hl] at h;cases h;exact RcAt.lists_lengths g.isList f.isList (bne_iff_ne.mpr (by rw [i,l]; exact hl)) j
def Kd (s:iB):D->iu->Prop
 | .non,u=>u=.none
 | .bl b,u=>u=.bool b
 | .int i,u=>∃ t,u=.int i t
 | .str x,u=>∃ t,u=.str x t
 | .tup _,u=>∃ a its,u=.ref a/\s.heap.IsTuple a its
 | .lst _,u=>∃ a its,u=.ref a/\s.heap.IsList a its
 | _,_=>True
theorem XX (I:Inv X pins σ H s) (A:Same F H) {v:V} {d:D} {u:iu} (t:TopIs X.K F H v d) (r:RelV v u):Kd s d u:=by
 cases d with
 | non=>obtain rfl:=t.non; exact r
 | bl=>obtain rfl:=t.bl; exact r
 | int=>obtain rfl:=t.int; exact r
 | str=>obtain ⟨rfl,_⟩:=t.str; exact r
 | tup=>obtain ⟨a,_,rfl,p,_⟩:=t.tup A; obtain ⟨_,_,q,_⟩:=I.tuple p; exact ⟨a,_,r,q⟩
 | lst=>obtain ⟨a,_,rfl,p,_⟩:=t.lst A; obtain ⟨_,_,q,_⟩:=I.list p; exact ⟨a,_,r,q.isList⟩
 | _=>trivial
theorem qgl {A:iH} {d e:D} {u t:iu} {b:Bool} (f:A.units < cLine) (k1:Kd s d u) (k2:Kd s e t) (h:eqS d e=ip b):EqAt A s u t b:=by
 cases d <;> cases e <;> try (cases h; done)
 all_goals
  cases h;first | obtain ⟨_,_,rfl,a⟩:=k1 | obtain ⟨_,rfl⟩:=k1 | cases k1
  first | obtain ⟨_,_,rfl,q⟩:=k2 | obtain ⟨_,rfl⟩:=k2 | cases k2
  with_reducible first | exact EqAt.same _ | exact EqAt.none_bool _ | exact EqAt.none_int _ _ | exact EqAt.none_str _ _ | exact EqAt.bool_none _ | exact EqAt.bool_bool _ _ | exact EqAt.bool_int _ _ _ | exact EqAt.bool_str _ _ _ | exact EqAt.int_none _ _ | exact EqAt.int_bool _ _ _ | exact EqAt.int_int _ _ _ _ | exact EqAt.int_str _ _ _ _ | exact EqAt.str_none _ _ | exact EqAt.str_bool _ _ _ | exact EqAt.str_int _ _ _ _ | exact EqAt.str_str _ _ _ _ | exact EqAt.none_tuple q f | exact EqAt.tuple_none a f | exact EqAt.none_list q f | exact EqAt.list_none a f | exact EqAt.bool_tuple _ q f | exact EqAt.tuple_bool _ a f | exact EqAt.bool_list _ q f | exact EqAt.list_bool _ a f | exact EqAt.int_tuple _ _ q f | exact EqAt.tuple_int _ _ a f | exact EqAt.int_list _ _ q f | exact EqAt.list_int _ _ a f | exact EqAt.str_tuple _ _ q f | exact EqAt.tuple_str _ _ a f | exact EqAt.str_list _ _ q f | exact EqAt.list_str _ _ a f | exact EqAt.tuple_list a q f | exact EqAt.list_tuple a q f
theorem Go (I:Inv X pins σ H s) (f:Same F H):∀ (n:Nat) {A:iH} {v w:V} {d e:D} {u t:iu} {b:Bool},A.units+n < cLine->Is X.K F v d->Is X.K F w e->RelV v u->RelV w t->eqN n d e=ip b->EqAt A s u t b:=by
 intro n
 induction n with
 | zero=>exact λB h1 h2 x r h=>qgl (by omega) (XX I f (.inl h1) x) (XX I f (.inl h2) r) h
 | succ n m=>
  intro A v w d e u t b B h1 h2 x r h;have j:A.in1.units+n < cLine:=by show A.units+1+n < cLine; omega
  by_cases both:(∃ xs ys,d=.tup xs/\e=.tup ys)\/(∃ xs ys,d=.lst xs/\e=.lst ys)
  ·rcases both with ⟨ds,es,rfl,rfl⟩ | ⟨ds,es,rfl,rfl⟩
   ·have i:=h1;have g:=h2;cases h1 with
    | tup p1 l=>
     cases h2 with
     | tup p2 k=>
      rename_i a xs c ys;cases x;cases r;by_cases ne:a=c;·subst ne;rw [Gn I f (n+1) i g h];exact EqAt.same _
      ·exact EqAt.of_refs ne (Yn I (λp o z y q=>m j p o z y q) (qZ f p1) (qZ f p2) l k h (by omega))
   ·have i:=h1;have g:=h2;cases h1 with
    | lst p1 l=>
     cases h2 with
     | lst p2 k=>
      rename_i a xs c ys;cases x;cases r;by_cases ne:a=c;·subst ne;rw [Gn I f (n+1) i g h];exact EqAt.same _
      ·exact EqAt.of_refs ne (Yo I (λp o z y q=>m j p o z y q) (f.seq p1) (f.seq p2) l k h (by omega))
  ·have e1:eqN (n+1) d e=eqS d e:=Ym (λxs ys p o=>both (.inl ⟨xs,ys,p,o⟩)) (λxs ys p o=>both (.inr ⟨xs,ys,p,o⟩));have C:eqN n d e=eqS d e:=Ym (λxs ys p o=>both (.inl ⟨xs,ys,p,o⟩)) (λxs ys p o=>both (.inr ⟨xs,ys,p,o⟩));exact m (by omega) h1 h2 x r (by rw [C,<-e1]; exact h)
end
end L2.D2
namespace L2.D2
open PySem PySem.Spec PyProof.Rows
open PySem.SeqAt
variable {X:Cx} {A:iH} {n:Nat} {b:Bool}
section
variable {pins:List (Addr×Obj)} {σ:St} {F H:Hp} {s:iB}
theorem qbR {a c:Addr} {xs ys:List V} {ds es:List D} (I:Inv X pins σ H s) (j:∀ {v w:V} {d e:D} {u t:iu} {b:Bool},Is X.K F v d->Is X.K F w e->RelV v u->RelV w t->eqN n d e=ip b->EqAt A.in1 s u t b)
  (p1:SqT X.K H a xs) (p2:SqT X.K H c ys) (i1:IsL X.K F xs ds) (i2:IsL X.K F ys es) (h:eqN (n+1) (.tup ds) (.tup es)=ip b) (m:A.units < cLine):RcNeAt A s (.ref a) (.ref c) (!b):=by
 obtain ⟨us,r1,g,_⟩:=I.tuple p1;obtain ⟨ws,r2,f,_⟩:=I.tuple p2;simp only [eqN] at h;cases q:vh (eqN n) ds es with
 | none=>rw [q] at h; simp at h
 | some k=>
  rw [q] at h;have i:us.toArray.size=ds.length:=by rw [ax,<-r1.length,i1.length]
  have l:ws.toArray.size=es.length:=by rw [ax,<-r2.length,i2.length]
  have z:=RcNeAt.tuples (A:=A) g f m (yf (A:=A.in1) j r1 r2 i1 i2 q);rw [i,l,<-wt q] at z;have e:b=(k&&ds.length == es.length):=by simpa using h.symm
  rw [e]; exact z
theorem qbS {a c:Addr} {xs ys:List V} {ds es:List D} (I:Inv X pins σ H s) (k:∀ {v w:V} {d e:D} {u t:iu} {b:Bool},Is X.K F v d->Is X.K F w e->RelV v u->RelV w t->eqN n d e=ip b->EqAt A.in1 s u t b)
  (p1:SqL X.K H a xs) (p2:SqL X.K H c ys) (i1:IsL X.K F xs ds) (i2:IsL X.K F ys es) (h:eqN (n+1) (.lst ds) (.lst es)=ip b) (j:A.units < cLine):RcNeAt A s (.ref a) (.ref c) (!b):=by
 obtain ⟨us,r1,g,_⟩:=I.list p1;obtain ⟨ws,r2,f,_⟩:=I.list p2;have i:us.toArray.size=ds.length:=by rw [ax,<-r1.length,i1.length]
 have l:ws.toArray.size=es.length:=by rw [ax,<-r2.length,i2.length]
 simp only [eqN] at h;by_cases hl:ds.length=es.length;·rw [if_pos hl] at h;have z:=RcNeAt.lists (A:=A) g.isList f.isList (by omega) j (yf (A:=A.in1) k r1 r2 i1 i2 h);have e:=wt h;rw [i] at z;rw [e,show min ds.length es.length=ds.length by omega];exact z
 ·rw [if_neg hl] at h;cases h;exact RcNeAt.lists_lengths g.isList f.isList (bne_iff_ne.mpr (by rw [i,l]; exact hl)) j
theorem qgm (I:Inv X pins σ H s) (i:Same F H) {v w:V} {d e:D} {u t:iu} (m:A.units+n+1 < cLine) (k:TopIs X.K F H v d) (j:TopIs X.K F H w e) (x:RelV v u) (r:RelV w t) (h:eqN (n+1) d e=ip b):RcAt A s u t b:=by
 have f:A.units < cLine:=by omega
 have l:∀ {v w:V} {d e:D} {u t:iu} {b:Bool},Is X.K F v d->Is X.K F w e->RelV v u->RelV w t->eqN n d e=ip b->EqAt A.in1 s u t b:=λB p z y o=>Go I i n (by show A.units+1+n < cLine; omega) B p z y o;have k1:=XX I i k x;have k2:=XX I i j r;cases d <;> cases e <;> try (cases h; done)
 case tup.tup=>
  obtain ⟨a,xs,rfl,p1,i1⟩:=k.tup i; obtain ⟨c,ys,rfl,p2,i2⟩:=j.tup i; cases x; cases r;exact Yn I l p1 p2 i1 i2 h f
 case lst.lst=>
  obtain ⟨a,xs,rfl,p1,i1⟩:=k.lst i; obtain ⟨c,ys,rfl,p2,i2⟩:=j.lst i; cases x; cases r;exact Yo I l p1 p2 i1 i2 h f
 all_goals
  cases h;clear x r k j;first | obtain ⟨_,_,rfl,g⟩:=k1 | obtain ⟨_,rfl⟩:=k1 | cases k1
  first | obtain ⟨_,_,rfl,q⟩:=k2 | obtain ⟨_,rfl⟩:=k2 | cases k2
  with_reducible first | exact RcAt.none_none | exact RcAt.none_bool _ | exact RcAt.none_int _ _ | exact RcAt.none_str _ _ | exact RcAt.bool_none _ | exact RcAt.bool_bool _ _ | exact RcAt.bool_int _ _ _ | exact RcAt.bool_str _ _ _ | exact RcAt.int_none _ _ | exact RcAt.int_bool _ _ _ | exact RcAt.int_int _ _ _ _ | exact RcAt.int_str _ _ _ _ | exact RcAt.str_none _ _ | exact RcAt.str_bool _ _ _ | exact RcAt.str_int _ _ _ _ | exact RcAt.str_str _ _ _ _ | exact RcAt.none_tuple q f | exact RcAt.tuple_none g f | exact RcAt.none_list q f | exact RcAt.list_none g f | exact RcAt.bool_tuple _ q f | exact RcAt.tuple_bool _ g f | exact RcAt.bool_list _ q f | exact RcAt.list_bool _ g f | exact RcAt.int_tuple _ _ q f | exact RcAt.tuple_int _ _ g f | exact RcAt.int_list _ _ q f | exact RcAt.list_int _ _ g f | exact RcAt.str_tuple _ _ q f | exact RcAt.tuple_str _ _ g f | exact RcAt.str_list _ _ q f | exact RcAt.list_str _ _ g f | exact RcAt.tuple_list g q f | exact RcAt.list_tuple g q f
theorem qgn (I:Inv X pins σ H s) (i:Same F H) {v w:V} {d e:D} {u t:iu} (m:A.units+n+1 < cLine) (k:TopIs X.K F H v d) (j:TopIs X.K F H w e) (x:RelV v u) (r:RelV w t) (h:eqN (n+1) d e=ip b):RcNeAt A s u t (!b):=by
 have f:A.units < cLine:=by omega
 have l:∀ {v w:V} {d e:D} {u t:iu} {b:Bool},Is X.K F v d->Is X.K F w e->RelV v u->RelV w t->eqN n d e=ip b->EqAt A.in1 s u t b:=λB p z y o=>Go I i n (by show A.units+1+n < cLine; omega) B p z y o;have k1:=XX I i k x;have k2:=XX I i j r;cases d <;> cases e <;> try (cases h; done)
 case tup.tup=>
  obtain ⟨a,xs,rfl,p1,i1⟩:=k.tup i; obtain ⟨c,ys,rfl,p2,i2⟩:=j.tup i; cases x; cases r;exact qbR I l p1 p2 i1 i2 h f
 case lst.lst=>
  obtain ⟨a,xs,rfl,p1,i1⟩:=k.lst i; obtain ⟨c,ys,rfl,p2,i2⟩:=j.lst i; cases x; cases r;exact qbS I l p1 p2 i1 i2 h f
 all_goals
  cases h;clear x r k j;first | obtain ⟨_,_,rfl,g⟩:=k1 | obtain ⟨_,rfl⟩:=k1 | cases k1
  first | obtain ⟨_,_,rfl,q⟩:=k2 | obtain ⟨_,rfl⟩:=k2 | cases k2
  try simp only [Bool.not_true,Bool.not_false]
  with_reducible first | exact RcNeAt.none_none | exact RcNeAt.none_bool _ | exact RcNeAt.none_int _ _ | exact RcNeAt.none_str _ _ | exact RcNeAt.bool_none _ | exact RcNeAt.bool_bool _ _ | exact RcNeAt.bool_int _ _ _ | exact RcNeAt.bool_str _ _ _ | exact RcNeAt.int_none _ _ | exact RcNeAt.int_bool _ _ _ | exact RcNeAt.int_int _ _ _ _ | exact RcNeAt.int_str _ _ _ _ | exact RcNeAt.str_none _ _ | exact RcNeAt.str_bool _ _ _ | exact RcNeAt.str_int _ _ _ _ | exact RcNeAt.str_str _ _ _ _ | exact RcNeAt.none_tuple q f | exact RcNeAt.tuple_none g f | exact RcNeAt.none_list q f | exact RcNeAt.list_none g f | exact RcNeAt.bool_tuple _ q f | exact RcNeAt.tuple_bool _ g f | exact RcNeAt.bool_list _ q f | exact RcNeAt.list_bool _ g f | exact RcNeAt.int_tuple _ _ q f | exact RcNeAt.tuple_int _ _ g f | exact RcNeAt.int_list _ _ q f | exact RcNeAt.list_int _ _ g f | exact RcNeAt.str_tuple _ _ q f | exact RcNeAt.tuple_str _ _ g f | exact RcNeAt.str_list _ _ q f | exact RcNeAt.list_str _ _ g f | exact RcNeAt.tuple_list g q f | exact RcNeAt.list_tuple g q f | with_unfolding_all first | exact RcNeAt.bool_bool _ _ | exact RcNeAt.bool_int _ _ _ | exact RcNeAt.int_bool _ _ _ | exact RcNeAt.int_int _ _ _ _ | exact RcNeAt.str_str _ _ _ _
end
noncomputable def eqD (a b:D):Out D:=match eqN 8 a b with
 | some c=>.ok (.bl c)
 | none=>.bad
noncomputable def neD (a b:D):Out D:=match eqN 8 a b with
 | some c=>.ok (.bl (!c))
 | none=>.bad
section
variable {C:Ct}
theorem wN (a:C.K=X.K) (g:X.A.units+64 < cLine):OpD X C .sh (compareOp .Eq) eqD:=by
 intro pins s σ H x y v u Q I d r h;obtain ⟨F,dx,f,b,tx,ty,po⟩:=h;rw [a] at tx ty;unfold eqD at po;cases e:eqN 8 dx f with
 | none=>rw [e] at po; exact po.elim
 | some c=>rw [e] at po;exact qgm I b (n:=7) (by omega) tx ty d r e _ _ _ _ ⟨.bl c,H,I,rfl,po _ F H b .refl (.bl _)⟩
theorem JC (a:C.K=X.K) (g:X.A.units+64 < cLine):OpD X C .sh (compareOp .NotEq) neD:=by
 intro pins s σ H x y v u Q I d r h;obtain ⟨F,dx,f,b,tx,ty,po⟩:=h;rw [a] at tx ty;unfold neD at po;cases e:eqN 8 dx f with
 | none=>rw [e] at po; exact po.elim
 | some c=>rw [e] at po;exact qgn I b (n:=7) (by omega) tx ty d r e _ _ _ _ ⟨.bl _,H,I,rfl,po _ F H b .refl (.bl _)⟩
end
end L2.D2
namespace L2.D2
open PySem PySem.Spec PyProof.Rows
open PySem.SeqAt
variable {X:Cx} {pins:List (Addr×Obj)} {σ:St} {F H:Hp} {s:iB} {n:Nat} {v:V} {d e:D} {b:Bool}
section
theorem qei (I:Inv X pins σ H s) (A:Same F H):∀ (n:Nat) {v:V} {d d' e:D} {b g:Bool},Is X.K F v d->Is X.K F v d'->eqN n d e=ip b->eqN n d' e=ip g->b=g:=by
 have L:∀ {a:Addr} {xs ys:List V},SqT X.K F a xs->SqL X.K F a ys->False:=λp q=>by obtain ⟨_,_,u,_⟩:=I.list (A.seq q);obtain ⟨_,_,m,_⟩:=I.tuple (qZ A p);exact absurd rfl (ne_of_list_tuple u.isList m)
 intro n
 induction n with
 | zero=>
  intro v d d' e b g h1 h2 e1 i;have e1:eqS d e=ip b:=e1;have i:eqS d' e=ip g:=i;cases h1 <;> cases h2 <;> first
   | exact aO.inj (e1.symm.trans i)
   | exact (L (by assumption) (by assumption)).elim
   | (refine aO.inj (e1.symm.trans (bT ?_ i)); cases e <;> rfl; done)
   | (refine nomatch (show iq=ip g from bT ?_ i); cases e <;> rfl; done)
   | (refine nomatch (show iq=ip b from bT ?_ e1); cases e <;> rfl; done)
 | succ n w=>
  have l:∀ {xs:List V} {ds c es:List D} {b g:Bool},IsL X.K F xs ds->IsL X.K F xs c->vh (eqN n) ds es=ip b->vh (eqN n) c es=ip g->b=g:=by
   intro xs
   induction xs with
   | nil=>intro ds c es b g h1 h2 e1 i; cases h1; cases h2; simp only [vh] at e1 i; cases e1; cases i; rfl
   | cons x xs r=>
    intro ds c es b g h1 h2 e1 i;cases h1 with
    | cons B f=>
     cases h2 with
     | cons y t=>
      rename_i d ds d' c;cases es with
      | nil=>simp only [vh] at e1 i; cases e1; cases i; rfl
      | cons e es=>
       unfold vh at e1 i;cases q:eqN n d e with
       | none=>rw [q] at e1; simp at e1
       | some k=>
        cases m:eqN n d' e with
        | none=>rw [m] at i; simp at i
        | some k'=>
         cases j:vh (eqN n) ds es with
         | none=>rw [q,j] at e1; simp at e1
         | some k3=>
          cases h:vh (eqN n) c es with
          | none=>rw [m,h] at i; simp at i
          | some o=>rw [q,j] at e1;rw [m,h] at i;rw [w B y q m,r f t j h] at e1;have e1:ip (k'&&o)=ip b:=e1;have i:ip (k'&&o)=ip g:=i;rw [e1] at i;exact aO.inj i
  intro v d d' e b g h1 h2 e1 i;cases h1 with
  | tup p1 f=>
   cases h2 with
   | tup p2 t=>
    have q:=I.tuple_inj (qZ A p1) (qZ A p2);subst q;have hl:=f.length.symm.trans t.length;cases e with
    | tup es=>
     rename_i ds c;simp only [eqN] at e1 i;cases j:vh (eqN n) ds es with
     | none=>rw [j] at e1; simp at e1
     | some k3=>
      cases h:vh (eqN n) c es with
      | none=>rw [h] at i; simp at i
      | some o=>rw [j] at e1;rw [h] at i;rw [l f t j h,hl] at e1;exact aO.inj (e1.symm.trans i)
    | _=>simp only [eqN,eqS] at e1 i <;> first | (cases e1; cases i; rfl) | (cases e1; done)
   | lst p2 t=>exact (L p1 p2).elim
   | _=>cases e <;> simp [eqN,eqS] at i
  | lst p1 f=>
   cases h2 with
   | lst p2 t=>
    have q:=I.list_inj (A.seq p1) (A.seq p2);subst q;have hl:=f.length.symm.trans t.length;cases e with
    | lst es=>
     rename_i ds c;simp only [eqN] at e1 i;rw [hl] at e1;by_cases z:c.length=es.length;·rw [if_pos z] at e1 i;exact l f t e1 i
     ·rw [if_neg z] at e1 i;exact aO.inj (e1.symm.trans i)
    | _=>simp only [eqN,eqS] at e1 i <;> first | (cases e1; cases i; rfl) | (cases e1; done)
   | tup p2 t=>exact (L p2 p1).elim
   | _=>cases e <;> simp [eqN,eqS] at i
  | _=>cases h2 <;> first
   | exact aO.inj (e1.symm.trans i)
   | (refine aO.inj (e1.symm.trans (bT ?_ i)); cases e <;> rfl; done)
   | (refine nomatch (show iq=ip g from bT ?_ i); cases e <;> rfl; done)
   | (refine nomatch (show iq=ip b from bT ?_ e1); cases e <;> rfl; done)
open Classical in
noncomputable def ZJ (X:Cx) (F:Hp) (n:Nat) (e:D) (u:iu):Bool:=decide (∃ v d,Is X.K F v d/\RelV v u/\eqN n d e=ip iA)
open Classical in
theorem Gp (I:Inv X pins σ H s) (A:Same F H) {u:iu} (h:Is X.K F v d) (r:RelV v u) (q:eqN n d e=ip b):ZJ X F n e u=b:=by
 unfold ZJ;cases b with
 | true=>exact decide_eq_true ⟨v,d,h,r,q⟩
 | false=>refine decide_eq_false ?_;rintro ⟨w,d',h',r',g⟩;have e:=r.inj r';subst e;exact absurd (qei I A n h h' q g) (by decide)
noncomputable def gb (n:Nat) (e:D):List D->Option Bool
 | []=>ip iw
 | d::ds=>(eqN n d e).bind λa=>(gb n e ds).bind λb=>ip (a||b)
theorem Vr {ds:List D} (h:gb n e (d::ds)=ip b):∃ a c,eqN n d e=ip a/\gb n e ds=ip c/\b=(a||c):=by
 unfold gb at h;cases q:eqN n d e with
 | none=>rw [q] at h; simp at h
 | some a=>
  cases f:gb n e ds with
  | none=>rw [q,f] at h; simp at h
  | some c=>rw [q,f] at h; exact ⟨a,c,rfl,rfl,(aO.inj h).symm⟩
theorem Gq (I:Inv X pins σ H s) (A:Same F H):∀ {vs:List V} {ds:List D} {us:List iu} {b:Bool},IsL X.K F vs ds->Vals vs us->gb n e ds=ip b->us.any (ZJ X F n e)=b/\∀ u∈us,∃ v d a,Is X.K F v d/\RelV v u/\eqN n d e=ip a/\ZJ X F n e u=a
 | _,_,_,b,.nil,.nil,h=>⟨by simpa using (aO.inj h),λu f=>nomatch f⟩
 | _,_,_,b,.cons i t,.cons r rs,h=>by
  obtain ⟨a,c,q,k,rfl⟩:=Vr h;obtain ⟨j,g⟩:=Gq I A t rs k;have e1:=Gp I A i r q;refine ⟨by rw [cM,e1,j],λu f=>?_⟩;rcases ac.mp f with rfl | f;·exact ⟨_,_,a,i,r,q,e1⟩
  ·exact g u f
end
noncomputable def inD (x y:D):Out Bool:=match y with
 | .lst ds=>match gb 7 x ds with
  | some b=>.ok b
  | none=>.bad
 | .tup ds=>match gb 7 x ds with
  | some b=>.ok b
  | none=>.bad
 | _=>.bad
noncomputable def qgo (x y:D):Out D:=(inD x y).bind λb=>.ok (.bl b)
noncomputable def XY (x y:D):Out D:=(inD x y).bind λb=>.ok (.bl (!b))
theorem TopIs.is {K:Frag} (s:Same F H) (h:TopIs K F H v d):∃ F',Same F F'/\Same F' H/\Is K F' v d:=by
 rcases h with h | ⟨a,rfl,o⟩
 ·exact ⟨F,Same.refl _,s,h⟩
 ·obtain ⟨u,hu⟩:∃ u,H a=ip u:=by
   cases q:H a with
   | none=>exact absurd q o.there
   | some u=>exact ⟨u,rfl⟩
  by_cases E:F a=iq
  ·have gr:Same F (upd F a u):=λb w e=>by rw [qF (qM e E)]; exact e
   refine ⟨upd F a u,gr,λb w e=>?_,?_⟩
   ·by_cases q:b=a;·subst q; rw [qu] at e; cases e; exact hu
    ·rw [qF q] at e; exact s b w e
   ·cases d with
    | lst ds=>obtain ⟨xs,e,t⟩:=o; rw [hu] at e; cases e; exact .lst (.inl (.inl qu)) (t.mono gr)
    | dct ds=>obtain ⟨xs,e,t⟩:=o; rw [hu] at e; cases e; exact .dct qu (t.mono gr)
    | ins C fs=>obtain ⟨dx,xs,e,t⟩:=o; rw [hu] at e; cases e; exact .ins qu (t.mono gr)
    | at_ b ds=>obtain ⟨J,xs,e,t⟩:=o; rw [hu] at e; cases e; subst J; exact .at_ (.inl (.inl qu)) (t.mono gr)
    | _=>exact o.elim
  ·obtain ⟨w,hw⟩:∃ w,F a=ip w:=by
    cases q:F a with
    | none=>exact absurd q E
    | some w=>exact ⟨w,rfl⟩
   have e:=s a w hw;cases d with
   | lst ds=>obtain ⟨xs,c,t⟩:=o; rw [c] at e; cases e; exact ⟨F,Same.refl _,s,.lst (.inl (.inl hw)) t⟩
   | dct ds=>obtain ⟨xs,c,t⟩:=o; rw [c] at e; cases e; exact ⟨F,Same.refl _,s,.dct hw t⟩
   | ins C fs=>obtain ⟨dx,xs,c,t⟩:=o; rw [c] at e; cases e; exact ⟨F,Same.refl _,s,.ins hw t⟩
   | at_ b ds=>obtain ⟨J,xs,c,t⟩:=o; rw [c] at e; cases e; subst J; exact ⟨F,Same.refl _,s,.at_ (.inl (.inl hw)) t⟩
   | _=>exact o.elim
section
variable {C:Ct}
theorem Vs {A:iH} {y x:V} {dx:D} {ds:List D} {b:Bool} {u v:iu} {a:Addr} {us:List iu} {xs:List V} (I:Inv X pins σ H s) (l:A.units+64 < cLine) (c:Same F H) (ix:Is X.K F x dx) (f:RelV x v)
  (i:IsL X.K F xs ds) (r:Vals xs us) (h:gb 7 dx ds=ip b):us.any (ZJ X F 7 dx)=b/\∀ w,w∈us.toArray->EqAt A.in1 s w v (ZJ X F 7 dx w):=by
 obtain ⟨h1,h2⟩:=Gq I c i r h;refine ⟨h1,λw g=>?_⟩;obtain ⟨j,d,k,i1,r1,q,e⟩:=h2 w (by simpa using g);rw [e];exact Go I c 7 (by show A.units+1+7 < cLine; omega) i1 ix r1 f q
theorem qiv (n:C.K=X.K) (j:X.A.units+64 < cLine):OpD X C .sh (compareOp .In) qgo:=by
 intro pins s σ H x y v u Q I g f h;obtain ⟨F,dx,k,d,tx,ty,po⟩:=h;rw [n] at tx ty;unfold qgo inD at po;obtain ⟨F',g',c,ix⟩:=tx.is d;cases k with
 | lst ds=>
  cases e:gb 7 dx ds with
  | none=>simp only [e] at po; exact po.elim
  | some b=>simp only [e] at po;obtain ⟨a,xs,rfl,p,i⟩:=ty.lst d;cases f;obtain ⟨us,r,pl,_⟩:=I.list p;obtain ⟨h1,h2⟩:=Vs (A:=X.A) (y:=.non) (a:=a) (u:=.none) I j c ix g (i.mono g') r e;refine in_listAt (ZJ X F' 7 dx) pl.isList h2 ⟨.bl b,H,I,by show _=_; rw [<-h1]; simp,po _ F H d .refl (.bl _)⟩
 | tup ds=>
  cases e:gb 7 dx ds with
  | none=>simp only [e] at po; exact po.elim
  | some b=>simp only [e] at po;obtain ⟨a,xs,rfl,p,i⟩:=ty.tup d;cases f;obtain ⟨us,r,pl,_⟩:=I.tuple p;obtain ⟨h1,h2⟩:=Vs (A:=X.A) (y:=.non) (a:=a) (u:=.none) I j c ix g (i.mono g') r e;refine in_tupleAt (ZJ X F' 7 dx) pl h2 ⟨.bl b,H,I,by show _=_; rw [<-h1]; simp,po _ F H d .refl (.bl _)⟩
 | _=>exact po.elim
theorem qbT (n:C.K=X.K) (j:X.A.units+64 < cLine):OpD X C .sh (compareOp .NotIn) XY:=by
 intro pins s σ H x y v u Q I g f h;obtain ⟨F,dx,k,d,tx,ty,po⟩:=h;rw [n] at tx ty;unfold XY inD at po;obtain ⟨F',g',c,ix⟩:=tx.is d;cases k with
 | lst ds=>
  cases e:gb 7 dx ds with
  | none=>simp only [e] at po; exact po.elim
  | some b=>simp only [e] at po;obtain ⟨a,xs,rfl,p,i⟩:=ty.lst d;cases f;obtain ⟨us,r,pl,_⟩:=I.list p;obtain ⟨h1,h2⟩:=Vs (A:=X.A) (y:=.non) (a:=a) (u:=.none) I j c ix g (i.mono g') r e;refine notIn_listAt (ZJ X F' 7 dx) pl.isList h2 ⟨.bl (!b),H,I,by show _=_; rw [<-h1]; simp,po _ F H d .refl (.bl _)⟩
 | tup ds=>
  cases e:gb 7 dx ds with
  | none=>simp only [e] at po; exact po.elim
  | some b=>simp only [e] at po;obtain ⟨a,xs,rfl,p,i⟩:=ty.tup d;cases f;obtain ⟨us,r,pl,_⟩:=I.tuple p;obtain ⟨h1,h2⟩:=Vs (A:=X.A) (y:=.non) (a:=a) (u:=.none) I j c ix g (i.mono g') r e;refine notIn_tupleAt (ZJ X F' 7 dx) pl h2 ⟨.bl (!b),H,I,by show _=_; rw [<-h1]; simp,po _ F H d .refl (.bl _)⟩
 | _=>exact po.elim
end
end L2.D2
namespace L2.D2
open PySem PySem.Spec PyProof.Rows
def PoT (C:Ct) (own:List Nat) (σ:St) (F H:Hp) (r:Out (Bool×Sl)) (Q:Bool->Hp->Prop):Prop:=match r with
 | .ok (b,ρ')=>∀ F' H',Rep C.K own F' H' σ ρ'->Chg (OA own σ) F H F' H'->Q b H'
 | .exc c ρ'=>∀ F' H',Same F' H'->ZI C.K C.ox F' H' σ ρ'->Chg (OA own σ) F H F' H'->C.E (C.cv c) iq H'
 | .bad=>False
def tT (C:Ct) (own:List Nat) (f:Sl->Out (Bool×Sl)):TT:=λσ H Q=>∃ F ρ,Rep C.K own F H σ ρ/\PoT C own σ F H (f ρ) Q
variable {C:Ct} {own:List Nat} {σ:St} {F H F1 H1:Hp} {Q:Bool->Hp->Prop}
theorem PoT.shift {r:Out (Bool×Sl)} (h:PoT C own σ F H r Q) (c:Chg (OA own σ) F H F1 H1):PoT C own σ F1 H1 r Q:=by
 cases r with
 | ok p=>exact λF' H' a U=>h F' H' a (c.trans' U)
 | exc x=>exact λF' H' s io U=>h F' H' s io (c.trans' U)
 | bad=>exact h.elim
variable {o:Out (D×Sl)}
theorem PoT.bindV {ma:Mo} {k:D×Sl->Out (Bool×Sl)} {R:VK} (hp:PoT C own σ F H (o.bind k) Q)
  (h:∀ v F1 H1 d ρ1,Rep C.K own F1 H1 σ ρ1->Chg (OA own σ) F H F1 H1->MoIs C.K ma H F1 H1 v d->PoT C own σ F1 H1 (k (d,ρ1)) Q->R v H1):Po C own ma σ F H o R:=by
 cases o with
 | ok p=>obtain ⟨d,ρ1⟩:=p;exact λv F1 H1 a c mo=>h v F1 H1 d ρ1 a c mo (PoT.shift (show PoT C own σ F H (k (d,ρ1)) Q from hp) c)
 | exc x=>exact hp
 | bad=>exact hp.elim
theorem PoT.bindT {o:Out (Bool×Sl)} {k:Bool×Sl->Out (Bool×Sl)} {R:Bool->Hp->Prop} (hp:PoT C own σ F H (o.bind k) Q)
  (h:∀ F1 H1 b ρ1,Rep C.K own F1 H1 σ ρ1->Chg (OA own σ) F H F1 H1->PoT C own σ F1 H1 (k (b,ρ1)) Q->R b H1):PoT C own σ F H o R:=by
 cases o with
 | ok p=>obtain ⟨d,ρ1⟩:=p;exact λF1 H1 a c=>h F1 H1 d ρ1 a c (PoT.shift (show PoT C own σ F H (k (d,ρ1)) Q from hp) c)
 | exc x=>exact hp
 | bad=>exact hp.elim
variable {m:Mo}
theorem Po.bindT {o:Out (Bool×Sl)} {k:Bool×Sl->Out (D×Sl)} {Q:VK} {R:Bool->Hp->Prop} (hp:Po C own m σ F H (o.bind k) Q)
  (h:∀ F1 H1 b ρ1,Rep C.K own F1 H1 σ ρ1->Chg (OA own σ) F H F1 H1->Po C own m σ F1 H1 (k (b,ρ1)) Q->R b H1):PoT C own σ F H o R:=by
 cases o with
 | ok p=>obtain ⟨d,ρ1⟩:=p;exact λF1 H1 a c=>h F1 H1 d ρ1 a c (Po.shift (show Po C own m σ F H (k (d,ρ1)) Q from hp) c)
 | exc x=>exact hp
 | bad=>exact hp.elim
noncomputable def wu:D->Out Bool
 | .non=>.ok iw
 | .bl b=>.ok b
 | .int i=>.ok (i != 0)
 | .str x=>.ok ((x.length:Int) != 0)
 | .tup xs=>.ok (!xs.isEmpty)
 | .lst xs=>.ok (!xs.isEmpty)
 | .dct xs=>.ok (!xs.isEmpty)
 | .raw _=>.bad
 | .xcp _=>.bad
 | .ins _ _=>.bad
 | .at_ _ _=>.bad
noncomputable def xT (f:Sl->Out (D×Sl)):Sl->Out (Bool×Sl):=λρ=>(f ρ).bind λp=>(wu p.1).bind λb=>.ok (b,p.2)
variable {K:Frag} {vs:List V} {ds:List D}
theorem IsL.isEmpty (h:IsL K F vs ds):vs.isEmpty=ds.isEmpty:=by cases h <;> rfl
theorem IsK.isEmpty {vs:List (Key×V)} {ds:List (Key×D)} (h:IsK K F vs ds):vs.isEmpty=ds.isEmpty:=by cases h <;> rfl
variable {v:V} {d:D}
theorem qej {b:Bool} (s:Same F H) (h:TopIs K F H v d) (e:wu d=.ok b):qij K v H b:=by
 cases d with
 | non=>obtain rfl:=h.non; cases e; rfl
 | bl x=>obtain rfl:=h.bl; cases e; rfl
 | int x=>obtain rfl:=h.int; cases e; rfl
 | str x=>obtain ⟨rfl,q⟩:=h.str; cases e; exact ⟨q,rfl⟩
 | tup x=>obtain ⟨a,xs,rfl,p,t⟩:=h.tup s; cases e; exact .inr (.inl ⟨xs,p,by rw [t.isEmpty]⟩)
 | lst x=>obtain ⟨a,xs,rfl,p,t⟩:=h.lst s; cases e; exact .inl ⟨xs,p,by rw [t.isEmpty]⟩
 | dct x=>obtain ⟨a,xs,rfl,p,t⟩:=h.dct s; cases e; exact .inr (.inr ⟨xs,p,by rw [t.isEmpty]⟩)
 | raw x=>cases e
 | xcp x=>cases e
 | ins x y=>cases e
 | at_ x y=>cases e
noncomputable def jb (f:Sl->Out (D×Sl)):Sl->Out (Bool×Sl):=λρ=>(f ρ).bind λp=>match p.1 with
 | .bl b=>.ok (b,p.2)
 | _=>.bad
variable {X:Cx} {c e:Expr} {f fa:Sl->Out (D×Sl)} {ft:Sl->Out (Bool×Sl)} {ma mb:Mo} {pos:Pos} {op op':CmpOp} {ρ:Sl} {g':D->D->Out D}
section
variable {a b:Expr} {fb fc:Sl->Out (D×Sl)} {fu:Sl->Out (Bool×Sl)} {mc:Mo} {rest:List Expr}
theorem jn (n:C.K=X.K) (h:PE X e (tE C own m f)) (i:∀ whole,isTrue e X.env whole=(do let v <-whole; standAt e.pos; holding [v] (truthy v))):PT X e (tT C own (xT f)):=by
 refine qbO (qbF h i) λσ H Q ⟨F,ρ,r,h⟩=>⟨F,ρ,r,PoT.bindV h λv F1 H1 d ρ1 a g c h1=>?_⟩
 cases q:wu d with
 | ok k=>have h1:PoT C own σ F1 H1 ((wu d).bind λb=>.ok (b,ρ1)) Q:=h1;rw [q] at h1;exact ⟨k,by rw [<-n]; exact qej a.sub c.top q,h1 F1 H1 a .refl⟩
 | exc x=>have h1:PoT C own σ F1 H1 ((wu d).bind λb=>.ok (b,ρ1)) Q:=h1;cases d <;> cases q
 | bad=>have h1:PoT C own σ F1 H1 ((wu d).bind λb=>.ok (b,ρ1)) Q:=h1;rw [q] at h1;exact h1.elim
theorem Gr (h:tT C own (jb f) σ H Q):tE C own .sh f σ H λx H'=>∃ k,x=.bl k/\Q k H':=by
 obtain ⟨F,ρ,r,h⟩:=h;refine ⟨F,ρ,r,PoT.bindV h λv F1 H1 d ρ1 a b c h1=>?_⟩;cases d with
 | bl k=>have c:Is C.K F1 v (.bl k):=c;cases c;exact ⟨k,rfl,h1 F1 H1 a .refl⟩
 | _=>exact h1.elim
theorem qP {g:D->D->Out D} (m:OpD X C .sh (compareOp op) g) (c:PE X a (tE C own ma fa)) (d:PE X b (tE C own mb fb)) (f:ma≠.any:=by decide)
  (k:behindInMarks op b=false:=by first | exact qdi _ | with_unfolding_all rfl):PT X (.Compare a [op] [b] pos) (tT C own (jb (d2 g fa fb))):=by
 refine qbO (qd6 m c d k) λσ H Q h=>?_;exact Vp f (Gr h)
noncomputable def QG (ft:Sl->Out (Bool×Sl)):Sl->Out (Bool×Sl):=λρ=>(ft ρ).bind λp=>.ok (!p.1,p.2)
theorem jB (h:PT X a (tT C own ft)):PT X (.UnaryOp .Not a pos) (tT C own (QG ft)):=by refine qbO (qfQ h) λσ H Q ⟨F,ρ,p,h⟩=>⟨F,ρ,p,PoT.bindT h λF1 H1 b ρ1 r k h1=>h1 F1 H1 r .refl⟩
theorem qgp {e:Expr} {t t':TT} (h:PW X e t) (i:∀ σ H Q,t' σ H Q->t σ H Q):PW X e t':=⟨λw pins s σ H Q I a=>h w pins s σ H Q I (i σ H Q a)⟩
noncomputable def qdk (ft fu:Sl->Out (Bool×Sl)):Sl->Out (Bool×Sl):=λρ=>(ft ρ).bind λp=>if p.1=iA then fu p.2 else .ok (iw,p.2)
noncomputable def dOr (ft fu:Sl->Out (Bool×Sl)):Sl->Out (Bool×Sl):=λρ=>(ft ρ).bind λp=>if p.1=iA then .ok (iA,p.2) else fu p.2
theorem kr {op} (h:PT X a (tT C own ft)):PW X (.BoolOp op [a] pos) (tT C own ft):=by
 cases op;·exact qdX h
 ·exact qfO h
theorem WR (g:PT X a (tT C own ft)) (d:PW X (.BoolOp .And (b::rest) pos) (tT C own fu)):PW X (.BoolOp .And (a::b::rest) pos) (tT C own (qdk ft fu)):=by
 refine qgp (qfP g d) λσ H Q ⟨F,ρ,p,h⟩=>⟨F,ρ,p,PoT.bindT h λF1 H1 k ρ1 r c h1=>?_⟩
 cases k with
 | true=>exact ⟨F1,ρ1,r,h1⟩
 | false=>exact h1 F1 H1 r .refl
theorem uC (g:PT X a (tT C own ft)) (d:PW X (.BoolOp .Or (b::rest) pos) (tT C own fu)):PW X (.BoolOp .Or (a::b::rest) pos) (tT C own (dOr ft fu)):=by
 refine qgp (qh4 g d) λσ H Q ⟨F,ρ,p,h⟩=>⟨F,ρ,p,PoT.bindT h λF1 H1 k ρ1 r c h1=>?_⟩
 cases k with
 | true=>exact h1 F1 H1 r .refl
 | false=>exact ⟨F1,ρ1,r,h1⟩
noncomputable def Vt (fa fb:Sl->Out (D×Sl)):Sl->Out (D×Sl):=λρ=>(fa ρ).bind λp=>match p.1 with
 | .bl iA=>fb p.2
 | .bl iw=>.ok (.bl iw,p.2)
 | _=>.bad
noncomputable def qjg (fa fb:Sl->Out (D×Sl)):Sl->Out (D×Sl):=λρ=>(fa ρ).bind λp=>match p.1 with
 | .bl iA=>.ok (.bl iA,p.2)
 | .bl iw=>fb p.2
 | _=>.bad
theorem Yp {op} (h:PE X a (tE C own m f)):PE X (.BoolOp op [a] pos) (tE C own m f):=qfR h
theorem Vu (g:PE X a (tE C own .sh fa)) (e:PE X (.BoolOp .And (b::rest) pos) (tE C own .sh fb)):PE X (.BoolOp .And (a::b::rest) pos) (tE C own .sh (Vt fa fb)):=by
 refine jN (qfS g e) λσ H Q ⟨F,ρ,p,h⟩=>⟨F,ρ,p,Po.bind h λv F1 H1 d ρ1 r f c h1=>?_⟩
 cases d with
 | bl k=>
  have c:Is C.K F1 v (.bl k):=c;cases c;refine ⟨k,rfl,?_⟩;cases k with
  | true=>exact ⟨F1,ρ1,r,h1⟩
  | false=>exact h1 _ F1 H1 r .refl (.bl _)
 | _=>exact h1.elim
noncomputable def dIf (ft:Sl->Out (Bool×Sl)) (fa fb:Sl->Out (D×Sl)):Sl->Out (D×Sl):=λρ=>(ft ρ).bind λp=>if p.1=iA then fa p.2 else fb p.2
theorem Vv {t:Expr} (l:PT X t (tT C own ft)) (g:PE X a (tE C own ma fa)) (d:PE X b (tE C own mb fb)) (h1:ma≠.any:=by decide) (h2:mb≠.any:=by decide):PE X (.IfExp t a b pos) (tE C own .sh (dIf ft fa fb)):=by
 refine jN (qby l (yy g h1) (yy d h2)) λσ H Q ⟨F,ρ,p,h⟩=>⟨F,ρ,p,Po.bindT h λF1 H1 k ρ1 r c h1=>?_⟩
 cases k with
 | true=>exact ⟨F1,ρ1,r,h1⟩
 | false=>exact ⟨F1,ρ1,r,h1⟩
noncomputable def xg (g g':D->D->Out D) (fa fb fc:Sl->Out (D×Sl)):Sl->Out (D×Sl):=λρ=>(fa ρ).bind λp=>(fb p.2).bind λq=>(g p.1 q.1).plain.bind λz=>match z with
 | .bl iA=>(fc q.2).bind λr=>(g' q.1 r.1).plain.bind λd=>.ok (d,r.2)
 | .bl iw=>.ok (.bl iw,q.2)
 | _=>.bad
theorem PoV.bind {o:Out D} {k:D->Out (D×Sl)} {Q R:VK} (a:Rep C.K own F H σ ρ) (h:Po C own m σ F H (o.plain.bind k) Q)
  (b:∀ v F1 H1 d,Rep C.K own F1 H1 σ ρ->Chg No F H F1 H1->MoIs C.K ma H F1 H1 v d->Po C own m σ F1 H1 (k d) Q->R v H1):PoV C ma F H o R:=by
 cases o with
 | ok d=>exact λv F1 H1 s c mo=>b v F1 H1 d (a.grow c s) c mo (Po.shift (show Po C own m σ F H (k d) Q from h) c.ofNo)
 | exc c=>exact h.elim
 | bad=>exact h.elim
theorem Yq {g:D->D->Out D} {Q:VK} (s:ma≠.any) (l:mb≠.any) (h:tE C own .sh (xg g g' fa fb fc) σ H Q):ZW (λx y H Q=>∃ F dx n,Same F H/\TopIs C.K F H x dx/\TopIs C.K F H y n/\PoV C .sh F H (g dx n) Q) (λx y H Q=>∃ F dx n,Same F H/\TopIs C.K F H x dx/\TopIs C.K F H y n/\PoV C .sh F H (g' dx n) Q)
   (tE C own ma fa) (tE C own mb fb) (tE C own mc fc) σ H Q:=by
 obtain ⟨F,ρ,A,h⟩:=h;refine ⟨F,ρ,A,Po.bind h λv F1 H1 d ρ1 i O q h1=>⟨F1,ρ1,i,Po.bind h1 λw N H2 e ρ2 f c2 j h2=>?_⟩⟩;have oa:∀ x,OA own σ x->H x≠none:=λx z=>(A.OA_there z).1;have o:∀ x,OA own σ x->H1 x≠none:=λx z=>(i.OA_there z).1;refine ⟨N,d,e,f.sub,(q.grow s c2 oa).top,j.top,PoV.bind (m:=.sh) f h2 λz u L G c J a t=>?_⟩;cases G with
 | bl k=>
  have a:Is C.K u z (.bl k):=a;cases a;refine ⟨k,rfl,?_⟩;cases k with
  | true=>refine ⟨u,ρ2,c,Po.bind t λT M P r B b I p E=>?_⟩;exact ⟨M,e,r,b.sub,((j.grow l (J.ofNo) o).grow l I o).top,p.top,PoV.of b E⟩
  | false=>exact t _ u L c .refl (.bl _)
 | _=>exact t.elim
theorem Yr {g:D->D->Out D} (m:OpD X C .sh (compareOp op) g) (d:OpD X C .sh (compareOp op') g') (k:PE X a (tE C own ma fa)) (j:PE X b (tE C own mb fb)) (i:PE X c (tE C own mc fc)) (f:ma≠.any:=by decide) (l:mb≠.any:=by decide)
  (e:lastMarks [op,op'] [b,c]=false:=by with_unfolding_all rfl):PE X (.Compare a [op,op'] [b,c] pos) (tE C own .sh (xg g g' fa fb fc)):=jN (qbD m d k j i e) λ_ _ _ h=>Yq f l h
theorem Vw {g:D->D->Out D} (m:OpD X C .sh (compareOp op) g) (d:OpD X C .sh (compareOp op') g') (k:PE X a (tE C own ma fa)) (j:PE X b (tE C own mb fb)) (i:PE X c (tE C own mc fc)) (f:ma≠.any:=by decide) (l:mb≠.any:=by decide)
  (e:lastMarks [op,op'] [b,c]=false:=by with_unfolding_all rfl):PT X (.Compare a [op,op'] [b,c] pos) (tT C own (jb (xg g g' fa fb fc))):=qbO (qbE m d k j i e) λ_ _ _ h=>Yq f l (Gr h)
theorem Gs:OpR X (compareOp .LtE) (λx y H Q=>∃ i j,x=.str i/\y=.str j/\Q (.bl (!vL j i)) H):=by intro pins s σ H x y v u Q I d c h;obtain ⟨i,j,rfl,rfl,q⟩:=h;obtain ⟨t,rfl⟩:=d;obtain ⟨t',rfl⟩:=c;exact PySem.P.le_str (ZU I q (by simp [vL]))
noncomputable def leD:D->D->Out D
 | .int i,.int j=>.ok (.bl (decide (i<=j)))
 | .str x,.str y=>.ok (.bl (!vL y x))
 | _,_=>.bad
theorem Vx:OpD X C .sh (compareOp .LtE) leD:=by
 intro pins s σ H x y v u Q I d c h;obtain ⟨F,dx,a,A,tx,ty,po⟩:=h;cases dx <;> try exact po.elim
 ·cases a <;> try exact po.elim
  obtain rfl:=tx.int;obtain rfl:=ty.int;exact qig pins s σ H _ _ v u Q I d c ⟨_,_,rfl,rfl,po _ F H A .refl (.bl _)⟩
 ·cases a <;> try exact po.elim
  obtain ⟨rfl,_⟩:=tx.str;obtain ⟨rfl,_⟩:=ty.str;exact Gs pins s σ H _ _ v u Q I d c ⟨_,_,rfl,rfl,po _ F H A .refl (.bl _)⟩
noncomputable def gtD:D->D->Out D:=uu λi j=>.ok (.bl (decide (j < i)))
theorem qiw:OpD X C .sh (compareOp .Gt) gtD:=WP qih λ_ _ _=>.bl _
noncomputable def geD:D->D->Out D:=uu λi j=>.ok (.bl (decide (j<=i)))
theorem qek:OpD X C .sh (compareOp .GtE) geD:=WP qii λ_ _ _=>.bl _
noncomputable def qbU:D->D->Out D
 | .non,.non=>.ok (.bl iw)
 | .raw _,.non=>.bad
 | _,.non=>.ok (.bl iA)
 | _,_=>.bad
theorem TopIs.notN (h:TopIs K F H v d) (h1:d≠.non) (h2:∀ u,d≠.raw u):v≠.non:=by
 rintro rfl;rcases h with h | ⟨a,e,_⟩
 ·cases h;·exact h1 rfl
  ·exact h2 _ rfl
 ·cases e
theorem qel:OpD X C .sh (compareOp .IsNot) qbU:=by
 intro pins s σ H x y v u Q I r c h;obtain ⟨F,dx,d,A,tx,ty,po⟩:=h;have D:d=.non:=by cases d <;> first | rfl | (cases dx <;> exact po.elim)
 subst D;obtain rfl:=ty.non;refine qd4 pins s σ H x .non v u Q I r c ⟨rfl,?_⟩;cases dx with
 | non=>obtain rfl:=tx.non; exact po _ F H A .refl (.bl _)
 | raw _=>exact po.elim
 | _=>rw [decide_eq_false (tx.notN (by intro z; cases z) (by intro _ z; cases z))]; exact po _ F H A .refl (.bl _)
end
inductive Fl where
 | nx | rt (d:D) | bk | ct
structure Nx (C:Ct) (own own':List Nat) (σ:St) (F H:Hp) (ρ':Sl) (σ':St) (F' H':Hp):Prop where
 rep:Rep C.K own' F' H' σ' ρ'
 chg:Chg (OA own σ) F H F' H'
 oa:∀ b,OA own' σ' b->OA own σ b\/H b=iq
 io:∀ i∈C.io,σ'[i]?=σ[i]?
def PoS (C:Ct) (own own':List Nat) (σ:St) (F H:Hp) (r:Out (Fl×Sl)) (D:Ends):Prop:=match r with
 | .ok (.nx,ρ')=>∀ σ' F' H',Nx C own own' σ F H ρ' σ' F' H'->D.nx σ' H'
 | .ok (.rt d,ρ')=>∀ v σ' F' H',Same F' H'->ZI C.K C.io F' H' σ' ρ'->Chg (OA own σ) F H F' H'->(∀ i∈C.io,σ'[i]?=σ[i]?)->MoIs C.K C.mr H F' H' v d->D.rt v H'
 | .ok (.bk,ρ')=>∀ σ' F' H',Nx C own C.ol σ F H ρ' σ' F' H'->D.bk σ' H'
 | .ok (.ct,ρ')=>∀ σ' F' H',Nx C own C.ol σ F H ρ' σ' F' H'->D.ct σ' H'
 | .exc c ρ'=>∀ F' H',Same F' H'->ZI C.K C.ox F' H' σ ρ'->Chg (OA own σ) F H F' H'->C.E (C.cv c) iq H'
 | .bad=>False
def tSt (C:Ct) (own own':List Nat) (f:Sl->Out (Fl×Sl)):TS:=λD σ H=>∃ F ρ,Rep C.K own F H σ ρ/\PoS C own own' σ F H (f ρ) D
variable {o1 o2 o3:List Nat} {σ1:St} {ρ1:Sl}
theorem Nx.then {c:St} {d H2:Hp} {ρ2:Sl} (a:Nx C o1 o2 σ F H ρ1 σ1 F1 H1) (b:Nx C o2 o3 σ1 F1 H1 ρ2 c d H2):Nx C o1 o3 σ F H ρ2 c d H2 where
 rep:=b.rep
 chg:=a.chg.trans b.chg a.oa
 oa:=λx h=>by
  rcases b.oa x h with z | z;·exact a.oa x z
  ·refine .inr ?_;cases q:H x with
   | none=>rfl
   | some o=>exact absurd z (a.chg.stay x (by rw [q]; simp))
 io:=λi hi=>(b.io i hi).trans (a.io i hi)
theorem PoS.shift {r:Out (Fl×Sl)} {D:Ends} (h:PoS C o1 o3 σ F H r D) (a:Nx C o1 o2 σ F H ρ1 σ1 F1 H1):PoS C o2 o3 σ1 F1 H1 r D:=by
 cases r with
 | ok p=>
  obtain ⟨l,ρ'⟩:=p;cases l with
  | nx=>exact λσ' F' H' n=>h σ' F' H' (a.then n)
  | rt d=>exact λv σ' F' H' s io c e mo=>h v σ' F' H' s io (a.chg.trans c a.oa) (λi hi=>(e i hi).trans (a.io i hi)) (MoIs.back (Ha:=H1) a.chg mo)
  | bk=>exact λσ' F' H' n=>h σ' F' H' (a.then n)
  | ct=>exact λσ' F' H' n=>h σ' F' H' (a.then n)
 | exc c=>exact λF' H' s io U=>h F' H' s (λi hi=>by obtain ⟨d,b,e1,f,E⟩:=io i hi;exact ⟨d,b,e1,by rw [<-a.io i (C.oxs i hi)]; exact f,E⟩) (a.chg.trans U a.oa)
 | bad=>exact h.elim
theorem Nx.ofE (r:Rep C.K own F1 H1 σ ρ1) (c:Chg (OA own σ) F H F1 H1):Nx C own own σ F H ρ1 σ F1 H1:=⟨r,c,λ_ h=>.inl h,λ_ _=>rfl⟩
variable {own':List Nat}
theorem PoS.bindE {m:Mo} {k:D×Sl->Out (Fl×Sl)} {D:Ends} {R:VK} (hp:PoS C own own' σ F H (o.bind k) D)
  (h:∀ v F1 H1 d ρ1,Rep C.K own F1 H1 σ ρ1->Chg (OA own σ) F H F1 H1->MoIs C.K m H F1 H1 v d->PoS C own own' σ F1 H1 (k (d,ρ1)) D->R v H1):Po C own m σ F H o R:=by
 cases o with
 | ok p=>obtain ⟨d,ρ1⟩:=p;exact λv F1 H1 a c mo=>h v F1 H1 d ρ1 a c mo (PoS.shift (show PoS C own own' σ F H (k (d,ρ1)) D from hp) (.ofE a c))
 | exc x=>exact hp
 | bad=>exact hp.elim
theorem PoS.bindT {o:Out (Bool×Sl)} {k:Bool×Sl->Out (Fl×Sl)} {D:Ends} {R:Bool->Hp->Prop} (hp:PoS C own own' σ F H (o.bind k) D)
  (h:∀ F1 H1 b ρ1,Rep C.K own F1 H1 σ ρ1->Chg (OA own σ) F H F1 H1->PoS C own own' σ F1 H1 (k (b,ρ1)) D->R b H1):PoT C own σ F H o R:=by
 cases o with
 | ok p=>obtain ⟨d,ρ1⟩:=p;exact λF1 H1 a c=>h F1 H1 d ρ1 a c (PoS.shift (show PoS C own own' σ F H (k (d,ρ1)) D from hp) (.ofE a c))
 | exc x=>exact hp
 | bad=>exact hp.elim
variable {b a:Addr} {t':TS} {st:Stmt} {fe:Sl->Out (D×Sl)} {i:Nat} {x:Str} {pos':Pos}
section
variable {sts rest:List Stmt} {f g:Sl->Out (Fl×Sl)}
theorem QH {t:TS} (h:PS X st t) (i:∀ D σ H,t' D σ H->t D σ H):PS X st t':=⟨λpins s σ H D I w=>h pins s σ H D I (i D σ H w)⟩
theorem Gu {t:TS} (h:PSs X sts t) (i:∀ D σ H,t' D σ H->t D σ H):PSs X sts t':=⟨λpins s σ H D I w=>h pins s σ H D I (i D σ H w)⟩
noncomputable def jJ:Sl->Out (Fl×Sl):=λρ=>.ok (.nx,ρ)
noncomputable def qT (f g:Sl->Out (Fl×Sl)):Sl->Out (Fl×Sl):=λρ=>(f ρ).bind λp=>match p.1 with
 | .nx=>g p.2
 | fl=>.ok (fl,p.2)
theorem Nx.refl (r:Rep C.K own F H σ ρ):Nx C own own σ F H ρ σ F H:=.ofE r .refl
theorem qV:PSs X [] (tSt C own own jJ):=Gu WG λD σ H ⟨F,ρ,a,h⟩=>h σ F H (.refl a)
theorem qgq {D:Ends} (h:tSt C o1 o3 (qT f g) D σ H):tSt C o1 o2 f { D with nx:=tSt C o2 o3 g D } σ H:=by
 obtain ⟨F,ρ,a,h⟩:=h;refine ⟨F,ρ,a,?_⟩;unfold qT at h;cases q:f ρ with
 | ok p=>
  rw [q] at h;obtain ⟨l,ρ1⟩:=p;cases l with
  | nx=>exact λσ' F' H' n=>⟨F',ρ1,n.rep,PoS.shift (show PoS C o1 o3 σ F H (g ρ1) D from h) n⟩
  | rt d=>exact h
  | bk=>exact h
  | ct=>exact h
 | exc c=>rw [q] at h; exact h
 | bad=>rw [q] at h; exact h.elim
theorem ql (h1:PS X st (tSt C o1 o2 f)) (h2:PSs X rest (tSt C o2 o3 g)):PSs X (st::rest) (tSt C o1 o3 (qT f g)):=Gu (qbz h1 h2) λD σ H h=>qgq h
theorem qo (h1:PS X st (tSt C o1 o2 f)):PSs X [st] (tSt C o1 o2 f):=qdY h1
theorem Rep.weak {K:Frag} {F H:Hp} {σ:St} {ρ:Sl}:∀ (drop:List Nat) {own own':List Nat},(∀ i,i∈own'↔i∈own/\i∉drop)->Rep K own F H σ ρ->∃ F',Rep K own' F' H σ ρ/\Chg (OA own σ) F H F' H
 | [],own,own',hs,rp=>⟨F,⟨rp.sub,rp.len,λi d hi=>rp.val i d λz=>hi ((hs i).mpr ⟨z,by simp⟩),λi d hi=>rp.ow i d ((hs i).mp hi).1,λi hi=>rp.opn i ((hs i).mp hi).1,λi j a hi G=>rp.dis i j a ((hs i).mp hi).1 ((hs j).mp G).1⟩,.refl⟩
 | k::r,own,own',hs,rp=>by
  obtain ⟨F1,c,n⟩:=Rep.weak r (own:=own) (own':=own.filter λi=>decide (i∉r)) (λi=>by simp) rp;by_cases f:k∈own/\k∉r
  ·obtain ⟨d,hd⟩:=c.opn k (by simp [f.1,f.2]);obtain ⟨a,h1,h2,g⟩:=c.ow k d (by simp [f.1,f.2]) hd;obtain ⟨u,hu⟩:∃ u,H a=ip u:=by
    cases q:H a with
    | none=>exact absurd q g.there
    | some u=>exact ⟨u,rfl⟩
   have gr:Same F1 (upd F1 a u):=λb w e=>by rw [qF (qM e h2)]; exact e
   refine ⟨upd F1 a u,⟨λb w e=>?_,c.len,λi d' hi e=>?_,λi d' hi e=>?_,λi hi=>?_,λi j b hi G=>?_⟩,?_⟩
   ·by_cases q:b=a;·subst q; rw [qu] at e; cases e; exact hu
    ·rw [qF q] at e; exact c.sub b w e
   ·by_cases q:i=k
    ·subst q;rw [hd] at e; cases e;refine ⟨_,h1,?_⟩;cases d with
     | lst ds=>obtain ⟨xs,e,t⟩:=g; rw [hu] at e; cases e; exact .lst (.inl (.inl qu)) (t.mono gr)
     | dct ds=>obtain ⟨xs,e,t⟩:=g; rw [hu] at e; cases e; exact .dct qu (t.mono gr)
     | ins C fs=>obtain ⟨dx,xs,e,t⟩:=g; rw [hu] at e; cases e; exact .ins qu (t.mono gr)
     | at_ b ds=>obtain ⟨J,xs,e,t⟩:=g; rw [hu] at e; cases e; subst J; exact .at_ (.inl (.inl qu)) (t.mono gr)
     | _=>exact g.elim
    ·obtain ⟨v,o,p⟩:=c.val i d' (λz=>by simp at z; exact hi ((hs i).mpr ⟨z.1,by simp [q,z.2]⟩)) e;exact ⟨v,o,p.mono gr⟩
   ·have h:=(hs i).mp hi;have s:i≠k:=λz=>h.2 (by simp [z]);have m:i∉r:=λz=>h.2 (by simp [z]);obtain ⟨b,o,p,y⟩:=c.ow i d' (by simp [h.1,m]) e;refine ⟨b,o,?_,y.grow gr λ_ z=>z⟩;have A:b≠a:=λz=>by subst z; exact s (c.dis i k b (by simp [h.1,m]) (by simp [f.1,f.2]) o h1)
    rw [qF A]; exact p
   ·have h:=(hs i).mp hi;exact c.opn i (by simp [h.1]; exact λz=>h.2 (by simp [z]))
   ·have h:=(hs i).mp hi;have l:=(hs j).mp G;exact c.dis i j b (by simp [h.1]; exact λz=>h.2 (by simp [z])) (by simp [l.1]; exact λz=>l.2 (by simp [z]))
   ·refine ⟨n.keep,n.stay,n.grow.trans gr,λb x=>?_⟩;by_cases q:b=a;·exact .inr (.inr ⟨k,f.1,by rw [q]; exact h1⟩)
    ·rw [qF q] at x; exact n.new b x
  ·refine ⟨F1,⟨c.sub,c.len,λi d hi=>c.val i d λz=>?_,λi d hi=>c.ow i d ?_,λi hi=>c.opn i ?_,λi j a hi G=>c.dis i j a ?_ ?_⟩,n⟩;·simp at z;refine hi ((hs i).mpr ⟨z.1,?_⟩);simp only [ac,not_or];exact ⟨λq=>f (by subst q; exact z),z.2⟩
   all_goals
    first
     | (have q:=(hs _).mp hi; simp only [br,decide_eq_true_eq]; exact ⟨q.1,λz=>q.2 (by simp [z])⟩)
     | (have q:=(hs _).mp G; simp only [br,decide_eq_true_eq]; exact ⟨q.1,λz=>q.2 (by simp [z])⟩)
theorem OA.sub (h:∀ i∈own',i∈own) (q:OA own' σ b):OA own σ b:=let ⟨i,hi,e⟩:=q; ⟨i,h i hi,e⟩
theorem Nx.drop (drop:List Nat) (h:∀ i,i∈own'↔i∈own/\i∉drop) (r:Rep C.K own F H σ ρ):∃ F',Nx C own own' σ F H ρ σ F' H:=by obtain ⟨F',a,c⟩:=Rep.weak drop h r;exact ⟨F',a,c,λb q=>.inl (OA.sub (λi hi=>((h i).mp hi).1) q),λ_ _=>rfl⟩
noncomputable def uy (own drop:List Nat):List Nat:=own.filter λi=>decide (i∉drop)
theorem jk {own drop:List Nat} (i:Nat):i∈uy own drop↔i∈own/\i∉drop:=by simp [uy]
theorem kP (drop:List Nat) (h:PSs X sts (tSt C (uy own drop) o2 f)):PSs X sts (tSt C own o2 f):=Gu h λD σ H ⟨F,ρ,a,h⟩=>by obtain ⟨F',n⟩:=Nx.drop (C:=C) drop (λi=>jk (own:=own) i) a;exact ⟨F',ρ,n.rep,h.shift n⟩
noncomputable def sIf (ft:Sl->Out (Bool×Sl)) (f g:Sl->Out (Fl×Sl)):Sl->Out (Fl×Sl):=λρ=>(ft ρ).bind λp=>if p.1=iA then f p.2 else g p.2
theorem jo {a b:List Stmt} (d:PT X c (tT C own ft)) (i:PSs X a (tSt C own own' f)) (e:PSs X b (tSt C own own' g)):PS X (.If c a b pos) (tSt C own own' (sIf ft f g)):=by
 refine QH (qh8 d i e) λD σ H ⟨F,ρ,p,h⟩=>⟨F,ρ,p,PoS.bindT h λF1 H1 k ρ1 r j h1=>?_⟩
 cases k with
 | true=>exact ⟨F1,ρ1,r,h1⟩
 | false=>exact ⟨F1,ρ1,r,h1⟩
noncomputable def kD (fe:Sl->Out (D×Sl)):Sl->Out (Fl×Sl):=λρ=>(fe ρ).bind λp=>.ok (.nx,p.2)
theorem jl (i:PE X e (tE C own m fe)) (s:swapsWith e iq pos.line X.env=pure false:=by rfl):PS X (.Expr e pos) (tSt C own own (kD fe)):=by refine QH (qdZ i s) λD σ H ⟨F,ρ,r,h⟩=>⟨F,ρ,r,PoS.bindE h λv F1 H1 d ρ1 a k c h1=>h1 σ F1 H1 (.refl a)⟩
noncomputable def jM (fe:Sl->Out (D×Sl)):Sl->Out (Fl×Sl):=λρ=>(fe ρ).bind λp=>.ok (.rt p.1,p.2)
theorem qem (b:PE X e (tE C own C.mr fe)) (o:∀ i∈C.io,i∈own:=by exact ut rfl):PS X (.Return (ip e) pos) (tSt C own own' (jM fe)):=by
 refine QH (qfT b) λD σ H ⟨F,ρ,r,h⟩=>⟨F,ρ,r,?_⟩
 unfold jM at h;cases q:fe ρ with
 | ok p=>rw [q] at h;obtain ⟨d,ρ1⟩:=p;exact λv F1 H1 a k m=>h v σ F1 H1 a.sub (a.ioIs o) k (λ_ _=>rfl) m
 | exc c=>rw [q] at h; exact h
 | bad=>rw [q] at h; exact h.elim
theorem qr (h:PE X e (tE C own m fe)) (c:m≠.any:=by decide) (f:C.mr=.sh:=by rfl) (o:∀ i∈C.io,i∈own:=by exact ut rfl):PS X (.Return (ip e) pos) (tSt C own own' (jM fe)):=qem (by rw [f]; exact yy h c) o
theorem Rep.put (r:Rep K own F H σ ρ) (hi:i < ρ.length) (is:Is K F v d):Rep K (uy own [i]) F H (σ.set i (ip v)) (ρ.set i (ip d)) where
 sub:=r.sub
 len:=by simp [r.len]
 val:=λj d' G e=>by
  by_cases q:j=i;·subst q;rw [aF hi] at e;cases e;exact ⟨v,aF (by rw [r.len]; exact hi),is⟩
  ·rw [au (bh q)] at e;obtain ⟨w,h1,h2⟩:=r.val j d' (λz=>G ((jk j).mpr ⟨z,by simp [q]⟩)) e;exact ⟨w,by rw [au (bh q)]; exact h1,h2⟩
 ow:=λj d' G e=>by have l:=(jk j).mp G;have q:j≠i:=λz=>l.2 (by simp [z]);rw [au (bh q)] at e;obtain ⟨a,h1,h2⟩:=r.ow j d' l.1 e;exact ⟨a,by rw [au (bh q)]; exact h1,h2⟩
 opn:=λj G=>by have l:=(jk j).mp G;have q:j≠i:=λz=>l.2 (by simp [z]);obtain ⟨d',e⟩:=r.opn j l.1;exact ⟨d',by rw [au (bh q)]; exact e⟩
 dis:=λj k a G c e1 b=>by have l:=(jk j).mp G;have h:=(jk k).mp c;rw [au (λz=>l.2 (by simp [z]))] at e1;rw [au (λz=>h.2 (by simp [z]))] at b;exact r.dis j k a l.1 h.1 e1 b
theorem OA.put (h:OA (uy own [i]) (σ.set i (ip v)) b):OA own σ b:=by obtain ⟨j,G,e⟩:=h;have l:=(jk j).mp G;rw [au (λz=>l.2 (by simp [z]))] at e;exact ⟨j,l.1,e⟩
noncomputable def jz (i:Nat) (fe:Sl->Out (D×Sl)):Sl->Out (Fl×Sl):=λρ=>(fe ρ).bind λp=>if i < p.2.length then .ok (.nx,p.2.set i (ip p.1)) else .bad
theorem qG (l:X.N.Nodup) (hi:X.N[i]?=ip x) (hx:Loc X.env.scope x) (k:PE X e (tE C own m fe)) (f:m≠.any:=by decide) (o:i∉C.io:=by exact Yk rfl) (s:swapsWith e (ip (.Name x pos')) pos.line X.env=pure false:=by rfl)
  (g:X.fn x=iA\/X.env.scope.names.lookup x=ip .local:=by first | exact .inl rfl | exact .inr rfl):PS X (.Assign [.Name x pos'] e pos) (tSt C own (uy own [i]) (jz i fe)):=by
 refine QH (qdg l hi hx (yy k f) s g) λD σ H ⟨F,ρ,r,h⟩=>⟨F,ρ,r,PoS.bindE h λv F1 H1 d ρ1 a n c h1=>?_⟩
 by_cases q:i < ρ1.length;·have h1:PoS C own (uy own [i]) σ F1 H1 (if i < ρ1.length then .ok (.nx,ρ1.set i (ip d)) else .bad) D:=h1;rw [if_pos q] at h1;exact h1 _ F1 H1 ⟨a.put q c,.refl,λb z=>.inl (OA.put z),λj G=>au λz=>o (by rw [z]; exact G)⟩
 ·have h1:PoS C own (uy own [i]) σ F1 H1 (if i < ρ1.length then .ok (.nx,ρ1.set i (ip d)) else .bad) D:=h1;rw [if_neg q] at h1;exact h1.elim
theorem Rep.putO (r:Rep K own F H σ ρ) (hi:i < ρ.length) (E:F a=iq) (n:¬OA own σ a) (o:OwnIs K F H a d):Rep K (i::uy own [i]) F H (σ.set i (ip (.ref a))) (ρ.set i (ip d)) where
 sub:=r.sub
 len:=by simp [r.len]
 val:=λj d' G e=>by have q:j≠i:=λz=>G (by simp [z]);rw [au (bh q)] at e;obtain ⟨w,h1,h2⟩:=r.val j d' (λz=>G (aa _ ((jk j).mpr ⟨z,by simp [q]⟩))) e;exact ⟨w,by rw [au (bh q)]; exact h1,h2⟩
 ow:=λj d' G e=>by
  by_cases q:j=i;·subst q;rw [aF hi] at e;cases e;exact ⟨a,aF (by rw [r.len]; exact hi),E,o⟩
  ·have l:=(jk j).mp ((ac.mp G).resolve_left q);rw [au (bh q)] at e;obtain ⟨b,h1,h2⟩:=r.ow j d' l.1 e;exact ⟨b,by rw [au (bh q)]; exact h1,h2⟩
 opn:=λj G=>by
  by_cases q:j=i;·subst q; exact ⟨d,aF hi⟩
  ·have l:=(jk j).mp ((ac.mp G).resolve_left q);obtain ⟨d',e⟩:=r.opn j l.1;exact ⟨d',by rw [au (bh q)]; exact e⟩
 dis:=λj k b G p e1 f=>by
  have m:i < σ.length:=by rw [r.len]; exact hi
  by_cases g:j=i
  ·by_cases c:k=i;·rw [g,c]
   ·subst g;have h:=(jk k).mp ((ac.mp p).resolve_left c);rw [aF m] at e1;cases e1;rw [au (bh c)] at f;exact absurd ⟨k,h.1,f⟩ n
  ·have l:=(jk j).mp ((ac.mp G).resolve_left g);by_cases c:k=i;·subst c;rw [aF m] at f;cases f;rw [au (bh g)] at e1;exact absurd ⟨j,l.1,e1⟩ n
   ·have h:=(jk k).mp ((ac.mp p).resolve_left c);rw [au (bh g)] at e1;rw [au (bh c)] at f;exact r.dis j k b l.1 h.1 e1 f
theorem ka (w:X.N.Nodup) (hi:X.N[i]?=ip x) (hx:Loc X.env.scope x) (u:PE X e (tE C own .fr fe)) (f:i∉C.io:=by exact Yk rfl) (s:swapsWith e (ip (.Name x pos')) pos.line X.env=pure false:=by rfl)
  (t:X.fn x=iA\/X.env.scope.names.lookup x=ip .local:=by first | exact .inl rfl | exact .inr rfl):PS X (.Assign [.Name x pos'] e pos) (tSt C own (i::uy own [i]) (jz i fe)):=by
 refine QH (qdg w hi hx u s t) λD σ H ⟨F,ρ,k,h⟩=>⟨F,ρ,k,?_⟩
 unfold jz at h;cases q:fe ρ with
 | ok p=>
  rw [q] at h;obtain ⟨d,ρ1⟩:=p;intro v F1 H1 r A m;obtain ⟨a,rfl,n,E,o⟩:=m;by_cases z:i < ρ1.length
  ·have h1:PoS C own (i::uy own [i]) σ F H (if i < ρ1.length then .ok (.nx,ρ1.set i (ip d)) else .bad) D:=h;rw [if_pos z] at h1;refine h1 _ F1 H1 ⟨r.putO z E (λy=>(k.OA_there y).1 n) o,A,λb y=>?_,λj G=>au λy=>f (by rw [y]; exact G)⟩;obtain ⟨j,G,e⟩:=y;by_cases g:j=i;·subst g;rw [aF (by rw [r.len]; exact z)] at e;cases e;exact .inr n
   ·have l:=(jk j).mp ((ac.mp G).resolve_left g);rw [au (bh g)] at e;exact .inl ⟨j,l.1,e⟩
  ·have h1:PoS C own (i::uy own [i]) σ F H (if i < ρ1.length then .ok (.nx,ρ1.set i (ip d)) else .bad) D:=h;rw [if_neg z] at h1;exact h1.elim
 | exc c=>rw [q] at h; exact h
 | bad=>rw [q] at h; exact h.elim
end
inductive AK where
 | vl | sl (i:Nat) | fr
 deriving DecidableEq
def ArgV (K:Frag) (H0 F H:Hp) (σ:St):List AK->List V->List D->Prop
 | [],[],[]=>True
 | .vl::as,v::vs,d::ds=>Is K F v d/\ArgV K H0 F H σ as vs ds
 | .sl i::as,v::vs,d::ds=>σ[i]?=ip (ip v)/\d=.non/\ArgV K H0 F H σ as vs ds
 | .fr::as,v::vs,d::ds=>MoIs K .fr H0 F H v d/\ArgV K H0 F H σ as vs ds
 | _,_,_=>False
variable {H0 F' H':Hp}
theorem ArgV.grow {A:Addr->Prop} (c:Chg A F H F' H') (hA:∀ x,A x->H0 x≠iq):∀ {as:List AK} {vs:List V} {ds:List D},ArgV K H0 F H σ as vs ds->ArgV K H0 F' H' σ as vs ds
 | [],[],[],h=>trivial
 | .vl::as,v::vs,d::ds,h=>⟨h.1.mono c.grow,ArgV.grow c hA h.2⟩
 | .sl i::as,v::vs,d::ds,h=>⟨h.1,h.2.1,ArgV.grow c hA h.2.2⟩
 | .fr::as,v::vs,d::ds,h=>⟨h.1.grow (by decide) c hA,ArgV.grow c hA h.2⟩
 | [],_::_,_,h=>h.elim
 | [],[],_::_,h=>h.elim
 | .vl::_,[],_,h=>h.elim
 | .vl::_,_::_,[],h=>h.elim
 | .sl _::_,[],_,h=>h.elim
 | .sl _::_,_::_,[],h=>h.elim
 | .fr::_,[],_,h=>h.elim
 | .fr::_,_::_,[],h=>h.elim
theorem ArgV.back {A:Addr->Prop} {F0:Hp} (c:Chg A F0 H0 F1 H1):∀ {as:List AK} {vs:List V} {ds:List D},ArgV K H1 F H σ as vs ds->ArgV K H0 F H σ as vs ds
 | [],[],[],h=>trivial
 | .vl::as,v::vs,d::ds,h=>⟨h.1,ArgV.back c h.2⟩
 | .sl i::as,v::vs,d::ds,h=>⟨h.1,h.2.1,ArgV.back c h.2.2⟩
 | .fr::as,v::vs,d::ds,h=>⟨MoIs.back (Ha:=H1) c h.1,ArgV.back c h.2⟩
 | [],_::_,_,h=>h.elim
 | [],[],_::_,h=>h.elim
 | .vl::_,[],_,h=>h.elim
 | .vl::_,_::_,[],h=>h.elim
 | .sl _::_,[],_,h=>h.elim
 | .sl _::_,_::_,[],h=>h.elim
 | .fr::_,[],_,h=>h.elim
 | .fr::_,_::_,[],h=>h.elim
def PoA (C:Ct) (own:List Nat) (as:List AK) (σ:St) (F H:Hp) (r:Out (List D×Sl)) (Q:List V->Hp->Prop):Prop:=match r with
 | .ok (ds,ρ')=>∀ vs F' H',Rep C.K own F' H' σ ρ'->Chg (OA own σ) F H F' H'->ArgV C.K H F' H' σ as vs ds->Q vs H'
 | .exc c ρ'=>∀ F' H',Same F' H'->ZI C.K C.ox F' H' σ ρ'->Chg (OA own σ) F H F' H'->C.E (C.cv c) iq H'
 | .bad=>False
def tAr (C:Ct) (own:List Nat) (as:List AK) (f:Sl->Out (List D×Sl)):TA:=λσ H Q=>∃ F ρ,Rep C.K own F H σ ρ/\PoA C own as σ F H (f ρ) Q
variable {as:List AK}
theorem PoA.bindV {ma:Mo} {k:D×Sl->Out (List D×Sl)} {Q:List V->Hp->Prop} {R:VK} (hp:PoA C own as σ F H (o.bind k) Q)
  (h:∀ v F1 H1 d ρ1,Rep C.K own F1 H1 σ ρ1->Chg (OA own σ) F H F1 H1->MoIs C.K ma H F1 H1 v d->PoA C own as σ F H (k (d,ρ1)) Q->R v H1):Po C own ma σ F H o R:=by
 cases o with
 | ok p=>obtain ⟨d,ρ1⟩:=p;exact λv F1 H1 a c mo=>h v F1 H1 d ρ1 a c mo hp
 | exc x=>exact hp
 | bad=>exact hp.elim
theorem Po.bindA {as:List AK} {o:Out (List D×Sl)} {k:List D×Sl->Out (D×Sl)} {Q:VK} {R:List V->Hp->Prop} (hp:Po C own m σ F H (o.bind k) Q)
  (h:∀ vs F1 H1 ds ρ1,Rep C.K own F1 H1 σ ρ1->Chg (OA own σ) F H F1 H1->ArgV C.K H F1 H1 σ as vs ds->Po C own m σ F1 H1 (k (ds,ρ1)) Q->R vs H1):PoA C own as σ F H o R:=by
 cases o with
 | ok p=>obtain ⟨d,ρ1⟩:=p;exact λvs F1 H1 a c v=>h vs F1 H1 d ρ1 a c v (Po.shift (show Po C own m σ F H (k (d,ρ1)) Q from hp) c)
 | exc x=>exact hp
 | bad=>exact hp.elim
noncomputable def qE:Sl->Out (List D×Sl):=λρ=>.ok ([],ρ)
noncomputable def qd (fe:Sl->Out (D×Sl)) (fr:Sl->Out (List D×Sl)):Sl->Out (List D×Sl):=λρ=>(fe ρ).bind λp=>(fr p.2).bind λq=>.ok (p.1::q.1,q.2)
noncomputable def kt (fr:Sl->Out (List D×Sl)):Sl->Out (List D×Sl):=λρ=>(fr ρ).bind λq=>.ok (D.non::q.1,q.2)
variable {es:List Expr} {p:Addr} {u:HO}
section
variable {fr:Sl->Out (List D×Sl)}
theorem qen {t t':TA} (h:PA X es t) (i:∀ σ H Q,t' σ H Q->t σ H Q):PA X es t':=⟨λpos pins s σ H Q I w=>h pos pins s σ H Q I (i σ H Q w)⟩
theorem qg:PA X [] (tAr C own [] qE):=qen jH λσ H Q ⟨F,ρ,a,h⟩=>h [] F H a .refl trivial
theorem Vy {a:AK} {Q:List V->Hp->Prop} {v:V} (h:∀ x,OA own σ x->H x≠iq) (e:Rep C.K own F1 H1 σ ρ1) (k:Chg (OA own σ) F H F1 H1) (hp:PoA C own (a::as) σ F H ((fr ρ1).bind λq=>.ok (d::q.1,q.2)) Q)
  (g:∀ b H2 vs ds,Chg (OA own σ) F1 H1 b H2->ArgV C.K H b H2 σ as vs ds->ArgV C.K H b H2 σ (a::as) (v::vs) (d::ds)):tAr C own as fr σ H1 λxs H2=>Q (v::xs) H2:=by
 refine ⟨F1,ρ1,e,?_⟩;cases q:fr ρ1 with
 | ok p=>rw [q] at hp;obtain ⟨ds,ρ2⟩:=p;exact λvs b H2 r c2 f=>hp (v::vs) b H2 r (k.trans' c2) (g b H2 vs ds c2 (ArgV.back k f))
 | exc c=>rw [q] at hp; exact λF' H' s io U=>hp F' H' s io (k.trans' U)
 | bad=>rw [q] at hp; exact hp.elim
theorem qc (g:PE X e (tE C own m fe)) (f:PA X es (tAr C own as fr)) (b:m≠.any:=by decide) (s:starEach (e::es) X.env=(iw,eval e X.env)::starEach es X.env:=by exact kq rfl):PA X (e::es) (tAr C own (.vl::as) (qd fe fr)):=by
 refine qen (qU (yy g b) f s) λσ H Q ⟨F,ρ,r,h⟩=>⟨F,ρ,r,PoA.bindV h λv F1 H1 d ρ1 a k c h1=>?_⟩
 exact Vy (λx z=>(r.OA_there z).1) a k h1 λj H2 vs ds c2 i=>⟨Is.mono c2.grow c,i⟩
theorem je {px:Pos} (e:X.N[i]?=ip x) (c:Vis X.env.scope x) (m:i∈own) (f:PA X es (tAr C own as fr)) (s:starEach (.Name x px::es) X.env=(iw,eval (.Name x px) X.env)::starEach es X.env:=by rfl)
  (hd:(x == ("__debug__":Str))=false:=by decide) (b:(x == ("__classdict__":Str))=false:=by decide):PA X (.Name x px::es) (tAr C own (.sl i::as) (kt fr)):=by
 refine qen (qU (yC e c hd b) f s) λσ H Q ⟨F,ρ,r,h⟩=>?_;obtain ⟨d,hd⟩:=r.opn i m;obtain ⟨a,h1,h2,j⟩:=r.ow i d m hd;exact ⟨_,h1,Vy (λx z=>(r.OA_there z).1) r .refl h λg H2 vs ds c2 v=>⟨h1,rfl,v⟩⟩
theorem ArgV.isL:∀ {as:List AK} {vs:List V} {ds:List D},(as.all λa=>decide (a=.vl))=iA->ArgV K H0 F H σ as vs ds->IsL K F vs ds
 | [],[],[],_,_=>.nil
 | .vl::as,v::vs,d::ds,h,a=>.cons a.1 (ArgV.isL (by simpa using h) a.2)
 | .sl i::as,_,_,h,a=>by simp at h
 | .fr::as,_,_,h,a=>by simp at h
 | [],_::_,_,_,h=>h.elim
 | [],[],_::_,_,h=>h.elim
 | .vl::_,[],_,_,h=>h.elim
 | .vl::_,_::_,[],_,h=>h.elim
noncomputable def vM (fr:Sl->Out (List D×Sl)):Sl->Out (D×Sl):=λρ=>(fr ρ).bind λp=>if p.1.length<=sizeLine then .ok (.tup p.1,p.2) else .bad
noncomputable def yz (fr:Sl->Out (List D×Sl)):Sl->Out (D×Sl):=λρ=>(fr ρ).bind λp=>if p.1.length<=sizeLine then .ok (.lst p.1,p.2) else .bad
theorem qgr (a:Rep C.K own F H σ ρ) (hp:H p=iq):Rep C.K own (upd F p u) (upd H p u) σ ρ/\Chg No F H (upd F p u) (upd H p u):=by
 have E:F p=none:=by
  cases q:F p with
  | none=>rfl
  | some o=>rw [a.sub p o q] at hp; cases hp
 have c:Chg No F H (upd F p u) (upd H p u):=⟨λb o e _=>by rw [qF (qM e hp)]; exact e,λb e=>by
  by_cases q:b=p;·rw [q,qu]; simp
  ·rw [qF q]; exact e,λb o e=>by rw [qF (qM e E)]; exact e,λb e=>by
  by_cases q:b=p;·exact .inr (.inl (by rw [q]; exact hp))
  ·rw [qF q] at e; exact .inl e⟩
 refine ⟨a.grow c λb o e=>?_,c⟩;by_cases q:b=p;·subst q; rw [qu] at e ⊢; exact e
 ·rw [qF q] at e ⊢; exact a.sub b o e
theorem Gv (a:Rep C.K own F H σ ρ) (hp:H p=iq):Rep C.K own F (upd H p u) σ ρ/\Chg No F H F (upd H p u)/\F p=none:=by
 have E:F p=none:=by
  cases q:F p with
  | none=>rfl
  | some o=>rw [a.sub p o q] at hp; cases hp
 have c:Chg No F H F (upd H p u):=⟨λb o e _=>by rw [qF (qM e hp)]; exact e,λb e=>by
  by_cases q:b=p;·rw [q,qu]; simp
  ·rw [qF q]; exact e,Same.refl _,λb e=>.inl e⟩
 exact ⟨a.grow c λb o e=>by rw [qF (qM e E)]; exact a.sub b o e,c,E⟩
theorem jX {x1} (h:PA X es (tAr C own as fr)) (g:(as.all λa=>decide (a=.vl))=true:=by decide):PE X (.Tuple es x1 pos) (tE C own .sh (vM fr)):=by
 refine jN (qf6 h) λσ H Q ⟨F,ρ,c,h⟩=>⟨F,ρ,c,Po.bindA h λvs F1 H1 ds ρ1 b k v h1=>?_⟩
 have i:=v.isL g;have h1:Po C own .sh σ F1 H1 (if ds.length<=sizeLine then .ok (.tup ds,ρ1) else .bad) Q:=h1;by_cases z:ds.length<=sizeLine;·rw [if_pos z] at h1;refine ⟨by rw [i.length]; exact z,λp hp=>?_⟩;obtain ⟨r,c2⟩:=qgr (u:=.tup vs) b hp;exact h1 _ _ _ r c2.ofNo (.tup (.inl (.inl qu)) (i.mono c2.grow))
 ·rw [if_neg z] at h1; exact h1.elim
theorem jO (h:PA X es (tAr C own as fr)) (g:(as.all λa=>decide (a=.vl))=true:=by decide):PE X (.List es pos) (tE C own .fr (yz fr)):=by
 refine jN (qf7 h) λσ H Q ⟨F,ρ,c,h⟩=>⟨F,ρ,c,Po.bindA h λvs F1 H1 ds ρ1 b k v h1=>?_⟩
 have i:=v.isL g;have h1:Po C own .fr σ F1 H1 (if ds.length<=sizeLine then .ok (.lst ds,ρ1) else .bad) Q:=h1;by_cases z:ds.length<=sizeLine;·rw [if_pos z] at h1;refine ⟨by rw [i.length]; exact z,λp hp=>?_⟩;obtain ⟨r,c2,E⟩:=Gv (u:=.lst vs) b hp;exact h1 _ _ _ r c2.ofNo ⟨p,rfl,hp,E,vs,qu,i⟩
 ·rw [if_neg z] at h1; exact h1.elim
theorem JD:PE X (.Dict [] [] pos) (tE C own .fr (dC (.dct []))):=by refine jN qbM λσ H Q ⟨F,ρ,a,h⟩ p hp=>?_;obtain ⟨r,c2,E⟩:=Gv (u:=.dK []) a hp;exact h _ _ _ r c2.ofNo ⟨p,rfl,hp,E,[],qu,.nil⟩
noncomputable def ixD:D->D->Out D
 | .lst xs,.int i=>match atI xs i with
  | some d=>.ok d
  | none=>.bad
 | .tup xs,.int i=>match atI xs i with
  | some d=>.ok d
  | none=>.bad
 | .str x,.int i=>match atI x.cps.toList i with
  | some c=>.ok (.str ⟨#[c]⟩)
  | none=>.bad
 | .dct kvs,.str x=>match (kvs.find? λkv=>decide (kv.1=bp x)) with
  | some kv=>.ok kv.2
  | none=>.bad
 | .dct kvs,.int x=>match (kvs.find? λkv=>decide (kv.1=fh x)) with
  | some kv=>.ok kv.2
  | none=>.bad
 | _,_=>.bad
theorem IsL.atI {i:Int} (h:IsL K F vs ds) (e:L2.atI ds i=ip d):∃ v,L2.atI vs i=ip v/\Is K F v d:=by
 unfold L2.atI at e ⊢;rw [h.length];cases q:ixN ds.length i with
 | none=>rw [q] at e; cases e
 | some j=>rw [q] at e;exact h.getD e
theorem IsK.find {k:Key}:∀ {vs:List (Key×V)} {ds:List (Key×D)} {d:Key×D},IsK K F vs ds->(ds.find? λkv=>decide (kv.1=k))=ip d->∃ v,WD vs k=ip v/\Is K F v d.2
 | _,_,_,.nil,e=>by simp at e
 | _,_,d,.cons (k:=k') (vs:=vs) h t,e=>by
  by_cases q:k'=k;·rw [bI (by simp [q])] at e;cases e;exact ⟨_,zZ q,h⟩
  ·rw [bA (by simp [q])] at e;obtain ⟨v,h1,h2⟩:=IsK.find t e;exact ⟨v,by rw [xc q]; exact h1,h2⟩
theorem Ys (c:Nat):(⟨#[c]⟩:Str).length<=sizeLine:=by show 1<=sizeLine;rw [iI]; decide
def qjh (K:Frag):R2:=λx y H Q=>rIx K x y H Q\/∃ a v,x=.ref a/\DGet H a y (ip v)/\Q v H
theorem qdl (f:X.A.units+1 < cLine):IxR X (qjh X.K):=by
 refine IxR.or qgb ?_;intro value e pins s σ H x y v u Q I d c h b;obtain ⟨a,w,rfl,g,q⟩:=h;cases d;obtain ⟨T,l⟩:∃ T,s.TypeIs (.ref a) T/\T = "dict":=⟨_,WN I g,rfl⟩
 obtain ⟨l,rfl⟩:=l;exact tail_any l PySem.slot_dict_getitem.lookup (Gg f I g c λj s' i r=>⟨w,H,i,r,q⟩) b
end
variable {T:String}
section
variable {a b:Expr} {fb:Sl->Out (D×Sl)}
theorem qdm {σ:St} {x y:V} {dx b:D} {Q:VK} (n:C.K=X.K) (A:Same F H) (tx:TopIs C.K F H x dx) (ty:TopIs C.K F H y b) (po:PoV C .sh F H (ixD dx b) Q):qjh X.K x y H Q:=by
 rw [n] at tx ty;cases dx with
 | lst xs=>
  cases b <;> try exact po.elim
  rename_i i;obtain rfl:=ty.int;obtain ⟨a,vs,rfl,p,t⟩:=tx.lst A;unfold ixD at po;cases e:L2.atI xs i with
  | none=>simp only [e] at po; exact po.elim
  | some d=>simp only [e] at po;obtain ⟨v,h1,h2⟩:=t.atI e;exact .inl (.inl ⟨a,vs,i,v,rfl,rfl,p,h1,po v F H A .refl (by rw [n]; exact h2)⟩)
 | tup xs=>
  cases b <;> try exact po.elim
  rename_i i;obtain rfl:=ty.int;obtain ⟨a,vs,rfl,p,t⟩:=tx.tup A;unfold ixD at po;cases e:L2.atI xs i with
  | none=>simp only [e] at po; exact po.elim
  | some d=>simp only [e] at po;obtain ⟨v,h1,h2⟩:=t.atI e;exact .inl (.inr (.inl ⟨a,vs,i,v,rfl,rfl,p,h1,po v F H A .refl (by rw [n]; exact h2)⟩))
 | str z=>
  cases b <;> try exact po.elim
  rename_i i;obtain rfl:=ty.int;obtain ⟨rfl,h⟩:=tx.str;unfold ixD at po;cases e:L2.atI z.cps.toList i with
  | none=>simp only [e] at po; exact po.elim
  | some c=>simp only [e] at po;exact .inl (.inr (.inr ⟨z,i,c,rfl,rfl,h,e,po _ F H A .refl (.str (Ys c))⟩))
 | dct kvs=>
  obtain ⟨a,kv,rfl,p,t⟩:=tx.dct A;cases b with
  | int i=>
   obtain rfl:=ty.int;unfold ixD at po;cases e:(kvs.find? λkv=>decide (kv.1=fh i)) with
   | none=>simp only [e] at po; exact po.elim
   | some d=>simp only [e] at po;obtain ⟨v,h1,h2⟩:=t.find e;exact .inr ⟨a,v,rfl,by rw [<-h1]; exact DGet.k (k:=fh i) p,po v F H A .refl (by rw [n]; exact h2)⟩
  | str z=>
   obtain ⟨rfl,_⟩:=ty.str;unfold ixD at po;cases e:(kvs.find? λkv=>decide (kv.1=bp z)) with
   | none=>simp only [e] at po; exact po.elim
   | some d=>simp only [e] at po;obtain ⟨v,h1,h2⟩:=t.find e;exact .inr ⟨a,v,rfl,by rw [<-h1]; exact DGet.k (k:=bp z) p,po v F H A .refl (by rw [n]; exact h2)⟩
  | _=>exact po.elim
 | _=>exact po.elim
theorem ji (u:C.K=X.K) (D:X.A.units+64 < cLine) (t:PE X a (tE C own ma fa)) (o:PE X b (tE C own mb fb)) (n:WJ b) (j:ma≠.any:=by decide):PE X (.Subscript a b pos) (tE C own .sh (d2 ixD fa fb)):=by
 refine jN (qf9 (qdl (by omega)) t o n) λσ H Q h=>?_;obtain ⟨F,ρ,l,h⟩:=Vp (mb:=mb) j h;refine ⟨F,ρ,l,?_⟩;cases q:fa ρ with
 | ok p=>
  rw [q] at h;obtain ⟨d,ρ1⟩:=p;intro v F1 H1 f x i;obtain ⟨B,ρ2,e,h2⟩:=h v F1 H1 f x i;refine ⟨B,ρ2,e,?_⟩;cases g:fb ρ2 with
  | ok p=>rw [g] at h2;obtain ⟨d',k⟩:=p;intro w z y r J m;obtain ⟨M,dx,E,s,tx,ty,po⟩:=h2 w z y r J m;exact qdm (σ:=σ) u s tx ty po
  | exc c=>rw [g] at h2; exact h2
  | bad=>rw [g] at h2; exact h2.elim
 | exc c=>rw [q] at h; exact h
 | bad=>rw [q] at h; exact h.elim
def QI (X:Cx) (C:Ct) (m:Mo) (f:iu) (g:D->Out D):Prop:=uz X f (λxs H Q=>∃ x F dx,xs=[x]/\Same F H/\TopIs C.K F H x dx/\PoV C m F H (g dx) Q)
theorem xU {Q:VK} {g:D->Out D} (h:tE C own m (d1 g fa) σ H Q):XU (tE C own ma fa) qhK σ H λxs H1=>∃ x F dx,xs=[x]/\Same F H1/\TopIs C.K F H1 x dx/\PoV C m F H1 (g dx) Q:=by
 obtain ⟨F,ρ,r,h⟩:=WO (ma:=ma) h;refine ⟨F,ρ,r,?_⟩;cases q:fa ρ with
 | ok p=>rw [q] at h;obtain ⟨d,ρ1⟩:=p;intro v F1 H1 a k b;obtain ⟨e,dx,A,tx,po⟩:=h v F1 H1 a k b;exact ⟨v,e,dx,rfl,A,tx,po⟩
 | exc c=>rw [q] at h; exact h
 | bad=>rw [q] at h; exact h.elim
theorem qH {id:String} {p:Pos} {g:D->Out D} (d:QI X C m (.builtin id) g) (hg:Gl X x) (a:X.mg x=iq) (c:bootBuiltins x=ip (.builtin id)) (f:PE X e (tE C own ma fa)) (n:x ≠ "__name__":=by decide) (b:(x == ("__debug__":Str))=false:=by decide)
  (i:starEach [e] X.env=[(iw,eval e X.env)]:=by exact qS rfl):PE X (.Call (.Name x p) [e] [] pos) (tE C own m (d1 g fa)):=
 jN (wM d hg a c (qU f jH i) n b (by rw [i]; rfl) rfl) λ_ _ _ h=>xU h
theorem jx {p:Pos} {g:D->Out D} (d:QI X C m (.type T) g) (hg:Gl X x) (a:X.mg x=iq) (c:bootBuiltins x=ip (.type T)) (f:PE X e (tE C own ma fa)) (n:x ≠ "__name__":=by decide) (b:(x == ("__debug__":Str))=false:=by decide)
  (i:starEach [e] X.env=[(iw,eval e X.env)]:=by exact qS rfl):PE X (.Call (.Name x p) [e] [] pos) (tE C own m (d1 g fa)):=
 jN (uA d hg a c (qU f jH i) n b (by rw [i]; rfl) rfl) λ_ _ _ h=>xU h
noncomputable def jD:D->Out D
 | .str x=>.ok (.int x.length)
 | .lst xs=>.ok (.int xs.length)
 | .tup xs=>.ok (.int xs.length)
 | .dct xs=>.ok (.int xs.length)
 | _=>.bad
theorem IsK.length:∀ {vs:List (Key×V)} {ds:List (Key×D)},IsK K F vs ds->vs.length=ds.length
 | _,_,.nil=>rfl
 | _,_,.cons _ t=>congrArg (·+1) (IsK.length t)
theorem jv (n:C.K=X.K):QI X C .sh (.builtin "len") jD:=by
 intro pins s σ H xs us Q I r h;obtain ⟨x,F,dx,rfl,A,tx,po⟩:=h;cases dx with
 | str z=>obtain ⟨rfl,b⟩:=tx.str;exact Jz pins s σ H _ us Q I r ⟨_,_,rfl,⟨b,rfl⟩,po _ F H A .refl (.int _)⟩
 | lst ds=>obtain ⟨a,vs,rfl,p,t⟩:=tx.lst A;exact Jz pins s σ H _ us Q I r ⟨_,ds.length,rfl,.inl ⟨vs,by rw [<-n]; exact p,t.length.symm⟩,po _ F H A .refl (.int _)⟩
 | tup ds=>obtain ⟨a,vs,rfl,p,t⟩:=tx.tup A;exact Jz pins s σ H _ us Q I r ⟨_,ds.length,rfl,.inr ⟨vs,by rw [<-n]; exact p,t.length.symm⟩,po _ F H A .refl (.int _)⟩
 | dct ds=>obtain ⟨a,vs,rfl,p,t⟩:=tx.dct A;refine Gj pins s σ H _ us Q I r ⟨a,vs,rfl,p,?_⟩;rw [t.length];exact po _ F H A .refl (.int _)
 | _=>exact po.elim
noncomputable def kb:D->D->Out D
 | .int i,.int j=>.ok (.int (i+j))
 | .str x,.str y=>if x.length+y.length<=sizeLine then .ok (.str (x++y)) else .bad
 | .lst xs,.lst ys=>if xs.length+ys.length<=sizeLine then .ok (.lst (xs++ys)) else .bad
 | .tup xs,.tup ys=>if xs.length+ys.length<=sizeLine then .ok (.tup (xs++ys)) else .bad
 | _,_=>.bad
theorem uD (A:Same F H) (hp:H p=iq):Same (upd F p u) (upd H p u)/\Chg No F H (upd F p u) (upd H p u):=by
 have E:F p=none:=by
  cases q:F p with
  | none=>rfl
  | some o=>rw [A p o q] at hp; cases hp
 refine ⟨λb o e=>?_,⟨λb o e _=>by rw [qF (qM e hp)]; exact e,λb e=>?_,λb o e=>by rw [qF (qM e E)]; exact e,λb e=>?_⟩⟩
 ·by_cases q:b=p;·subst q; rw [qu] at e ⊢; exact e
  ·rw [qF q] at e ⊢; exact A b o e
 ·by_cases q:b=p;·rw [q,qu]; simp
  ·rw [qF q]; exact e
 ·by_cases q:b=p;·exact .inr (.inl (by rw [q]; exact hp))
  ·rw [qF q] at e; exact .inl e
theorem wl (A:Same F H) (hp:H p=iq):Same F (upd H p u)/\Chg No F H F (upd H p u)/\F p=none:=by
 have E:F p=none:=by
  cases q:F p with
  | none=>rfl
  | some o=>rw [A p o q] at hp; cases hp
 refine ⟨λb o e=>by rw [qF (qM e E)]; exact A b o e,⟨λb o e _=>by rw [qF (qM e hp)]; exact e,λb e=>?_,Same.refl _,λb e=>.inl e⟩,E⟩;by_cases q:b=p;·rw [q,qu]; simp
 ·rw [qF q]; exact e
theorem WS (x y:Str):(x++y).length=x.length+y.length:=by show (x.cps++y.cps).size=_;simp [h7]
theorem qeo:OpR X (binaryOp .Add) (λx y H Q=>∃ l b xs zs,x=.ref l/\y=.ref b/\SqL X.K H l xs/\SqL X.K H b zs/\xs.length+zs.length<=sizeLine/\∀ p,H p=iq->Q (.ref p) (upd H p (.lst (xs++zs)))):=by
 intro pins s σ H x y v u Q I k r h;obtain ⟨l,b,xs,zs,rfl,rfl,h1,h2,z,q⟩:=h;cases k;cases r;obtain ⟨its,r1,p1,_⟩:=I.list h1;obtain ⟨i,r2,p2,_⟩:=I.list h2;obtain ⟨⟨cls,dd,data,sl⟩,m,f,n,hd⟩:=id p1.isList;obtain ⟨⟨j,e,g,d⟩,a,c,n2,hd2⟩:=id p2.isList;simp only at f hd c hd2;subst f hd c hd2;have t:=r1.length;have o:=r2.length;refine lh ⟨_,m,rfl⟩ ⟨_,a,rfl⟩ noFill_list_add seq_list_add PySem.F.slot_list_add PySem.F.entry_list_add (PySem.F.args_list_add_2 _ _)
  (list_addW l b its.toArray i.toArray n n2 dd e sl d (by simp only [ax]; omega)) ⟨m,a,?_⟩
 have w:its.toArray++i.toArray=(its++i).toArray:=by simp
 rw [w];exact ⟨.ref _,_,I.lnew (t':=s.toks) (r1.append r2) (by rw [ah]; exact z),rfl,q _ I.fresh⟩
theorem qep:OpR X (binaryOp .Add) (λx y H Q=>∃ a b ys,x=.ref a/\y=.ref b/\SqT X.K H a []/\SqT X.K H b ys/\Q (.ref b) H):=by
 intro pins s σ H x y v u Q I l r h;obtain ⟨a,b,ys,rfl,rfl,h1,h2,q⟩:=h;cases l;cases r;obtain ⟨its,r1,p1,_⟩:=I.tuple h1;obtain ⟨i,r2,p2,_⟩:=I.tuple h2;cases r1;obtain ⟨⟨cls,dd,data,sl⟩,m,j,n,hd⟩:=id p1;obtain ⟨⟨k,f,g,e⟩,c,d,n2,hd2⟩:=id p2;simp only at j hd d hd2;subst j hd d hd2;exact lh ⟨_,m,rfl⟩ ⟨_,c,rfl⟩ noFill_tuple_add seq_tuple_add eI d4 (dQ _ _)
  (tuple_addW0 a b _ _ n n2 dd f sl e rfl) ⟨m,c,⟨.ref b,H,I,rfl,q⟩⟩
theorem jI (n:C.K=X.K):OpD X C .sh (binaryOp .Add) kb:=by
 intro pins s σ H x y v u Q I d r h;obtain ⟨F,dx,f,A,tx,ty,po⟩:=h;cases dx with
 | int i=>
  cases f <;> try exact po.elim
  obtain rfl:=tx.int;obtain rfl:=ty.int;exact qfZ pins s σ H _ _ v u Q I d r ⟨_,_,rfl,rfl,po _ F H A .refl (.int _)⟩
 | str a=>
  cases f <;> try exact po.elim
  rename_i b;obtain ⟨rfl,_⟩:=tx.str;obtain ⟨rfl,_⟩:=ty.str;have po:PoV C .sh F H (if a.length+b.length<=sizeLine then .ok (.str (a++b)) else .bad) Q:=po;by_cases z:a.length+b.length<=sizeLine;·rw [if_pos z] at po;exact XT pins s σ H _ _ v u Q I d r ⟨_,_,rfl,rfl,z,po _ F H A .refl (.str (by rw [WS]; exact z))⟩
  ·rw [if_neg z] at po; exact po.elim
 | lst xs=>
  cases f <;> try exact po.elim
  rename_i ys;obtain ⟨a,vs,rfl,p1,c⟩:=tx.lst A;obtain ⟨b,ws,rfl,p2,t⟩:=ty.lst A;have po:PoV C .sh F H (if xs.length+ys.length<=sizeLine then .ok (.lst (xs++ys)) else .bad) Q:=po;by_cases z:xs.length+ys.length<=sizeLine;·rw [if_pos z] at po;refine qeo pins s σ H _ _ v u Q I d r ⟨a,b,vs,ws,rfl,rfl,by rw [<-n]; exact p1,by rw [<-n]; exact p2,by rw [c.length,t.length]; exact z,λp hp=>?_⟩;obtain ⟨s2,c2⟩:=uD (u:=.lst (vs++ws)) A hp;exact po _ _ _ s2 c2 (.lst (.inl (.inl qu)) ((c.append t).mono c2.grow))
  ·rw [if_neg z] at po; exact po.elim
 | tup xs=>
  cases f <;> try exact po.elim
  rename_i ys;obtain ⟨a,vs,rfl,p1,c⟩:=tx.tup A;obtain ⟨b,ws,rfl,p2,t⟩:=ty.tup A;have po:PoV C .sh F H (if xs.length+ys.length<=sizeLine then .ok (.tup (xs++ys)) else .bad) Q:=po;by_cases z:xs.length+ys.length<=sizeLine
  ·rw [if_pos z] at po;cases vs with
   | nil=>
    cases c;rcases ty with ty | ⟨_,_,ty⟩
    ·exact qep pins s σ H _ _ v u Q I d r ⟨a,b,ws,rfl,rfl,by rw [<-n]; exact p1,by rw [<-n]; exact p2,po _ F H A .refl ty⟩
    ·exact ty.elim
   | cons g vs=>
    refine qec pins s σ H _ _ v u Q I d r ⟨a,b,g::vs,ws,rfl,rfl,by rw [<-n]; exact p1,by rw [<-n]; exact p2,by simp,by rw [c.length,t.length]; exact z,λe=>?_,λe p hp=>?_⟩
    ·subst e;cases t;rcases tx with tx | ⟨_,_,tx⟩
     ·refine po _ F H A .refl ?_;rw [bi];exact tx
     ·exact tx.elim
    ·obtain ⟨s2,c2⟩:=uD (u:=.tup (g::vs++ws)) A hp;exact po _ _ _ s2 c2 (.tup (.inl (.inl qu)) ((c.append t).mono c2.grow))
  ·rw [if_neg z] at po; exact po.elim
 | _=>exact po.elim
end
inductive PM where
 | val | io | tk
 deriving DecidableEq
noncomputable def zR:List PM->List V->List Addr
 | .val::ms,_::vs=>zR ms vs
 | .io::ms,.ref a::vs=>a::zR ms vs
 | .tk::ms,.ref a::vs=>a::zR ms vs
 | _::ms,_::vs=>zR ms vs
 | _,_=>[]
def ArgsIs (K:Frag) (F H:Hp):List PM->List V->List D->Prop
 | [],[],[]=>True
 | .val::ms,v::vs,d::ds=>Is K F v d/\ArgsIs K F H ms vs ds
 | .io::ms,v::vs,d::ds=>(∃ a,v=.ref a/\F a=iq/\OwnIs K F H a d)/\ArgsIs K F H ms vs ds
 | .tk::ms,v::vs,d::ds=>(∃ a,v=.ref a/\F a=iq/\OwnIs K F H a d)/\ArgsIs K F H ms vs ds
 | _,_,_=>False
def xh (K:Frag) (F H:Hp):List PM->List V->List D->Prop
 | [],_,_=>True
 | .io::ms,v::vs,d::ds=>(∃ a,v=.ref a/\F a=iq/\OwnIs K F H a d)/\xh K F H ms vs ds
 | _::ms,_::vs,_::ds=>xh K F H ms vs ds
 | _,_,_=>False
abbrev LA (ms:List PM) (vs:List V):Addr->Prop:=λb=>b∈zR ms vs
def PoG (K:Frag) (cv:Str->iu) (ms:List PM) (mr:Mo) (vs:List V) (F H:Hp) (Q:VK) (E:XK) (o:Out (D×List D)):Prop:=match o with
 | .ok (d,outs)=>∀ v F' H',Same F' H'->Chg (LA ms vs) F H F' H'->xh K F' H' ms vs outs->MoIs K mr H F' H' v d->Q v H'
 | .exc c o=>∀ F' H',Same F' H'->Chg (LA ms vs) F H F' H'->xh K F' H' ms vs (o.map (·.getD .non))->E (cv c) iq H'
 | .bad=>False
def spD (K:Frag) (cv:Str->iu) (ms:List PM) (mr:Mo) (G:List D->Out (D×List D)):Sp:=λvs H Q E=>∃ F ds,Same F H/\ArgsIs K F H ms vs ds/\(zR ms vs).Nodup/\PoG K cv ms mr vs F H Q E (G ds)
theorem ArgsIs.length:∀ {ms:List PM} {vs:List V} {ds:List D},ArgsIs K F H ms vs ds->vs.length=ms.length/\ds.length=ms.length
 | [],[],[],_=>⟨rfl,rfl⟩
 | .val::ms,v::vs,d::ds,h=>by have:=ArgsIs.length h.2; simp [this]
 | .io::ms,v::vs,d::ds,h=>by have:=ArgsIs.length h.2; simp [this]
 | .tk::ms,v::vs,d::ds,h=>by have:=ArgsIs.length h.2; simp [this]
 | [],_::_,_,h=>h.elim
 | [],[],_::_,h=>h.elim
 | .val::_,[],_,h=>h.elim
 | .val::_,_::_,[],h=>h.elim
 | .io::_,[],_,h=>h.elim
 | .io::_,_::_,[],h=>h.elim
 | .tk::_,[],_,h=>h.elim
 | .tk::_,_::_,[],h=>h.elim
noncomputable def ku (n:Nat):List PM->List Nat
 | []=>[]
 | .val::ms=>ku (n+1) ms
 | _::ms=>n::ku (n+1) ms
noncomputable def WT (n:Nat):List PM->List Nat
 | []=>[]
 | .io::ms=>n::WT (n+1) ms
 | _::ms=>WT (n+1) ms
variable {n:Nat}
theorem xi:∀ {ms:List PM} {i:Nat},i∈ku n ms->n<=i/\i < n+ms.length:=by
 intro ms
 induction ms generalizing n with
 | nil=>intro i h; simp [ku] at h
 | cons m ms j=>
  intro i h;cases m with
  | val=>have:=j (n:=n+1) h; simp only [ap]; omega
  | io=>
   rcases ac.mp h with e | h;·simp only [ap]; omega
   ·have:=j (n:=n+1) h; simp only [ap]; omega
  | tk=>
   rcases ac.mp h with e | h;·simp only [ap]; omega
   ·have:=j (n:=n+1) h; simp only [ap]; omega
theorem qbV:∀ {ms:List PM} {i:Nat},i∈WT n ms->i∈ku n ms:=by
 intro ms
 induction ms generalizing n with
 | nil=>intro i h; simp [WT] at h
 | cons m ms j=>
  intro i h;cases m with
  | val=>exact j (n:=n+1) h
  | io=>
   rcases ac.mp h with e | h;·exact ac.mpr (.inl e)
   ·exact aa _ (j (n:=n+1) h)
  | tk=>exact aa _ (j (n:=n+1) h)
theorem XZ:∀ {ms:List PM} {vs:List V} {ds:List D} {n:Nat},ArgsIs K F H ms vs ds ->(∀ j d,ds[j]?=ip d->n+j∉ku n ms->∃ v,vs[j]?=ip v/\Is K F v d) /\
  (∀ j d,ds[j]?=ip d->n+j∈ku n ms->∃ a,vs[j]?=ip (.ref a)/\F a=iq/\OwnIs K F H a d):=by
 intro ms
 induction ms with
 | nil=>intro vs ds n h; cases vs <;> cases ds <;> first | exact h.elim | (refine ⟨λj d e=>?_,λj d e=>?_⟩ <;> simp at e)
 | cons m ms i=>
  intro vs ds n h;cases vs with
  | nil=>cases m <;> exact h.elim
  | cons v vs=>
   cases ds with
   | nil=>cases m <;> exact h.elim
   | cons d ds=>
    cases m with
    | val=>
     obtain ⟨h1,h2⟩:=h;obtain ⟨i1,i2⟩:=i (n:=n+1) h2;refine ⟨λj e G b=>?_,λj e G b=>?_⟩
     ·cases j with
      | zero=>simp at G; subst G; exact ⟨v,rfl,h1⟩
      | succ j=>simpa using i1 j e (by simpa using G) (by rw [show n+1+j=n+(j+1) by omega]; exact b)
     ·cases j with
      | zero=>have:=xi (n:=n+1) b; omega
      | succ j=>simpa using i2 j e (by simpa using G) (by rw [show n+1+j=n+(j+1) by omega]; exact b)
    | io=>
     obtain ⟨⟨a,rfl,h1⟩,h2⟩:=h;obtain ⟨i1,i2⟩:=i (n:=n+1) h2;refine ⟨λj e G b=>?_,λj e G b=>?_⟩
     ·cases j with
      | zero=>exact absurd (ac.mpr (.inl rfl)) b
      | succ j=>simpa using i1 j e (by simpa using G) (λz=>b (aa _ (by rw [show n+(j+1)=n+1+j by omega]; exact z)))
     ·cases j with
      | zero=>simp at G; subst G; exact ⟨a,rfl,h1⟩
      | succ j=>
       have c:n+1+j∈ku (n+1) ms:=by
        rcases ac.mp b with z | z;·omega
        ·rw [show n+1+j=n+(j+1) by omega]; exact z
       simpa using i2 j e (by simpa using G) c
    | tk=>
     obtain ⟨⟨a,rfl,h1⟩,h2⟩:=h;obtain ⟨i1,i2⟩:=i (n:=n+1) h2;refine ⟨λj e G b=>?_,λj e G b=>?_⟩
     ·cases j with
      | zero=>exact absurd (ac.mpr (.inl rfl)) b
      | succ j=>simpa using i1 j e (by simpa using G) (λz=>b (aa _ (by rw [show n+(j+1)=n+1+j by omega]; exact z)))
     ·cases j with
      | zero=>simp at G; subst G; exact ⟨a,rfl,h1⟩
      | succ j=>
       have c:n+1+j∈ku (n+1) ms:=by
        rcases ac.mp b with z | z;·omega
        ·rw [show n+1+j=n+(j+1) by omega]; exact z
       simpa using i2 j e (by simpa using G) c
theorem Gw:∀ {ms:List PM} {vs:List V} {j:Nat} {a:Addr},n+j∈ku n ms->vs[j]?=ip (.ref a)->a∈zR ms vs:=by
 intro ms
 induction ms generalizing n with
 | nil=>intro vs j a h; simp [ku] at h
 | cons m ms i=>
  intro vs j a h e;cases vs with
  | nil=>simp at e
  | cons v vs=>
   cases j with
   | zero=>
    simp at e; subst e;cases m with
    | val=>have:=xi (n:=n+1) h; omega
    | io=>exact ac.mpr (.inl rfl)
    | tk=>exact ac.mpr (.inl rfl)
   | succ j=>
    have b:vs[j]?=ip (.ref a):=by simpa using e
    have sub:n+1+j∈ku (n+1) ms:=by
     rw [show n+1+j=n+(j+1) by omega];cases m with
     | val=>exact h
     | io=>exact (ac.mp h).resolve_left (by omega)
     | tk=>exact (ac.mp h).resolve_left (by omega)
    have q:=i (n:=n+1) sub b;cases m <;> cases v <;> first | exact q | exact aa _ q
theorem Gx:∀ {ms:List PM} {vs:List V} {a:Addr},a∈zR ms vs->∃ j,n+j∈ku n ms/\vs[j]?=ip (.ref a):=by
 intro ms
 induction ms generalizing n with
 | nil=>intro vs a h; cases vs <;> simp [zR] at h
 | cons m ms i=>
  intro vs a h;cases vs with
  | nil=>cases m <;> simp [zR] at h
  | cons v vs=>
   have up:∀ {b},b∈zR ms vs->∃ j,n+j∈ku n (m::ms)/\(v::vs)[j]?=ip (.ref b):=λd=>by
    obtain ⟨j,h1,h2⟩:=i (n:=n+1) d;refine ⟨j+1,?_,by simpa using h2⟩;rw [show n+(j+1)=n+1+j by omega];cases m with
    | val=>exact h1
    | io=>exact aa _ h1
    | tk=>exact aa _ h1
   cases m with
   | val=>exact up (by cases v <;> exact h)
   | io=>
    cases v with
    | ref c=>
     rcases ac.mp h with e | h;·subst e; exact ⟨0,ac.mpr (.inl rfl),rfl⟩
     ·exact up h
    | _=>exact up h
   | tk=>
    cases v with
    | ref c=>
     rcases ac.mp h with e | h;·subst e; exact ⟨0,ac.mpr (.inl rfl),rfl⟩
     ·exact up h
    | _=>exact up h
theorem qbW:∀ {ms:List PM} {vs:List V} {i j:Nat} {a:Addr},(zR ms vs).Nodup->n+i∈ku n ms->n+j∈ku n ms->vs[i]?=ip (.ref a)->vs[j]?=ip (.ref a)->i=j:=by
 intro ms
 induction ms generalizing n with
 | nil=>intro vs i j a _ h; simp [ku] at h
 | cons m ms f=>
  intro vs i j a nd hi G e1 e;cases vs with
  | nil=>simp at e1
  | cons v vs=>
   have sub:∀ {k},n+(k+1)∈ku n (m::ms)->n+1+k∈ku (n+1) ms:=λ{k} h=>by
    rw [show n+1+k=n+(k+1) by omega];cases m with
    | val=>exact h
    | io=>exact (ac.mp h).resolve_left (by omega)
    | tk=>exact (ac.mp h).resolve_left (by omega)
   have d:(zR ms vs).Nodup:=by cases m <;> cases v <;> first | exact nd | exact (aL.mp nd).2
   have c:∀ {k b},n+0∈ku n (m::ms)->v=.ref b->n+(k+1)∈ku n (m::ms)->vs[k]?=ip (.ref b)->False:=λ{k b} o g l p=>by
    subst g;have q:=Gw (n:=n+1) (sub l) p;cases m with
    | val=>have:=xi (n:=n+1) o; omega
    | io=>exact (aL.mp nd).1 q
    | tk=>exact (aL.mp nd).1 q
   cases i with
   | zero=>
    cases j with
    | zero=>rfl
    | succ j=>exact (c hi (by simpa using e1) G (by simpa using e)).elim
   | succ i=>
    cases j with
    | zero=>exact (c G (by simpa using e) hi (by simpa using e1)).elim
    | succ j=>exact congrArg (·+1) (f (n:=n+1) d (sub hi) (sub G) (by simpa using e1) (by simpa using e))
noncomputable def qw (N:List Str) (ds:List D):Sl:=ds.map ip++aX (N.length - ds.length) iq
variable {α:Type} {N:List Str}
theorem get_start {xs:List α} {x:α}:(xs.map ip++aX (N.length - xs.length) iq)[i]?=ip (ip x)↔xs[i]?=ip x:=by
 by_cases h:i < xs.length
 ·rw [cy (by simpa using h),aG];cases e:xs[i]? with
  | none=>simp
  | some y=>simp
 ·rw [bF (by simpa using h),bt];have e:xs[i]?=none:=bJ.mpr (by omega);rw [e];split <;> simp
variable {ms:List PM}
theorem Gy (A:Same F H) (r:ArgsIs K F H ms vs ds) (nd:(zR ms vs).Nodup):Rep K (ku 0 ms) F H (wj N vs) (qw N ds):=by
 obtain ⟨h1,h2⟩:=XZ (n:=0) r;obtain ⟨c,l⟩:=r.length;refine ⟨A,by simp [wj,qw,c,l],λi d hi e=>?_,λi d hi e=>?_,λi hi=>?_,λi j a hi G e1 f=>?_⟩;·obtain ⟨v,a,b⟩:=h1 i d (get_start.mp e) (by simpa using hi);exact ⟨v,get_start.mpr a,b⟩
 ·obtain ⟨v,a,b⟩:=h2 i d (get_start.mp e) (by simpa using hi);exact ⟨v,get_start.mpr a,b⟩
 ·have q:=xi hi;have hl:i < ds.length:=by omega
  exact ⟨ds[i],get_start.mpr (by simp [hl])⟩
 ·exact qbW (n:=0) nd (by simpa using hi) (by simpa using G) (get_start.mp e1) (get_start.mp f)
theorem oa_start:OA (ku 0 ms) (wj N vs) b↔LA ms vs b:=by
 constructor;·rintro ⟨i,hi,e⟩;exact Gw (n:=0) (by simpa using hi) (get_start.mp e)
 ·intro h;obtain ⟨j,h1,h2⟩:=Gx (n:=0) h;exact ⟨j,by simpa using h1,get_start.mpr h2⟩
noncomputable def qx (ρ:Sl):Nat->List PM->List D
 | _,[]=>[]
 | n,.io::ms=>((ρ[n]?).getD iq).getD .non::qx ρ (n+1) ms
 | n,_::ms=>.non::qx ρ (n+1) ms
theorem qeq {σ:St} {N:List Str}:∀ {ms:List PM} {vs:List V} {n:Nat},vs.length=ms.length->(∀ i∈WT n ms,∃ d a,ρ[i]?=ip (ip d)/\vs[i - n]?=ip (V.ref a)/\F a=iq/\OwnIs K F H a d)->xh K F H ms vs (qx ρ n ms):=by
 intro ms
 induction ms with
 | nil=>intro vs n _ _; trivial
 | cons m ms j=>
  intro vs n hl h;cases vs with
  | nil=>simp at hl
  | cons v vs=>
   have rest:(∀ i∈WT (n+1) ms,i∈WT n (m::ms))->xh K F H ms vs (qx ρ (n+1) ms):=λc=>by refine j (by simpa using hl) λi hi=>?_;obtain ⟨d,a,e1,e,E⟩:=h i (c i hi);have q:=xi (qbV hi);refine ⟨d,a,e1,?_,E⟩;rw [show i - n=(i - (n+1))+1 by omega] at e;simpa using e
   cases m with
   | val=>exact rest λi hi=>hi
   | io=>obtain ⟨d,a,e1,e,E⟩:=h n (ac.mpr (.inl rfl));refine ⟨⟨a,by simpa using e,E.1,?_⟩,rest λi hi=>aa _ hi⟩;rw [e1];exact E.2
   | tk=>exact rest λi hi=>hi
noncomputable def Fl.val:Fl->Option D
 | .nx=>ip .non
 | .rt d=>ip d
 | _=>iq
noncomputable def ki (N:List Str) (ms:List PM) (f:Sl->Out (Fl×Sl)) (ds:List D):Out (D×List D):=match f (qw N ds) with
 | .ok (.nx,ρ)=>.ok (.non,qx ρ 0 ms)
 | .ok (.rt d,ρ)=>.ok (d,qx ρ 0 ms)
 | .ok _=>.bad
 | .exc c ρ=>.exc c ((qx ρ 0 ms).map ip)
 | .bad=>.bad
theorem Yt:∀ (l:List D),(l.map ip).map (λx:Option D=>x.getD .non)=l
 | []=>rfl
 | a::l=>congrArg (a::·) (Yt l)
def Out.le {α:Type} (a b:Out α):Prop:=a=.bad\/a=b
theorem Gz {f:Sl->Out (Fl×Sl)} {Q:VK} {o:Out (D×List D)} (j:C.io=WT 0 ms) (l:C.ox=C.io) (r:C.mr=.sh\/∀ ρ,(f (qw N ds))≠.ok (.nx,ρ)) (g:∀ i∈WT 0 ms,i∈own') (A:Same F H) (t:ArgsIs C.K F H ms vs ds) (nd:(zR ms vs).Nodup)
  (G:Out.le o (ki N ms f ds)) (h:PoG C.K C.cv ms C.mr vs F H Q C.E o):tSt C (ku 0 ms) own' f { nx:=λ_ H'=>Q .non H',rt:=Q } (wj N vs) H:=by
 refine ⟨F,qw N ds,Gy A t nd,?_⟩;have hl:=t.length.1;have ch:∀ {F' H'},Chg (OA (ku 0 ms) (wj N vs)) F H F' H'->Chg (LA ms vs) F H F' H':=λc=>c.mono λx z=>oa_start.mp z;have b:∀ {σ':St} {ρ':Sl} {F' H':Hp},ZI C.K C.io F' H' σ' ρ'->(∀ i∈C.io,σ'[i]?=(wj N vs)[i]?)->xh C.K F' H' ms vs (qx ρ' 0 ms):=λ{σ' ρ' F' H'} io e=>by
  refine qeq (N:=N) (σ:=σ') hl λi hi=>?_;have k:i∈C.io:=by rw [j]; exact hi
  obtain ⟨d,a,e1,m,y⟩:=io i k;refine ⟨d,a,e1,?_,y⟩;rw [e i k] at m;exact get_start.mp m
 rcases G with e | e;·subst e; exact h.elim
 ·subst e;unfold ki at h;cases q:f (qw N ds) with
  | ok p=>
   rw [q] at h;obtain ⟨w,ρ'⟩:=p;cases w with
   | nx=>have u:C.mr=.sh:=r.resolve_right λz=>z ρ' q;exact λσ' F' H' n=>h .non F' H' n.rep.sub (ch n.chg) (b (n.rep.ioIs (by rw [j]; exact g)) n.io) (by rw [u]; exact .non)
   | rt d=>exact λv σ' F' H' s io c e mo=>h v F' H' s (ch c) (b io e) mo
   | bk=>exact h.elim
   | ct=>exact h.elim
  | exc c ρ'=>rw [q] at h;exact λF' H' s io U=>h F' H' s (ch U) (by rw [Yt]; exact b (σ':=wj N vs) (by rw [<-l]; exact io) λ_ _=>rfl)
  | bad=>rw [q] at h; exact h.elim
def qfB (K:Frag) (cv:Str->iu) (E:XK) (ms:List PM) (mr:Mo):Ct:=⟨K,cv,E,WT 0 ms,mr,[],WT 0 ms,λ_ h=>h⟩
theorem qji {P:iE} {w:iF} {K:Frag} {mg:Str->Option iu} {base:Heap} {CX:CXT} {x qual:Str} {st:Stmt} {f:Addr} {fd:iZ} {N ps:List Str} {k:Nat} {cv:Str->iu} {ms:List PM} {mr:Mo} {own':List Nat} {fb:Sl->Out (Fl×Sl)} {G:List D->Out (D×List D)}
  (F:Fun K x qual st f fd) (S:FnScope N ps (qf st)) (hl:ms.length=ps.length) (g:∀ i∈WT 0 ms,i∈own') (r:mr=.sh\/∀ ds ρ,(fb (qw N ds))≠.ok (.nx,ρ))
  (a:∀ (cdv:iu) (A:iH) (outer:List Env) (s:iB) (H:Hp) (E:XK),Room k (A.deeper (envOfC qual (qf st) s.heap.objs.size f cdv)) ->PSs (qd8 CX P w K mg base N qual (qf st) f cdv A outer s H E) (vb st) (tSt (qfB K cv E ms mr) (ku 0 ms) own' fb))
  (j:∀ ds,Out.le (G ds) (ki N ms fb ds)):FnOk P w K mg base CX (k+1) f fd ps (spD K cv ms mr G):=by
 obtain ⟨oc,od,kV,doc,pm,an,cdv,ct,osl,rfl,l,d⟩:=F.ex;refine qil l d S (λvs H Q E h=>?_) λA outer s H vs Q E e p=>?_;·obtain ⟨F,ds,_,b,_⟩:=h;rw [b.length.1,hl]
 ·obtain ⟨F1,ds,c,b,nd,h⟩:=p;refine ⟨_,a cdv A outer s H E e,?_⟩;exact Gz (C:=qfB K cv E ms mr) rfl rfl (r.imp id λz ρ=>z ds ρ) g c b nd (j ds) h
noncomputable def JE:AK->PM
 | .vl=>.val
 | .sl _=>.io
 | .fr=>.tk
noncomputable def qC:List AK->List D->Sl->Option (List D)
 | [],[],_=>ip []
 | .sl i::as,_::ds,ρ=>match ρ[i]? with
  | some (ip d)=>(qC as ds ρ).map (d::·)
  | _=>iq
 | .vl::as,d::ds,ρ=>(qC as ds ρ).map (d::·)
 | .fr::as,d::ds,ρ=>(qC as ds ρ).map (d::·)
 | _,_,_=>iq
noncomputable def jf:List AK->List D->Sl->Sl
 | .sl i::as,d::outs,ρ=>jf as outs (ρ.set i (ip d))
 | _::as,_::outs,ρ=>jf as outs ρ
 | _,_,ρ=>ρ
noncomputable def jp:List AK->List Nat
 | []=>[]
 | .sl i::as=>i::jp as
 | _::as=>jp as
noncomputable def frA:List AK->Nat
 | []=>0
 | .fr::as=>frA as+1
 | _::as=>frA as
section
theorem xj:∀ {as:List AK} {vs:List V} {ds c:List D},Rep K own F H σ ρ->(∀ i∈jp as,i∈own)->ArgV K H0 F H σ as vs ds->qC as ds ρ=ip c->ArgsIs K F H (as.map JE) vs c
 | [],vs,ds,c,rp,hs,av,e=>by cases vs <;> cases ds <;> first | exact av.elim | (simp [qC] at e; subst e; trivial)
 | a::as,[],ds,c,rp,hs,av,e=>by cases a <;> exact av.elim
 | a::as,v::vs,[],c,rp,hs,av,e=>by cases a <;> exact av.elim
 | .vl::as,v::vs,d::ds,c,rp,hs,av,e=>by
  cases q:qC as ds ρ with
  | none=>simp [qC,q] at e
  | some l=>
   have e:d::l=c:=by simpa [qC,q] using e
   subst e;exact ⟨av.1,xj rp hs av.2 q⟩
 | .fr::as,v::vs,d::ds,c,rp,hs,av,e=>by
  cases q:qC as ds ρ with
  | none=>simp [qC,q] at e
  | some l=>
   have e:d::l=c:=by simpa [qC,q] using e
   subst e;obtain ⟨a,h1,_,h2,h⟩:=av.1;exact ⟨⟨a,h1,h2,h⟩,xj rp hs av.2 q⟩
 | .sl i::as,v::vs,d::ds,c,rp,hs,av,e=>by
  obtain ⟨h1,_,b⟩:=av;have hi:i∈own:=hs i (ac.mpr (.inl rfl));obtain ⟨d',hd⟩:=rp.opn i hi;obtain ⟨a,e1,f,E⟩:=rp.ow i d' hi hd;rw [h1] at e1;cases e1;cases q:qC as ds ρ with
  | none=>simp [qC,q,hd] at e
  | some l=>
   have e:d'::l=c:=by simpa [qC,q,hd] using e
   subst e;exact ⟨⟨a,rfl,f,E⟩,xj rp (λj G=>hs j (aa _ G)) b q⟩
theorem vA:∀ {as:List AK} {vs:List V} {ds:List D} {b:Addr},ArgV K H0 F H σ as vs ds->b∈zR (as.map JE) vs->(∃ i∈jp as,σ[i]?=ip (ip (V.ref b)))\/(H0 b=iq/\frA as≠0/\H b≠iq/\F b=iq)
 | [],vs,ds,b,av,h=>by cases vs <;> simp [zR] at h
 | a::as,[],ds,b,av,h=>by cases a <;> exact av.elim
 | a::as,v::vs,[],b,av,h=>by cases a <;> exact av.elim
 | .vl::as,v::vs,d::ds,b,av,h=>by
  have h:b∈zR (as.map JE) vs:=by cases v <;> exact h
  exact vA (as:=as) av.2 h
 | .fr::as,v::vs,d::ds,b,av,h=>by
  obtain ⟨⟨a,rfl,f,E,o⟩,c⟩:=av;have h:b∈a::zR (as.map JE) vs:=h;rcases ac.mp h with e | h;·subst e; exact .inr ⟨f,by simp [frA],o.there,E⟩
  ·rcases vA c h with z | ⟨z,_,z2⟩
   ·exact .inl z
   ·exact .inr ⟨z,by simp [frA],z2⟩
 | .sl i::as,v::vs,d::ds,b,av,h=>by
  obtain ⟨h1,_,c⟩:=av;have up:b∈zR (as.map JE) vs->(∃ j∈jp (.sl i::as),σ[j]?=ip (ip (V.ref b)))\/(H0 b=iq/\frA (.sl i::as)≠0/\H b≠iq/\F b=iq):=λh=>by
   rcases vA c h with ⟨j,hj,e⟩ | z;·exact .inl ⟨j,aa _ hj,e⟩
   ·exact .inr z
  cases v with
  | ref a=>
   have h:b∈a::zR (as.map JE) vs:=h;rcases ac.mp h with e | h;·subst e; exact .inl ⟨i,ac.mpr (.inl rfl),h1⟩
   ·exact up h
  | _=>exact up h
theorem yg:∀ {as:List AK} {vs:List V} {ds:List D},Rep K own F H σ ρ->(∀ x,OA own σ x->H0 x≠iq)->(∀ i∈jp as,i∈own)->(jp as).Nodup->frA as<=1->ArgV K H0 F H σ as vs ds->(zR (as.map JE) vs).Nodup
 | [],vs,ds,rp,h0,hs,nd,hf,av=>by cases vs <;> simp [zR]
 | a::as,[],ds,rp,h0,hs,nd,hf,av=>by cases a <;> exact av.elim
 | a::as,v::vs,[],rp,h0,hs,nd,hf,av=>by cases a <;> exact av.elim
 | .vl::as,v::vs,d::ds,rp,h0,hs,nd,hf,av=>by have q:=yg (as:=as) rp h0 hs nd hf av.2;cases v <;> exact q
 | .fr::as,v::vs,d::ds,rp,h0,hs,nd,hf,av=>by
  have f:frA as=0:=by simp only [frA] at hf; omega
  obtain ⟨⟨a,rfl,k,E,o⟩,b⟩:=av;show (a::zR (as.map JE) vs).Nodup;refine aL.mpr ⟨λz=>?_,yg rp h0 hs nd (by omega) b⟩;rcases vA b z with ⟨i,hi,e⟩ | ⟨_,n,_⟩
  ·exact h0 a ⟨i,hs i hi,e⟩ k
  ·exact n f
 | .sl i::as,v::vs,d::ds,rp,h0,hs,nd,hf,av=>by
  obtain ⟨h1,_,b⟩:=av;have h:∀ j∈jp as,j∈own:=λj G=>hs j (aa _ G);have hi:i∈own:=hs i (ac.mpr (.inl rfl));obtain ⟨g,c⟩:=aL.mp nd;have q:=yg rp h0 h c hf b;cases v with
  | ref a=>
   show (a::zR (as.map JE) vs).Nodup;refine aL.mpr ⟨λz=>?_,q⟩;rcases vA b z with ⟨j,G,e⟩ | ⟨n,_⟩
   ·exact g (by rw [rp.dis i j a hi (h j G) h1 e]; exact G)
   ·exact h0 a ⟨i,hi,h1⟩ n
  | _=>exact q
theorem wO:∀ {as:List AK} {b:List D} {ρ:Sl} {i:Nat},i∉jp as->(jf as b ρ)[i]?=ρ[i]?
 | [],b,ρ,i,h=>by cases b <;> rfl
 | a::as,[],ρ,i,h=>by cases a <;> rfl
 | .vl::as,d::b,ρ,i,h=>wO (as:=as) h
 | .fr::as,d::b,ρ,i,h=>wO (as:=as) h
 | .sl j::as,d::b,ρ,i,h=>by
  have h':i≠j/\i∉jp as:=by simpa [jp] using h
  show (jf as b (ρ.set j (ip d)))[i]?=_;rw [wO h'.2,au (bh h'.1)]
theorem ge:∀ {as:List AK} {b:List D} {ρ:Sl},(jf as b ρ).length=ρ.length
 | [],b,ρ=>by cases b <;> rfl
 | a::as,[],ρ=>by cases a <;> rfl
 | .vl::as,d::b,ρ=>ge (as:=as)
 | .fr::as,d::b,ρ=>ge (as:=as)
 | .sl j::as,d::b,ρ=>by show (jf as b (ρ.set j (ip d))).length=_;rw [ge,dm]
theorem JF {F' H':Hp}:∀ {as:List AK} {vs:List V} {ds b:List D} {ρ:Sl},(jp as).Nodup->(∀ i∈jp as,i < ρ.length)->ArgV K H0 F H σ as vs ds->xh K F' H' (as.map JE) vs b->∀ i∈jp as,∃ d a,(jf as b ρ)[i]?=ip (ip d)/\σ[i]?=ip (ip (V.ref a))/\F' a=iq/\OwnIs K F' H' a d
 | [],vs,ds,b,ρ,nd,hl,av,o,i,hi=>by simp [jp] at hi
 | a::as,[],ds,b,ρ,nd,hl,av,o,i,hi=>by cases a <;> exact av.elim
 | a::as,v::vs,[],b,ρ,nd,hl,av,o,i,hi=>by cases a <;> exact av.elim
 | a::as,v::vs,d::ds,[],ρ,nd,hl,av,o,i,hi=>by cases a <;> exact o.elim
 | .vl::as,v::vs,d::ds,u::b,ρ,nd,hl,av,o,i,hi=>JF (as:=as) nd hl av.2 o i hi
 | .fr::as,v::vs,d::ds,u::b,ρ,nd,hl,av,o,i,hi=>JF (as:=as) nd hl av.2 o i hi
 | .sl j::as,v::vs,d::ds,u::b,ρ,nd,hl,av,o,i,hi=>by
  obtain ⟨g,n⟩:=aL.mp nd;obtain ⟨h1,_,c⟩:=av;obtain ⟨⟨a,e,E,ow⟩,o2⟩:=o;subst e;rcases ac.mp hi with e | hi;·subst e;refine ⟨u,a,?_,h1,E,ow⟩;show (jf as b (ρ.set i (ip u)))[i]?=_;rw [wO g,aF (hl i (ac.mpr (.inl rfl)))]
  ·exact JF (as:=as) (ρ:=ρ.set j (ip u)) n (λk h=>by rw [dm]; exact hl k (aa _ h)) c o2 i hi
end
noncomputable def qv (as:List AK) (G:List D->Out (D×List D)) (fr:Sl->Out (List D×Sl)):Sl->Out (D×Sl):=λρ=>(fr ρ).bind λp=>match qC as p.1 p.2 with
 | some ds=>match G ds with
  | .ok q=>.ok (q.1,jf as q.2 p.2)
  | .exc c o=>.exc c (jf as (o.map (·.getD .non)) p.2)
  | .bad=>.bad
 | none=>.bad
variable {G:List D->Out (D×List D)} {mr:Mo} {CX:CXT} {fd:iZ} {ps:List Str}
section
variable {fr:Sl->Out (List D×Sl)}
theorem Yu {F' H':Hp} {b:List D} (r:Rep C.K own F H σ ρ) (m:∀ x,OA own σ x->H0 x≠iq) (h:∀ i∈jp as,i∈own) (nd:(jp as).Nodup) (k:ArgV C.K H0 F H σ as vs ds)
  (A:Same F' H') (c:Chg (LA (as.map JE) vs) F H F' H') (o:xh C.K F' H' (as.map JE) vs b):Rep C.K own F' H' σ (jf as b ρ):=by
 have pin:=JF (ρ:=ρ) nd (λi hi=>by obtain ⟨d,e⟩:=r.opn i (h i hi);exact (aB.mp e).1) k o;refine ⟨A,by rw [ge]; exact r.len,λi d hi e=>?_,λi d hi e=>?_,λi hi=>?_,r.dis⟩;·rw [wO (λz=>hi (h i z))] at e;obtain ⟨v,h1,h2⟩:=r.val i d hi e;exact ⟨v,h1,h2.mono c.grow⟩
 ·by_cases q:i∈jp as;·obtain ⟨d',a,e1,s,E,p⟩:=pin i q;rw [e1] at e;cases e;exact ⟨a,s,E,p⟩
  ·rw [wO q] at e;obtain ⟨a,h1,h2,f⟩:=r.ow i d hi e;have l:¬LA (as.map JE) vs a:=λz=>by
    rcases vA k z with ⟨j,G,t⟩ | ⟨n,_⟩
    ·exact q (by rw [r.dis i j a hi (h j G) h1 t]; exact G)
    ·exact m a ⟨i,hi,h1⟩ n
   refine ⟨a,h1,?_,f.grow c.grow λo' g=>c.keep a o' g l⟩;cases g:F' a with
   | none=>rfl
   | some u=>
    rcases c.new a (by rw [g]; simp) with z | z | z;·exact absurd h2 z
    ·exact absurd z f.there
    ·exact absurd z l
 ·by_cases q:i∈jp as;·obtain ⟨d',a,e1,_⟩:=pin i q;exact ⟨d',e1⟩
  ·rw [wO q];exact r.opn i hi
theorem GA {Q:VK} (l:∀ i∈C.ox,i∈own) (s:∀ i∈jp as,i∈own) (nd:(jp as).Nodup) (u:frA as<=1) (h:tE C own mr (qv as G fr) σ H Q):tAr C own as fr σ H λvs H1=>spD C.K C.cv (as.map JE) mr G (vs++[]) H1 Q C.E:=by
 obtain ⟨F,ρ,t,h⟩:=h;have m:∀ x,OA own σ x->H x≠none:=λx z=>(t.OA_there z).1;refine ⟨F,ρ,t,?_⟩;unfold qv at h;cases k:fr ρ with
 | ok p=>
  rw [k] at h;obtain ⟨ds,ρ1⟩:=p;intro vs F1 H1 a r g;rw [bi];have h1:Po C own mr σ F H (match qC as ds ρ1 with | some ds=>(match G ds with | .ok q=>.ok (q.1,jf as q.2 ρ1) | .exc c o=>.exc c (jf as (o.map (·.getD .non)) ρ1) | .bad=>.bad) | none=>.bad) Q:=h;cases q:qC as ds ρ1 with
  | none=>simp only [q] at h1; exact h1.elim
  | some f=>
   simp only [q] at h1;have lo:∀ x,LA (as.map JE) vs x->OA own σ x\/H x=none:=λx z=>by
    rcases vA g z with ⟨i,hi,e⟩ | ⟨n,_⟩
    ·exact .inl ⟨i,s i hi,e⟩
    ·exact .inr n
   refine ⟨F1,f,a.sub,xj a s g q,yg a m s nd u g,?_⟩;cases j:G f with
   | ok p=>rw [j] at h1;obtain ⟨d,b⟩:=p;exact λv F' H' A c o mo=>h1 v F' H' (Yu a m s nd g A c o) (r.trans c lo) (MoIs.back (Ha:=H1) r mo)
   | exc x o=>rw [j] at h1; exact λF' H' A c b=>h1 F' H' A ((Yu a m s nd g A c b).ioIs l) (r.trans c lo)
   | bad=>rw [j] at h1; exact h1.elim
 | exc c=>rw [k] at h; exact h
 | bad=>rw [k] at h; exact h.elim
theorem qer {k:Nat} {f:Addr} {p pos:Pos} (F:FnOk X.prog X.w X.K X.mg X.base CX k f fd ps (spD C.K C.cv ms mr G)) (r:Room k X.A) (hg:Gl X x) (m:X.mg x=ip (.ref f)) (a:keepIn X.K (.ref f)=iA) (j:Binds X.K fd ps []) (hx:ur CX X C.E)
  (n:PA X (e::es) (tAr C own as fr)) (s:ms=as.map JE:=by rfl) (c:∀ i∈jp as,i∈own:=by decide) (nd:(jp as).Nodup:=by decide) (d:frA as<=1:=by decide) (o:∀ i∈C.ox,i∈own:=by exact ut rfl) (b:(x == ("__debug__":Str))=false:=by decide) (g:starEach (e::es) X.env=(iw,eval e X.env)::starEach es X.env:=by exact kq rfl)
  (l:(backTo pos (starEach es X.env)).any (·.1)=false:=by exact xf rfl):PE X (.Call (.Name x p) (e::es) [] pos) (tE C own mr (qv as G fr)):=by
 subst s;exact jN (qd7 F r hg m a j .nil hx n b g l) λσ H Q h=>GA o c nd d h
end
structure ItIs (K:Frag) (F:Hp) (J:It) (ds:List D):Prop where
 go:∀ i H,i < ds.length->Same F H->J.go i H
 yld:∀ i Fi H x H' d,ds[i]?=ip d->Same F Fi->Same Fi H->J.yld i H x H'->∃ F',Chg No Fi H F' H'/\Same F' H'/\Is K F' x d
 stop:∀ i H,ds.length<=i->Same F H->J.stop i H
def PoI (C:Ct) (own:List Nat) (σ:St) (F H:Hp) (r:Out (List D×Sl)) (R:It->Hp->Prop):Prop:=match r with
 | .ok (ds,ρ')=>∀ J F' H',Rep C.K own F' H' σ ρ'->Chg (OA own σ) F H F' H'->ItIs C.K F' J ds->R J H'
 | .exc c ρ'=>∀ F' H',Same F' H'->ZI C.K C.ox F' H' σ ρ'->Chg (OA own σ) F H F' H'->C.E (C.cv c) iq H'
 | .bad=>False
def tIt (C:Ct) (own:List Nat) (f:Sl->Out (List D×Sl)):TI:=λσ H R=>∃ F ρ,Rep C.K own F H σ ρ/\PoI C own σ F H (f ρ) R
noncomputable def Za:D->Out (List D)
 | .lst xs=>.ok xs
 | .tup xs=>.ok xs
 | _=>.bad
noncomputable def qjT (f:Sl->Out (D×Sl)):Sl->Out (List D×Sl):=λρ=>(f ρ).bind λp=>(Za p.1).bind λds=>.ok (ds,p.2)
theorem PoI.bindV {m:Mo} {k:D×Sl->Out (List D×Sl)} {Q:It->Hp->Prop} {R:VK} (hp:PoI C own σ F H (o.bind k) Q)
  (h:∀ v F1 H1 d ρ1,Rep C.K own F1 H1 σ ρ1->Chg (OA own σ) F H F1 H1->MoIs C.K m H F1 H1 v d->PoI C own σ F H (k (d,ρ1)) Q->R v H1):Po C own m σ F H o R:=by
 cases o with
 | ok p=>exact λv F1 H1 a c mo=>h v F1 H1 p.1 p.2 a c mo hp
 | exc x=>exact hp
 | bad=>exact hp.elim
variable {fb:Sl->Out (Fl×Sl)} {g:D->Sl->Out Sl} {tg iter:Expr} {xs:List V} {gs:List D->Sl->Out Sl} {fi:Sl->Out (List D×Sl)}
section
theorem qbX {t t':TI} (h:PI X tg e t) (i:∀ σ H Q,t' σ H Q->t σ H Q):PI X tg e t':=⟨λpins s σ H R I w=>h pins s σ H R I (i σ H R w)⟩
theorem qgs (p:SqL K F a xs) (t:IsL K F xs ds):ItIs K F (Itl K a) ds where
 go:=λi H hi s=>by
  have hx:i < xs.length:=by rw [t.length]; exact hi
  exact ⟨xs,xs[i],s.seq p,by simp [hx]⟩
 yld:=λi Fi H x H' d e s1 s2 y=>by obtain ⟨rfl,y⟩:=y;obtain ⟨v,h1,h2⟩:=t.getD e;have q:=y xs ((s1.trans s2).seq p);rw [h1] at q;cases q;exact ⟨Fi,.refl,s2,h2.mono s1⟩
 stop:=λi H hi s=>⟨xs,s.seq p,by rw [t.length]; exact hi⟩
theorem qgt (p:SqT K F a xs) (t:IsL K F xs ds):ItIs K F (Itt K a) ds where
 go:=λi H hi s=>by
  have hx:i < xs.length:=by rw [t.length]; exact hi
  exact ⟨xs,xs[i],qZ s p,by simp [hx]⟩
 yld:=λi Fi H x H' d e s1 s2 y=>by obtain ⟨rfl,y⟩:=y;obtain ⟨v,h1,h2⟩:=t.getD e;have q:=y xs (qZ (s1.trans s2) p);rw [h1] at q;cases q;exact ⟨Fi,.refl,s2,h2.mono s1⟩
 stop:=λi H hi s=>⟨xs,qZ s p,by rw [t.length]; exact hi⟩
noncomputable def QJ (lo:Int) (n:Nat):List D:=(aK n).map λk=>.int (lo+(k:Nat))
theorem qgu {lo:Int}:ItIs K F (Itr lo n) (QJ lo n) where
 go:=λi H hi _=>by
  have:i < n:=by simpa [QJ] using hi
  exact this
 yld:=λi Fi H x H' d e s1 s2 y=>by
  obtain ⟨rfl,rfl⟩:=y;have e:d=.int (lo+i):=by
   unfold QJ at e;rw [aG] at e;cases q:(aK n)[i]? with
   | none=>rw [q] at e; cases e
   | some k=>
    rw [q] at e;have h:k=i:=by have:=aB.mp q;obtain ⟨_,z⟩:=this;simpa using z.symm
    subst h;exact (aO.inj e).symm
  subst e;exact ⟨Fi,.refl,s2,.int _⟩
 stop:=λi H hi _=>by
  have:n<=i:=by simpa [QJ] using hi
  exact this
noncomputable def ke (f:Sl->Out (D×Sl)):Sl->Out (List D×Sl):=λρ=>(f ρ).bind λp=>match p.1 with
 | .int j=>if -(2 ^ 62)<=j/\j < 2 ^ 62 then .ok (QJ 0 j.toNat,p.2) else .bad
 | _=>.bad
theorem wv {p:Pos} (hg:Gl X "range") (b:X.mg "range"=iq) (h:PE X e (tE C own m f)) (s:starEach [e] X.env=[(iw,eval e X.env)]:=by exact qS rfl):PI X tg (.Call (.Name "range" p) [e] [] pos) (tIt C own (ke f)):=by
 refine qbX (ZS hg b (qU h jH s) s) λσ H R ⟨F,ρ,r,h⟩=>⟨F,ρ,r,PoI.bindV h λv F1 H1 d ρ1 a k c h1=>?_⟩
 cases d with
 | int j=>
  obtain rfl:=c.top.int;have h1:PoI C own σ F H (if -(2 ^ 62)<=j/\j < 2 ^ 62 then .ok (QJ 0 j.toNat,ρ1) else .bad) R:=h1;by_cases z:-(2 ^ 62)<=j/\j < 2 ^ 62;·rw [if_pos z] at h1;exact ⟨j,rfl,z.1,z.2,h1 _ F1 H1 a k qgu⟩
  ·rw [if_neg z] at h1; exact h1.elim
 | _=>exact h1.elim
def tGd (C:Ct) (own:List Nat) (g:D->Sl->Out Sl):TG:=λv σ H Q=>∃ F ρ d,Rep C.K own F H σ ρ/\Is C.K F v d/\∃ ρ',g d ρ=.ok ρ'/\∀ σ',Rep C.K own F H σ' ρ'->(∀ b,OA own σ' b->OA own σ b)->(∀ i∈C.io,σ'[i]?=σ[i]?)->Q σ' H
def qhL (C:Ct) (own:List Nat) (g:List D->Sl->Out Sl):TGs:=λvs σ H Q=>∃ F ρ ds,Rep C.K own F H σ ρ/\IsL C.K F vs ds/\∃ ρ',g ds ρ=.ok ρ'/\∀ σ',Rep C.K own F H σ' ρ'->(∀ b,OA own σ' b->OA own σ b)->(∀ i∈C.io,σ'[i]?=σ[i]?)->Q σ' H
theorem qgv {t t':TG} (h:PG X e t) (i:∀ v σ H Q,t' v σ H Q->t v σ H Q):PG X e t':=⟨λpins s σ H v u Q I r w=>h pins s σ H v u Q I r (i v σ H Q w)⟩
theorem qdn {t t':TGs} (h:PGs X es t) (i:∀ v σ H Q,t' v σ H Q->t v σ H Q):PGs X es t':=⟨λpins s σ H v u Q I r w=>h pins s σ H v u Q I r (i v σ H Q w)⟩
noncomputable def gNm (i:Nat):D->Sl->Out Sl:=λd ρ=>if i < ρ.length then .ok (ρ.set i (ip d)) else .bad
theorem QZ {own:List Nat} (h:i∉own):uy own [i]=own:=by unfold uy;rw [dO];intro j G;simp only [ao,decide_eq_true_eq];exact λz=>h (by rw [<-z]; exact G)
theorem qy (c:X.N.Nodup) (hi:X.N[i]?=ip x) (hx:Loc X.env.scope x) (m:i∉own:=by decide) (o:i∉C.io:=by exact Yk rfl) (h:X.fn x=iA\/X.env.scope.names.lookup x=ip .local:=by first | exact .inl rfl | exact .inr rfl):PG X (.Name x pos) (tGd C own (gNm i)):=by
 refine qgv (qd0 c hi hx h) λv σ H Q ⟨F,ρ,d,a,is,ρ',e,k⟩=>?_;unfold gNm at e;by_cases z:i < ρ.length
 ·rw [if_pos z] at e;cases e;have r2:=a.put z is;rw [QZ m] at r2;refine k _ r2 (λb q=>?_) λj G=>au λq=>o (by rw [q]; exact G);have g:OA (uy own [i]) (σ.set i (ip v)) b:=by rw [QZ m]; exact q
  exact g.put
 ·rw [if_neg z] at e; cases e
noncomputable def jK:List D->Sl->Out Sl
 | [],ρ=>.ok ρ
 | _::_,_=>.bad
noncomputable def qD (g:D->Sl->Out Sl) (gs:List D->Sl->Out Sl):List D->Sl->Out Sl
 | d::ds,ρ=>(g d ρ).bind λρ1=>gs ds ρ1
 | [],_=>.bad
theorem kw:PGs X [] (qhL C own jK):=by
 refine qdn qd1 λvs σ H Q ⟨F,ρ,ds,a,is,ρ',e,k⟩=>?_;cases is with
 | nil=>cases e; exact ⟨rfl,k σ a (λ_ z=>z) λ_ _=>rfl⟩
 | cons _ _=>cases e
theorem qL (h1:PG X e (tGd C own g)) (h2:PGs X es (qhL C own gs)) (s:(assignEach (e::es) X.env).map (·.2)=assign e X.env::(assignEach es X.env).map (·.2):=by rfl):PGs X (e::es) (qhL C own (qD g gs)):=by
 refine qdn (qbA h1 h2 s) λvs σ H Q ⟨F,ρ,ds,p,is,ρ',e,k⟩=>?_;cases is with
 | nil=>cases e
 | @cons v d vs ds a t=>
  have e:(g d ρ).bind (λρ1=>gs ds ρ1)=.ok ρ':=e;cases q:g d ρ with
  | ok ρ1=>rw [q] at e;exact ⟨v,vs,rfl,F,ρ,d,p,a,ρ1,q,λσ1 h j m=>⟨F,ρ1,ds,h,t,ρ',e,λf r o l=>k f r (λb z=>j b (o b z)) λi hi=>(l i hi).trans (m i hi)⟩⟩
  | exc c=>rw [q] at e; cases e
  | bad=>rw [q] at e; cases e
noncomputable def jL (n:Nat) (gs:List D->Sl->Out Sl):D->Sl->Out Sl
 | .tup ds,ρ=>if ds.length=n then gs ds ρ else .bad
 | _,_=>.bad
theorem vB {k:Nat} (g:C.K=X.K) (f:X.calm=iA) (h:PGs X es (qhL C own gs)) (b:(assignEach es X.env).length=n:=by rfl) (c:(assignEach es X.env).findIdx? (·.1)=none:=by rfl):PG X (.Tuple es k pos) (tGd C own (jL n gs)):=by
 refine qgv (qfV f h b c) λv σ H Q ⟨F,ρ,d,r,is,ρ',e,k⟩=>?_;cases is with
 | @tup a xs ds p t=>
  have e:(if ds.length=n then gs ds ρ else .bad)=.ok ρ':=e;by_cases z:ds.length=n;·rw [if_pos z] at e;exact ⟨a,xs,rfl,by rw [<-g]; exact qZ r.sub p,by rw [t.length]; exact z,F,ρ,ds,r,t,ρ',e,k⟩
  ·rw [if_neg z] at e; cases e
 | _=>cases e
noncomputable def qix (fe:Sl->Out (D×Sl)) (g:D->Sl->Out Sl):Sl->Out (Fl×Sl):=λρ=>(fe ρ).bind λp=>match g p.1 p.2 with
 | .ok ρ'=>.ok (.nx,ρ')
 | _=>.bad
theorem qes (k:PE X e (tE C own m f)) (hg:PG X tg (tGd C own g)) (j:m≠.any:=by decide) (s:swapsWithSole [tg] e pos.line X.env=pure false:=by rfl) (w:swappedStores [tg] e X.env=pure none:=by rfl)
  (h1:(assignEach [tg] X.env).map (·.2)=[assign tg X.env]:=by rfl):PS X (.Assign [tg] e pos) (tSt C own own (qix f g)):=by
 refine QH (qdf (yy k j) hg s w h1) λD σ H ⟨F,ρ,p,h⟩=>⟨F,ρ,p,PoS.bindE h λv F1 H1 d ρ1 a l i h1=>?_⟩
 cases q:g d ρ1 with
 | ok ρ'=>simp only [q] at h1;exact ⟨F1,ρ1,d,a,i,ρ',q,λσ' r oa io=>h1 σ' F1 H1 ⟨r,.refl,λb z=>.inl (oa b z),io⟩⟩
 | exc c=>simp only [q] at h1; exact h1.elim
 | bad=>simp only [q] at h1; exact h1.elim
noncomputable def vC (g:D->Sl->Out Sl) (fb:Sl->Out (Fl×Sl)):List D->Sl->Out (Fl×Sl)
 | [],ρ=>.ok (.nx,ρ)
 | d::ds,ρ=>(g d ρ).plain.bind λρ1=>(fb ρ1).bind λp=>match p.1 with
  | .nx=>vC g fb ds p.2
  | .ct=>vC g fb ds p.2
  | .bk=>.ok (.nx,p.2)
  | .rt v=>.ok (.rt v,p.2)
noncomputable def QK (fi:Sl->Out (List D×Sl)) (g:D->Sl->Out Sl) (fb:Sl->Out (Fl×Sl)):Sl->Out (Fl×Sl):=λρ=>(fi ρ).bind λp=>vC g fb p.1 p.2
theorem kf {body:List Stmt} {fb:Sl->Out (Fl×Sl)} (hp:PassesOwn (model X.prog X.w) X.A X.env X.xe) (T:X.calm=iA) (hi:PI X tg iter (tIt C own fi)) (hg:PG X tg (tGd C own g))
  (U:PSs X body (tSt { C with ol:=own } own own fb)) (R:∀ x,foldedSetIterable iter X.env x=pure x:=by intro _; rfl):PS X (.For tg iter body [] pos) (tSt C own own (QK fi g fb)):=by
 refine QH (qfY hp T hi hg U R) λD σ H ⟨F,ρ,Q,h⟩=>⟨F,ρ,Q,?_⟩
 unfold QK at h;cases I:fi ρ with
 | exc c=>rw [I] at h; exact h
 | bad=>rw [I] at h; exact h.elim
 | ok p=>
  rw [I] at h;obtain ⟨ds,ρ1⟩:=p;intro J F1 H1 u P it;have h:PoS C own own σ F H (vC g fb ds ρ1) D:=h;refine ⟨λi m σ' H'=>m=ds.length - i/\i<=ds.length/\∃ F' ρ',Nx C own own σ F H ρ' σ' F' H'/\Same F1 F'/\PoS C own own σ' F' H' (vC g fb (ds.drop i) ρ') D,⟨ds.length,by simp,bE _,F1,ρ1,.ofE u P,Same.refl _,h.shift (.ofE u P)⟩,?_⟩;rintro i m σ' H' ⟨rfl,S,F',ρ',nx,gr,po⟩;by_cases t:i < ds.length
  ·have hd:ds.drop i=ds[i]::ds.drop (i+1):=dL t;rw [hd] at po;have po:PoS C own own σ' F' H' ((g ds[i] ρ').plain.bind λρ1=>(fb ρ1).bind λp=>match p.1 with | .nx=>vC g fb (ds.drop (i+1)) p.2 | .ct=>vC g fb (ds.drop (i+1)) p.2 | .bk=>.ok (.nx,p.2) | .rt v=>.ok (.rt v,p.2)) D:=po;refine .inr ⟨it.go i H' t (gr.trans nx.rep.sub),λl H2=>ds.length - (i+1)=ds.length - (i+1)/\i+1<=ds.length/\∃ F' ρ',Nx C own own σ F H ρ' l F' H2/\Same F1 F'/\PoS C own own l F' H2 (vC g fb (ds.drop (i+1)) ρ') D,λl H2 q=>⟨ds.length - (i+1),by omega,q⟩,λx H2 y=>?_⟩;obtain ⟨o,c2,s2,N⟩:=it.yld i F' H' x H2 ds[i] (by simp [t]) gr nx.rep.sub y;cases E:g ds[i] ρ' with
   | exc c=>rw [E] at po; exact po.elim
   | bad=>rw [E] at po; exact po.elim
   | ok ρ2=>
    rw [E] at po;refine ⟨o,ρ',ds[i],nx.rep.grow c2 s2,N,ρ2,E,λj r K O=>⟨o,ρ2,r,?_⟩⟩;have L:Nx C own own σ' F' H' ρ2 j o H2:=⟨r,c2.ofNo,λb z=>.inl (K b z),O⟩
    have a:=PoS.shift (show PoS C own own σ' F' H' ((fb ρ2).bind λp=>match p.1 with | .nx=>vC g fb (ds.drop (i+1)) p.2 | .ct=>vC g fb (ds.drop (i+1)) p.2 | .bk=>.ok (.nx,p.2) | .rt v=>.ok (.rt v,p.2)) D from po) L;have up:∀ {B f M k},Nx { C with ol:=own } own own j o H2 B f M k->Nx C own own j o H2 B f M k:=λz=>⟨z.rep,z.chg,z.oa,z.io⟩
    cases G:fb ρ2 with
    | exc c=>rw [G] at a; exact a
    | bad=>rw [G] at a; exact a.elim
    | ok p=>
     rw [G] at a;obtain ⟨V,B⟩:=p;cases V with
     | nx=>exact λf M k n=>⟨rfl,t,M,B,(nx.then L).then (up n),(gr.trans c2.grow).trans n.chg.grow,PoS.shift (show PoS C own own j o H2 (vC g fb (ds.drop (i+1)) B) D from a) (up n)⟩
     | ct=>exact λf M k n=>⟨rfl,t,M,B,(nx.then L).then (up n),(gr.trans c2.grow).trans n.chg.grow,PoS.shift (show PoS C own own j o H2 (vC g fb (ds.drop (i+1)) B) D from a) (up n)⟩
     | bk=>exact λf M k n=>a f M k (up n)
     | rt d=>exact λv f M k s io c e mo=>a v f M k s io c e mo
  ·have e:i=ds.length:=by omega
   subst e;rw [List.drop_length] at po;exact .inl ⟨it.stop _ H' (aD _) (gr.trans nx.rep.sub),po σ' F' H' (.refl nx.rep)⟩
noncomputable def kG (ft:Sl->Out (Bool×Sl)) (fb:Sl->Out (Fl×Sl)):Nat->Sl->Out (Fl×Sl)
 | 0,_=>.bad
 | n+1,ρ=>(ft ρ).bind λq=>if q.1=iA then (fb q.2).bind λp=>match p.1 with
  | .nx=>kG ft fb n p.2
  | .ct=>kG ft fb n p.2
  | .bk=>.ok (.nx,p.2)
  | .rt v=>.ok (.rt v,p.2)
  else .ok (.nx,q.2)
theorem GB {t:Expr} {body:List Stmt} (n:Nat) (hp:PassesOwn (model X.prog X.w) X.A X.env X.xe) (x:PT X t (tT C own ft)) (y:PSs X body (tSt { C with ol:=own } own own fb)):PS X (.While t body [] pos) (tSt C own own (kG ft fb n)):=by
 refine QH (qbB hp x y) λD σ H ⟨F,ρ,u,h⟩=>?_;refine ⟨λm σ' H'=>∃ F' ρ',Rep C.K own F' H' σ' ρ'/\PoS C own own σ' F' H' (kG ft fb m ρ') D,⟨n,F,ρ,u,h⟩,?_⟩;rintro m σ1 H1 ⟨F1,ρ1,j,po⟩;refine ⟨F1,ρ1,j,?_⟩;cases m with
 | zero=>exact po.elim
 | succ m=>
  have po:PoS C own own σ1 F1 H1 ((ft ρ1).bind λq=>if q.1=iA then (fb q.2).bind λp=>match p.1 with | .nx=>kG ft fb m p.2 | .ct=>kG ft fb m p.2 | .bk=>.ok (.nx,p.2) | .rt v=>.ok (.rt v,p.2) else .ok (.nx,q.2)) D:=po;refine PoS.bindT po λi H2 k ρ2 r c2 h2=>?_;cases k with
  | false=>exact h2 σ1 i H2 (.refl r)
  | true=>
   refine ⟨λb o=>∃ F' ρ',Rep C.K own F' o b ρ'/\PoS C own own b F' o (kG ft fb m ρ') D,λb o q=>⟨m,by omega,q⟩,i,ρ2,r,?_⟩;have h2:PoS C own own σ1 i H2 ((fb ρ2).bind λp=>match p.1 with | .nx=>kG ft fb m p.2 | .ct=>kG ft fb m p.2 | .bk=>.ok (.nx,p.2) | .rt v=>.ok (.rt v,p.2)) D:=h2;have up:∀ {B f M a},Nx { C with ol:=own } own own σ1 i H2 B f M a->Nx C own own σ1 i H2 B f M a:=λz=>⟨z.rep,z.chg,z.oa,z.io⟩
   cases l:fb ρ2 with
   | exc c=>rw [l] at h2; exact h2
   | bad=>rw [l] at h2; exact h2.elim
   | ok p=>
    rw [l] at h2;obtain ⟨E,B⟩:=p;cases E with
    | nx=>exact λf M a g=>⟨M,B,g.rep,PoS.shift (show PoS C own own σ1 i H2 (kG ft fb m B) D from h2) (up g)⟩
    | ct=>exact λf M a g=>⟨M,B,g.rep,PoS.shift (show PoS C own own σ1 i H2 (kG ft fb m B) D from h2) (up g)⟩
    | bk=>exact λf M a g=>h2 f M a (up g)
    | rt d=>exact λv f M a s io c e mo=>h2 v f M a s io c e mo
end
noncomputable def Vc (cells:List (Str×Addr)):List (Str×i6)->List (Str×Addr)->List (Str×Addr)
 | [],acc=>acc
 | (n,k)::r,acc=>if (k == .free)=iA then Vc cells r ((n,(cells.lookup n).getD 0)::acc) else Vc cells r acc
variable {env:Env}
theorem uE:∀ (names:List (Str×i6)) (acc:List (Str×Addr)),(∀ x∈names,x.2=.free->∃ c,env.cells.lookup x.1=ip c) ->(forIn names acc λ(x:Str×i6) (cs:List (Str×Addr))=>if (x.2 == bB)=iA then (do let a <-cellOf env x.1; pure (cG ((x.1,a)::cs))) else pure (cG cs):Sem (List (Str×Addr)))=pure (Vc env.cells names acc)
 | [],acc,_=>rfl
 | (n,k)::r,acc,h=>by
  rw [List.forIn_cons];by_cases q:(k == bB)=iA
  ·obtain ⟨c,d⟩:=h (n,k) ai (by simpa using q);have e:cellOf env n=pure c:=by unfold cellOf; rw [d]
   simp only [q,if_true,e];have j:=uE r ((n,c)::acc) (λx hx=>h x (aa _ hx));simp only [Vc,q,if_true,d,fQ];exact j
  ·simp only [q,if_false,Vc];exact uE r acc (λx hx=>h x (aa _ hx))
variable {scope:j7}
theorem Ja (h:∀ x∈scope.names,x.2=.free->∃ c,env.cells.lookup x.1=ip c):closureFor scope env=pure (Vc env.cells scope.names []):=by have:=uE scope.names [] h;unfold closureFor;simp only [bind_pure];exact this
variable {cells:List (Str×Addr)}
theorem yN:∀ {names:List (Str×i6)} {acc:List (Str×Addr)} {x:Str} {c:Addr},(∀ y∈names,y.2=.free->∃ c,cells.lookup y.1=ip c)->(Vc cells names acc).lookup x=ip c->cells.lookup x=ip c\/acc.lookup x=ip c
 | [],acc,x,c,_,h=>.inr h
 | (n,k)::r,acc,x,c,hf,h=>by
  unfold Vc at h;by_cases q:(k == bB)=iA
  ·rw [if_pos q] at h;obtain ⟨U,d⟩:=hf (n,k) ai (by simpa using q);rcases yN (λy D=>hf y (aa _ D)) h with z | z;·exact .inl z
   ·rw [eZ] at z;have d:cells.lookup n=ip U:=d;by_cases e:(x == n)=iA
    ·rw [e] at z;simp only [d,fQ] at z;have:x=n:=by simpa using e
     subst this;rw [d]; exact .inl z
    ·have e:(x == n)=false:=by simpa using e
     rw [e] at z;exact .inr z
  ·rw [if_neg q] at h;exact yN (λy D=>hf y (aa _ D)) h
theorem JG:∀ {names:List (Str×i6)} {acc:List (Str×Addr)} {x:Str},(∃ c,acc.lookup x=ip c)->∃ c,(Vc cells names acc).lookup x=ip c
 | [],_,_,h=>h
 | (n,k)::r,acc,x,h=>by
  unfold Vc;by_cases q:(k == bB)=iA
  ·rw [if_pos q];refine JG ?_;obtain ⟨c,d⟩:=h;rw [eZ];by_cases e:(x == n)=iA;·rw [e]; exact ⟨_,rfl⟩
   ·have e:(x == n)=false:=by simpa using e
    rw [e]; exact ⟨c,d⟩
  ·rw [if_neg q]; exact JG h
theorem gf:∀ {names:List (Str×i6)} {acc:List (Str×Addr)} {x:Str},(x,bB)∈names->∃ c,(Vc cells names acc).lookup x=ip c
 | (n,k)::r,acc,x,h=>by
  unfold Vc;rcases ac.mp h with e | h
  ·cases e;rw [if_pos (by rfl)];refine JG ?_;rw [eZ,beq_self_eq_true];exact ⟨_,rfl⟩
  ·by_cases q:(k == bB)=iA;·rw [if_pos q]; exact gf h
   ·rw [if_neg q]; exact gf h
noncomputable def kj (X:Cx) (scope:j7) (N:List Str) (fp:List Addr) (L:Addr) (s:iB) (H:Hp):Cx:=
 { X with N:=N,s₀:=s,H₀:=H,env:=compEnvC scope (Vc X.env.cells scope.names []) L X.env,outer:=X.stack,stack:=X.stack,ex:=fp,fn:=λ_=>iw,pn:=[],xe:=λ_ _=>False }
structure ScOk (X:Cx) (scope:j7):Prop where
 kind:scope.kind=.function
 nocell:∀ y∈scope.names,y.2≠.cell
 names:∀ y∈scope.names,y.2=.local->scope.names.lookup y.1=ip .local
 free:∀ y∈scope.names,y.2=.free->X.env.kindOf y.1=ip .cell\/X.env.kindOf y.1=ip .free
 frl:∀ y∈scope.names,y.2=.free->scope.names.lookup y.1=ip .free
theorem yh {a:α}:∀ {l:List (Str×α)},l.lookup x=ip a->(x,a)∈l
 | [],h=>by simp at h
 | (n,k)::r,h=>by
  rw [eZ] at h;by_cases e:(x == n)=iA
  ·rw [e] at h;have h:ip k=ip a:=h;cases h;have:x=n:=by simpa using e
   subst this;exact ai
  ·have e:(x == n)=false:=by simpa using e
   rw [e] at h;exact aa _ (yh h)
theorem zz {k:i6} (h:(relabel scope env).names.lookup x=ip k) (b:k=.cell\/k=.free) (a:∀ y∈scope.names,y.2≠.cell):(x,bB)∈scope.names:=by
 have m:=yh h;obtain ⟨⟨n,k'⟩,c,e⟩:=af.mp m;dsimp only at e;by_cases q:(k' == bB&&env.scope.kind == .function&&env.kindOf n == ip .cell)=iA
 ·rw [if_pos q] at e;cases e;have:k'=.free:=by rw [aN,aN] at q;simpa using q.1.1
  subst this;exact c
 ·rw [if_neg q] at e;cases e;rcases b with rfl | rfl;·exact absurd rfl (a _ c)
  ·exact c
theorem Vz (h:Vis (relabel scope env) x):∃ k,(x,k)∈scope.names:=by
 have go:∀ {k:i6},(relabel scope env).names.lookup x=ip k->∃ k,(x,k)∈scope.names:=λ{k} h=>by
  obtain ⟨⟨n,k'⟩,c,e⟩:=af.mp (yh h);dsimp only at e;by_cases q:(k' == bB&&env.scope.kind == .function&&env.kindOf n == ip .cell)=iA;·rw [if_pos q] at e;cases e;exact ⟨_,c⟩
  ·rw [if_neg q] at e;cases e;exact ⟨_,c⟩
 rcases h with h | h | h <;> exact go h
variable {pins:List (Addr×Obj)} {σc:St} {s s':iB} {fp:List Addr} {h':Heap}
section
theorem gL (I:Inv X pins σ H s) (S:ScOk X scope):∀ y∈scope.names,y.2=.free->∃ c,X.env.cells.lookup y.1=ip c:=λy D e=>I.ok.has y.1 (S.free y D e)
theorem qbY (I:Inv X pins σ H s) (S:ScOk X scope) (J:∀ b∈fp,WC X pins H b) (T:∀ b∈fp,b < s.heap.objs.size) (C:h'.Ns s.heap.objs.size (λ_=>iq))
  (w:∀ b o,s.heap.get? b=ip o->h'.get? b=ip o) (hl:σc.length=N.length)
  (B:∀ (j:Nat) (x:Str) (v:V),N[j]?=ip x->σc[j]?=ip (ip v)->(∃ k,(x,k)∈scope.names)->∃ i:Nat,X.N[i]?=ip x/\σ[i]?=ip (ip v)/\Vis X.env.scope x/\(x,bB)∈scope.names) {t:Nat} :
  Inv (kj X scope N fp s.heap.objs.size s H) [] σc H { s with heap:=h',toks:=t }:=by
 have G:=gL I S;have cl:∀ x c,(Vc X.env.cells scope.names []).lookup x=ip c->X.env.cells.lookup x=ip c:=λx c e=>(yN G e).resolve_right (by simp);have A:∀ b∈fp,b∉frs X.stack:=λb g z=>by
  obtain ⟨f0,f1,f2,_⟩:=J b g;rcases ac.mp (I.stkSub b z) with e | e;·exact f1 e
  ·exact f2 e
 refine ⟨⟨I.ok.mod,?_,I.ok.glob,I.ok.blt,aD _,λx y c h1 h2=>I.ok.inj x y c (cl x c h1) (cl y c h2),λx hx=>?_,λx c h=>absurd h (by show ¬(iw=iA); exact bz),I.ok.hd,I.ok.frames,.inl rfl,λb g=>⟨aH (T b g),λx c e z=>?_⟩,I.bs,bg I.ok.bsz I.sz,λb o e g=>?_,A,I.stack,I.stkFree⟩,rfl,I.bare,Un.kept w,⟨_,C,λj x v e1 l Q=>?_⟩,λx c e=>?_,I.hok.fresh (aD _),λx c e=>I.freeC x c (cl x c e),λp hp=>absurd (show p∈([]:List (Addr×Obj)) from hp) (by simp),I.hok.kept w,hl⟩;·exact S.kind
 ·refine gf ?_;rcases hx with hx | hx;·exact zz hx (.inl rfl) S.nocell
  ·exact zz hx (.inr rfl) S.nocell
 ·exact (J b g).2.2.2.2.1 x c (cl x c e) z
 ·rcases (J b g).2.2.2.1 with z | z;·exact I.ok.noex b o e z
  ·have D:=aA e;exact absurd (aI D (bg I.ok.bsz z)) (cK _)
 ·obtain ⟨i,g1,Y,W,L⟩:=B j x v e1 l (Vz Q);obtain ⟨m,Z,E⟩:=I.loc;obtain ⟨u,r,look⟩:=E i x v g1 Y W;refine ⟨u,r,?_⟩;obtain ⟨M,f⟩:=gf (cells:=X.env.cells) (acc:=[]) L;have K:=cl x M f;have kd:(kj X scope N fp s.heap.objs.size s H).env.kindOf x=ip .cell\/(kj X scope N fp s.heap.objs.size s H).env.kindOf x=ip .free\/(kj X scope N fp s.heap.objs.size s H).env.kindOf x=ip .local:=by
   rcases Q with z | z | z;·exact .inr (.inr z)
   ·exact .inl z
   ·exact .inr (.inl z)
  rcases look with ⟨k,_⟩ | ⟨k,c,P,z⟩
  ·rcases S.free _ L rfl with q | q;·have q:X.env.kindOf x=ip .cell:=q;rw [k] at q; cases q
   ·have q:X.env.kindOf x=ip .free:=q;rw [k] at q; cases q
  ·rw [K] at P;cases P;obtain ⟨oc,d,a⟩:=z;rcases kd with q | q | q;·exact .inr ⟨.inl q,M,f,⟨oc,w _ _ d,a⟩⟩
   ·exact .inr ⟨.inr q,M,f,⟨oc,w _ _ d,a⟩⟩
   ·refine absurd q ?_;intro q;have R:=yh (show (relabel scope X.env).names.lookup x=ip .local from q);obtain ⟨⟨n,k'⟩,U,e⟩:=af.mp R;dsimp only at e;by_cases O:(k' == bB&&X.env.scope.kind == .function&&X.env.kindOf n == ip .cell)=iA;·rw [if_pos O] at e; cases e
    ·rw [if_neg O] at e;cases e;have e1:=S.names _ U rfl;have l:=S.frl _ L rfl;have e1:scope.names.lookup x=ip .local:=e1;have l:scope.names.lookup x=ip .free:=l;rw [e1] at l;cases l
 ·obtain ⟨v,oc,d,a⟩:=I.cell x c (cl x c e);exact ⟨v,oc,w _ _ d,a⟩
theorem qbZ {H1:Hp} {s1:iB} {L:Addr} (I:Inv X pins σ H s) (h:∀ b∈fp,WC X pins H b) (J:Inv (kj X scope N fp s.heap.objs.size s H) [] σc H' s') (A:bH s.heap.objs.size s'.heap h'):Inv X pins σ H' { s' with heap:=h' }:=by
 have a:H' s.heap.objs.size=none:=J.free;have ne:∀ b o,s.heap.get? b=ip o->b≠s.heap.objs.size:=λb o e=>aH (aA e);have U:Un (frs X.stack) fp H H' s.heap s'.heap:=J.base;refine I.call' (s':={ s' with heap:=h' }) (ch:=fp) J.os ⟨λb o e n h1 h2=>(A.2 b (ne b o e)).trans (U.keep b o e n h1 h2),λb o e n h1 h2=>?_,U.free,λb o e h2=>?_,U.tups,U.frzs,U.tbls⟩ (λb u e=>?_) J.bare λb f=>?_;·obtain ⟨sl,q⟩:=U.slot b o e n h1 h2;exact ⟨sl,(A.2 b (ne b o e)).trans q⟩
 ·obtain ⟨o',q⟩:=U.there b o e h2;exact ⟨o',(A.2 b (ne b o e)).trans q⟩
 ·refine (J.hok b u e).stay (λc w d q=>(A.2 c ?_).trans q) (λ_ q=>q) λ_ _ q=>q;rintro rfl;rcases d with z | z;·rw [<-z,a] at e; cases e
  ·rw [a] at z; cases z
 ·obtain ⟨f0,f1,f2,t,f4,g⟩:=h b f;exact ⟨t,f1,f4,g⟩
end
theorem JH {prog:iE} {w:iF} {A:iH} {R:lr->iB->Prop} {s:iB} {elt target iter:Expr} {ifs:List Expr} {scope:j7} {pos:Pos} {it acc:iu} {env:Env} (I:Nat->iB->Prop)
  (turn:∀ n s,I n s->wpAny (model prog w) A (pyNext it) (λr d=>match r with
   | none=>R (.ok .next) d
   | some v=>wpAny (model prog w) A (letOwnedTupleGo target it v) (λ_ e=>wpAny (model prog w) A (assign target env v) (λ_ i=>
     wpAny (model prog w) A (forIn ifs iA λc r=>if r=iA then do let ok <-isTrue c env (eval c env); pure (cG ok) else pure (cG r)) (λok b=>
      if ok=iA then wpAny (model prog w) A (eval elt env) (λx g=>
       wpAny (model prog w) A (call (.builtin "list.append") [acc,x]) (λ_ f=>∃ m,m < n/\I m f) (λ_ _=>False) g) (λ_ _=>False) b
      else ∃ m,m < n/\I m b) (λ_ _=>False) i) (λ_ _=>False) e) (λ_ _=>False) d) (λ_ _=>False) s)
  (n:Nat) (h:I n s):codeAny (model prog w) A (.compLoop (.ListComp elt [⟨target,iter,ifs,0⟩] scope pos) 0 it acc env) R s:=by
 have no:∀ {α:Type} {t:Sem α} {Q u:α->iB->Prop} {E:iu->iB->Prop} {s:iB},wpAny (model prog w) A t Q (λ_ _=>False) s->(∀ a s,Q a s->u a s)->wpAny (model prog w) A t u E s:=λh k=>iU h k λ_ _ z=>z.elim;refine codeAny_loop rfl I (λn s y=>?_) n h;show wpAny _ A ((compTurn (.ListComp elt [⟨target,iter,ifs,0⟩] scope pos) 0 it acc env).onRaise (λx=>do noteFrame x env; theTreesLotGoes x)) _ _ s;refine wpAny_noted ?_;rw [compTurn_list];refine ir (wpAny_standAt (ir (no (turn n s y) λr d h₁=>?_)));cases r with
 | none=>exact iC h₁
 | some v=>
  refine ir (no h₁ λ_ e l=>ir (no l λ_ i q=>ir (no q λok b j=>?_)));cases ok with
  | false=>exact iC ⟨rfl,j⟩
  | true=>exact ir (ir (no j λx g p=>ir (no p λ_ f o=>iC (iC ⟨rfl,o⟩))))
structure PTs (Y:Cx) (ifs:List Expr) (t:TT):Prop where
 run:∀ (pins:List (Addr×Obj)) (s:iB) (σ:St) (H:Hp) (Q:Bool->Hp->Prop),Inv Y pins σ H s->t σ H Q ->wpAny (model Y.prog Y.w) Y.A (forIn ifs iA λc r=>if r=iA then do let ok <-isTrue c Y.env (eval c Y.env); pure (cG ok) else pure (cG r)) (TP Y pins σ Q) Y.xe s
instance {Y:Cx} {ifs:List Expr} {t:TT}:CoeFun (PTs Y ifs t) (λ_=>∀ (pins:List (Addr×Obj)) (s:iB) (σ:St) (H:Hp) (Q:Bool->Hp->Prop),Inv Y pins σ H s->t σ H Q ->wpAny (model Y.prog Y.w) Y.A (forIn ifs iA λc r=>if r=iA then do let ok <-isTrue c Y.env (eval c Y.env); pure (cG ok) else pure (cG r)) (TP Y pins σ Q) Y.xe s):=⟨λh=>h.run⟩
variable {Y:Cx}
theorem qet:PTs Y [] (λ_ H Q=>Q iA H):=⟨λ_ _ _ H _ I h=>wpAny_tests_nil ⟨H,I,h⟩⟩
theorem JI {t:TT} (h:PT Y c t):PTs Y [c] t:=⟨λpins s σ H Q I q=>wpAny_tests_one (h pins s σ H Q I q)⟩
variable {ifs:List Expr} {te:TE} {E:iu->iB->Prop}
section
variable {it:Addr} {tn:Nat->Heap->Prop} {J:It} {elt:Expr} {g:TG} {tt:TT}
theorem qb0 (I:Inv X pins σ H s) (P:X.calm=iA) (S:ScOk X scope) (T:Turn X.prog X.w X.K tg J fp it tn) (st0:tn 0 s.heap) (hf:∀ b∈fp,WC X pins H b)
  (hg:∀ fp L s' H',PG (kj X scope N fp L s' H') tg g) (ht:∀ fp L s' H',PTs (kj X scope N fp L s' H') ifs tt) (he:∀ fp L s' H',PE (kj X scope N fp L s' H') elt te) (hl:σc.length=N.length)
  (hσ:∀ (j:Nat) (x:Str) (v:V),N[j]?=ip x->σc[j]?=ip (ip v)->(∃ k,(x,k)∈scope.names)->∃ i:Nat,X.N[i]?=ip x/\σ[i]?=ip (ip v)/\Vis X.env.scope x/\(x,bB)∈scope.names)
  (W:Addr->Nat->Nat->St->Hp->Prop) (Fin:Addr->Hp->Prop) (w0:∀ p,H p=iq->∃ m,W p 0 m σc (upd H p (.lst [])))
  (turn:∀ p i m σ1 H1,W p i m σ1 H1->(J.stop i H1/\Fin p H1)\/(J.go i H1/\∀ x H2,J.yld i H1 x H2->g x σ1 H2 λB H3=>tt B H3 λb H4=>if b=iA then te B H4 λy H5=>∃ xs,H5 p=ip (.lst xs)/\xs.length < sizeLine/\∃ f,f < m/\W p (i+1) f B (upd H5 p (.lst (xs++[y]))) else ∃ f,f < m/\W p (i+1) f B H4))
  (RR:iu->Addr->lr->iB->Prop)
  (hRR:∀ p L H' s',Fin p H'->(∃ m,s'.heap.Ns L m)->WC X pins H' L->(∀ h',bH L s'.heap h'->Inv X pins σ H' { s' with heap:=h' })->RR (.ref p) L (.ok .next) s') :
  wpAny (model X.prog X.w) X.A (newList []) (λacc s₃=>wpAny (model X.prog X.w) X.A (newFunctionEnv scope X.env.globals (Vc X.env.cells scope.names []) [] X.env.qual iq .none (ip X.env)) (λG F=>
   codeAny (model X.prog X.w) X.A (.compStart (.ListComp elt [⟨tg,iter,ifs,0⟩] scope pos) 0 (.ref it) acc { G with scope:=relabel scope X.env }) (RR acc G.locals) F) E s₃) E s:=by
 have hfo:∀ b∈fp,b < s.heap.objs.size:=λb h=>let ⟨o,e,_⟩:=T.obj 0 _ st0 b h; aA e;have C:=I.fresh;have I3:Inv X pins σ (upd H s.heap.objs.size (.lst [])) { s with heap:=s.heap.push { cls:=.type "list",data:=.seq ([]:List iu).toArray } }:=I.lnew (t':=s.toks) (ys:=[]) (its:=[]) .nil (bE _);have O:∀ b∈fp,WC X pins (upd H s.heap.objs.size (.lst [])) b:=λb h=>⟨by rw [qF (aH (hfo b h))]; exact (hf b h).1,(hf b h).2⟩
 have st3:tn 0 (s.heap.push { cls:=.type "list",data:=.seq ([]:List iu).toArray }):=T.keep 0 _ _ st0 λb h o e=>ae _ e;refine iG (wpAny_newFunctionEnv S.nocell (λy hy=>by simp at hy) (λh₁ c a=>?_) S.kind);dsimp only at c a ⊢;generalize hs3:({ s with heap:=s.heap.push { cls:=.type "list",data:=.seq ([]:List iu).toArray } }:iB)=s3 at I3;have e3:s3.heap=s.heap.push { cls:=.type "list",data:=.seq ([]:List iu).toArray }:=by rw [<-hs3]
 rw [<-e3] at c a st3 ⊢;have keep:∀ b o,s3.heap.get? b=ip o->h₁.get? b=ip o:=λb o e=>(a.2 b (aH (aA e))).trans (ae _ e);have ho3:∀ b∈fp,b < s3.heap.objs.size:=λb h=>by rw [e3,cN]; exact fF (hfo b h)
 have J1:Inv (kj X scope N fp s3.heap.objs.size s3 (upd H s.heap.objs.size (.lst []))) [] σc (upd H s.heap.objs.size (.lst [])) { s3 with heap:=h₁,toks:=s.toks+0 }:=
  qbY I3 S O ho3 (by simpa using c) keep hl hσ
 have st4:tn 0 h₁:=T.keep 0 _ _ st3 λb h o e=>keep b o e;have loop:∀ s4:iB,s4={ s3 with heap:=h₁,toks:=s.toks+0 }->codeAny (model X.prog X.w) X.A (.compLoop (.ListComp elt [⟨tg,iter,ifs,0⟩] scope pos) 0 (.ref it) (.ref s.heap.objs.size) (compEnvC scope (Vc X.env.cells scope.names []) s3.heap.objs.size X.env)) (RR (.ref s.heap.objs.size) s3.heap.objs.size) s4:=by
  rintro s4 rfl;generalize D:kj X scope N fp s3.heap.objs.size s3 (upd H s.heap.objs.size (.lst []))=Y at J1;have eP:Y.prog=X.prog:=by rw [<-D]; rfl
  have ew:Y.w=X.w:=by rw [<-D]; rfl
  have eA:Y.A=X.A:=by rw [<-D]; rfl
  have ee:Y.env=compEnvC scope (Vc X.env.cells scope.names []) s3.heap.objs.size X.env:=by rw [<-D]; rfl
  have eK:Y.K=X.K:=by rw [<-D]; rfl
  have ec:Y.calm=true:=by rw [<-D]; exact P
  have ex:Y.xe=λ_ _=>False:=by rw [<-D]; rfl
  have hgY:PG Y tg g:=by rw [<-D]; exact hg fp _ _ _
  have htY:PTs Y ifs tt:=by rw [<-D]; exact ht fp _ _ _
  have heY:PE Y elt te:=by rw [<-D]; exact he fp _ _ _
  have t:∀ {H1:Hp},(∀ b∈fp,H1 b=iq)->∀ b∈fp,WC Y [] H1 b:=λhn b h=>by have q:=J1.ok.exf b (by rw [<-D]; exact h);refine ⟨hn b h,q.1,J1.ok.exfs b (by rw [<-D]; exact h),.inl (by rw [<-D]; exact h),q.2,λp hp=>?_⟩;rw [<-D] at hp;exact absurd (show p∈([]:List (Addr×Obj)) from hp) (by simp)
  obtain ⟨m0,hm0⟩:=w0 s.heap.objs.size C;refine JH (λn s'=>∃ i σ1 H1,Inv Y [] σ1 H1 s'/\tn i s'.heap/\(∀ b∈fp,H1 b=iq)/\W s.heap.objs.size i n σ1 H1) ?_ m0 ⟨0,σc,_,J1,st4,λb h=>(O b h).1,hm0⟩;rintro n s5 ⟨i,σ1,H1,J5,st5,fr5,w5⟩;rw [<-eP,<-ew,<-eA,<-ee];have TY:Turn Y.prog Y.w Y.K tg J fp it tn:=by rw [eP,ew,eK]; exact T
  rcases turn _ i n σ1 H1 w5 with ⟨stop,fin⟩ | ⟨go,step⟩
  ·refine thn (TY.done Y rfl rfl rfl ec i [] s5 σ1 H1 _ J5 (t fr5) st5 stop) λr s6 ⟨hr,J6⟩=>?_;subst hr;have Q:Inv (kj X scope N fp s3.heap.objs.size s3 (upd H s.heap.objs.size (.lst []))) [] σ1 H1 s6:=by rw [D]; exact J6
   exact hRR _ _ H1 s6 fin (let ⟨m,hn,_⟩:=Q.loc; ⟨m,hn⟩) (I3.fpOk (aD _) Q.free) λh' sb=>qbZ (s1:=s6) (H1:=H1) (L:=0) I3 O Q sb
  ·refine thn (TY.item Y rfl rfl rfl ec i [] s5 σ1 H1 _ J5 (t fr5) st5 go) λr s6 ⟨u,hr,h6⟩=>?_;subst hr;refine thn h6 λ_ s7 ⟨x,H7,J7,r7,y7,M,fr7⟩=>?_;have J7':=J7.pinned (t fr7) (TY.obj _ _ M);have back:∀ {l:St} {Z:Hp} {R:iB},Inv Y ([]++Vh fp s7.heap) l Z R->(∃ f,f < n/\W s.heap.objs.size (i+1) f l Z)->∃ m,m < n/\∃ i σ1 H1,Inv Y [] σ1 H1 R/\tn i R.heap/\(∀ b∈fp,H1 b=iq)/\W s.heap.objs.size i m σ1 H1:=λ{l Z R} U ⟨f,hm,w9⟩=>by refine ⟨f,hm,i+1,l,Z,U.unpinned,TY.keep _ _ _ M λb h o e=>(U.pin (b,o) (aQ _ (aQ _ (ye h e)))).1,λb h=>?_,w9⟩;obtain ⟨o,e,d⟩:=TY.obj _ _ M b h;exact (U.pin (b,o) (aQ _ (aQ _ (ye h e)))).2.1
   rw [<-ex];refine thn (hgY _ s7 σ1 H7 x u _ J7' r7 (step x H7 y7)) λ_ s8 ⟨z,H8,J8,q8⟩=>?_;refine thn (htY _ s8 z H8 _ J8 q8) λok R ⟨Z,U,q9⟩=>?_;cases ok with
   | false=>exact back U q9
   | true=>refine thn (heY _ R z Z _ U q9) λv s10 ⟨y,H10,J10,r10,xs,hx,hlen,q10⟩=>?_;exact thn (Vl _ s10 z H10 (.ref s.heap.objs.size) [y] (.ref s.heap.objs.size) [v] (λ_ H11=>∃ f,f < n/\W s.heap.objs.size (i+1) f z H11) J10 rfl (.cons r10 .nil) ⟨_,xs,y,rfl,rfl,hx,hlen,q10⟩) λ_ s11 ⟨_,H11,J11,_,q11⟩=>back J11 q11
 have e4:({ heap:=h₁,gens:=s.gens,drawn:=s.drawn,toks:=s.toks+([]:List (Str×iu)).length,os:=s.os }:iB)={ s3 with heap:=h₁,toks:=s.toks+0 }:=by rw [<-hs3]; rfl
 exact codeAny_compStart_list (loop _ e4) (T.self _ 0 _ _ _ st4 (loop _ e4))
end
noncomputable def vi (nt:Nat) (cap:List Nat) (ρ:List (Option α)):List (Option α):=aX nt iq++cap.map λk=>(ρ[k]?).getD iq
noncomputable def yO (own:List Nat):Nat->List Nat->List Nat
 | _,[]=>[]
 | n,k::cap=>if k∈own then n::yO own (n+1) cap else yO own (n+1) cap
noncomputable def ioC (nt len:Nat):List Nat:=(aK len).map (nt + ·)
noncomputable def jY (own:List Nat) (ρc:Sl):Nat->List Nat->Sl->Sl
 | _,[],ρ=>ρ
 | n,k::cap,ρ=>if k∈own then jY own ρc (n+1) cap (ρ.set k ((ρc[n]?).getD iq)) else jY own ρc (n+1) cap ρ
variable {nt:Nat} {cap:List Nat}
theorem get_cap {ρ:List (Option α)} {d:α}:(vi nt cap ρ)[i]?=ip (ip d)↔∃ j k,i=nt+j/\cap[j]?=ip k/\ρ[k]?=ip (ip d):=by
 unfold vi;constructor
 ·intro h;by_cases hi:i < nt;·rw [cy (by simpa using hi),bt] at h;split at h <;> cases h
  ·rw [bF (by simpa using hi),dt,aG] at h;cases q:cap[i - nt]? with
   | none=>rw [q] at h; cases h
   | some k=>
    rw [q] at h;have h:(ρ[k]?).getD iq=ip d:=aO.inj h;refine ⟨i - nt,k,by omega,q,?_⟩;cases a:ρ[k]? with
    | none=>rw [a] at h; cases h
    | some o=>rw [a] at h; exact congrArg ip h
 ·rintro ⟨j,k,rfl,h1,h2⟩;rw [bF (by simp),dt,aG,show nt+j - nt=j by omega,h1];simp [h2]
theorem mem_ownC {own:List Nat}:∀ {n:Nat} {cap:List Nat} {i:Nat},i∈yO own n cap↔∃ j k,i=n+j/\cap[j]?=ip k/\k∈own
 | n,[],i=>by simp [yO]
 | n,k::cap,i=>by
  have a:=@mem_ownC own (n+1) cap i;unfold yO;by_cases h:k∈own
  ·rw [if_pos h,ac,a];constructor
   ·rintro (rfl | ⟨j,k',e,h1,h2⟩);·exact ⟨0,k,rfl,rfl,h⟩
    ·exact ⟨j+1,k',by omega,by simpa using h1,h2⟩
   ·rintro ⟨j,k',e,h1,h2⟩;cases j with
    | zero=>exact .inl (by omega)
    | succ j=>exact .inr ⟨j,k',by omega,by simpa using h1,h2⟩
  ·rw [if_neg h,a];constructor;·rintro ⟨j,k',e,h1,h2⟩;exact ⟨j+1,k',by omega,by simpa using h1,h2⟩
   ·rintro ⟨j,k',e,h1,h2⟩;cases j with
    | zero=>simp at h1; subst h1; exact absurd h2 h
    | succ j=>exact ⟨j,k',by omega,by simpa using h1,h2⟩
theorem mem_ioC {len:Nat}:i∈ioC nt len↔∃ j,j < len/\i=nt+j:=by
 unfold ioC;rw [af];constructor;·rintro ⟨j,h1,h2⟩; exact ⟨j,bD.mp h1,h2.symm⟩
 ·rintro ⟨j,h1,h2⟩; exact ⟨j,bD.mpr h1,h2.symm⟩
variable {ρc:Sl}
theorem xV:∀ {n:Nat} {cap:List Nat} {ρ:Sl},(jY own ρc n cap ρ).length=ρ.length
 | _,[],_=>rfl
 | n,k::cap,ρ=>by
  unfold jY;by_cases h:k∈own;·rw [if_pos h,xV,dm]
  ·rw [if_neg h,xV]
theorem vw:∀ {n:Nat} {cap:List Nat} {ρ:Sl} {i:Nat},¬(i∈cap/\i∈own)->(jY own ρc n cap ρ)[i]?=ρ[i]?
 | _,[],_,_,_=>rfl
 | n,k::cap,ρ,i,h=>by
  unfold jY;have h':¬(i∈cap/\i∈own):=λz=>h ⟨aa _ z.1,z.2⟩;by_cases a:k∈own;·rw [if_pos a,vw h',au (λe=>h ⟨ac.mpr (.inl e.symm),by rw [<-e]; exact a⟩)]
  ·rw [if_neg a,vw h']
theorem xl:∀ {n:Nat} {cap:List Nat} {ρ:Sl} {j k:Nat} {d:D},cap.Nodup->cap[j]?=ip k->k∈own->k < ρ.length->ρc[n+j]?=ip (ip d)->(jY own ρc n cap ρ)[k]?=ip (ip d)
 | _,[],_,_,_,_,_,h,_,_,_=>by simp at h
 | n,k0::cap,ρ,0,k,d,nd,h,hk,hl,e=>by simp at h; subst h;obtain ⟨n1,n2⟩:=aL.mp nd;unfold jY;rw [if_pos hk,vw (λz=>n1 z.1),aF hl];have e:ρc[n]?=ip (ip d):=e;rw [e]; rfl
 | n,k0::cap,ρ,j+1,k,d,nd,h,hk,hl,e=>by
  obtain ⟨n1,n2⟩:=aL.mp nd;have h:cap[j]?=ip k:=by simpa using h
  have e:ρc[n+1+j]?=ip (ip d):=by rw [show n+1+j=n+(j+1) by omega]; exact e
  unfold jY;by_cases a:k0∈own;·rw [if_pos a]; exact xl n2 h hk (by rw [dm]; exact hl) e
  ·rw [if_neg a]; exact xl n2 h hk hl e
section
theorem WU {ρ:List (Option α)}:(vi nt cap ρ).length=nt+cap.length:=by simp [vi]
theorem GC {l:List Nat} (h:l.Nodup) {j k:Nat} (a:l[i]?=ip k) (b:l[j]?=ip k):i=j:=by obtain ⟨h1,e1⟩:=aB.mp a;obtain ⟨h2,e⟩:=aB.mp b;exact (fO h).mp (e1.trans e.symm)
theorem qeu (r:Rep K own F H σ ρ) (nd:cap.Nodup):Rep K (yO own nt cap) F H (vi nt cap σ) (vi nt cap ρ) where
 sub:=r.sub
 len:=by rw [WU,WU]
 val:=λi d hi e=>by obtain ⟨j,k,rfl,h1,h2⟩:=get_cap.mp e;obtain ⟨v,g1,Y⟩:=r.val k d (λz=>hi (mem_ownC.mpr ⟨j,k,rfl,h1,z⟩)) h2;exact ⟨v,get_cap.mpr ⟨j,k,rfl,h1,g1⟩,Y⟩
 ow:=λi d hi e=>by
  obtain ⟨j,k,rfl,h1,h2⟩:=get_cap.mp e;obtain ⟨f,k',m,c,h⟩:=mem_ownC.mp hi;have:j=f:=by omega
  subst this;rw [h1] at c; cases c;obtain ⟨a,g1,Y⟩:=r.ow k d h h2;exact ⟨a,get_cap.mpr ⟨j,k,rfl,h1,g1⟩,Y⟩
 opn:=λi hi=>by obtain ⟨j,k,rfl,h1,h2⟩:=mem_ownC.mp hi;obtain ⟨d,e⟩:=r.opn k h2;exact ⟨d,get_cap.mpr ⟨j,k,rfl,h1,e⟩⟩
 dis:=λi u a hi g e m=>by
  obtain ⟨j,k,rfl,h1,h2⟩:=mem_ownC.mp hi;obtain ⟨f,k',rfl,c,h⟩:=mem_ownC.mp g;obtain ⟨x,y,t,l,o⟩:=get_cap.mp e;obtain ⟨n,s,p,q,b⟩:=get_cap.mp m;have:x=j:=by omega
  subst this;have:n=f:=by omega
  subst this;rw [h1] at l; cases l;rw [c] at q; cases q;have e:=r.dis k k' a h2 h o b;subst e;rw [GC nd h1 c]
theorem GD (o:∀ i∈ioC nt cap.length,σ1[i]?=(vi nt cap σ)[i]?) (h:OA (yO own nt cap) σ1 b):OA own σ b:=by
 obtain ⟨i,hi,e⟩:=h;obtain ⟨j,k,rfl,h1,h2⟩:=mem_ownC.mp hi;rw [o _ (mem_ioC.mpr ⟨j,(aB.mp h1).1,rfl⟩)] at e;obtain ⟨x,y,a,d,q⟩:=get_cap.mp e;have:x=j:=by omega
 subst this;rw [h1] at d; cases d;exact ⟨k,h2,q⟩
theorem GE (p:Rep K own F H σ ρ) (nd:cap.Nodup) (r:Rep K (yO own nt cap) F' H' σ1 ρ1) (g:∀ i∈ioC nt cap.length,σ1[i]?=(vi nt cap σ)[i]?) (c:Chg (OA (yO own nt cap) σ1) F H F' H'):Rep K own F' H' σ (jY own ρ1 nt cap ρ) where
 sub:=r.sub
 len:=by rw [xV]; exact p.len
 val:=λi d hi e=>by rw [vw (λz=>hi z.2)] at e;obtain ⟨v,h1,h2⟩:=p.val i d hi e;exact ⟨v,h1,h2.mono c.grow⟩
 ow:=λi d hi e=>by
  by_cases q:i∈cap
  ·obtain ⟨j,G⟩:=List.getElem?_of_mem q;have m:nt+j∈yO own nt cap:=mem_ownC.mpr ⟨j,i,rfl,G,hi⟩;obtain ⟨d',h⟩:=r.opn _ m;obtain ⟨A,b⟩:=p.opn i hi;rw [xl nd G hi (aB.mp b).1 h] at e;cases e;obtain ⟨a,h1,h2⟩:=r.ow _ _ m h;rw [g _ (mem_ioC.mpr ⟨j,(aB.mp G).1,rfl⟩)] at h1;obtain ⟨x,y,w,f,l⟩:=get_cap.mp h1;have:x=j:=by omega
   subst this;rw [G] at f; cases f;exact ⟨a,l,h2⟩
  ·rw [vw (λz=>q z.1)] at e;obtain ⟨a,h1,h2,s⟩:=p.ow i d hi e;have na:¬OA (yO own nt cap) σ1 a:=λz=>by
    obtain ⟨B,n,t⟩:=z;obtain ⟨j,k,rfl,g1,Y⟩:=mem_ownC.mp n;rw [g _ (mem_ioC.mpr ⟨j,(aB.mp g1).1,rfl⟩)] at t;obtain ⟨x,y,w,f,l⟩:=get_cap.mp t;have:x=j:=by omega
    subst this;rw [g1] at f; cases f;have e:=p.dis i k a hi Y h1 l;subst e;exact q (aY g1)
   refine ⟨a,h1,?_,s.grow c.grow λo z=>c.keep a o z na⟩;cases O:F' a with
   | none=>rfl
   | some u=>
    rcases c.new a (by rw [O]; simp) with z | z | z;·exact absurd h2 z
    ·exact absurd z s.there
    ·exact absurd z na
 opn:=λi hi=>by
  by_cases q:i∈cap;·obtain ⟨j,G⟩:=List.getElem?_of_mem q;have m:nt+j∈yO own nt cap:=mem_ownC.mpr ⟨j,i,rfl,G,hi⟩;obtain ⟨d',h⟩:=r.opn _ m;obtain ⟨A,b⟩:=p.opn i hi;exact ⟨d',xl nd G hi (aB.mp b).1 h⟩
  ·rw [vw (λz=>q z.1)];exact p.opn i hi
 dis:=p.dis
end
noncomputable def xW (g:D->Sl->Out Sl) (ft:Sl->Out (Bool×Sl)) (fe:Sl->Out (D×Sl)) (d:D) (ρ:Sl):Out (Option D×Sl):=
 (g d ρ).plain.bind λρ1=>(ft ρ1).plain.bind λq=>if q.1=iA then (fe q.2).plain.bind λr=>.ok (ip r.1,r.2) else .ok (iq,q.2)
noncomputable def jP (g:D->Sl->Out Sl) (ft:Sl->Out (Bool×Sl)) (fe:Sl->Out (D×Sl)):List D->Sl->Out (List D×Sl)
 | [],ρ=>.ok ([],ρ)
 | d::ds,ρ=>(xW g ft fe d ρ).bind λp=>(jP g ft fe ds p.2).bind λq=>.ok (p.1.toList++q.1,q.2)
noncomputable def jw (own:List Nat) (nt:Nat) (cap:List Nat) (fi:Sl->Out (List D×Sl)) (g:D->Sl->Out Sl) (ft:Sl->Out (Bool×Sl)) (fe:Sl->Out (D×Sl)):Sl->Out (D×Sl):=λρ=>(fi ρ).bind λp=>
 if p.1.length<=sizeLine then (jP g ft fe p.1 (vi nt cap p.2)).bind λq=>.ok (.lst q.1,jY own q.2 nt cap p.2) else .bad
noncomputable def ctC (C:Ct) (nt len:Nat):Ct:=⟨C.K,C.cv,λ_ _ _=>False,ioC nt len,.sh,[],[],λ_ h=>absurd h (by simp)⟩
noncomputable def ftT:Sl->Out (Bool×Sl):=λρ=>.ok (iA,ρ)
theorem jm:PTs Y [] (tT C own ftT):=⟨λpins s σ H Q I ⟨F,ρ,a,h⟩=>qet pins s σ H Q I (h F H a .refl)⟩
structure CW (C:Ct) (own:List Nat) (nt:Nat) (cap:List Nat) (σ:St) (F H F0:Hp) (g:D->Sl->Out Sl) (ft:Sl->Out (Bool×Sl)) (fe:Sl->Out (D×Sl)) (ds ys:List D) (ρe:Sl) (p:Addr) (i:Nat) (σ1:St) (H1:Hp) (F1:Hp) (ρi:Sl) (accD:List D) (xs:List V) (rest:List D):Prop where
 rep:Rep C.K (yO own nt cap) F1 H1 σ1 ρi
 io:∀ i∈ioC nt cap.length,σ1[i]?=(vi nt cap σ)[i]?
 chg:Chg (OA (yO own nt cap) σ1) F H F1 H1
 gr:Same F0 F1
 at_:H1 p=ip (.lst xs)
 nF:F1 p=iq
 is:IsL C.K F1 xs accD
 le:accD.length<=i
 run:jP g ft fe (ds.drop i) ρi=.ok (rest,ρe)
 all:accD++rest=ys
variable {ρe:Sl}
theorem Zb {rest:List D} (h:jP g ft fe (d::ds) ρ=.ok (rest,ρe)):∃ ρ1,g d ρ=.ok ρ1/\∃ b ρ2,ft ρ1=.ok (b,ρ2)/\((b=iA/\∃ y k r,fe ρ2=.ok (y,k)/\jP g ft fe ds k=.ok (r,ρe)/\rest=y::r)\/(b=iw/\jP g ft fe ds ρ2=.ok (rest,ρe))):=by
 unfold jP xW at h;cases e:g d ρ with
 | exc c=>rw [e] at h; cases h
 | bad=>rw [e] at h; cases h
 | ok ρ1=>
  rw [e] at h;refine ⟨ρ1,rfl,?_⟩;simp only [Out.plain,Out.oj] at h;cases a:ft ρ1 with
  | exc c=>rw [a] at h; cases h
  | bad=>rw [a] at h; cases h
  | ok p=>
   obtain ⟨b,ρ2⟩:=p;rw [a] at h;refine ⟨b,ρ2,rfl,?_⟩;simp only [Out.plain,Out.oj] at h;cases b with
   | true=>
    refine .inl ⟨rfl,?_⟩;simp only [if_true] at h;cases q:fe ρ2 with
    | exc c=>rw [q] at h; cases h
    | bad=>rw [q] at h; cases h
    | ok p=>
     obtain ⟨y,k⟩:=p;rw [q] at h;simp only [Out.plain,Out.oj] at h;cases i:jP g ft fe ds k with
     | exc c=>rw [i] at h; cases h
     | bad=>rw [i] at h; cases h
     | ok p=>obtain ⟨r,B⟩:=p;rw [i] at h;simp only [Out.oj] at h;cases h;exact ⟨y,k,r,rfl,i,rfl⟩
   | false=>
    refine .inr ⟨rfl,?_⟩;simp only [Bool.false_eq_true,if_false,Out.oj] at h;cases i:jP g ft fe ds ρ2 with
    | exc c=>rw [i] at h; cases h
    | bad=>rw [i] at h; cases h
    | ok p=>obtain ⟨r,B⟩:=p;rw [i] at h;simp only [Out.oj] at h;cases h;rfl
section
variable {elt:Expr} {me:Mo}
structure CapOk (X:Cx) (scope:j7) (N:List Str) (nt:Nat) (cap:List Nat):Prop where
 nd:cap.Nodup
 len:N.length=nt+cap.length
 at_:∀ (j k:Nat),cap[j]?=ip k->∃ x,N[nt+j]?=ip x/\X.N[k]?=ip x/\((Vis X.env.scope x/\(x,bB)∈scope.names)\/∀ k',(x,k')∉scope.names)
theorem VA {F:Hp} {ρ1:Sl} {it:Addr} {fp:List Addr} {tn:Nat->Heap->Prop} {J:It} {E:iu->iB->Prop} {ds ys:List D} {ρe:Sl} (I:Inv X pins σ H s) (W:X.calm=iA) (S:ScOk X scope) (CO:CapOk X scope N nt cap)
  (T:Turn X.prog X.w X.K tg J fp it tn) (st0:tn 0 s.heap) (hf:∀ b∈fp,WC X pins H b) (rp:Rep C.K own F H σ ρ1) (O:ItIs C.K F J ds) (hz:ds.length<=sizeLine)
  (hg:∀ fp L s' H',PG (kj X scope N fp L s' H') tg (tGd (ctC C nt cap.length) (yO own nt cap) g)) (ht:∀ fp L s' H',PTs (kj X scope N fp L s' H') ifs (tT (ctC C nt cap.length) (yO own nt cap) ft))
  (he:∀ fp L s' H',PE (kj X scope N fp L s' H') elt (tE (ctC C nt cap.length) (yO own nt cap) me fe)) (hme:me≠.any)
  (hrun:jP g ft fe ds (vi nt cap ρ1)=.ok (ys,ρe)) (RR:iu->Addr->lr->iB->Prop)
  (hRR:∀ p L s' F' H',H p=iq->Rep C.K own F' H' σ (jY own ρe nt cap ρ1)->Chg (OA own σ) F H F' H'->F' p=iq->OwnIs C.K F' H' p (.lst ys)->(∃ m,s'.heap.Ns L m)->WC X pins H' L->(∀ h',bH L s'.heap h'->Inv X pins σ H' { s' with heap:=h' })->RR (.ref p) L (.ok .next) s') :
  wpAny (model X.prog X.w) X.A (newList []) (λacc s₃=>wpAny (model X.prog X.w) X.A (newFunctionEnv scope X.env.globals (Vc X.env.cells scope.names []) [] X.env.qual iq .none (ip X.env)) (λG s₄=>
   codeAny (model X.prog X.w) X.A (.compStart (.ListComp elt [⟨tg,iter,ifs,0⟩] scope pos) 0 (.ref it) acc { G with scope:=relabel scope X.env }) (RR acc G.locals) s₄) E s₃) E s:=by
 have oaH:∀ {σ1:St} {b:Addr},(∀ i∈ioC nt cap.length,σ1[i]?=(vi nt cap σ)[i]?)->OA (yO own nt cap) σ1 b->H b≠none:=λU z=>(rp.OA_there (GD U z)).1;refine qb0 (σc:=vi nt cap σ) I W S T st0 hf hg ht (λfp L s' H'=>yy (he fp L s' H') hme) (by rw [WU,CO.len]) (λj x v e1 e2 e3=>?_)
  (λp i m σ1 H1=>H p=iq/\m=ds.length - i/\i<=ds.length/\∃ F1 ρi accD xs rest,CW C own nt cap σ F H F g ft fe ds ys ρe p i σ1 H1 F1 ρi accD xs rest)
  (λp H1=>H p=iq/\∃ σ1 F1 xs,Rep C.K (yO own nt cap) F1 H1 σ1 ρe/\(∀ i∈ioC nt cap.length,σ1[i]?=(vi nt cap σ)[i]?)/\Chg (OA (yO own nt cap) σ1) F H F1 H1/\H1 p=ip (.lst xs)/\F1 p=iq/\IsL C.K F1 xs ys) (λp hp=>?_) ?_ RR ?_
 ·obtain ⟨j',k,rfl,h1,h2⟩:=get_cap.mp e2;obtain ⟨y,g1,g2,g3⟩:=CO.at_ j' k h1;rw [g1] at e1; cases e1;obtain ⟨k',hk'⟩:=e3;rcases g3 with ⟨g3,g4⟩ | g3;·exact ⟨k,g2,h2,g3,g4⟩
  ·exact absurd hk' (g3 k')
 ·obtain ⟨r1,c1,hF⟩:=Gv (C:=C) (u:=.lst []) (qeu (nt:=nt) rp CO.nd) hp;exact ⟨ds.length,hp,by simp,bE _,F,vi nt cap ρ1,[],[],ys,r1,λ_ _=>rfl,c1.ofNo,Same.refl _,qu,hF,.nil,aD _,by simpa using hrun,rfl⟩
 ·rintro p i m σ1 H1 ⟨hp,rfl,hle,F1,ρi,accD,xs,rest,w⟩;by_cases t:i < ds.length
  ·have hd:ds.drop i=ds[i]::ds.drop (i+1):=dL t;have run:=w.run;rw [hd] at run;obtain ⟨ρa,ea,b,Z,eb,R⟩:=Zb run;have sub1:Same F H1:=w.gr.trans w.rep.sub;refine .inr ⟨O.go i H1 t sub1,λx H2 y=>?_⟩;obtain ⟨F2,c2,s2,is2⟩:=O.yld i F1 H1 x H2 ds[i] (by simp [t]) w.gr w.rep.sub y;have rp2:=w.rep.grow c2 s2;have M:∀ {Y:St},(∀ i∈ioC nt cap.length,Y[i]?=(vi nt cap σ)[i]?)->¬OA (yO own nt cap) Y p:=λU z=>oaH U z hp;have P:∀ {A:Addr->Prop} {Fa Ha Fb Hb:Hp} {zs:List V},Chg A Fa Ha Fb Hb->¬A p->Ha p=ip (.lst zs)->Fa p=iq->Hb p=ip (.lst zs)/\Fb p=none:=λ{A Fa Ha Fb Hb zs} c na e1 e2=>by
    refine ⟨c.keep p _ e1 na,?_⟩;cases q:Fb p with
    | none=>rfl
    | some u=>
     rcases c.new p (by rw [q]; simp) with z | z | z;·exact absurd e2 z
     ·rw [e1] at z; cases z
     ·exact absurd z na
   obtain ⟨at2,nF2⟩:=P c2 (λz=>z) w.at_ w.nF;refine ⟨F2,ρi,ds[i],rp2,is2,ρa,ea,λl rp3 oa3 io3=>?_⟩;have f:∀ i∈ioC nt cap.length,l[i]?=(vi nt cap σ)[i]?:=λi hi=>(io3 i hi).trans (w.io i hi);refine ⟨F2,ρa,rp3,?_⟩;rw [eb];intro F4 H4 rp4 c4;obtain ⟨at4,nF4⟩:=P c4 (M f) at2 nF2;have B:Chg (OA (yO own nt cap) l) F H F4 H4:=by
    have q1:Chg (OA own σ) F H F1 H1:=w.chg.mono λb z=>GD w.io z;have mv:∀ {b},OA (yO own nt cap) σ1 b->OA (yO own nt cap) l b:=λ{b} z=>by obtain ⟨i',hi',e'⟩:=z;obtain ⟨j,k,rfl,g1,g2⟩:=mem_ownC.mp hi';have hm:nt+j∈ioC nt cap.length:=mem_ioC.mpr ⟨j,(aB.mp g1).1,rfl⟩;exact ⟨nt+j,hi',by rw [f _ hm,<-w.io _ hm]; exact e'⟩
    exact ((w.chg.mono λb z=>mv z).trans' c2.ofNo).trans' c4
   have gr4:Same F F4:=(w.gr.trans c2.grow).trans c4.grow;have Q:IsL C.K F4 xs accD:=(w.is.mono c2.grow).mono c4.grow;rcases R with ⟨rfl,y',ρc,r,ec,er,hr⟩ | ⟨rfl,er⟩
   ·rw [if_pos rfl];refine ⟨F4,Z,rp4,?_⟩;rw [ec];intro v F5 H5 h c5 mo5;obtain ⟨at5,nF5⟩:=P c5 (M f) at4 nF4;have hlen:xs.length=accD.length:=Q.length;refine ⟨xs,at5,by have:=w.le; omega,ds.length - (i+1),by omega,hp,rfl,t,F5,ρc,accD++[y'],xs++[v],r,?_⟩;have cp:Chg (λb=>b=p) F5 H5 F5 (upd H5 p (.lst (xs++[v]))):=⟨λb o e n=>by rw [qF n]; exact e,λb e=>by
     by_cases q:b=p;·rw [q,qu]; simp
     ·rw [qF q]; exact e,Same.refl _,λb e=>.inl e⟩
    have sb5:Same F5 (upd H5 p (.lst (xs++[v]))):=λb o e=>by rw [qF (qM e nF5)]; exact h.sub b o e
    have rp6:Rep C.K (yO own nt cap) F5 (upd H5 p (.lst (xs++[v]))) l ρc:=by
     refine ⟨sb5,h.len,h.val,λi d hi e=>?_,h.opn,h.dis⟩;obtain ⟨a,h1,h2,h3⟩:=h.ow i d hi e;have na:a≠p:=λz=>by subst z; exact M f ⟨i,hi,h1⟩
     exact ⟨a,h1,h2,h3.grow (Same.refl _) λo z=>by rw [qF na]; exact z⟩
    refine ⟨rp6,f,?_,(gr4.trans c5.grow),qu,nF5,(Q.mono c5.grow).append (.cons mo5 .nil),by simp only [ah,ap,bf]; have:=w.le; omega,er,?_⟩;·exact (B.trans' c5).trans cp λb z=>.inr (by rw [z]; exact hp)
    ·rw [aS,<-w.all,hr]; rfl
   ·rw [if_neg bz];exact ⟨ds.length - (i+1),by omega,hp,rfl,t,F4,Z,accD,xs,rest,rp4,f,B,gr4,at4,nF4,Q,by have:=w.le; omega,er,w.all⟩
  ·have e:i=ds.length:=by omega
   subst e;have run:=w.run;rw [List.drop_length] at run;unfold jP at run;cases run;have ha:=w.all;rw [bi] at ha;subst ha;exact .inl ⟨O.stop _ H1 (aD _) (w.gr.trans w.rep.sub),hp,σ1,F1,xs,w.rep,w.io,w.chg,w.at_,w.nF,w.is⟩
 ·rintro p L H' s' ⟨hp,σ1,F1,xs,r1,io1,c1,e1,n1,is1⟩ hns hfp hinv;exact hRR p L s' F1 H' hp (GE rp CO.nd r1 io1 c1) (c1.mono λb z=>GD io1 z) n1 ⟨xs,e1,is1⟩ hns hfp hinv
theorem WV:∀ (ds:List D) (ρ:Sl) (c:Str) (o:Sl),jP g ft fe ds ρ≠.exc c o:=by
 intro ds
 induction ds with
 | nil=>intro ρ c o z; cases z
 | cons d ds j=>
  intro ρ c o z;unfold jP xW at z;cases b:g d ρ with
  | exc c=>rw [b] at z; cases z
  | bad=>rw [b] at z; cases z
  | ok ρ1=>
   rw [b] at z;simp only [Out.plain,Out.oj] at z;cases a:ft ρ1 with
   | exc c=>rw [a] at z; cases z
   | bad=>rw [a] at z; cases z
   | ok p=>
    rw [a] at z;simp only [Out.plain,Out.oj] at z;by_cases h:p.1=iA
    ·rw [if_pos h] at z;cases q:fe p.2 with
     | exc c=>rw [q] at z; cases z
     | bad=>rw [q] at z; cases z
     | ok r=>
      rw [q] at z;simp only [Out.plain,Out.oj] at z;cases i:jP g ft fe ds r.2 with
      | exc c=>exact j _ _ _ i
      | bad=>rw [i] at z; cases z
      | ok t=>rw [i] at z; cases z
    ·rw [if_neg h] at z;simp only [Out.oj] at z;cases i:jP g ft fe ds p.2 with
     | exc c=>exact j _ _ _ i
     | bad=>rw [i] at z; cases z
     | ok t=>rw [i] at z; cases z
theorem VB {α:Type} {Z:Out (D×Sl)->Prop} (r:Rep C.K own F H σ ρ) (b:¬Z .bad) (hx:∀ c ρ',Z (.exc c ρ')->∀ F' H',Same F' H'->ZI C.K C.ox F' H' σ ρ'->Chg (OA own σ) F H F' H'->C.E (C.cv c) iq H') (h:Z (jw own nt cap fi g ft fe ρ)):tIt C own fi σ H λJ H1=>∃ ds ρ1 ys ρe F1,ds.length<=sizeLine/\jP g ft fe ds (vi nt cap ρ1)=.ok (ys,ρe)/\Rep C.K own F1 H1 σ ρ1/\Chg (OA own σ) F H F1 H1/\ItIs C.K F1 J ds/\Z (.ok (.lst ys,jY own ρe nt cap ρ1)):=by
 refine ⟨F,ρ,r,?_⟩;unfold jw at h;cases q:fi ρ with
 | exc c=>rw [q] at h; exact hx c _ h
 | bad=>rw [q] at h; exact (b h).elim
 | ok p=>
  obtain ⟨ds,ρ1⟩:=p;rw [q] at h;have h:Z (if ds.length<=sizeLine then (jP g ft fe ds (vi nt cap ρ1)).bind λq=>.ok (.lst q.1,jY own q.2 nt cap ρ1) else .bad):=h;by_cases z:ds.length<=sizeLine
  ·rw [if_pos z] at h;cases d:jP g ft fe ds (vi nt cap ρ1) with
   | exc c=>exact absurd d (WV _ _ _ _)
   | bad=>rw [d] at h; exact (b h).elim
   | ok p=>obtain ⟨ys,ρe⟩:=p;rw [d] at h;exact λJ F1 H1 a k it=>⟨ds,ρ1,ys,ρe,F1,z,d,a,k,it,h⟩
  ·rw [if_neg z] at h; exact (b h).elim
theorem jQ (P:X.calm=iA) (S:ScOk X scope) (V:CapOk X scope N nt cap) (hi:PI X tg iter (tIt C own fi))
  (hg:∀ fp L s' H',PG (kj X scope N fp L s' H') tg (tGd (ctC C nt cap.length) (yO own nt cap) g)) (B:∀ fp L s' H',PTs (kj X scope N fp L s' H') ifs (tT (ctC C nt cap.length) (yO own nt cap) ft))
  (M:∀ fp L s' H',PE (kj X scope N fp L s' H') elt (tE (ctC C nt cap.length) (yO own nt cap) me fe)) (i:me≠.any:=by decide) (D:∀ x,foldedSetIterable iter X.env x=pure x:=by intro _; rfl) :
  PE X (.ListComp elt [⟨tg,iter,ifs,0⟩] scope pos) (tE C own .fr (jw own nt cap fi g ft fe)):=by
 refine ⟨?_⟩;intro pins s σ H Q I ⟨F,ρ,l,h⟩;rw [eval_ListComp];have n:=VB (α:=Unit) (Z:=λr=>Po C own .fr σ F H r Q) l (λz=>z) (λc _ z=>z) h;refine wpAny_comprehension_free (use:=iq) rfl D (Ja (gL I S)) S.kind S.names (thn (hi pins s σ H _ I n) λY s1 h1=>thn h1 λt s2 h2=>?_);obtain ⟨it,fp,tn,J,H2,e,R,T,K,f2,ds,ρ1,ys,ρe,F1,y,a,b,k,O,po⟩:=h2;subst e;refine VA (RR:=λacc W=>compPost (model X.prog X.w) X.A X.xe iq (EP X pins σ Q) acc W) R P S V T K f2 b O y hg B M i a λp L s' F' H' hp d U nF o f G v=>?_;obtain ⟨m,E⟩:=f;refine ⟨m,E,λh' j=>⟨.ref p,H',v h' j,rfl,?_⟩⟩;refine po (.ref p) F' H' d (k.trans' U) ⟨p,rfl,?_,nF,o⟩;cases q:H p with
 | none=>rfl
 | some u=>exact absurd hp (k.stay p (by rw [q]; simp))
theorem xm {pos' d:Pos} (hN:X.N.Nodup) (W:X.N[i]?=ip x) (hx:Loc X.env.scope x) (P:X.calm=iA) (S:ScOk X scope) (CO:CapOk X scope N nt cap) (hi:PI X tg iter (tIt C own fi))
  (hg:∀ fp L s' H',PG (kj X scope N fp L s' H') tg (tGd (ctC C nt cap.length) (yO own nt cap) g)) (ht:∀ fp L s' H',PTs (kj X scope N fp L s' H') ifs (tT (ctC C nt cap.length) (yO own nt cap) ft))
  (he:∀ fp L s' H',PE (kj X scope N fp L s' H') elt (tE (ctC C nt cap.length) (yO own nt cap) me fe)) (R:me≠.any:=by decide) (Y:i∉C.io:=by exact Yk rfl)
  (G:swapsWith (.ListComp elt [⟨tg,iter,ifs,0⟩] scope pos) (ip (.Name x pos')) d.line X.env=pure true:=by rfl) (hs:∀ x,foldedSetIterable iter X.env x=pure x:=by intro _; rfl)
  (hfx:X.fn x=iA\/X.env.scope.names.lookup x=ip .local:=by first | exact .inl rfl | exact .inr rfl) :
  PS X (.Assign [.Name x pos'] (.ListComp elt [⟨tg,iter,ifs,0⟩] scope pos) d) (tSt C own (i::uy own [i]) (jz i (jw own nt cap fi g ft fe))):=by
 refine ⟨?_⟩;intro pins s σ H D I ⟨F,ρ,rp,h⟩;rw [exec_Assign_Name_used _ _ _ _ G];refine ir (wpAny_standAt (ir ?_));show wpAny _ X.A (do let _ <-comprehension (.ListComp elt [⟨tg,iter,ifs,0⟩] scope pos) scope X.env _ (newList []) iw (eval iter X.env) (ip (assign (.Name x pos') X.env))) _ _ s;have n:=VB (α:=Unit) (Z:=λr=>PoS C own (i::uy own [i]) σ F H (r.bind λp=>if i < p.2.length then .ok (.nx,p.2.set i (ip p.1)) else .bad) D) rp (λz=>z) (λc _ z=>z) h;refine ir (iU (wpAny_comprehension_free (use:=ip (assign (.Name x pos') X.env)) (Q:=λ_ s'=>SP X pins D .next s') rfl hs (Ja (gL I S)) S.kind S.names (thn (hi pins s σ H _ I n) λxv s1 h1=>thn h1 λitv s2 h2=>?_)) (λ_ s' hq=>iC (iC hq)) λ_ _ e=>e);obtain ⟨it,fp,tn,J,H2,e,I2,T,K,f2,ds,ρ1,ys,ρe,F1,hz,k,B,c1,O,po⟩:=h2;subst e;refine VA (RR:=λacc C'=>compPost (model X.prog X.w) X.A X.xe (ip (assign (.Name x pos') X.env)) (λ_ s'=>SP X pins D .next s') acc C') I2 P S CO T K f2 B O hz hg ht he R k λp L s' F' H' hp f c' nF o M hfp l=>?_;obtain ⟨m,hn⟩:=M;have I3:Inv X pins σ H' s':=by simpa using l s'.heap (.refl ..)
 have hH:H p=none:=by
  cases q:H p with
  | none=>rfl
  | some u=>exact absurd hp (c1.stay p (by rw [q]; simp))
 show wpAny _ X.A (assign (.Name x pos') X.env (.ref p)) _ _ s';refine wpAny_assign_Name (Vg I3 hN W hx (v:=.ref p) rfl (λs4 I4 ⟨a,t,ha⟩=>?_) hfx);obtain ⟨f0,f1,f2',f3,f4,f5⟩:=hfp;have nL:L≠a:=by
  rcases ha with z | z;·rw [z]; exact f1
  ·exact λq=>f4 x a z q.symm
 refine ⟨m,hn.sameBut t nL,λh' sb=>?_⟩;have I5:Inv X pins (σ.set i (ip (.ref p))) H' { s4 with heap:=h' }:=by have:=I4.turned (h':=h') (t':=s4.toks) (it:=L) (λb o hb e=>(sb.2 b hb).trans e) f0 f1 f3 f4 f5;exact this
 refine ⟨_,H',I5,?_⟩;have po:PoS C own (i::uy own [i]) σ F H (if i < (jY own ρe nt cap ρ1).length then .ok (.nx,(jY own ρe nt cap ρ1).set i (ip (.lst ys))) else .bad) D:=po;by_cases z:i < (jY own ρe nt cap ρ1).length
 ·rw [if_pos z] at po;refine po _ F' H' ⟨f.putO z nF (λy=>(rp.OA_there y).1 hH) o,c1.trans' c',λb y=>?_,λj V=>au λy=>Y (by rw [y]; exact V)⟩;obtain ⟨j,V,e⟩:=y;by_cases E:j=i;·subst E;rw [aF (by rw [f.len]; exact z)] at e;cases e;exact .inr hH
  ·have U:=(jk j).mp ((ac.mp V).resolve_left E);rw [au (bh E)] at e;exact .inl ⟨j,U.1,e⟩
 ·rw [if_neg z] at po; exact po.elim
end
def Fly (h:Heap) (ex T:Addr) (cls:iu):Prop:=∃ o vs a ts,h.get? ex=ip o/\o.cls=cls/\o.data=.fields vs/\vs[1]?=ip (.ref T)/\T≠ex/\h.get? T=ip a/\a.data=.fields ts/\ts[3]?=ip .none
def CXk (P:iE) (w:iF):CXT:=λouter H s E e s'=>∃ ex T C H',e=.ref ex/\s'.os=s.os/\k9 s'.gens/\Un (frs outer) [] H H' s.heap s'.heap/\HOk P w H' s'.heap/\Fly s'.heap ex T (.ref C)/\H' ex=iq/\H' T=iq/\s.heap.get? ex=iq/\s.heap.get? T=iq/\E (.ref C) iq H'
def InB (X:Cx) (H:Hp) (s:iB) (ex:Addr) (cls:iu):Prop:=H ex=iq/\X.s₀.heap.get? ex=iq /\
 ((∃ o vs,s.heap.get? ex=ip o/\o.cls=cls/\o.data=.fields vs/\vs[1]?=ip .none)\/∃ T,Fly s.heap ex T cls/\H T=iq/\X.s₀.heap.get? T=iq)
variable {ex:Addr} {T0:Option Addr} {h2:Heap}
section
variable {cls:iu}
theorem InB.dat (h:InB X H s ex cls):∃ o vs,s.heap.get? ex=ip o/\o.cls=cls/\o.data=.fields vs:=by
 rcases h.2.2 with ⟨o,vs,a,b,c,_⟩ | ⟨T,⟨o,vs,d,ts,a,b,c,_⟩,_⟩
 ·exact ⟨o,vs,a,b,c⟩
 ·exact ⟨o,vs,a,b,c⟩
noncomputable def xn (ex:Addr) (T:Option Addr) (X:Cx):List Addr:=ex::(T.toList++frs X.stack)
theorem xo (I:Inv X pins σ H s) (d:b∈frs X.stack):∃ o,s.heap.get? b=ip o/\∀ vs,o.data≠.fields vs:=(I.stack.mem d).2
theorem VC (c:X.stack=X.env::X.outer):∀ env∈X.stack,∀ b,env.frame=ip b->b∈frs X.stack:=λenv i b d=>dh.mpr ⟨env,i,d⟩
structure Gone (X:Cx) (H:Hp) (s:iB) (ex:Addr) (cls:iu) (h2:Heap):Prop where
 keep:∀ b o,s.heap.get? b=ip o->H b≠iq\/(X.s₀.heap.get? b≠iq/\b∉frs X.stack)->h2.get? b=ip o
 slot:∀ b o,s.heap.get? b=ip o->b∈frs X.stack->∃ sl,h2.get? b=ip { o with slots:=sl }
 ok:HOk X.prog X.w H h2
 un:Un (frs X.stack) [] H H s.heap h2\/True
theorem GF {h2:Heap} (I:Inv X pins σ H s) (hex:H ex=iq) (hT:∀ T,T0=ip T->H T=iq) (n1:X.s₀.heap.get? ex=iq) (n2:∀ T,T0=ip T->X.s₀.heap.get? T=iq)
  (st:(bj s.heap (xn ex T0 X)).StaysIn h2) (sl:∀ b o,s.heap.get? b=ip o->(∀ vs,o.data≠.fields vs)->∃ sl,h2.get? b=ip { o with slots:=sl }):Gone X H s ex cls h2:=by
 have keep:∀ b o,s.heap.get? b=ip o->b≠ex->(∀ T,T0=ip T->b≠T)->b∉frs X.stack->h2.get? b=ip o:=λb o e h1 h2 j=>st b o (c7 _ e λm=>by
  rcases ac.mp m with q | m;·exact h1 q
  ·rcases aj.mp m with q | q;·exact h2 b (Option.mem_toList.mp q) rfl
   ·exact j q)
 have k1:∀ b o,s.heap.get? b=ip o->H b≠iq->h2.get? b=ip o:=λb o e n=>keep b o e (λq=>n (by rw [q]; exact hex)) (λT h q=>n (by rw [q]; exact hT T h)) λq=>n (I.stkFree b q);refine ⟨λb o e d=>?_,λb o e d=>?_,λb u e=>?_,.inr trivial⟩
 ·rcases d with d | ⟨d,hf⟩
  ·exact k1 b o e d
  ·exact keep b o e (λq=>d (by rw [q]; exact n1)) (λT h q=>d (by rw [q]; exact n2 T h)) hf
 ·obtain ⟨o',a,y⟩:=xo I d;rw [e] at a; cases a;exact sl b o e y
 ·refine (I.hok b u e).stay (λc v f q=>k1 c v q ?_) (λ_ q=>q) λ_ _ q=>q;rcases f with z | z;·rw [z,e]; simp
  ·rw [z]; simp
theorem VD (I:Inv X pins σ H s) (hT:∀ T,T0=ip T->H T=iq) (n2:∀ T,T0=ip T->X.s₀.heap.get? T=iq) (g:Gone X H s ex cls h2) (c:X.ex=[])
  (tr:h2.Traced (bj s.heap (xn ex T0 X)) ex cls):∃ T,Fly h2 ex T cls/\H T=iq/\X.s₀.heap.get? T=none:=by
 obtain ⟨t,vs,T,w,ts,K,J,G,E,p,l,k,j,D⟩:=tr;have a:∀ o,s.heap.get? T=ip o->(∃ q,T0=ip q/\T=q):=λo e=>by
  have m:T∈xn ex T0 X:=by refine bK λA=>?_;rw [c7 _ e A] at p;cases p
  rcases ac.mp m with q | m;·exact absurd q l
  ·rcases aj.mp m with q | q;·exact ⟨T,Option.mem_toList.mp q,rfl⟩
   ·obtain ⟨o',d,x⟩:=xo I q;obtain ⟨sl,i⟩:=g.slot T o' d q;rw [k] at i;cases i;exact absurd j (x ts)
 refine ⟨T,⟨t,vs,w,ts,K,J,G,E,l,k,j,D⟩,?_,?_⟩
 ·cases q:H T with
  | none=>rfl
  | some u=>
   have B:=I.hok.lt q;obtain ⟨o,e⟩:∃ o,s.heap.get? T=ip o:=by
    have:=(I.hok T u q)
    have st:=this.stay (H':=H) (h':=s.heap) (λb v _ z=>z) (λ_ z=>z) λ_ _ z=>z;cases z:s.heap.get? T with
    | some o=>exact ⟨o,rfl⟩
    | none=>
     exfalso;cases u with
     | lst xs=>obtain ⟨_,_,_,_,e⟩:=st; rw [z] at e; cases e
     | tup xs=>obtain ⟨_,_,_,_,e,_⟩:=st; rw [z] at e; cases e
     | dK kvs=>obtain ⟨_,_,_,_,o,_,_,e,_⟩:=st; rw [z] at e; cases e
     | dT kvs=>obtain ⟨_,_,_,_,o,_,_,e,_⟩:=st; rw [z] at e; cases e
     | set S n=>obtain ⟨o,_,_,_,e,_⟩:=st; rw [z] at e; cases e
     | ins C dx fs=>obtain ⟨_,_,_,e,_⟩:=st; rw [z] at e; cases e
     | own y=>obtain ⟨_,e⟩:=st; rw [z] at e; cases e
     | xd fs=>obtain ⟨_,⟨_,_,_,e,_⟩,_⟩:=st; rw [z] at e; cases e
     | rng lo hi=>obtain ⟨_,_,_,e⟩:=st; rw [z] at e; cases e
     | frz L u=>obtain ⟨e,_⟩:=st; rw [z] at e; cases e
     | tbl ps=>have e:s.heap.get? T=ip _:=st; rw [z] at e; cases e
     | met f y=>have e:s.heap.get? T=ip _:=st; rw [z] at e; cases e
     | ext φ=>obtain ⟨_,⟨_,e⟩,_⟩:=st; rw [z] at e; cases e
   obtain ⟨r,h,rfl⟩:=a o e;rw [hT _ h] at q; cases q
 ·cases q:X.s₀.heap.get? T with
  | none=>rfl
  | some o=>obtain ⟨o',d⟩:=I.base.there T o q (by rw [c]; simp);obtain ⟨r,h,rfl⟩:=a o' d;rw [n2 _ h] at q; cases q
theorem Zc {E:iu->iB->Prop} {Q:Unit->iB->Prop} (I:Inv X pins σ H s) (h:X.stack=X.env::X.outer) (r:X.env.frame=ip X.env.locals) (c:X.ex=[]) (x:InB X H s ex cls)
  (k:∀ h2 T,Gone X H s ex cls h2->Fly h2 ex T cls->H T=iq->X.s₀.heap.get? T=iq->Q () { s with heap:=h2 }):wpAny (model X.prog X.w) X.A (leaving X.env (.ref ex)) Q E s:=by
 obtain ⟨hex,n1,hx⟩:=x;have F:X.A.frames=ip (X.env::X.outer):=by rw [I.ok.frames,h]
 have B:∀ as,(bj s.heap as).StaysIn s.heap:=λas b o e=>dX as e;have hl:∀ T0,s.heap.FunFrames (bj s.heap (xn ex T0 X)) (X.env::X.outer):=λT0=>by rw [<-h];exact PySem.W.funFrames_hide I.stack λenv v b C=>aa _ (aQ _ (VC h env v b C))
 have q:∀ T0,(bj s.heap (xn ex T0 X)).get? ex=none:=λT0=>cS _ (ac.mpr (.inl rfl));rcases hx with ⟨m,vs,p,j,i,y⟩ | ⟨T,⟨m,vs,u,ts,p,j,i,y,K,J,G,D⟩,hT,n2⟩
 ·refine wpAny_leaving_first (base:=bj s.heap (xn ex iq X)) F (hl iq) r p (B _) (q iq) i y λh2 ⟨st,_,tr,sl⟩=>?_;have g:Gone X H s ex cls h2:=GF I hex (T0:=iq) (λ_ z=>nomatch z) n1 (λ_ z=>nomatch z) st sl;rw [j] at tr;obtain ⟨l,f1,f2,f⟩:=VD I (T0:=iq) (λ_ z=>nomatch z) (λ_ z=>nomatch z) g c tr;exact k h2 l g f1 f2 f
 ·have d:∀ a,ip T=ip a->H a=none:=λa z=>by cases z; exact hT
  have n:∀ a,ip T=ip a->X.s₀.heap.get? a=none:=λa z=>by cases z; exact n2
  have t:s.heap.Traced (bj s.heap (xn ex (ip T) X)) ex cls:=⟨m,vs,T,u,ts,p,j,i,y,cS _ (aa _ (bW _ (by simp))),K,J,G,D⟩
  refine wpAny_leaving_next (base:=bj s.heap (xn ex (ip T) X)) F (hl (ip T)) r t (B _) (q _) λh2 ⟨st,_,tr,sl⟩=>?_;have g:Gone X H s ex cls h2:=GF I hex d n1 n st sl;obtain ⟨l,f1,f2,f⟩:=VD I d n g c tr;exact k h2 l g f1 f2 f
end
variable {A:iH} {P:iE} {w:iF} {mg:Str->Option iu} {base h:Heap} {qual:Str} {outer:List Env} {s0:iB}
section
variable {f:Addr} {cd:iu} {E:XK}
abbrev cxk (P:iE) (w:iF) (K:Frag) (mg:Str->Option iu) (base:Heap) (N:List Str) (qual:Str) (scope:j7) (f:Addr) (cd:iu) (A:iH) (outer:List Env) (s0:iB) (H0:Hp) (E:XK):Cx:=qd8 (CXk P w) P w K mg base N qual scope f cd A outer s0 H0 E
theorem qgw {C:Addr} (I:Inv (cxk P w K mg base N qual scope f cd A outer s0 H0 E) pins σ H s) (x:InB (cxk P w K mg base N qual scope f cd A outer s0 H0 E) H s ex (.ref C)) (k:E (.ref C) iq H):(cxk P w K mg base N qual scope f cd A outer s0 H0 E).xe (.ref ex) s:=by
 refine Zc I rfl rfl rfl x λh2 T g l hT j=>?_;have a:=I.base;have L:∀ b o,s0.heap.get? b=ip o->b≠(cxk P w K mg base N qual scope f cd A outer s0 H0 E).env.locals:=λb o e=>aH (aI (aA e) I.ok.above);have t:∀ b o,s0.heap.get? b=ip o->b∉frs outer->b∉frs (cxk P w K mg base N qual scope f cd A outer s0 H0 E).stack:=λb o e d z=>by
  rcases ac.mp (I.stkSub b z) with q | q;·exact L b o e q
  ·exact d q
 have i:∀ b,b∈frs outer->b∈frs (cxk P w K mg base N qual scope f cd A outer s0 H0 E).stack:=λb d=>by show b∈frs (_::outer);unfold frs;rw [bb];exact aa _ d
 refine ⟨ex,T,C,H,rfl,I.os,I.bare,⟨λb o e n d hx=>?_,λb o e n d hx=>?_,a.free,λb o e hx=>?_,a.tups,a.frzs,a.tbls⟩,g.ok,l,x.1,hT,x.2.1,j,k⟩;·exact g.keep b o (a.keep b o e n d hx) (.inr ⟨by show s0.heap.get? b≠iq; rw [e]; simp,t b o e d⟩)
 ·obtain ⟨sl,q⟩:=a.slot b o e n d hx;obtain ⟨c,h⟩:=g.slot b _ q (i b d);exact ⟨c,h⟩
 ·obtain ⟨o',q⟩:=a.there b o e hx;by_cases d:b∈frs (cxk P w K mg base N qual scope f cd A outer s0 H0 E).stack;·obtain ⟨sl,h⟩:=g.slot b o' q d;exact ⟨_,h⟩
  ·exact ⟨o',g.keep b o' q (.inr ⟨by show s0.heap.get? b≠iq; rw [e]; simp,d⟩)⟩
theorem qev {e:iu} (c:X.ex=[]) (I:Inv X pins σ H s) (h:CXk X.prog X.w X.stack H s E e s'):∃ ex C H',e=.ref ex/\Inv X pins σ H' s'/\InB X H' s' ex (.ref C)/\E (.ref C) iq H':=by
 obtain ⟨ex,T,C,H',rfl,os,bare,un,hok,l,e1,i,n1,n2,k⟩:=h;have old:∀ b,s.heap.get? b=iq->X.s₀.heap.get? b=none:=λb d=>by
  cases q:X.s₀.heap.get? b with
  | none=>rfl
  | some o=>obtain ⟨o',a⟩:=I.base.there b o q (by rw [c]; simp);rw [d] at a; cases a
 exact ⟨ex,C,H',rfl,I.call' (ch:=[]) os un hok bare (λb z=>absurd z (by simp)),⟨e1,old ex n1,.inr ⟨T,l,i,old T n2⟩⟩,k⟩
theorem qK:ur (CXk P w) (cxk P w K mg base N qual scope f cd A outer s0 H0 E) E:=λpins σ H s e s' I h=>by obtain ⟨ex,C,H',rfl,b,x,k⟩:=qev rfl I h;exact qgw b x k
theorem qew {C:Addr} {b:List iu} {d:String} (kin:K.In h) (c:mg x=ip (.ref C)) (q:dS K C b d=iA):OwnCls x C b d mg h:=by
 refine ⟨c,?_⟩;unfold dS at q;split at q
 case h_2=>cases q
 case h_1 dd cd sl lk=>
  split at q
  case h_2=>cases q
  case h_1 C' bm a0 a1 a2 a3 n a5 em es=>
   have g:=q;simp only [aN,beq_iff_eq,Bool.not_eq_true'] at g;obtain ⟨⟨⟨⟨⟨e1,i⟩,l⟩,tl⟩,k⟩,t⟩:=g;obtain ⟨nm,bs,mro,ns,a,hd,sn,sub,ab,col,del⟩:=cd;dsimp only at em l k t;obtain ⟨s⟩:=sl;dsimp only at es;subst em l es e1 i;exact ⟨bm,ns,nm,a,bs,hd,sn,sub,ab,col,dd,a0,a1,a2,a3,a5,_,kin _ _ lk,.of_isNs (PySem.W.isNs_of_in kin k),PySem.W.nsMap_none_of_in kin k t,PySem.W.tail_of_in kin tl⟩
end
theorem qdo {T:Addr} (hok:HOk P w H h) (q:H T=ip u):∃ o,h.get? T=ip o:=by
 have st:=hok T u q;cases z:h.get? T with
 | some o=>exact ⟨o,rfl⟩
 | none=>
  exfalso;cases u with
  | lst xs=>obtain ⟨_,_,_,_,e⟩:=st; rw [z] at e; cases e
  | tup xs=>obtain ⟨_,_,_,_,e,_⟩:=st; rw [z] at e; cases e
  | dK kvs=>obtain ⟨_,_,_,_,o,_,_,e,_⟩:=st; rw [z] at e; cases e
  | dT kvs=>obtain ⟨_,_,_,_,o,_,_,e,_⟩:=st; rw [z] at e; cases e
  | set S n=>obtain ⟨o,_,_,_,e,_⟩:=st; rw [z] at e; cases e
  | ins C dx fs=>obtain ⟨_,_,_,e,_⟩:=st; rw [z] at e; cases e
  | own y=>obtain ⟨_,e⟩:=st; rw [z] at e; cases e
  | xd fs=>obtain ⟨_,⟨_,_,_,e,_⟩,_⟩:=st; rw [z] at e; cases e
  | rng lo hi=>obtain ⟨_,_,_,e⟩:=st; rw [z] at e; cases e
  | frz b u=>obtain ⟨e,_⟩:=st; rw [z] at e; cases e
  | tbl ps=>have e:h.get? T=ip _:=st; rw [z] at e; cases e
  | met f y=>have e:h.get? T=ip _:=st; rw [z] at e; cases e
  | ext φ=>obtain ⟨_,⟨_,e⟩,_⟩:=st; rw [z] at e; cases e
abbrev bmV:List iu:=[.type "ValueError",.type "Exception",.type "BaseException",.type "object"]
noncomputable def kJ (x:Str) (fr:Sl->Out (List D×Sl)):Sl->Out (Fl×Sl):=λρ=>(fr ρ).bind λp=>.exc x p.2
theorem PoS.bindA {as:List AK} {o:Out (List D×Sl)} {k:List D×Sl->Out (Fl×Sl)} {D:Ends} {R:List V->Hp->Prop} (hp:PoS C own own' σ F H (o.bind k) D)
  (h:∀ vs F1 H1 ds ρ1,Rep C.K own F1 H1 σ ρ1->Chg (OA own σ) F H F1 H1->ArgV C.K H F1 H1 σ as vs ds->PoS C own own' σ F1 H1 (k (ds,ρ1)) D->R vs H1):PoA C own as σ F H o R:=by
 cases o with
 | ok p=>obtain ⟨ds,ρ1⟩:=p;exact λvs F1 H1 a c v=>h vs F1 H1 ds ρ1 a c v (PoS.shift (show PoS C own own' σ F H (k (ds,ρ1)) D from hp) (.ofE a c))
 | exc x=>exact hp
 | bad=>exact hp.elim
def GG (X:Cx) (C:Ct):Prop:=∀ (pins:List (Addr×Obj)) (σ:St) (H:Hp) (s:iB) (ex A:Addr),Inv X pins σ H s->InB X H s ex (.ref A)->C.E (.ref A) iq H->X.xe (.ref ex) s
theorem qgx {f:Addr} {cd:iu}:GG (cxk P w K mg base N qual scope f cd A outer s0 H0 C.E) C:=λpins σ H s ex A I x k=>qgw I x k
variable {Cc:Addr} {cpos:Pos}
section
variable {fr:Sl->Out (List D×Sl)} {np:Pos}
theorem ArgV.len:∀ {as:List AK} {vs:List V} {ds:List D},ArgV K H0 F H σ as vs ds->vs.length=as.length
 | [],[],[],_=>rfl
 | .vl::as,v::vs,d::ds,h=>congrArg (·+1) (ArgV.len h.2)
 | .sl i::as,v::vs,d::ds,h=>congrArg (·+1) (ArgV.len h.2.2)
 | .fr::as,v::vs,d::ds,h=>congrArg (·+1) (ArgV.len h.2)
 | [],_::_,_,h=>h.elim
 | [],[],_::_,h=>h.elim
 | .vl::_,[],_,h=>h.elim
 | .vl::_,_::_,[],h=>h.elim
 | .sl _::_,[],_,h=>h.elim
 | .sl _::_,_::_,[],h=>h.elim
 | .fr::_,[],_,h=>h.elim
 | .fr::_,_::_,[],h=>h.elim
theorem kU (b:X.ex=[]) (w:GG X C) (P:X.calm=iA) (hg:Gl X x) (m:X.mg x=ip (.ref Cc)) (v:C.cv x=.ref Cc) (q:dS X.K Cc bmV "ValueError.__new__"=iA) (B:PA X (e::es) (tAr C own as fr)) (hsz:as.length<=1000:=by decide) (f:∀ i∈C.ox,i∈own:=by exact ut rfl) (hd:(x == ("__debug__":Str))=false:=by decide)
  (g:starEach (e::es) X.env=(iw,eval e X.env)::starEach es X.env:=by exact kq rfl) (l:(backTo cpos (starEach es X.env)).any (·.1)=false:=by rfl) :
  PS X (.Raise (ip (.Call (.Name x np) (e::es) [] cpos)) iq pos) (tSt C own own' (kJ x fr)):=by
 refine ⟨?_⟩;intro pins s σ H D I ⟨F,ρ,r,h⟩;obtain ⟨tl,N,nm,p,bs,hdct,sn,sub,ab,col,dd,k0,k1,k2,k3,k5,mN,hC,G,c,T⟩:=(qew I.ok.mod.kin m q).obj;refine wpAny_Raise_call_subT (C:=Cc) (nm:=nm) (q:=p) (N:=N) (bs:=bs) (bm:=tl) (hdct:=hdct) (sn:=sn) (sub:=sub) (ab:=ab) (col:=col) (dd:=dd) (k0:=k0) (k1:=k1) (k2:=k2) (k3:=k3) (k5:=k5)
  PySem.F.excBase_ValueError (mN:=mN) (T.hasType PySem.F.excBase_ValueError.hasBase) (I.ok.hd P) (by rw [g]; show (iw||(backTo cpos (starEach es X.env)).any (·.1))=iw; rw [l]; rfl) c (xR I hg m ⟨rfl,?_⟩ hd)
 have n:tAr C own as fr σ H λvs H1=>vs.length<=sizeLine/\C.E (.ref Cc) iq H1:=by
  refine ⟨F,ρ,r,PoS.bindA h λvs F1 H1 ds ρ1 a Q L h1=>⟨?_,?_⟩⟩;·rw [L.len]; exact bg hsz (by rw [iI]; decide)
  ·rw [<-v]; exact h1 F1 H1 a.sub (a.ioIs f) .refl
 have run:=B cpos pins s σ H _ I n;rw [g] at run ⊢;refine fj (iU run (λus s2 ⟨vs,H2,k,r2,z,J⟩=>?_) λ_ _ y=>y);refine ⟨rfl,by rw [<-r2.length]; exact z,k.bk _ _ hC,G.keeps k.bk,T.keeps k.bk,λh' ex mk=>?_⟩;have M:Inv X pins σ H2 { s2 with heap:=h' }:=k.kept (t':=s2.toks) mk.keeps;obtain ⟨t,h1,h2,O⟩:=mk.there;refine w pins σ H2 _ ex Cc M ⟨?_,?_,.inl ⟨_,_,h1,rfl,rfl,rfl⟩⟩ J
 ·cases d:H2 ex with
  | none=>rfl
  | some u=>have A:=k.hok.lt d;refine absurd mk.new ?_;obtain ⟨o,e⟩:=qdo k.hok d;rw [e]; simp
 ·cases d:X.s₀.heap.get? ex with
  | none=>rfl
  | some o=>obtain ⟨o',j⟩:=k.base.there ex o d (by rw [b]; simp);rw [mk.new] at j; cases j
end
structure Caught (X:Cx) (pins:List (Addr×Obj)) (H:Hp) (s:iB) (ex T Cc:Addr):Prop where
 fly:Fly s.heap ex T (.ref Cc)
 hex:H ex=iq
 hT:H T=iq
 n1:X.s₀.heap.get? ex=iq
 n2:X.s₀.heap.get? T=iq
 pp:∀ p∈X.pn++pins,p.1≠ex/\p.1≠T
variable {xe:iu->iB->Prop}
section
variable {T:Addr}
theorem Caught.dex (c:Caught X pins H s ex T Cc):∃ o vs,s.heap.get? ex=ip o/\o.data=.fields vs:=let ⟨o,vs,a,ts,p,b,z,_⟩:=c.fly; ⟨o,vs,p,z⟩
theorem Caught.dT (c:Caught X pins H s ex T Cc):∃ o vs,s.heap.get? T=ip o/\o.data=.fields vs:=let ⟨o,vs,a,ts,p,b,z,y,q,l,k,_⟩:=c.fly; ⟨a,ts,l,k⟩
theorem Yv {h2:Heap} (I:Inv X pins σ H s) (g:X.stack=X.env::X.outer) (j:X.env.frame=ip X.env.locals) (K:X.ex=[]) (c:Caught X pins H s ex T Cc)
  (keep:∀ b o,s.heap.get? b=ip o->b≠ex->b≠T->b∉frs X.stack->h2.get? b=ip o)
  (slot:∀ b o,s.heap.get? b=ip o->b∈frs X.stack->∃ sl,h2.get? b=ip { o with slots:=sl }):Inv X pins σ H { s with heap:=h2 }:=by
 obtain ⟨Z,ve,N,R⟩:=c.dex;obtain ⟨F,Y,hT,dT⟩:=c.dT;have G:∀ b o,s.heap.get? b=ip o->(∀ vs,o.data≠.fields vs)->b≠ex/\b≠T:=λb o e n=>by
  constructor;·rintro rfl; rw [N] at e; cases e; exact n _ R
  ·rintro rfl; rw [hT] at e; cases e; exact n _ dT
 have W:X.env.locals∈frs X.stack:=by rw [g]; unfold frs; rw [bb,j]; exact ai
 have L:∀ b o,X.s₀.heap.get? b=ip o->b≠X.env.locals:=λb o e=>aH (aI (aA e) I.ok.above);have w:∀ b o,X.s₀.heap.get? b=ip o->b∉X.fs->b∉frs X.stack:=λb o e h z=>by
  rcases ac.mp (I.stkSub b z) with q | q;·exact L b o e q
  ·exact h q
 have y:∀ b,b∈X.fs->b∈frs X.stack:=λb h=>by rw [g]; unfold frs; rw [bb,j]; exact aa _ h
 have f:∀ b o,X.s₀.heap.get? b=ip o->b≠ex/\b≠T:=λb o e=>⟨(by rintro rfl; rw [c.n1] at e; cases e),(by rintro rfl; rw [c.n2] at e; cases e)⟩
 have A:∀ {a:Addr} {v:Option iu},s.heap.IsCell a v->h2.IsCell a v:=λ{a v} ⟨oc,e1,l⟩=>by
  have q:=G a oc e1 λvs z=>by rw [l] at z; cases z
  by_cases h:a∈frs X.stack;·obtain ⟨sl,z⟩:=slot a oc e1 h;exact ⟨_,z,l⟩
  ·exact ⟨oc,keep a oc e1 q.1 q.2 h,l⟩
 refine ⟨I.ok,I.os,I.bare,⟨λb o e n h hx=>?_,λb o e n h hx=>?_,I.base.free,λb o e hx=>?_,I.base.tups,I.base.frzs,I.base.tbls⟩,?_,λx a e=>?_,I.free,I.freeC,λp hp=>?_,λb u e=>?_,I.len⟩;·exact keep b o (I.base.keep b o e n h hx) (f b o e).1 (f b o e).2 (w b o e h)
 ·obtain ⟨sl,q⟩:=I.base.slot b o e n h hx;obtain ⟨t,E⟩:=slot b _ q (y b h);exact ⟨t,E⟩
 ·obtain ⟨o',q⟩:=I.base.there b o e hx;by_cases h:b∈frs X.stack;·obtain ⟨sl,z⟩:=slot b o' q h;exact ⟨_,z⟩
  ·exact ⟨o',keep b o' q (f b o e).1 (f b o e).2 h⟩
 ·obtain ⟨m,⟨o,es,ep,M,r⟩,hl⟩:=I.loc;obtain ⟨sl,P⟩:=slot _ o M W;refine ⟨m,⟨_,es,ep,P,r⟩,λi x v e1 l Q=>?_⟩;obtain ⟨u,D,J⟩:=hl i x v e1 l Q;refine ⟨u,D,?_⟩;rcases J with z | ⟨k,a,e,z⟩
  ·exact .inl z
  ·exact .inr ⟨k,a,e,A z⟩
 ·obtain ⟨v,z⟩:=I.cell x a e;exact ⟨v,A z⟩
 ·obtain ⟨V,U,C,B,S⟩:=I.pin p hp;refine ⟨keep p.1 p.2 V (c.pp p hp).1 (c.pp p hp).2 λz=>?_,U,C,B,S⟩;rcases ac.mp (I.stkSub p.1 z) with q | q;·exact C q
  ·exact B q
 ·refine (I.hok b u e).stay (λd v O q=>?_) (λ_ q=>q) λ_ _ q=>q;have hd:H d≠none:=by
   rcases O with z | z;·rw [z,e]; simp
   ·rw [z]; simp
  exact keep d v q (λz=>hd (by rw [z]; exact c.hex)) (λz=>hd (by rw [z]; exact c.hT)) λz=>hd (I.stkFree d z)
theorem Jb {B:iu} (I:Inv X pins σ H s) (h:X.ex=[]) (c:Caught X pins H s ex T Cc) (slot:∀ b o,s.heap.get? b=ip o->b∈frs X.stack->∃ sl,h2.get? b=ip { o with slots:=sl })
  (tr:h2.TracedW (bj s.heap (xn ex (ip T) X)) ex (.ref Cc) B):∃ l,Caught X pins H { s with heap:=h2 } ex l Cc:=by
 obtain ⟨n,vs,l,r,ts,A,⟨z,_⟩,x,w,k,j,g,f,v⟩:=tr;have a:∀ o,s.heap.get? l=ip o->l=T:=λo e=>by
  have m:l∈xn ex (ip T) X:=by refine bK λt=>?_;rw [c7 _ e t] at k;cases k
  rcases ac.mp m with q | m;·exact absurd q j
  ·rcases aj.mp m with q | q;·simpa using q
   ·obtain ⟨o',d,y⟩:=xo I q;obtain ⟨sl,i⟩:=slot l o' d q;rw [g] at i;cases i;exact absurd f (y ts)
 refine ⟨l,⟨n,vs,r,ts,A,z,x,w,j,g,f,v⟩,c.hex,?_,c.n1,?_,λp hp=>⟨(c.pp p hp).1,?_⟩⟩
 ·cases q:H l with
  | none=>rfl
  | some u=>obtain ⟨o,e⟩:=qdo I.hok q;rw [a o e,c.hT] at q; cases q
 ·cases q:X.s₀.heap.get? l with
  | none=>rfl
  | some o=>obtain ⟨o',d⟩:=I.base.there l o q (by rw [h]; simp);rw [a o' d,c.n2] at q; cases q
 ·rintro rfl;exact (c.pp p hp).2 (a _ (I.pin p hp).1)
theorem Jc (st:(bj s.heap (xn ex (ip T) X)).StaysIn h2):∀ b o,s.heap.get? b=ip o->b≠ex->b≠T->b∉frs X.stack->h2.get? b=ip o:=λb o e h1 h2 j=>st b o (c7 _ e λc=>by
  rcases ac.mp c with q | c;·exact h1 q
  ·rcases aj.mp c with q | q;·exact h2 (by simpa using q)
   ·exact j q)
theorem VE (c:Caught X pins H s ex T Cc):∃ B,s.heap.TracedW (bj s.heap (xn ex (ip T) X)) ex (.ref Cc) B:=by obtain ⟨o,vs,a,ts,p,d,b,y,q,l,k,j⟩:=c.fly;have z:0 < vs.size:=Nat.lt_of_succ_lt (Array.getElem?_eq_some_iff.mp y).1;exact ⟨vs[0],o,vs,T,a,ts,p,⟨d,by simp [z]⟩,b,y,cS _ (aa _ (bW _ (by simp))),q,l,k,j⟩
theorem Jd (I:Inv X pins σ H s) (h:X.stack=X.env::X.outer):s.heap.FunFrames (bj s.heap (xn ex (ip T) X)) (X.env::X.outer):=by rw [<-h];exact PySem.W.funFrames_hide I.stack λenv i b d=>aa _ (aQ _ (VC h env i b d))
theorem VF {E:iu->iB->Prop} {Q:Unit->iB->Prop} (hA:A.frames=ip X.stack) (I:Inv X pins σ H s) (h:X.stack=X.env::X.outer) (r:X.env.frame=ip X.env.locals) (a:X.ex=[]) (c:Caught X pins H s ex T Cc)
  (k:∀ s' l,Inv X pins σ H s'->Caught X pins H s' ex l Cc->Q () s'):wpAny (model X.prog X.w) A (noteFrame (.ref ex) X.env) (λ_ s1=>wpAny (model X.prog X.w) A (setFlight (.ref ex) iq) Q E s1) E s:=by
 obtain ⟨B,tr⟩:=VE c;refine wpAny_looks_onW (by rw [hA,h]) r ⟨λb o e=>dX _ e,cS _ (ac.mpr (.inl rfl)),Jd I h,tr⟩ λh1 d j=>?_;refine wpAny_landsW d λh2 g u=>?_;have slot:∀ b o,s.heap.get? b=ip o->b∈frs X.stack->∃ sl,h2.get? b=ip { o with slots:=sl }:=λb o e n=>by obtain ⟨o',i,y⟩:=xo I n;rw [e] at i; cases i;obtain ⟨sl,q⟩:=j b o e y;obtain ⟨f,m⟩:=u b _ q y;exact ⟨f,m⟩
 obtain ⟨l,U⟩:=Jb I a c slot g.2.2.2;have p:Inv X pins σ H { s with heap:=h2 }:=Yv I h r a c (Jc g.1) slot;exact k { s with heap:=h2 } l p U
theorem gM {A:iH} {E:iu->iB->Prop} {Q:Unit->iB->Prop} (I:Inv X pins σ H s) (h:X.stack=X.env::X.outer) (r:X.env.frame=ip X.env.locals) (a:X.ex=[]) (c:Caught X pins H s ex T Cc)
  (k:∀ s' l,Inv X pins σ H s'->Caught X pins H s' ex l Cc->Q () s'):wpAny (model X.prog X.w) A (setFlight (.ref ex) iq) Q E s:=by
 obtain ⟨B,tr⟩:=VE c;refine wpAny_setFlight_noneW (base:=bj s.heap (xn ex (ip T) X)) (λb o e=>dX _ e) (Jd I h) tr λh2 st _ t kp=>?_;have slot:∀ b o,s.heap.get? b=ip o->b∈frs X.stack->∃ sl,h2.get? b=ip { o with slots:=sl }:=λb o e f=>by obtain ⟨o',d,y⟩:=xo I f;rw [e] at d; cases d;exact ⟨o.slots,kp b o e y⟩
 obtain ⟨l,U⟩:=Jb I a c slot t;exact k _ l (Yv I h r a c (Jc st) slot) U
theorem qgy (I:Inv X pins σ H s) (c:Caught X pins H s ex T Cc):Inv X pins σ (upd H ex (QX ex Cc)) s:=by
 obtain ⟨g,vs,B,ts,f,w,h,_⟩:=c.fly;have y:∀ b o,s.heap.get? b=ip o->(∀ vs,o.data≠.fields vs)->b≠ex:=λb o e n=>by rintro rfl; rw [f] at e; cases e; exact n _ h
 have up:∀ {b:Addr} {u:HO},H b=ip u->upd H ex (QX ex Cc) b=ip u:=λ{b u} e=>by rw [qF (qM e c.hex)]; exact e
 refine ⟨I.ok,I.os,I.bare,⟨I.base.keep,I.base.slot,λb o e n hx=>?_,I.base.there,λb xs e=>up (I.base.tups b xs e),λb o u e=>up (I.base.frzs b o u e),λb ps e=>?_⟩,I.loc,I.cell,?_,λx a e=>?_,λp hp=>?_,λb u e=>?_,I.len⟩;·rw [qF (by rintro rfl; rw [c.n1] at e; cases e)]; exact I.base.free b o e n hx
 ·obtain ⟨more,z⟩:=I.base.tbls b ps e;exact ⟨more,up z⟩
 ·obtain ⟨m,⟨o,es,ep,k,hd,_⟩,_⟩:=I.loc;rw [qF (y _ o k λvs z=>by rw [hd] at z; cases z)]; exact I.free
 ·obtain ⟨v,oc,e1,i⟩:=I.cell x a e;rw [qF (y _ oc e1 λvs z=>by rw [i] at z; cases z)]; exact I.freeC x a e
 ·obtain ⟨A,t,l⟩:=I.pin p hp;refine ⟨A,?_,l⟩;rw [qF (c.pp p hp).1]; exact t
 ·by_cases q:b=ex;·subst q;rw [qu] at e; cases e;refine ⟨⟨g,vs,f,w,h⟩,⟨g,f⟩,λh1 h2 ⟨o1,j,e1,i,E⟩ r=>⟨o1,j,r _ e1,i,E⟩⟩
  ·rw [qF q] at e;exact (I.hok b u e).stay (λ_ _ _ z=>z) (λd z=>up z) λd xs z=>up z
def JJ (X:Cx) (pn:List (Addr×Obj)) (xe:iu->iB->Prop):Cx:={ X with pn:=pn,xe:=xe }
theorem GH (I:Inv X pins σ H s):Inv (JJ X (X.pn++pins) xe) [] σ H s:=
 ⟨⟨I.ok.mod,I.ok.kind,I.ok.glob,I.ok.blt,I.ok.above,I.ok.inj,I.ok.has,I.ok.cab,I.ok.hd,I.ok.frames,I.ok.stk,I.ok.exf,I.ok.bs,I.ok.bsz,I.ok.noex,I.ok.exfs,I.ok.funs,I.ok.frf⟩,I.os,I.bare,I.base,I.loc,I.cell,I.free,I.freeC,λp hp=>I.pin p (by simpa [JJ] using hp),I.hok,I.len⟩
theorem kx {a:List (Addr×Obj)} (I:Inv (JJ X (X.pn++pins) xe) a σ H s):Inv X pins σ H s:=
 ⟨⟨I.ok.mod,I.ok.kind,I.ok.glob,I.ok.blt,I.ok.above,I.ok.inj,I.ok.has,I.ok.cab,I.ok.hd,I.ok.frames,I.ok.stk,I.ok.exf,I.ok.bs,I.ok.bsz,I.ok.noex,I.ok.exfs,I.ok.funs,I.ok.frf⟩,I.os,I.bare,I.base,I.loc,I.cell,I.free,I.freeC,λp hp=>I.pin p (bW _ hp),I.hok,I.len⟩
noncomputable def qfC (X:Cx) (e:iu):Cx:={ X with A:=X.A.mark (ip e),calm:=iw,xe:=λ_ _=>False }
theorem Yw {e:iu} (I:Inv X pins σ H s):Inv (qfC X e) pins σ H s:=
 ⟨⟨I.ok.mod,I.ok.kind,I.ok.glob,I.ok.blt,I.ok.above,I.ok.inj,I.ok.has,I.ok.cab,λz=>absurd z (by show ¬(iw=iA); exact bz),I.ok.frames,I.ok.stk,I.ok.exf,I.ok.bs,I.ok.bsz,I.ok.noex,I.ok.exfs,I.ok.funs,I.ok.frf⟩,I.os,I.bare,I.base,I.loc,I.cell,I.free,I.freeC,I.pin,I.hok,I.len⟩
theorem GI {e:iu} (hok:X.Ok) (I:Inv (qfC X e) pins σ H s):Inv X pins σ H s:=
 ⟨hok,I.os,I.bare,I.base,I.loc,I.cell,I.free,I.freeC,I.pin,I.hok,I.len⟩
theorem Zd {j:Str->Option iu} {t:Nat} (I:Inv X pins σ H s) (k:X.stack=X.env::X.outer) (r:X.env.frame=ip X.env.locals) (h:h'.Ns X.env.locals j) (A:bH X.env.locals s.heap h'):Inv X pins (σ.map λ_=>iq) H { s with heap:=h',toks:=t }:=by
 have L:∀ b o,X.s₀.heap.get? b=ip o->b≠X.env.locals:=λb o e=>aH (aI (aA e) I.ok.above);obtain ⟨m,⟨E,es,ep,Z,f,_⟩,_⟩:=id I.loc;have y:∀ {a:Addr} {v:Option iu},s.heap.IsCell a v->a≠X.env.locals:=λ{a v} ⟨oc,e1,c⟩=>by rintro rfl; rw [Z] at e1; cases e1; rw [f] at c; cases c
 refine ⟨I.ok,I.os,I.bare,⟨λb o e n g hx=>(A.2 b (L b o e)).trans (I.base.keep b o e n g hx),λb o e n g hx=>?_,I.base.free,λb o e hx=>?_,I.base.tups,I.base.frzs,I.base.tbls⟩,⟨j,h,λi x v e1 c=>?_⟩,λx a e=>?_,I.free,I.freeC,λp hp=>?_,λb u e=>?_,by simp [I.len]⟩;·obtain ⟨sl,q⟩:=I.base.slot b o e n g hx;exact ⟨sl,(A.2 b (L b o e)).trans q⟩
 ·obtain ⟨o',q⟩:=I.base.there b o e hx;exact ⟨o',(A.2 b (L b o e)).trans q⟩
 ·simp only [aG] at c;cases q:σ[i]? <;> rw [q] at c <;> cases c
 ·obtain ⟨v,z⟩:=I.cell x a e;exact ⟨v,z.sameBut A (y z)⟩
 ·obtain ⟨D,C,l,B⟩:=I.pin p hp;exact ⟨(A.2 p.1 l).trans D,C,l,B⟩
 ·refine (I.hok b u e).stay (λd v w q=>(A.2 d ?_).trans q) (λ_ q=>q) λ_ _ q=>q;rintro rfl;rcases w with z | z;·rw [<-z,I.free] at e; cases e
  ·rw [I.free] at z; cases z
end
def qhM (C:Ct) (own:List Nat) (E:XK):Ct:=⟨C.K,C.cv,E,own,C.mr,C.ol,own,λ_ h=>h⟩
noncomputable def exC (C:Ct):Ct:=⟨C.K,C.cv,λ_ _ _=>False,[],C.mr,[],[],λ_ h=>h⟩
noncomputable def ZK (n:Nat) (j:Option Nat) (hit:Str->Option Addr) (fb fs:Sl->Out (Fl×Sl)):Sl->Out (Fl×Sl):=λρ=>match fb ρ with
 | .exc c ρe=>match hit c with
  | some Cc=>match fs (match j with | some j=>(aX n iq).set j (ip (.xcp Cc)) | none=>aX n iq) with
   | .ok (.rt d,_)=>.ok (.rt d,ρe)
   | _=>.bad
  | none=>.bad
 | o=>o
def qgz (C:Ct) (own:List Nat) (σ:St) (F H:Hp) (r:Out (Fl×Sl)):XK:=λcls _ H'=>∃ c ρe F',r=.exc c ρe/\cls=C.cv c/\Same F' H'/\ZI C.K own F' H' σ ρe/\Chg (OA own σ) F H F' H'
def qhN (X:Cx) (pins:List (Addr×Obj)) (E:XK):iu->iB->Prop:=λe s'=>∃ σ ex T Cc H',e=.ref ex/\Inv X pins σ H' s'/\Caught X pins H' s' ex T Cc/\E (.ref Cc) iq H'
section
variable {fs:Sl->Out (Fl×Sl)}
theorem Je {E:XK} (c:X.ex=[]):ur (CXk X.prog X.w) (JJ X (X.pn++pins) (qhN X pins E)) E:=λa σ H s e s' I h=>by
 obtain ⟨ex,T,Cc,H',rfl,os,bare,un,hok,l,e1,i,n1,n2,k⟩:=h;have old:∀ b,s.heap.get? b=iq->X.s₀.heap.get? b=none:=λb f=>by
  cases q:X.s₀.heap.get? b with
  | none=>rfl
  | some o=>obtain ⟨o',d⟩:=I.base.there b o q (by show b∉X.ex; rw [c]; simp);rw [f] at d; cases d
 have g:Inv (JJ X (X.pn++pins) (qhN X pins E)) a σ H' s':=I.call' (ch:=[]) os un hok bare (λb z=>absurd z (by simp));refine ⟨σ,ex,T,Cc,H',rfl,kx g,⟨l,e1,i,old ex n1,old T n2,λp hp=>?_⟩,k⟩;have q:=(I.pin p (bW _ hp)).1;exact ⟨λz=>(by rw [z,n1] at q; cases q),λz=>(by rw [z,n2] at q; cases q)⟩
theorem Nx.untry {E:XK} {σ':St} {ρ':Sl} (g:∀ i∈C.io,i∈own) (n:Nx (qhM C own E) o1 o2 σ F H ρ' σ' F' H'):Nx C o1 o2 σ F H ρ' σ' F' H':=⟨n.rep,n.chg,n.oa,λi hi=>n.io i (g i hi)⟩
theorem Yx {D:Ends} {j:Option Nat} {hit:Str->Option Addr} (g:∀ i∈C.io,i∈own) (r:Rep C.K own F H σ ρ) (h:PoS C own own' σ F H (ZK n j hit fb fs ρ) D):tSt (qhM C own (qgz C own σ F H (fb ρ))) own own' fb D σ H:=by
 refine ⟨F,ρ,r,?_⟩;unfold ZK at h;cases q:fb ρ with
 | ok p=>
  rw [q] at h;obtain ⟨l,ρ'⟩:=p;cases l with
  | nx=>exact λσ' F' H' a=>h σ' F' H' (a.untry g)
  | rt d=>exact λv σ' F' H' s io c e mo=>h v σ' F' H' s (λi hi=>io i (g i hi)) c (λi hi=>e i (g i hi)) mo
  | bk=>exact λσ' F' H' a=>h σ' F' H' (a.untry g)
  | ct=>exact λσ' F' H' a=>h σ' F' H' (a.untry g)
 | exc c ρe=>exact λF' H' s io ch=>⟨c,ρe,F',rfl,rfl,s,io,ch⟩
 | bad=>rw [q] at h; exact h.elim
theorem VG {f e:Hp} {Cc:Addr} {D:Ends} {d:D2.D} {v:V} {w:St} (g:∀ i∈C.io,i∈own) (h:PoS C own own' σ F H (.ok (.rt d,ρe)) D) (n:H1 ex=iq) (A:Same F1 H1) (io:ZI C.K own F1 H1 σ ρe) (ch:Chg (OA own σ) F H F1 H1)
  (s3:Same f e) (J:Chg (OA [] w) (upd F1 ex (QX ex Cc)) (upd H1 ex (QX ex Cc)) f e) (mo:MoIs C.K C.mr (upd H1 ex (QX ex Cc)) f e v d):D.rt v e:=by
 obtain ⟨s,c2⟩:=uD (u:=QX ex Cc) A n;have no:∀ {b},OA [] w b->False:=λ⟨i,hi,_⟩=>by simp at hi
 have j:Chg No (upd F1 ex (QX ex Cc)) (upd H1 ex (QX ex Cc)) f e:=J.mono λx z=>no z;have c:Chg No F1 H1 f e:=c2.trans j λ_ z=>z.elim;refine h v σ f e s3 (λi hi=>?_) (ch.trans c λ_ z=>z.elim) (λ_ _=>rfl) (MoIs.back (Ha:=e) (ch.trans c2 λ_ z=>z.elim) mo);obtain ⟨d',a,e1,k,E,p⟩:=io i (g i hi);refine ⟨d',a,e1,k,?_,p.grow c.grow λo q=>c.keep a o q λz=>z⟩;cases q:f a with
 | none=>rfl
 | some u=>
  rcases c.new a (by rw [q]; simp) with z | z | z;·exact absurd E z
  ·exact absurd z p.there
  ·exact z.elim
theorem qex {cn en:Str} {np J pos:Pos} {body b:List Stmt} {b0:Stmt} {cls:iu} {n j:Nat} {hit:Str->Option Addr} {own2:List Nat} (t:X.ex=[]) (k:X.stack=X.env::X.outer) (x:X.env.frame=ip X.env.locals)
  (hg:Gl X cn) (hm:X.mg cn=ip cls) (L:∀ c Cc,hit c=ip Cc->C.cv c=.ref Cc/\bG X.K (.ref Cc) cls=ip iA) (hN:X.N.Nodup) (hj:X.N[j]?=ip en) (hx:X.env.scope.names.lookup en=ip .local) (hn:X.N.length=n)
  (hb:∀ pn xe E,ur (CXk X.prog X.w) (JJ X pn xe) E->PSs (JJ X pn xe) body (tSt (qhM C own E) own own' fb)) (hs:∀ e,PSs (qfC X e) (b0::b) (tSt (exC C) [] own2 fs)) (o:∀ i∈C.io,i∈own:=by exact ut rfl) (hd:(cn == ("__debug__":Str))=false:=by decide) :
  PS X (.Try body [.ExceptHandler (ip (.Name cn np)) (ip en) (b0::b) J] [] [] pos) (tSt C own own' (ZK n (ip j) hit fb fs)):=by
 refine ⟨?_⟩;intro pins s σ H D I ⟨F,ρ,rp,h⟩;have run:=hb (X.pn++pins) (qhN X pins (qgz C own σ F H (fb ρ))) (qgz C own σ F H (fb ρ)) (Je t) [] s σ H D (GH I) (Yx o rp h);refine wpAny_Try_except (iU run (λf s1 l=>?_) λe s1 he=>?_)
 ·cases f with
  | next=>obtain ⟨σ',H',y,q⟩:=l;exact WG pins s1 σ' H' D (kx y) q
  | brk=>obtain ⟨σ',H',y,q⟩:=l; exact ⟨σ',H',kx y,q⟩
  | cont=>obtain ⟨σ',H',y,q⟩:=l; exact ⟨σ',H',kx y,q⟩
  | ret u=>obtain ⟨v,σ',H',y,r,q⟩:=l; exact ⟨v,σ',H',kx y,r,q⟩
 ·obtain ⟨σ1,ex,T,Cc,H1,rfl,I1,c1,c,ρe,F1,hr,P,A,Z,ch1⟩:=he;refine VF I1.ok.frames I1 k x t c1 λs2 T2 I2 c2=>?_;unfold ZK at h;rw [hr] at h;cases Y:hit c with
  | none=>simp only [Y] at h; exact h.elim
  | some Ch=>
   simp only [Y] at h;obtain ⟨hc1,hc2⟩:=L c Ch Y;rw [hc1] at P;obtain rfl:Cc=Ch:=by injection P
   refine wpAny_handleBy_cons (codeAny_handlers_test (xR (X:=qfC X (.ref ex)) (Yw I2) hg hm ?_ hd)) (by intro q; cases q);obtain ⟨oe,vs,oT,ts,a1,a2,a3,_⟩:=id c2.fly;have LT:PySem.W.Looks (model X.prog X.w) s2.heap (typeOf (.ref ex)) (.ref Cc):=by rw [<-a2]; exact (PySem.W.Looks.ld a1).andThen .now
   refine (PySem.W.exm_one I2.kIn LT hc2) _ _ _ _ (λ_ _ z=>z) ?_;refine codeAny_handlers_suite_as (gM I2 k x t c2 λs3 T3 I3 c3=>?_);have I4:=qgy I3 c3;refine Jy I4 hN hj (.inl hx) (v:=.ref ex) rfl (λs5 I5=>?_) (.inr hx);have g:j < n:=by rw [<-hn]; exact (aB.mp hj).1
   have I6:Inv X pins ((aX n iq).set j (ip (.ref ex))) (upd H1 ex (QX ex Cc)) s5:=I5.weak (by simp [I3.len,hn]) λi v e=>by
    by_cases B:i=j;·subst B;rw [aF (by simpa using g)] at e;rw [aF (by rw [I3.len,hn]; exact g)];exact e
    ·rw [au (bh B),bt] at e;split at e <;> cases e
   obtain ⟨Q,cc2⟩:=uD (u:=QX ex Cc) A c1.hex;have S:Rep C.K [] (upd F1 ex (QX ex Cc)) (upd H1 ex (QX ex Cc)) ((aX n iq).set j (ip (V.ref ex))) ((aX n iq).set j (ip (.xcp Cc))):=by
    refine ⟨Q,by simp,λi d hi e=>?_,λi d hi=>by simp at hi,λi hi=>by simp at hi,λi j a hi=>by simp at hi⟩;by_cases B:i=j;·subst B;rw [aF (by simpa using g)] at e;cases e;exact ⟨.ref ex,by rw [aF (by simpa using g)],.xcp qu⟩
    ·rw [au (bh B),bt] at e;split at e <;> cases e
   have G:tSt (exC C) [] own2 fs { nx:=λ_ _=>False,rt:=D.rt } ((aX n iq).set j (ip (V.ref ex))) (upd H1 ex (QX ex Cc)):=by
    refine ⟨_,_,S,?_⟩;cases U:fs ((aX n iq).set j (ip (.xcp Cc))) with
    | ok p=>
     obtain ⟨fl,ρ5⟩:=p;rw [U] at h;cases fl with
     | rt d=>exact λv σ' F3 H3 s3 io c3 e mo=>VG (own':=own') (D:=D) (ex:=ex) (Cc:=Cc) o h c1.hex A Z ch1 s3 c3 mo
     | nx=>exact h.elim
     | bk=>exact h.elim
     | ct=>exact h.elim
    | exc _ _=>rw [U] at h; exact h.elim
    | bad=>rw [U] at h; exact h.elim
   refine iU (hs (.ref ex) pins s5 _ _ _ (Yw I6) G) (λf s7 l=>?_) λ_ _ z=>z.elim;cases f with
   | next=>obtain ⟨_,_,_,q⟩:=l; exact q.elim
   | brk=>obtain ⟨_,_,_,q⟩:=l; exact q.elim
   | cont=>obtain ⟨_,_,_,q⟩:=l; exact q.elim
   | ret u=>obtain ⟨v,O,H7,I7,r7,q7⟩:=l;have M:Inv X pins O H7 s7:=GI I.ok I7;obtain ⟨m,hns,_⟩:=id M.loc;refine wpAny_nameGoes hx hns (by rw [I.ok.kind]; rfl) λh' m' hn' R=>?_;exact ⟨v,_,H7,Zd M k x hn' R,r7,q7⟩
theorem qb1 {cn:Str} {np J pos:Pos} {body b:List Stmt} {b0:Stmt} {cls:iu} {n:Nat} {hit:Str->Option Addr} {own2:List Nat} (m:X.ex=[]) (l:X.stack=X.env::X.outer) (x:X.env.frame=ip X.env.locals)
  (hg:Gl X cn) (hm:X.mg cn=ip cls) (L:∀ c Cc,hit c=ip Cc->C.cv c=.ref Cc/\bG X.K (.ref Cc) cls=ip iA) (hn:X.N.length=n)
  (hb:∀ pn xe E,ur (CXk X.prog X.w) (JJ X pn xe) E->PSs (JJ X pn xe) body (tSt (qhM C own E) own own' fb)) (hs:∀ e,PSs (qfC X e) (b0::b) (tSt (exC C) [] own2 fs)) (k:∀ i∈C.io,i∈own:=by exact ut rfl) (hd:(cn == ("__debug__":Str))=false:=by decide) :
  PS X (.Try body [.ExceptHandler (ip (.Name cn np)) iq (b0::b) J] [] [] pos) (tSt C own own' (ZK n iq hit fb fs)):=by
 refine ⟨?_⟩;intro pins s σ H D I ⟨F,ρ,rp,h⟩;have run:=hb (X.pn++pins) (qhN X pins (qgz C own σ F H (fb ρ))) (qgz C own σ F H (fb ρ)) (Je m) [] s σ H D (GH I) (Yx k rp h);refine wpAny_Try_except (iU run (λf s1 g=>?_) λe s1 he=>?_)
 ·cases f with
  | next=>obtain ⟨σ',H',o,q⟩:=g;exact WG pins s1 σ' H' D (kx o) q
  | brk=>obtain ⟨σ',H',o,q⟩:=g; exact ⟨σ',H',kx o,q⟩
  | cont=>obtain ⟨σ',H',o,q⟩:=g; exact ⟨σ',H',kx o,q⟩
  | ret u=>obtain ⟨v,σ',H',o,r,q⟩:=g; exact ⟨v,σ',H',kx o,r,q⟩
 ·obtain ⟨σ1,ex,T,Cc,H1,rfl,I1,V,c,ρe,F1,hr,P,A,G,Q⟩:=he;refine VF I1.ok.frames I1 l x m V λs2 T2 Z c2=>?_;unfold ZK at h;rw [hr] at h;cases Y:hit c with
  | none=>simp only [Y] at h; exact h.elim
  | some Ch=>
   simp only [Y] at h;obtain ⟨O,M⟩:=L c Ch Y;rw [O] at P;obtain rfl:Cc=Ch:=by injection P
   refine wpAny_handleBy_cons (codeAny_handlers_test (xR (X:=qfC X (.ref ex)) (Yw Z) hg hm ?_ hd)) (by intro q; cases q);obtain ⟨oe,vs,oT,ts,a1,a2,a3,_⟩:=id c2.fly;have LT:PySem.W.Looks (model X.prog X.w) s2.heap (typeOf (.ref ex)) (.ref Cc):=by rw [<-a2]; exact (PySem.W.Looks.ld a1).andThen .now
   refine (PySem.W.exm_one Z.kIn LT M) _ _ _ _ (λ_ _ z=>z) ?_;refine codeAny_handlers_suite (gM Z l x m c2 λs3 T3 I3 R=>?_);have I4:=qgy I3 R;have I6:Inv X pins (aX n iq) (upd H1 ex (QX ex Cc)) s3:=I4.weak (by simp [I3.len,hn]) λi v e=>by rw [bt] at e;split at e <;> cases e
   obtain ⟨B,cc2⟩:=uD (u:=QX ex Cc) A V.hex;have S:Rep C.K [] (upd F1 ex (QX ex Cc)) (upd H1 ex (QX ex Cc)) (aX n iq) (aX n iq):=by refine ⟨B,by simp,λi d hi e=>?_,λi d hi=>by simp at hi,λi hi=>by simp at hi,λi j a hi=>by simp at hi⟩;rw [bt] at e;split at e <;> cases e
   have t:tSt (exC C) [] own2 fs { nx:=λ_ _=>False,rt:=D.rt } (aX n iq) (upd H1 ex (QX ex Cc)):=by
    refine ⟨_,_,S,?_⟩;cases U:fs (aX n iq) with
    | ok p=>
     obtain ⟨fl,ρ5⟩:=p;rw [U] at h;cases fl with
     | rt d=>exact λv σ' F3 H3 s3 io R e mo=>VG (own':=own') (D:=D) (ex:=ex) (Cc:=Cc) k h V.hex A G Q s3 R mo
     | nx=>exact h.elim
     | bk=>exact h.elim
     | ct=>exact h.elim
    | exc _ _=>rw [U] at h; exact h.elim
    | bad=>rw [U] at h; exact h.elim
   refine iU (hs (.ref ex) pins s3 _ _ _ (Yw I6) t) (λf s7 g=>?_) λ_ _ z=>z.elim;cases f with
   | next=>obtain ⟨_,_,_,q⟩:=g; exact q.elim
   | brk=>obtain ⟨_,_,_,q⟩:=g; exact q.elim
   | cont=>obtain ⟨_,_,_,q⟩:=g; exact q.elim
   | ret u=>obtain ⟨v,y,H7,I7,r7,q7⟩:=g;exact ⟨v,y,H7,GI I.ok I7,r7,q7⟩
end
structure RoomQ (k:Nat) (A:iH):Prop where
 dp:A.depth+3 * k+5 < recursionLimit
 un:A.units+16 * k+200 < cLine
theorem RoomQ.deeper {k:Nat} (r:RoomQ (k+1) A) (env:Env):RoomQ k (A.deeper env):=
 ⟨by have:=r.dp; show A.depth+1+3 * k+5 < _; omega,by have:=r.un; show A.units+3+16 * k+200 < _; omega⟩
theorem RoomQ.depth {k:Nat} (r:RoomQ k A):A.depth < recursionLimit:=by have:=r.dp; omega
theorem RoomQ.units {k:Nat} (r:RoomQ k A):A.units+64 < cLine:=by have:=r.un; omega
theorem _root_.L2.Room.quiet {k:Nat} (r:Room k A):RoomQ k A:=⟨r.dp,r.un⟩
theorem RoomQ.mark {k:Nat} (r:RoomQ k A) (e:Option iu):RoomQ k (A.mark e):=⟨r.dp,r.un⟩
structure FnQ (P:iE) (w:iF) (K:Frag) (mg:Str->Option iu) (base:Heap) (CX:CXT) (k:Nat) (f:Addr) (fd:iZ) (ps:List Str) (sp:Sp):Prop where
 len:∀ vs H Q E,sp vs H Q E->vs.length=ps.length
 run:∀ (A:iH) (outer:List Env) (s:iB) (H:Hp) (args:Args) (us:List iu) (vs:List V) (Q:VK) (E:XK),RoomQ k A->Env0 P w K mg base A outer s H->lm s fd args (ps.zip us)->Vals vs us->sp vs H Q E ->codeAny (model P w) A (.call (.ref f) args) (CR CX outer P w H s Q E) s
def cxQ (CX:CXT) (P:iE) (w:iF) (K:Frag) (mg:Str->Option iu) (base:Heap) (N:List Str) (qual:Str) (scope:j7) (f:Addr) (cd:iu) (A:iH) (outer:List Env) (s:iB) (H:Hp) (E:XK):Cx where
 prog:=P
 w:=w
 K:=K
 mg:=mg
 base:=base
 A:=A.deeper (envOfC qual scope s.heap.objs.size f cd)
 N:=N
 s₀:=s
 H₀:=H
 env:=envOfC qual scope s.heap.objs.size f cd
 outer:=outer
 stack:=envOfC qual scope s.heap.objs.size f cd::outer
 ex:=[]
 calm:=iw
 fn:=λ_=>iA
 pn:=[]
 xe:=λe s'=>wpAny (model P w) (A.deeper (envOfC qual scope s.heap.objs.size f cd)) (leaving (envOfC qual scope s.heap.objs.size f cd) e) (λ_ a=>CX outer H s E e a) (λb a=>CX outer H s E b a) s'
theorem Ze {CX:CXT} {P:iE} {w:iF} {K:Frag} {mg:Str->Option iu} {base:Heap} {N ps:List Str} {qual:Str} {scope:j7} {f:Addr} {cd:iu} {A:iH} {outer:List Env} {s s1:iB} {H:Hp} {E:XK} {us:List iu} {vs:List V}
  (S:FnScope N ps scope) (d:Env0 P w K mg base A outer s H) (hl:vs.length=ps.length) (r:Vals vs us)
  (x:InCallC s s.heap.objs.size (bindL (envOfC qual scope s.heap.objs.size f cd).kindOf (ps.zip us) λ_=>iq) (cellsFrom (s.heap.objs.size+1) scope.names []) (bindC (envOfC qual scope s.heap.objs.size f cd).kindOf (ps.zip us) λ_=>iq) s1) :
  Inv (cxQ CX P w K mg base N qual scope f cd A outer s H E) [] (wj N vs) H s1:=by
 have t:ps.length<=N.length:=by have:=congrArg fB S.pre; rw [fP] at this; omega
 obtain ⟨h1,tk,rfl,m⟩:=x.done;have g:∀ b:Addr,b∉(cxQ CX P w K mg base N qual scope f cd A outer s H E).ex:=λb z=>absurd (show b∈([]:List Addr) from z) (by simp);refine ⟨⟨d.mod,S.kind,rfl,rfl,aD _,λy z c h1 h2=>?_,λy D=>?_,λy c _ h=>?_,λz=>absurd z (by show ¬(iw=iA); exact bz),Around.frames_deeper d.frames,.inr ⟨rfl,rfl⟩,λb z=>absurd z (g b),d.bs,d.bsz,λb _ _=>g b,λb z=>absurd z (g b),d.funs,d.frf⟩,rfl,d.bare,Un.kept m,⟨_,x.toInCall.ns,λi y v h1 h2 C=>?_⟩,λy c h=>⟨_,x.cell y c h⟩,d.hok.fresh (aD _),λy c h=>?_,λp hp=>absurd (show p∈([]:List (Addr×Obj)) from hp) (by simp),d.hok.kept m,?_⟩;·exact name_of_addr x.apart (bq h1) (bq h2)
 ·have D:scope.names.lookup y=ip .cell\/scope.names.lookup y=ip .free:=D;rcases D with D | D;·exact zY D
  ·exact absurd rfl (S.nofree _ (bq D))
 ·exact dg (x.above y c (bq h))
 ·have hi:i < vs.length:=by
   unfold wj at h2;by_cases hi:i < vs.length;·exact hi
   ·rw [bF (by simpa using hi)] at h2;rw [bt] at h2;split at h2 <;> cases h2
  have B:vs[i]?=ip v:=by
   unfold wj at h2;rw [cy (by simpa using hi),aG] at h2;cases e:vs[i]? with
   | none=>rw [e] at h2; cases h2
   | some a=>rw [e] at h2; cases h2; rfl
  obtain ⟨u,l,o⟩:=r.get B;have hp:ps[i]?=ip y:=by rw [<-S.pre,List.getElem?_take_of_lt (by omega)]; exact h1
  have j:ps.Nodup:=by rw [<-S.pre]; exact S.nd.sublist (List.take_sublist _ _)
  refine ⟨u,o,?_⟩;rcases S.par y (aY hp) with k | k;·exact .inl ⟨k,gG j hp l k⟩
  ·obtain ⟨c,e⟩:=zY (n:=s.heap.objs.size+1) k;refine .inr ⟨.inl k,c,e,?_⟩;have q:=x.cell y c e;rw [gH j hp l (by show scope.names.lookup y≠_; rw [k]; decide)] at q;exact q
 ·exact d.hok.fresh (dg (x.above y c (bq h)))
 ·unfold wj;show _=N.length;rw [ah,ay,dt];omega
theorem qgA {CX:CXT} {P:iE} {w:iF} {K:Frag} {mg:Str->Option iu} {base:Heap} {k:Nat} {f:Addr} {name qual:Str} {params:Arguments} {body:List Stmt} {scope:j7} {m kV doc pm cdv ct oc:iu} {an od:Option Addr}
  {osl:Array (Option iu)} {N ps:List Str} {sp:Sp} (z:K.lookup f=ip ⟨oc,od,.func (cf name qual params body scope m kV doc pm an cdv ct),osl⟩) (i:codeIn K cdv qual=iA) (S:FnScope N ps scope)
  (len:∀ vs H Q E,sp vs H Q E->vs.length=ps.length)
  (a:∀ (A:iH) (outer:List Env) (s:iB) (H:Hp) (vs:List V) (Q:VK) (E:XK),RoomQ k (A.deeper (envOfC qual scope s.heap.objs.size f cdv))->sp vs H Q E ->∃ t,PSs (cxQ CX P w K mg base N qual scope f cdv A outer s H E) body t/\t { nx:=λ_ H'=>Q .non H',rt:=Q } (wj N vs) H) :
  FnQ P w K mg base CX (k+1) f (cf name qual params body scope m kV doc pm an cdv ct) ps sp:=by
 refine ⟨len,λA outer s H args us vs Q E j d G r p=>?_⟩;have hl:=len _ _ _ _ p;have X:K.In s.heap:=d.mod.kin.keeps λb o e=>(d.bs b o e).1;have l:s.heap.NoLimit:=d.mod.nolimit.keeps λb o e=>(d.bs b o e).1;have h:∀ y∈ps.zip us,scope.names.lookup y.1=ip .local\/(scope.names.lookup y.1=ip .cell/\((cellsFrom (s.heap.objs.size+1) scope.names []).lookup y.1).isSome=iA):=λ⟨n,v⟩ D=>by
  rcases S.par n (fm D).1 with q | q;·exact .inl q
  ·exact .inr ⟨q,eG _ _ _ (.inl q)⟩
 refine codeAny_call_function j.depth (X _ _ z) rfl S.co S.gen rfl (PySem.W.codeRec_of X i) (G _ _ _ _ ?_);refine wpAny_newFunctionEnv_cells S.kind h λenv C s1 x=>?_;subst C;refine ⟨l.keeps x.toInCall.keep,codeAny_func ?_⟩;obtain ⟨t,B,hq⟩:=a A outer s H vs Q E (j.deeper _) p;have I:Inv (cxQ CX P w K mg base N qual scope f cdv A outer s H E) [] (wj N vs) H s1:=Ze S d hl r x;refine iU (B [] s1 (wj N vs) H _ I hq) (λL s' c=>?_) λe s' c=>c;have fin:∀ {σ':St} {H':Hp} {v:V} {u:iu},Inv (cxQ CX P w K mg base N qual scope f cdv A outer s H E) [] σ' H' s'->RelV v u->Q v H'->CE outer P w H s Q u s':=
  λ{σ' H' v u} J g q=>⟨v,H',J.os,J.bare,J.base,J.hok,g,q⟩
 cases L with
 | ret u=>obtain ⟨v,σ',H',J,g,q⟩:=c;exact fin J g q
 | next=>obtain ⟨σ',H',J,q⟩:=c;exact fin (v:=V.non) (u:=cV) J rfl q
 | brk=>obtain ⟨_,_,_,q⟩:=c;exact cA q
 | cont=>obtain ⟨_,_,_,q⟩:=c;exact cA q
theorem qiy {P:iE} {w:iF} {K:Frag} {mg:Str->Option iu} {base:Heap} {CX:CXT} {x qual:Str} {st:Stmt} {f:Addr} {fd:iZ} {N ps:List Str} {k:Nat} {cv:Str->iu} {ms:List PM} {mr:Mo} {own':List Nat} {fb:Sl->Out (Fl×Sl)} {G:List D->Out (D×List D)}
  (F:Fun K x qual st f fd) (S:FnScope N ps (qf st)) (hl:ms.length=ps.length) (g:∀ i∈WT 0 ms,i∈own') (r:mr=.sh\/∀ ds ρ,(fb (qw N ds))≠.ok (.nx,ρ))
  (a:∀ (cdv:iu) (A:iH) (outer:List Env) (s:iB) (H:Hp) (E:XK),RoomQ k (A.deeper (envOfC qual (qf st) s.heap.objs.size f cdv)) ->PSs (cxQ CX P w K mg base N qual (qf st) f cdv A outer s H E) (vb st) (tSt (qfB K cv E ms mr) (ku 0 ms) own' fb))
  (j:∀ ds,Out.le (G ds) (ki N ms fb ds)):FnQ P w K mg base CX (k+1) f fd ps (spD K cv ms mr G):=by
 obtain ⟨oc,od,kV,doc,pm,an,cdv,ct,osl,rfl,l,d⟩:=F.ex;refine qgA l d S (λvs H Q E h=>?_) λA outer s H vs Q E e p=>?_;·obtain ⟨F,ds,_,b,_⟩:=h;rw [b.length.1,hl]
 ·obtain ⟨F1,ds,c,b,nd,h⟩:=p;refine ⟨_,a cdv A outer s H E e,?_⟩;exact Gz (C:=qfB K cv E ms mr) rfl rfl (r.imp id λz ρ=>z ds ρ) g c b nd (j ds) h
section
variable {fr:Sl->Out (List D×Sl)}
theorem qey {k:Nat} {f:Addr} {sp:Sp} {E:XK} {pins:List (Addr×Obj)} {σ:St} {H:Hp} {s:iB} {Q:VK} {us:List iu} {vs:List V} (F:FnQ X.prog X.w X.K X.mg X.base CX k f fd ps sp) (a:RoomQ k X.A) (d:Binds X.K fd ps []) (hx:ur CX X E)
  (I:Inv X pins σ H s) (r:Vals vs us) (h:sp (vs++[]) H Q E):wpAny (model X.prog X.w) X.A (call (.ref f) us) (EP X pins σ Q) X.xe s:=by
 have r2:Vals (vs++[]) (us++[]):=r.append .nil;have hl:(us++[]).length=ps.length:=by rw [<-r2.length]; exact F.len _ _ _ _ h
 refine wpAny_call (j9 (F.run X.A X.stack s H ⟨us,[]⟩ (us++[]) (vs++[]) Q E a I.env0 (d s us I.kIn hl) r2 h) λr s' hq=>?_);cases r with
 | error e=>exact hx pins σ H s e s' I hq
 | ok l=>
  cases l with
  | ret u=>exact I.after hq
  | next=>exact cA hq
  | brk=>exact cA hq
  | cont=>exact cA hq
theorem qb2 {k:Nat} {f:Addr} {p pos:Pos} (F:FnQ X.prog X.w X.K X.mg X.base CX k f fd ps (spD C.K C.cv ms mr G)) (g:RoomQ k X.A) (hg:Gl X x) (m:X.mg x=ip (.ref f)) (j:keepIn X.K (.ref f)=iA) (u:Binds X.K fd ps []) (hx:ur CX X C.E)
  (v:PA X (e::es) (tAr C own as fr)) (a:ms=as.map JE:=by rfl) (c:∀ i∈jp as,i∈own:=by decide) (nd:(jp as).Nodup:=by decide) (n:frA as<=1:=by decide) (o:∀ i∈C.ox,i∈own:=by exact ut rfl) (b:(x == ("__debug__":Str))=false:=by decide) (t:starEach (e::es) X.env=(iw,eval e X.env)::starEach es X.env:=by exact kq rfl)
  (l:(backTo pos (starEach es X.env)).any (·.1)=false:=by exact xf rfl):PE X (.Call (.Name x p) (e::es) [] pos) (tE C own mr (qv as G fr)):=by
 subst a;refine ⟨?_⟩;intro pins s σ H Q I h;refine iV (xR I hg m ?_ b);refine PySem.W.callWith_K (h₀:=X.base) I.ok.mod.kin j (thn (v pos pins s σ H _ I (GA o c nd n h)) λus s1 ⟨vs,H1,d,r,q⟩=>⟨d.kIn,?_⟩) t l;exact qey F g u hx d r q
end
def DefOk (P:iE) (w:iF) (K:Frag) (mg:Str->Option iu) (base:Heap) (cv:Str->iu) (k:Nat) (x:Str) (ps:List Str) (ms:List PM) (mr:Mo) (G:List D->Out (D×List D)):Prop:=
 ∃ f fd,FnOk P w K mg base (CXk P w) k f fd ps (spD K cv ms mr G)/\mg x=ip (.ref f)/\keepIn K (.ref f)=iA/\Binds K fd ps []
def qiz (P:iE) (w:iF) (K:Frag) (mg:Str->Option iu) (base:Heap) (cv:Str->iu) (k:Nat) (x:Str) (ps:List Str) (ms:List PM) (mr:Mo) (G:List D->Out (D×List D)):Prop:=
 ∃ f fd,FnQ P w K mg base (CXk P w) k f fd ps (spD K cv ms mr G)/\mg x=ip (.ref f)/\keepIn K (.ref f)=iA/\Binds K fd ps []
def qY (K:Frag) (mg:Str->Option iu) (x:Str) (st:Stmt) (ps:List Str):Prop:=∃ f fd,Fun K x x st f fd/\mg x=ip (.ref f)/\Binds K fd ps []
theorem qJ {P:iE} {w:iF} {base:Heap} {cv:Str->iu} {k:Nat} {ms:List PM} {mr:Mo} {own':List Nat} {fb:Sl->Out (Fl×Sl)} (T:qY K mg x st ps) (S:FnScope N ps (qf st))
  (a:∀ (cdv:iu) (f:Addr) (A:iH) (outer:List Env) (s:iB) (H:Hp) (E:XK),Room k (A.deeper (envOfC x (qf st) s.heap.objs.size f cdv)) ->PSs (cxk P w K mg base N x (qf st) f cdv A outer s H E) (vb st) (tSt (qfB K cv E ms mr) (ku 0 ms) own' fb))
  (hl:ms.length=ps.length:=by rfl) (g:∀ i∈WT 0 ms,i∈own':=by exact ut rfl) (r:mr=.sh\/∀ ds ρ,(fb (qw N ds))≠.ok (.nx,ρ):=by exact .inl rfl):DefOk P w K mg base cv (k+1) x ps ms mr (ki N ms fb):=by
 obtain ⟨f,fd,F,c,d⟩:=T;exact ⟨f,fd,qji F S hl g r (λcdv A outer s H E h=>a cdv f A outer s H E h) λ_=>.inr rfl,c,F.kp,d⟩
theorem qiA {P:iE} {w:iF} {base:Heap} {cv:Str->iu} {k:Nat} {ms:List PM} {mr:Mo} {own':List Nat} {fb:Sl->Out (Fl×Sl)} (T:qY K mg x st ps) (S:FnScope N ps (qf st))
  (a:∀ (cdv:iu) (f:Addr) (A:iH) (outer:List Env) (s:iB) (H:Hp) (E:XK),RoomQ k (A.deeper (envOfC x (qf st) s.heap.objs.size f cdv)) ->PSs (cxQ (CXk P w) P w K mg base N x (qf st) f cdv A outer s H E) (vb st) (tSt (qfB K cv E ms mr) (ku 0 ms) own' fb))
  (hl:ms.length=ps.length:=by rfl) (g:∀ i∈WT 0 ms,i∈own':=by exact ut rfl) (r:mr=.sh\/∀ ds ρ,(fb (qw N ds))≠.ok (.nx,ρ):=by exact .inl rfl):qiz P w K mg base cv (k+1) x ps ms mr (ki N ms fb):=by
 obtain ⟨f,fd,F,c,d⟩:=T;exact ⟨f,fd,qiy F S hl g r (λcdv A outer s H E h=>a cdv f A outer s H E h) λ_=>.inr rfl,c,F.kp,d⟩
variable {cv:Str->iu}
theorem DefOk.by {k:Nat} {a:List D->Out (D×List D)} (h:DefOk P w K mg base cv k x ps ms mr G) (e:∀ ds,Out.le (a ds) (G ds)):DefOk P w K mg base cv k x ps ms mr a:=by
 obtain ⟨f,fd,F,r⟩:=h;refine ⟨f,fd,F.imp λvs H Q E ⟨F1,ds,A,b,nd,po⟩=>⟨F1,ds,A,b,nd,?_⟩,r⟩;rcases e ds with z | z;·rw [z] at po; exact po.elim
 ·rw [<-z]; exact po
section
variable {fr:Sl->Out (List D×Sl)} {p:Pos} {k j:Nat}
theorem qm (F:DefOk X.prog X.w X.K X.mg X.base cv j x ps ms mr G) (h:Room k X.A) (d:j<=k) (hx:ur (CXk X.prog X.w) X C.E) (hg:Gl X x) (t:PA X (e::es) (tAr C own as fr)) (v:C.cv=cv:=by rfl) (n:C.K=X.K:=by rfl) (s:ms=as.map JE:=by rfl) (c:∀ i∈jp as,i∈own:=by decide) (nd:(jp as).Nodup:=by decide) (g:frA as<=1:=by decide) (o:∀ i∈C.ox,i∈own:=by exact ut rfl)
  (b:(x == ("__debug__":Str))=false:=by decide) (q:starEach (e::es) X.env=(iw,eval e X.env)::starEach es X.env:=by exact kq rfl) (l:(backTo pos (starEach es X.env)).any (·.1)=false:=by exact xf rfl):PE X (.Call (.Name x p) (e::es) [] pos) (tE C own mr (qv as G fr)):=by
 subst v;obtain ⟨f,fd,F,m,a,r⟩:=F;rw [<-n] at F;exact qer (by rw [<-n]; exact F) (h.mono d) hg m a r hx t s c nd g o b q l
theorem GJ (F:qiz X.prog X.w X.K X.mg X.base cv j x ps ms mr G) (h:RoomQ j X.A) (hx:ur (CXk X.prog X.w) X C.E) (hg:Gl X x) (q:PA X (e::es) (tAr C own as fr)) (v:C.cv=cv:=by rfl) (n:C.K=X.K:=by rfl) (s:ms=as.map JE:=by rfl) (c:∀ i∈jp as,i∈own:=by decide) (nd:(jp as).Nodup:=by decide) (a:frA as<=1:=by decide) (o:∀ i∈C.ox,i∈own:=by exact ut rfl)
  (b:(x == ("__debug__":Str))=false:=by decide) (d:starEach (e::es) X.env=(iw,eval e X.env)::starEach es X.env:=by exact kq rfl) (l:(backTo pos (starEach es X.env)).any (·.1)=false:=by exact xf rfl):PE X (.Call (.Name x p) (e::es) [] pos) (tE C own mr (qv as G fr)):=by
 subst v;obtain ⟨f,fd,F,m,k,g⟩:=F;rw [<-n] at F;exact qb2 (by rw [<-n]; exact F) h hg m k g hx q s c nd a o b d l
noncomputable def qfD:D->Out D
 | .int i=>.ok (.int (-i))
 | _=>.bad
theorem Yy:UnD X C .sh (unaryOp .USub) qfD:=by
 intro pins s σ H x v Q I d h;obtain ⟨F,dx,A,tx,po⟩:=h;cases dx <;> try exact po.elim
 obtain rfl:=tx.int;exact qf3 pins s σ H _ v Q I d ⟨_,rfl,po _ F H A .refl (.int _)⟩
end
noncomputable def yP:Option (Option D)->Bool
 | some (ip (.lst _))=>iA
 | _=>iw
noncomputable def gN (i:Nat) (g:List D->D->Out (List D)) (fe:Sl->Out (D×Sl)):Sl->Out (D×Sl):=λρ=>if yP ρ[i]?=iA then (fe ρ).bind λp=>match p.2[i]? with
 | some (ip (.lst xs))=>match g xs p.1 with
  | .ok ys=>.ok (.non,p.2.set i (ip (.lst ys)))
  | _=>.bad
 | _=>.bad
 else .bad
noncomputable def JK (xs:List D) (d:D):Out (List D):=if xs.length < sizeLine then .ok (xs++[d]) else .bad
noncomputable def GK (xs:List D):D->Out (List D)
 | .lst ys=>if xs.length+ys.length<=sizeLine then .ok (xs++ys) else .bad
 | .tup ys=>if xs.length+ys.length<=sizeLine then .ok (xs++ys) else .bad
 | _=>.bad
section
theorem Rep.write (r:Rep K own F H σ ρ) (hi:i∈own) (g:σ[i]?=ip (ip (V.ref a))) (ow:OwnIs K F (upd H a u) a d):Rep K own F (upd H a u) σ (ρ.set i (ip d))/\Chg (OA own σ) F H F (upd H a u):=by
 obtain ⟨f,h⟩:=r.opn i hi;obtain ⟨l,e1,E,k⟩:=r.ow i f hi h;rw [g] at e1; cases e1;have hl:i < ρ.length:=(aB.mp h).1;refine ⟨⟨λb o e=>by rw [qF (qM e E)]; exact r.sub b o e,by simp [r.len],λj d' G e=>?_,λj d' G e=>?_,λj G=>?_,r.dis⟩,⟨λb o e n=>?_,λb e=>?_,Same.refl _,λb e=>.inl e⟩⟩;·rw [au (λz=>G (by rw [<-z]; exact hi))] at e;exact r.val j d' G e
 ·by_cases q:j=i;·subst q;rw [aF hl] at e;cases e;exact ⟨a,g,E,ow⟩
  ·rw [au (bh q)] at e;obtain ⟨b,h1,h2,c⟩:=r.ow j d' G e;have A:b≠a:=λz=>by subst z; exact q (r.dis j i b G hi h1 g)
   exact ⟨b,h1,h2,c.grow (Same.refl _) λo z=>by rw [qF A]; exact z⟩
 ·by_cases q:j=i;·subst q; exact ⟨d,aF hl⟩
  ·rw [au (bh q)]; exact r.opn j G
 ·have A:b≠a:=λz=>n (by rw [z]; exact ⟨i,hi,g⟩);rw [qF A]; exact e
 ·by_cases q:b=a;·rw [q,qu]; simp
  ·rw [qF q]; exact e
theorem Yz {o:Option (Option D)} (h:yP o=iA):∃ xs,o=ip (ip (.lst xs)):=by
 unfold yP at h;split at h;·exact ⟨_,rfl⟩
 ·cases h
theorem qb3 {g:List D->D->Out (List D)} {R:V->V->Hp->VK->Prop} {σ:St} {H:Hp} {Q:VK} (j:i∈own) (t:m≠.any)
  (k:∀ (a:Addr) (xs:List V) (ds ys:List D) (v:V) (d:D) (F H:Hp),Same F H->H a=ip (.lst xs)->F a=iq->IsL C.K F xs ds->Is C.K F v d->g ds d=.ok ys->(∀ zs,IsL C.K F zs ys->Q .non (upd H a (.lst zs)))->R (.ref a) v H Q)
  (h:tE C own .sh (gN i g fe) σ H Q):∃ a xs,σ[i]?=ip (ip (V.ref a))/\H a=ip (.lst xs)/\tE C own .sh fe σ H λv H1=>R (.ref a) v H1 Q:=by
 obtain ⟨F,ρ,p,h⟩:=h;unfold gN at h;by_cases q:yP ρ[i]?=iA
 ·rw [if_pos q] at h;obtain ⟨ds,hd⟩:=Yz q;obtain ⟨a,h1,h2,xs,l,w⟩:=p.ow i _ j hd;refine ⟨a,xs,h1,l,F,ρ,p,Po.bind h λv F1 H1 d ρ1 r x f po=>?_⟩;cases e:ρ1[i]? with
  | none=>simp only [e] at po; exact po.elim
  | some o=>
   cases o with
   | none=>simp only [e] at po; exact po.elim
   | some dd=>
    simp only [e] at po;cases dd with
    | lst es=>
     simp only at po;cases b:g es d with
     | ok ys=>simp only [b] at po;obtain ⟨y,e1,s,vs,E,n⟩:=r.ow i _ j e;rw [h1] at e1; cases e1;refine k a vs es ys v d F1 H1 r.sub E s n f b λzs z=>?_;obtain ⟨r2,c2⟩:=r.write (u:=.lst zs) (d:=.lst ys) j h1 ⟨zs,qu,z⟩;exact po .non F1 _ r2 c2 .non
     | exc c o=>simp only [b] at po; exact po.elim
     | bad=>simp only [b] at po; exact po.elim
    | _=>exact po.elim
 ·rw [if_neg q] at h; exact h.elim
theorem ww {px apos cpos:Pos} (u:C.K=X.K) (r:X.N[i]?=ip x) (n:Vis X.env.scope x) (o:i∈own) (p:PE X e (tE C own m fe)) (j:m≠.any:=by decide)
  (hd:(x == ("__debug__":Str))=false:=by decide) (f:(x == ("__classdict__":Str))=false:=by decide)
  (c:attributeBase (.Name x px) "append" X.env (eval (.Name x px) X.env)=eval (.Name x px) X.env:=by rfl)
  (w:((backTo cpos (starEach [e] X.env)).all (λx=>!x.1)&&(backToKw cpos (keywordEach [] X.env)).all (λx=>x.1.isSome)
   && decide ([e].length+([]:List iP).length+(if ([]:List iP).isEmpty then 0 else 1) < 30))=true:=by exact vP rfl)
  (b:(apos.endLine == cpos.line)=true:=by rfl) (s:starEach [e] X.env=[(iw,eval e X.env)]:=by exact qS rfl) :
  PE X (.Call (.Attribute (.Name x px) "append" apos) [e] [] cpos) (tE C own .sh (gN i JK fe)):=by
 refine jN (WK bX PySem.F.slot_list_append PySem.F.type_list_append Vl (yC r n hd f) (qU (yy p j) jH s) c w b s rfl) λσ H Q h=>?_;have q:∀ (a:Addr) (xs:List V) (ds ys:List D) (v:V) (d:D) (F H:Hp),Same F H->H a=ip (.lst xs)->F a=iq->IsL C.K F xs ds->Is C.K F v d->JK ds d=.ok ys->(∀ zs,IsL C.K F zs ys->Q .non (upd H a (.lst zs)))->WL (.ref a) [v] H Q:=λa xs ds ys v d F H A t y ix l g k=>by
  unfold JK at g;split at g;·cases g;exact ⟨a,xs,v,rfl,rfl,t,by rw [ix.length]; assumption,k _ (ix.append (.cons l .nil))⟩
  ·cases g
 obtain ⟨a,xs,h1,h2,k⟩:=qb3 (R:=λx v H Q=>WL x [v] H Q) o j q h;exact ⟨.ref a,h1,.inl ⟨rfl,xs,.inl (.inl h2)⟩,k⟩
theorem xp {px apos cpos:Pos} (I:X.N[i]?=ip x) (A:Vis X.env.scope x) (j:i∈own) (B:PE X e (tE C own .fr fe))
  (hd:(x == ("__debug__":Str))=false:=by decide) (k:(x == ("__classdict__":Str))=false:=by decide)
  (f:attributeBase (.Name x px) "extend" X.env (eval (.Name x px) X.env)=eval (.Name x px) X.env:=by rfl)
  (w:((backTo cpos (starEach [e] X.env)).all (λx=>!x.1)&&(backToKw cpos (keywordEach [] X.env)).all (λx=>x.1.isSome)
   && decide ([e].length+([]:List iP).length+(if ([]:List iP).isEmpty then 0 else 1) < 30))=true:=by exact vP rfl)
  (c:(apos.endLine == cpos.line)=true:=by rfl) (s:starEach [e] X.env=[(iw,eval e X.env)]:=by exact qS rfl) :
  PE X (.Call (.Attribute (.Name x px) "extend" apos) [e] [] cpos) (tE C own .sh (gN i GK fe)):=by
 refine jN (WK bX PySem.F.slot_list_extend PySem.F.type_list_extend Gc (yC I A hd k) (qU B jH s) f w c s rfl) λσ H Q ⟨F,ρ,p,h⟩=>?_;unfold gN at h;by_cases q:yP ρ[i]?=iA
 ·rw [if_pos q] at h;obtain ⟨ds,hd⟩:=Yz q;obtain ⟨a,h1,h2,xs,J,L⟩:=p.ow i _ j hd;refine ⟨.ref a,h1,.inl ⟨rfl,xs,.inl (.inl J)⟩,F,ρ,p,Po.bind h λv F1 H1 d ρ1 r O m po=>?_⟩;obtain ⟨b,rfl,G,E,l⟩:=m;cases g:ρ1[i]? with
  | none=>simp only [g] at po; exact po.elim
  | some o=>
   cases o with
   | none=>simp only [g] at po; exact po.elim
   | some dd=>
    simp only [g] at po;cases dd with
    | lst es=>
     simp only at po;obtain ⟨P,e1,M,vs,K,t⟩:=r.ow i _ j g;rw [h1] at e1; cases e1;cases d with
     | lst ys=>
      obtain ⟨zs,y,n⟩:=l;have po:Po C own .sh σ F1 H1 (match (if es.length+ys.length<=sizeLine then .ok (es++ys) else .bad:Out (List D)) with | .ok ys=>.ok (.non,ρ1.set i (ip (.lst ys))) | _=>.bad) Q:=po;by_cases z:es.length+ys.length<=sizeLine;·rw [if_pos z] at po;refine ⟨a,b,vs,zs,rfl,rfl,K,y,by rw [t.length,n.length]; exact z,?_⟩;obtain ⟨r2,c2⟩:=r.write (u:=.lst (vs++zs)) (d:=.lst (es++ys)) j h1 ⟨_,qu,t.append n⟩;exact po .non F1 _ r2 c2 .non
      ·rw [if_neg z] at po; exact po.elim
     | dct ys=>exact po.elim
     | ins _ _=>exact po.elim
     | at_ _ _=>exact po.elim
     | _=>exact l.elim
    | _=>exact po.elim
 ·rw [if_neg q] at h; exact h.elim
end
noncomputable def scB (names:List (Str×i6)) (scope:j7):Bool:=decide (scope.kind=.function)&&scope.names.all λy=>decide (y.2≠.cell)&&(!decide (y.2=.local)||decide (scope.names.lookup y.1=ip .local)) &&
 (!decide (y.2=.free)||((decide (names.lookup y.1=ip .cell)||decide (names.lookup y.1=ip .free))&&decide (scope.names.lookup y.1=ip .free)))
variable {names:List (Str×i6)}
theorem vN (h:X.env.scope.names=names) (b:scB names scope=iA):ScOk X scope:=by
 subst h;unfold scB at b;rw [aN,aM] at b;obtain ⟨a,A⟩:=b;refine ⟨of_decide_eq_true a,λy D=>?_,λy D e=>?_,λy D e=>?_,λy D e=>?_⟩;all_goals
  have q:=A y D;simp only [aN,Bool.or_eq_true,Bool.not_eq_true',decide_eq_true_eq,decide_eq_false_iff_not] at q
 ·exact q.1.1
 ·exact q.1.2.resolve_left λz=>z e
 ·exact (q.2.resolve_left λz=>z e).1
 ·exact (q.2.resolve_left λz=>z e).2
noncomputable def qjj (names:List (Str×i6)) (N:List Str) (scope:j7) (c:List Str) (nt:Nat) (cap:List Nat):Bool:=decide cap.Nodup&&decide (c.length=nt+cap.length)&&(aK cap.length).all λj=>match cap[j]? with
 | some k=>match c[nt+j]? with
  | some x=>decide (N[k]?=ip x)&&(((decide (names.lookup x=ip .local)||decide (names.lookup x=ip .cell)||decide (names.lookup x=ip .free))&&decide ((x,bB)∈scope.names))||scope.names.all λy=>decide (y.1≠x))
  | none=>iw
 | none=>iw
theorem jV {c:List Str} (a:X.env.scope.names=names) (d:X.N=N) (b:qjj names N scope c nt cap=iA):CapOk X scope c nt cap:=by
 subst a d;unfold qjj at b;rw [aN,aN,aM] at b;obtain ⟨⟨g,A⟩,f⟩:=b;refine ⟨of_decide_eq_true g,of_decide_eq_true A,λj k G=>?_⟩;have q:=f j (bD.mpr (aB.mp G).1);rw [G] at q;cases e:c[nt+j]? with
 | none=>simp only [e] at q; cases q
 | some x=>
  simp only [e,aN,Bool.or_eq_true,decide_eq_true_eq] at q;refine ⟨x,rfl,q.1,?_⟩;rcases q.2 with ⟨z,q2⟩ | z
  ·refine .inl ⟨?_,q2⟩;rcases z with (z | z) | z;·exact .inl z
   ·exact .inr (.inl z)
   ·exact .inr (.inr z)
  ·refine .inr λk' h=>?_;rw [aM] at z;exact of_decide_eq_true (z (x,k') h) rfl
theorem yA:ur (CXk P w) X (λ_ _ _=>False):=λ_ _ _ _ _ _ _ h=>by obtain ⟨_,_,_,_,_,_,_,_,_,_,_,_,_,_,k⟩:=h;exact k.elim
noncomputable def qiB (f:Sl->Out (D×Sl)):Sl->Out (D×Sl):=λρ=>(jb f ρ).bind λp=>.ok (.bl (!p.1),p.2)
section
variable {i:Int}
theorem xq (h:∃ t,X.mg x=ip (.int i t)) (hg:Gl X x) (hd:(x == ("__debug__":Str))=false:=by decide):PE X (.Name x pos) (tE C own .sh (dC (.int i))):=by obtain ⟨t,h⟩:=h;exact qeh (v:=.int i) hg h ⟨t,rfl⟩ (λ_=>.int i) hd
end
section
variable {a b:Expr} {fb:Sl->Out (D×Sl)}
noncomputable def wx:D->Out D
 | .lst xs=>.ok (.tup xs)
 | .tup xs=>.ok (.tup xs)
 | _=>.bad
noncomputable def VH:D->Out D
 | .lst xs=>.ok (.lst xs)
 | .tup xs=>.ok (.lst xs)
 | _=>.bad
theorem yi (n:C.K=X.K):QI X C .sh (.type "tuple") wx:=by
 intro pins s σ H xs us Q I r h;obtain ⟨x,F,dx,rfl,A,tx,po⟩:=h;cases dx with
 | lst ds=>obtain ⟨p,vs,rfl,hq,t⟩:=tx.lst A;refine xb pins s σ H _ us Q I r ⟨p,vs,rfl,.inl ⟨by rw [<-n]; exact hq,λl hl=>?_⟩⟩;obtain ⟨s2,c2⟩:=uD (u:=.tup vs) A hl;exact po _ _ _ s2 c2 (.tup (.inl (.inl qu)) (t.mono c2.grow))
 | tup ds=>
  rcases tx with tx | ⟨_,_,tx⟩
  ·have a:=tx;cases tx with
   | tup hq t=>exact xb pins s σ H _ us Q I r ⟨_,_,rfl,.inr ⟨by rw [<-n]; exact qZ A hq,po _ F H A .refl a⟩⟩
  ·exact tx.elim
 | _=>exact po.elim
theorem WW (n:C.K=X.K):QI X C .fr (.type "list") VH:=by
 intro pins s σ H xs us Q I r h;obtain ⟨x,F,dx,rfl,A,tx,po⟩:=h;cases dx with
 | lst ds=>obtain ⟨p,vs,rfl,hq,t⟩:=tx.lst A;refine zw pins s σ H _ us Q I r ⟨p,vs,rfl,.inl (by rw [<-n]; exact hq),λl hl=>?_⟩;obtain ⟨s2,c2,E⟩:=wl (u:=.lst vs) A hl;exact po _ _ _ s2 c2 ⟨l,rfl,hl,E,vs,qu,t⟩
 | tup ds=>obtain ⟨p,vs,rfl,hq,t⟩:=tx.tup A;refine zw pins s σ H _ us Q I r ⟨p,vs,rfl,.inr (by rw [<-n]; exact hq),λl hl=>?_⟩;obtain ⟨s2,c2,E⟩:=wl (u:=.lst vs) A hl;exact po _ _ _ s2 c2 ⟨l,rfl,hl,E,vs,qu,t⟩
 | _=>exact po.elim
def GL (X:Cx) (C:Ct) (m:Mo) (f:iu) (g:D->D->Out D):Prop:=uz X f (λxs H Q=>∃ x y F dx d,xs=[x,y]/\Same F H/\TopIs C.K F H x dx/\TopIs C.K F H y d/\PoV C m F H (g dx d) Q)
theorem qb4 {Q:VK} {g:D->D->Out D} (k:ma≠.any) (h:tE C own m (d2 g fa fb) σ H Q):XU (tE C own ma fa) (XU (tE C own mb fb) qhK) σ H λxs H1=>∃ x y F dx a,xs=[x,y]/\Same F H1/\TopIs C.K F H1 x dx/\TopIs C.K F H1 y a/\PoV C m F H1 (g dx a) Q:=by
 obtain ⟨F,ρ,n,h⟩:=Vp (mb:=mb) k h;refine ⟨F,ρ,n,?_⟩;cases q:fa ρ with
 | ok p=>
  rw [q] at h;obtain ⟨d,ρ1⟩:=p;intro v F1 H1 e o j;obtain ⟨t,ρ2,b,h2⟩:=h v F1 H1 e o j;refine ⟨t,ρ2,b,?_⟩;cases f:fb ρ2 with
  | ok p=>rw [f] at h2;obtain ⟨d',l⟩:=p;intro w u s r J i;obtain ⟨M,dx,a,z⟩:=h2 w u s r J i;exact ⟨v,w,M,dx,a,rfl,z⟩
  | exc c=>rw [f] at h2; exact h2
  | bad=>rw [f] at h2; exact h2.elim
 | exc c=>rw [q] at h; exact h
 | bad=>rw [q] at h; exact h.elim
theorem VI {id:String} {p:Pos} {g:D->D->Out D} (e:GL X C m (.builtin id) g) (hg:Gl X x) (d:X.mg x=iq) (v:bootBuiltins x=ip (.builtin id)) (j:PE X a (tE C own ma fa)) (i:PE X b (tE C own mb fb)) (f:ma≠.any:=by decide) (n:x ≠ "__name__":=by decide) (c:(x == ("__debug__":Str))=false:=by decide)
  (h1:starEach [a,b] X.env=(iw,eval a X.env)::starEach [b] X.env:=by rfl) (h2:starEach [b] X.env=[(iw,eval b X.env)]:=by exact qS rfl):PE X (.Call (.Name x p) [a,b] [] pos) (tE C own m (d2 g fa fb)):=
 jN (wM e hg d v (qU j (qU i jH h2) h1) n c (by rw [h1]) (by rw [h2]; rfl)) λ_ _ _ h=>qb4 f h
noncomputable def qhO:D->D->Out D:=uu λi j=>.ok (.int (if j > i then j else i))
noncomputable def qhP:D->D->Out D:=uu λi j=>.ok (.int (if j < i then j else i))
theorem qgB (d:X.calm=iA):GL X C .sh (.builtin "max") qhO:=by
 intro pins s σ H xs us Q I r h;obtain ⟨x,y,F,dx,a,rfl,A,tx,ty,po⟩:=h;cases dx <;> try exact po.elim
 cases a <;> try exact po.elim
 obtain rfl:=tx.int;obtain rfl:=ty.int;exact ZX d pins s σ H _ us Q I r ⟨_,_,rfl,po _ F H A .refl (.int _)⟩
theorem qgC (d:X.calm=iA):GL X C .sh (.builtin "min") qhP:=by
 intro pins s σ H xs us Q I r h;obtain ⟨x,y,F,dx,a,rfl,A,tx,ty,po⟩:=h;cases dx <;> try exact po.elim
 cases a <;> try exact po.elim
 obtain rfl:=tx.int;obtain rfl:=ty.int;exact ZY d pins s σ H _ us Q I r ⟨_,_,rfl,po _ F H A .refl (.int _)⟩
noncomputable def kK (a T:String):Option Bool:=if (fV a == fV T)=iA then ip iA else if PySem.W.kitMeta T=iA then (fastBuiltinMro a).map (·.contains (.type T)) else iq
theorem qb5 (K:Frag) (a T:String):cj K (.type a) (.type T)=kK a T:=rfl
noncomputable def tyN:D->Option String
 | .non=>ip "NoneType"
 | .bl _=>ip "bool"
 | .int _=>ip "int"
 | .str _=>ip "str"
 | .tup _=>ip "tuple"
 | .lst _=>ip "list"
 | .dct _=>ip "dict"
 | _=>iq
noncomputable def gh (T:String) (d:D):Out D:=match tyN d with
 | some a=>match kK a T with
  | some b=>.ok (.bl b)
  | none=>.bad
 | none=>.bad
theorem qb6 (g:C.K=X.K):uz X (.builtin "isinstance") (λxs H Q=>∃ x F d,xs=[x,.ty T]/\Same F H/\TopIs C.K F H x d/\PoV C .sh F H (gh T d) Q):=by
 intro pins s σ H xs us Q I r h;obtain ⟨x,F,d,rfl,A,tx,po⟩:=h;obtain ⟨u,c,rfl,B,i⟩:=qbG r;cases i;cases q:tyN d with
 | none=>unfold gh at po; rw [q] at po; exact po.elim
 | some a=>
  cases f:kK a T with
  | none=>unfold gh at po; rw [q] at po; simp only [f] at po; exact po.elim
  | some b=>
   have po:PoV C .sh F H (.ok (.bl b)) Q:=by unfold gh at po; rw [q] at po; simp only [f] at po; exact po
   have fin:∀ tk,EP X pins σ Q (.bool b) { s with toks:=tk }:=λtk=>⟨.bl b,H,I.tok tk,rfl,po _ F H A .refl (.bl b)⟩
   have e:cj X.K (.type a) (.type T)=ip b:=(qb5 X.K a T).trans f;cases d with
   | non=>obtain rfl:=tx.non; cases B; cases q; exact cR PySem.W.kitx_none I.kIn dH e (λz=>nomatch z) fin
   | bl y=>obtain rfl:=tx.bl; cases B; cases q; exact cR PySem.W.kitx_bool I.kIn dH e (λz=>nomatch z) fin
   | int y=>obtain rfl:=tx.int; obtain ⟨t,rfl⟩:=B; cases q; exact cR PySem.W.kitx_int I.kIn dH e (λz=>nomatch z) fin
   | str y=>obtain ⟨rfl,_⟩:=tx.str; obtain ⟨t,rfl⟩:=B; cases q; exact cR PySem.W.kitx_str I.kIn dH e (λz=>nomatch z) fin
   | tup y=>obtain ⟨p,vs,rfl,hq,t⟩:=tx.tup A;cases B; cases q;obtain ⟨its,_,⟨o,h1,h2,_⟩,_⟩:=I.tuple (show SqT X.K H p vs by rw [<-g]; exact hq);exact cR PySem.W.kitx_tuple I.kIn ⟨o,h1,h2⟩ e (λz=>nomatch z) fin
   | lst y=>obtain ⟨p,vs,rfl,hq,t⟩:=tx.lst A;cases B; cases q;obtain ⟨its,_,⟨o,n,h1,h2,_⟩,_⟩:=I.list (show SqL X.K H p vs by rw [<-g]; exact hq);exact cR PySem.W.kitx_list I.kIn ⟨o,h1,h2⟩ e (λz=>nomatch z) fin
   | dct y=>
    obtain ⟨p,vs,rfl,hq,t⟩:=tx.dct A;cases B; cases q;obtain ⟨_,_,ws,_,o,es,ep,h1,h2,_⟩:=(show ObjOk X.prog X.w H s.heap p (.dK vs) from I.hok p _ hq)
    exact cR PySem.W.kitx_dict I.kIn ⟨o,h1,h2.1⟩ e (λz=>nomatch z) fin
   | _=>cases q
theorem xu {tn:Str} {p t:Pos} (o:C.K=X.K) (hg:Gl X "isinstance") (j:X.mg "isinstance"=iq) (i:bootBuiltins "isinstance"=ip (.builtin "isinstance")) (l:Gl X tn) (e:X.mg tn=iq) (b:bootBuiltins tn=ip (.type T)) (k:PE X a (tE C own ma fa)) (n:tn ≠ "__name__":=by decide) (f:(tn == ("__debug__":Str))=false:=by decide)
  (h1:starEach [a,.Name tn t] X.env=(iw,eval a X.env)::starEach [.Name tn t] X.env:=by rfl) (h2:starEach [.Name tn t] X.env=[(iw,eval (.Name tn t) X.env)]:=by rfl):PE X (.Call (.Name "isinstance" p) [a,.Name tn t] [] pos) (tE C own .sh (d1 (gh T) fa)):=by
 refine jN (wM (qb6 (T:=T) o) hg j i (qU k (qU (ZP (v:=.ty T) l e b rfl n f) jH h2) h1) (by decide) (by decide) (by rw [h1]) (by rw [h2]; rfl)) λσ H Q h=>?_;obtain ⟨F,ρ,g,h⟩:=WO (ma:=ma) h;refine ⟨F,ρ,g,?_⟩;cases q:fa ρ with
 | ok p=>rw [q] at h;obtain ⟨d,ρ1⟩:=p;intro v F1 H1 r s m;obtain ⟨u,dx,z⟩:=h v F1 H1 r s m;exact ⟨v,u,dx,rfl,z⟩
 | exc c=>rw [q] at h; exact h
 | bad=>rw [q] at h; exact h.elim
noncomputable def wz:List D->Option (List Bool)
 | []=>ip []
 | .bl b::ds=>(wz ds).map (b::·)
 | _::_=>iq
noncomputable def GM:D->Out D
 | .lst ds=>match wz ds with
  | some bs=>.ok (.bl (bs.all id))
  | none=>.bad
 | _=>.bad
theorem gi:∀ {vs:List V} {us:List iu} {ds:List D} {bs:List Bool},IsL K F vs ds->Vals vs us->wz ds=ip bs->us=bs.map ba
 | _,_,_,_,.nil,.nil,e=>by cases e; rfl
 | _,_,_,_,.cons (d:=d) h t,.cons r rs,e=>by
  cases d with
  | bl b=>unfold wz at e;obtain ⟨a,e1,i⟩:=bc.mp e;subst i;cases h;cases r;rw [gi t rs e1]; rfl
  | _=>cases e
theorem Jf (n:C.K=X.K) (j:X.calm=iA):QI X C .sh (.builtin "all") GM:=by
 intro pins s σ H xs us Q I r h;obtain ⟨x,F,dx,rfl,d,tx,po⟩:=h;cases dx <;> try exact po.elim
 rename_i ds;obtain ⟨p,vs,rfl,hq,t⟩:=tx.lst d;obtain ⟨u,rfl,g⟩:=yL r;cases g;unfold GM at po;cases q:wz ds with
 | none=>simp only [q] at po; exact po.elim
 | some bs=>
  simp only [q] at po;obtain ⟨its,f,pl,z⟩:=I.list (show SqL X.K H p vs by rw [<-n]; exact hq);have J:=gi t f q;subst J;have hp:p < s.heap.objs.size:=let ⟨o,h1,_⟩:=pl.isList; aA h1;refine call_all_walk (wpAny_pyIter_list pl.isList ?_);have W:Walks X.prog X.w X.A.in1 s.heap.objs.size [s.heap.objs.size,p] [s.heap.objs.size] (bs.map ba).toArray.size (λi v=>(bs.map ba).toArray[i]?=ip v) (λi h=>h.IsListIter s.heap.objs.size p i/\h.IsList p (bs.map ba).toArray):=Walks.list (A:=X.A.in1) (show X.A.in1.handled=iq from I.ok.hd j) s.heap.objs.size p (aH hp) _;have st:(s.heap.push { cls:=.type "list_iterator",data:=.fields #[.ref p,.int 0 0] }).IsListIter s.heap.objs.size p 0/\(s.heap.push { cls:=.type "list_iterator",data:=.fields #[.ref p,.int 0 0] }).IsList p (bs.map ba).toArray:=⟨⟨_,aq _ rfl,rfl,rfl⟩,let ⟨o,h1,h2⟩:=pl.isList; ⟨o,ae _ h1,h2⟩⟩
  refine ⟨_,_,_,_,_,_,λi=>(bs[i]?).getD iw,rfl,W,st,λi v s' l E m c=>?_,λh' tk kp=>?_⟩
  ·have m:(bs.map ba).toArray[i]?=ip v:=m;rw [eY,aG] at m;cases B:bs[i]? with
   | none=>rw [B] at m; cases m
   | some b=>have a:l ((bs[i]?).getD iw) s':=c;rw [B] at m a;cases m;exact iS a
  ·have e:(aK (bs.map ba).toArray.size).all (λi=>(bs[i]?).getD iw)=bs.all id:=by
    rw [ax,ay,Bool.eq_iff_iff,aM,aM];constructor;·intro h b k;obtain ⟨i,hi,e⟩:=fk.mp k;have:=h i (bD.mpr hi);rw [aC hi,e] at this;exact this
    ·intro h i hi;have hi:=bD.mp hi;rw [aC hi];exact h _ (bY hi)
   rw [e];refine ⟨.bl (bs.all id),H,?_,rfl,po _ F H d .refl (.bl _)⟩;have k2:∀ b o,s.heap.get? b=ip o->h'.get? b=ip o:=λb o J=>kp b o (by simp; exact aH (aA J)) (ae _ J);exact I.kept (t':=tk) k2
end
noncomputable def kg (idx:List Nat) (xs:List α):List α:=idx.filterMap λk=>xs[k]?
theorem IsL.pick (h:IsL K F vs ds):∀ (idx:List Nat),IsL K F (kg idx vs) (kg idx ds)
 | []=>.nil
 | k::idx=>by
  unfold kg;rw [bb,bb];cases e:vs[k]? with
  | none=>have a:ds[k]?=none:=bJ.mpr (by rw [<-h.length]; exact bJ.mp e);rw [a];exact IsL.pick h idx
  | some v=>obtain ⟨d,a,i⟩:=h.get e;rw [a];exact .cons i (IsL.pick h idx)
theorem gO {us:List iu} (h:Vals vs us):∀ (idx:List Nat),Vals (kg idx vs) (kg idx us)
 | []=>.nil
 | k::idx=>by
  unfold kg;rw [bb,bb];cases e:vs[k]? with
  | none=>rw [h.none_of e]; exact gO h idx
  | some v=>obtain ⟨u,i,r⟩:=h.get e;rw [i];exact .cons r (gO h idx)
theorem YA (xs:List α):∀ (idx:List Nat),(kg idx xs).length<=idx.length
 | []=>aD _
 | k::idx=>by
  unfold kg;rw [bb];have:=YA xs idx;unfold kg at this;split;·exact Nat.le_succ_of_le this
  ·exact Nat.succ_le_succ this
theorem qb7 (xs:List α):kg (aK xs.length) xs=xs:=by unfold kg;have:=PySem.W.krv_all xs.toArray;simpa using this
noncomputable def zS (n:Nat) (lo hi:Option Int) (st:Int):List Nat:=(aK (bx (aJ lo hi st n).1 (aJ lo hi st n).2 st)).map λ(k:Nat)=>((aJ lo hi st n).1+(k:Int) * st).toNat
noncomputable def Jg (x:Str) (lo hi:Option Int) (st:Int):Str:=if (st == 1&&(dE lo hi st x.length).length == x.length)=iA then x else ⟨((dE lo hi st x.length).filterMap (x.cps[·]?)).toArray⟩
noncomputable def slD (lo hi st:Option Int):D->Out D
 | .tup xs=>if st.getD 1≠0/\(kg (zS xs.length lo hi (st.getD 1)) xs).length<=sizeLine then .ok (.tup (kg (zS xs.length lo hi (st.getD 1)) xs)) else .bad
 | .str x=>if st.getD 1≠0/\(Jg x lo hi (st.getD 1)).length<=sizeLine then .ok (.str (Jg x lo hi (st.getD 1))) else .bad
 | _=>.bad
def qjk (X:Cx) (r:V->Option Int->Option Int->Option Int->Hp->VK->Prop):Prop:=
 ∀ (pins:List (Addr×Obj)) (s:iB) (σ:St) (H:Hp) (x:V) (v vl u k:iu) (lo hi st:Option Int) (sl:Addr) (Q:VK),Inv X pins σ H s->RelV x v->s.heap.IsSliceOf sl vl u k->lb vl lo->lb u hi->lb k st->r x lo hi st H Q ->∃ T id,typeLookup (.type T) "__getitem__"=pure (ip (.builtin id))/\s.TypeIs v T/\wpAny (model X.prog X.w) X.A (getItem v (.ref sl)) (EP X pins σ Q) X.xe s
variable {sl:Addr}
section
variable {prog:iE}
theorem QL {vl u k:iu} {lo hi st:Option Int} {n:Nat} {Q:Int×Int×Nat->iB->Prop} (d:s.heap.IsSliceOf sl vl u k) (pl:lb vl lo) (p:lb u hi) (c:lb k st) (f:st.getD 1≠0)
  (h:Q ((aJ lo hi (st.getD 1) n).1,st.getD 1,bx (aJ lo hi (st.getD 1) n).1 (aJ lo hi (st.getD 1) n).2 (st.getD 1)) s):wpAny (model prog w) A (Builtin.Slice.sliceApplied (.ref sl) (pure (n:Int))) Q E s:=by
 obtain ⟨os,a,e,b⟩:=id d;unfold Builtin.Slice.sliceApplied Builtin.Slice.sliceFields;refine ir (ir (wpAny_field a b (x:=vl) rfl (ir (wpAny_field a b (x:=u) rfl (ir (wpAny_field a b (x:=k) rfl (iC ?_)))))));refine ir (HT.slicePart_ c ?_);show wpAny _ _ (if (st.getD 1 == 0)=iA then _ else _) _ _ s;rw [if_neg (by simpa using f)];refine ir (HT.slicePart_ pl (ir (HT.slicePart_ p (ir (iC ?_)))));exact iC h
theorem gP {t:Addr} {items:Array iu} {vl u v:iu} {lo hi st:Option Int} {Q:iu->iB->Prop} (l:IsTup s.heap t items) (g:s.heap.IsSliceOf sl vl u v) (pl:lb vl lo) (p:lb u hi) (n:lb v st) (y:st.getD 1≠0)
  (o:zS items.size lo hi (st.getD 1)=aK items.size->Q (.ref t) s)
  (h:Q (.ref s.heap.objs.size) { s with heap:=s.heap.push { cls:=.type "tuple",data:=.seq (kg (zS items.size lo hi (st.getD 1)) items.toList).toArray } })
  (hsz:(kg (zS items.size lo hi (st.getD 1)) items.toList).length<=sizeLine):wpAny (model prog w) A (getItem (.ref t) (.ref sl)) Q E s:=by
 obtain ⟨os,b,c,r⟩:=id g;have f:s.TypeIs (.ref sl) "slice":=⟨os,b,c⟩
 unfold getItem;try with_reducible refine iJ ?_
 first | refine ir (iC ?_) | skip
 refine ir (wpAny_sequenceKey l.typeIs (by decide) ?_);refine ir (iT (name:=be "__getitem__") l.typeIs cZ
  (iM cZ l.typeIs entry_tuple_getitem ?_ (args_tuple_getitem _ _)))
 show wpAny _ _ (Builtin.Tuple.tupleItemsOf (.ref t) >>= _) _ _ s;refine ir (tupleItemsOf_ l ?_);refine ir (i9 f ?_);rw [if_pos (by decide)];refine ir (QL g pl p n y ?_);generalize hA:aJ lo hi (st.getD 1) items.size=A0;generalize N:bx A0.1 A0.2 (st.getD 1)=N0;have ep:kg (zS items.size lo hi (st.getD 1)) items.toList=(aK N0).filterMap λ(k:Nat)=>items[(A0.1+(k:Int) * st.getD 1).toNat]?:=by unfold kg zS;rw [hA,N,List.filterMap_map];congr 1;funext k;simp
 rw [ep] at h hsz;by_cases d:(A0.1 == 0&&st.getD 1 == 1&&N0 == items.size)=iA
 ·have S:=d;rw [aN,aN] at S;have j:A0.1=0:=eq_of_beq S.1.1;have i:st.getD 1=1:=eq_of_beq S.1.2;have q:N0=items.size:=eq_of_beq S.2;have whole:zS items.size lo hi (st.getD 1)=aK items.size:=by
   unfold zS;rw [hA,N,j,i,q];have e:(λ(k:Nat)=>((0:Int)+(k:Int) * 1).toNat)=id:=by funext k;show ((0:Int)+(k:Int) * 1).toNat=k;omega
   rw [e,List.map_id]
  have x:=o whole;show wpAny _ _ (if (A0.1 == 0&&st.getD 1 == 1&&N0 == items.size)=iA then _ else _) _ _ s;rw [if_pos d];unfold Builtin.Tuple.tupleIsExact;refine ir (ir (i9 l.typeIs (iC ?_)));rw [if_pos (by decide)];exact ir (k7 (iC ⟨_,rfl,iC x⟩))
 ·show wpAny _ _ (if (A0.1 == 0&&st.getD 1 == 1&&N0 == items.size)=iA then _ else _) _ _ s;rw [if_neg d];have a:sizeOk (.seq ((aK N0).filterMap λ(k:Nat)=>items[(A0.1+(k:Int) * st.getD 1).toNat]?).toArray):=by show (((aK N0).filterMap λ(k:Nat)=>items[(A0.1+(k:Int) * st.getD 1).toNat]?).toArray).size<=sizeLine;rw [ax]; exact hsz
  first
   | exact ir (m:=cX _) (iG (iC ⟨_,rfl,iC h⟩) a)
   | exact ir (m:=cX _) (iG (ir (iC (iC ⟨_,rfl,iC h⟩))) a)
   | exact ir (ir (m:=cX _) (iG (iC (iC ⟨_,rfl,iC h⟩)) a))
   | exact ir (ir (m:=cX _) (iG (iC ⟨_,rfl,iC h⟩) a))
end
def PoO (C:Ct) (own:List Nat) (σ:St) (F H:Hp) (r:Out (Option Int×Sl)) (Q:Option Int->Hp->Prop):Prop:=match r with
 | .ok (b,ρ')=>∀ F' H',Rep C.K own F' H' σ ρ'->Chg (OA own σ) F H F' H'->Q b H'
 | .exc c ρ'=>∀ F' H',Same F' H'->ZI C.K C.ox F' H' σ ρ'->Chg (OA own σ) F H F' H'->C.E (C.cv c) iq H'
 | .bad=>False
def tO (C:Ct) (own:List Nat) (f:Sl->Out (Option Int×Sl)):TO:=λσ H Q=>∃ F ρ,Rep C.K own F H σ ρ/\PoO C own σ F H (f ρ) Q
noncomputable def JL:Option (Sl->Out (D×Sl))->Sl->Out (Option Int×Sl)
 | none,ρ=>.ok (iq,ρ)
 | some f,ρ=>(f ρ).bind λp=>match p.1 with
  | .int i=>.ok (ip i,p.2)
  | _=>.bad
theorem Po.bindO {o:Out (Option Int×Sl)} {k:Option Int×Sl->Out (D×Sl)} {Q:VK} {R:Option Int->Hp->Prop} (hp:Po C own m σ F H (o.bind k) Q)
  (h:∀ F1 H1 b ρ1,Rep C.K own F1 H1 σ ρ1->Chg (OA own σ) F H F1 H1->Po C own m σ F1 H1 (k (b,ρ1)) Q->R b H1):PoO C own σ F H o R:=by
 cases o with
 | ok p=>obtain ⟨d,ρ1⟩:=p;exact λF1 H1 a c=>h F1 H1 d ρ1 a c (Po.shift (show Po C own m σ F H (k (d,ρ1)) Q from hp) c)
 | exc x=>exact hp
 | bad=>exact hp.elim
noncomputable def YB (fa:Sl->Out (D×Sl)) (l u k:Option (Sl->Out (D×Sl))):Sl->Out (D×Sl):=λρ=>(fa ρ).bind λp=>(JL l p.2).bind λa=>(JL u a.2).bind λb=>(JL k b.2).bind λc=>(slD a.1 b.1 c.1 p.1).plain.bind λd=>.ok (d,c.2)
section
variable {a:Expr} {p2:Pos}
theorem gj:PO X iq (tO C own (JL iq)):=by intro pins s σ H Q I ⟨F,ρ,a,h⟩;exact qea pins s σ H Q I (h F H a .refl)
theorem YC (h:PE X e (tE C own m f)):PO X (ip e) (tO C own (JL (ip f))):=by
 intro pins s σ H Q I ⟨F,ρ,r,hp⟩;refine qeb h pins s σ H Q I ⟨F,ρ,r,?_⟩;have hp:PoO C own σ F H ((f ρ).bind λp=>match p.1 with | .int i=>.ok (ip i,p.2) | _=>.bad) Q:=hp;cases q:f ρ with
 | ok p=>
  rw [q] at hp;obtain ⟨d,ρ1⟩:=p;cases d with
  | int i=>exact λv F1 H1 a k b=>⟨i,b.top.int,hp F1 H1 a k⟩
  | _=>exact hp.elim
 | exc c=>rw [q] at hp; exact hp
 | bad=>rw [q] at hp; exact hp.elim
theorem GN {r:V->Option Int->Option Int->Option Int->Hp->VK->Prop} {tl th tk:TO} {lo hi st:Option Expr} (y:qjk X r) (B:PE X e te) (hl:PO X lo tl) (o:PO X hi th) (z:PO X st tk):PE X (.Subscript e (.Slice lo hi st p2) pos) (λσ H Q=>te σ H λx H1=>tl σ H1 λl H2=>th σ H2 λu f=>tk σ f λk d=>r x l u k d Q):=by
 refine ⟨?_⟩;intro pins s σ H Q I h;refine Subscript_ (thn (B pins s σ H _ I h) λv s1 ⟨x,H1,J,r1,m⟩=>?_);refine wpAny_Slice (thn (hl pins s1 σ H1 _ J m) λvl s2 ⟨l,H2,E,pl,j⟩=>thn (o pins s2 σ H2 _ E j) λa s3 ⟨u,f,D,p,g⟩=>thn (z pins s3 σ f _ D g) λc s4 ⟨k,d,C,n,i⟩=>?_);have G:Inv X pins σ d { s4 with heap:=s4.heap.push { cls:=.type "slice",data:=.fields #[vl,a,c] } }:=C.kept (t':=s4.toks) λb K q=>ae _ q;obtain ⟨T,id,hT,t,hg⟩:=y pins { s4 with heap:=s4.heap.push { cls:=.type "slice",data:=.fields #[vl,a,c] } } σ d x v vl a c l u k s4.heap.objs.size Q G r1 (Heap.IsSliceOf.new ..) pl p n i;show wpAny (model X.prog X.w) X.A (subscriptTail e (.Slice lo hi st p2) v (.ref s4.heap.objs.size)) (EP X pins σ Q) X.xe { s4 with heap:=s4.heap.push { cls:=.type "slice",data:=.fields #[vl,a,c] } };cases st with
 | none=>exact tail_any (ops:=[.ref s4.heap.objs.size,v]) t hT hg (by with_unfolding_all rfl)
 | some st=>exact tail_any (ops:=[v,.ref s4.heap.objs.size]) t hT hg (by with_unfolding_all rfl)
theorem JM {v:iu} {o:Option Int} (h:lb v o):∃ l:Option (Int×Tok),v=partValue l/\l.map (·.1)=o:=by
 cases h with
 | none=>exact ⟨iq,rfl,rfl⟩
 | int i t=>exact ⟨ip (i,t),rfl,rfl⟩
theorem qjU (G:C.K=X.K):qjk X (λx lo hi st H Q=>∃ F d,Same F H/\Is C.K F x d/\PoV C .sh F H (slD lo hi st d) Q):=by
 intro pins s σ H x v vl L M lo hi st sl Q I m D pl w y h;obtain ⟨F,d,A,is,po⟩:=h;cases d with
 | tup ds=>
  have f:=is;cases is with
  | @tup a xs _ hq t=>
   cases m;have g:SqT X.K H a xs:=by rw [<-G]; exact qZ A hq
   obtain ⟨its,r,B,O⟩:=I.tuple g;have n:its.length=ds.length:=r.length.symm.trans t.length;have po:PoV C .sh F H (if st.getD 1≠0/\(kg (zS ds.length lo hi (st.getD 1)) ds).length<=sizeLine then .ok (.tup (kg (zS ds.length lo hi (st.getD 1)) ds)) else .bad) Q:=po;by_cases c:st.getD 1≠0/\(kg (zS ds.length lo hi (st.getD 1)) ds).length<=sizeLine
   ·rw [if_pos c] at po;have i:=t.pick (zS ds.length lo hi (st.getD 1));have p:=gO r (zS ds.length lo hi (st.getD 1));refine ⟨"tuple",_,cZ.lookup,B.typeIs,gP B D pl w y c.1 (λe=>?_) ?_ ?_⟩;·rw [ax,n] at e;refine ⟨.ref a,H,I,rfl,po _ F H A .refl ?_⟩;rw [e,qb7];exact f
    ·simp only [ax,n];have j:(kg (zS ds.length lo hi (st.getD 1)) xs).length<=sizeLine:=by rw [i.length]; exact c.2
     refine ⟨.ref s.heap.objs.size,_,I.laid (t':=s.toks) (o:=.tup (kg (zS ds.length lo hi (st.getD 1)) xs)) (λb N q=>ae _ q) (aD _) ⟨⟨j,⟨_,aq _ rfl,rfl⟩⟩,_,p,IsTup.new _ _⟩,rfl,?_⟩;obtain ⟨s2,c2⟩:=uD (u:=.tup (kg (zS ds.length lo hi (st.getD 1)) xs)) A (I.hok.fresh (aD _));exact po _ _ _ s2 c2 (.tup (.inl (.inl qu)) (i.mono c2.grow))
    ·simp only [ax,n];rw [<-p.length,i.length];exact c.2
   ·rw [if_neg c] at po; exact po.elim
 | str z=>
  cases is;obtain ⟨t,rfl⟩:=m;have po:PoV C .sh F H (if st.getD 1≠0/\(Jg z lo hi (st.getD 1)).length<=sizeLine then .ok (.str (Jg z lo hi (st.getD 1))) else .bad) Q:=po;by_cases c:st.getD 1≠0/\(Jg z lo hi (st.getD 1)).length<=sizeLine
  ·rw [if_pos c] at po;obtain ⟨l,rfl,el⟩:=JM pl;obtain ⟨u,rfl,J⟩:=JM w;obtain ⟨k,rfl,E⟩:=JM y;refine ⟨"str",_,PySem.F.slot_str_getitem.lookup,typeIs_str s z t,wpAny_getItem_str_slice (l:=l) (u:=u) (st:=k) D (by rw [E]; simpa using c.1) ?_⟩;have c2:=c.2;unfold sliceMade slicePicked;rw [el,J,E];unfold Jg at c2 po;by_cases q:(st.getD 1 == 1&&(dE lo hi (st.getD 1) z.length).length == z.length)=iA;·rw [if_pos q] at c2 po ⊢;exact ⟨.str z,H,I,⟨t,rfl⟩,po _ F H A .refl (.str c2)⟩
   ·rw [if_neg q] at c2 po ⊢;exact ⟨c2,.str _,H,I.tok _,⟨_,rfl⟩,po _ F H A .refl (.str c2)⟩
  ·rw [if_neg c] at po; exact po.elim
 | _=>exact po.elim
theorem YD {lo hi st:Option Expr} {l u k:Option (Sl->Out (D×Sl))} (t:C.K=X.K) (s:PE X e (tE C own ma fa)) (hl:PO X lo (tO C own (JL l))) (o:PO X hi (tO C own (JL u))) (q:PO X st (tO C own (JL k))) (n:ma≠.any:=by decide):PE X (.Subscript e (.Slice lo hi st p2) pos) (tE C own .sh (YB fa l u k)):=by
 refine jN (GN (qjU (C:=C) t) (yy s n) hl o q) λσ H Q ⟨F,ρ,p,h⟩=>⟨F,ρ,p,Po.bind h λv F1 H1 d ρ1 j A m h1=>?_⟩
 refine ⟨F1,ρ1,j,Po.bindO h1 λz H2 a ρ2 i c2 h2=>⟨z,ρ2,i,Po.bindO h2 λy G b f g J x=>⟨y,f,g,Po.bindO x λM E c B r I w=>?_⟩⟩⟩;exact ⟨M,d,r.sub,((m.mono c2.grow).mono J.grow).mono I.grow,PoV.of r w⟩
end
noncomputable def Its (x:Str):It:=⟨λi _=>i < x.cps.size,λi H v H'=>H'=H/\∃ c,x.cps[i]?=ip c/\v=.str ⟨#[c]⟩,λi _=>x.cps.size<=i⟩
noncomputable def VJ (x:Str):List D:=x.cps.toList.map λc=>.str ⟨#[c]⟩
theorem YE {P:iE} {w:iF} {K:Frag} {tg:Expr} (it:Addr) (x:Str) (t:Tok) (ty:String) (B:["enumerate", "zip", "dict_itemiterator", "dict_reverseitemiterator", "odict_iterator", "itertools.zip_longest", "itertools.pairwise"].contains ty=iw)
  (W:∀ A:iH,A.handled=iq->Walks P w A it [it] [it] x.cps.size (SignAt x) (λi h=>h.IsStrIter it ty x t i)) (y:∀ (A:iH) (i:Nat) (s:iB) (Q:iu->iB->Prop) (E:iu->iB->Prop),s.heap.IsStrIter it ty x t i->Q (.ref it) s->wpAny (model P w) A (pyIter (.ref it)) Q E s) :
  Turn P w K tg (Its x) [it] it (λi h=>h.IsStrIter it ty x t i/\i<=x.cps.size) where
 mem:=by simp
 obj:=λi h st b a=>by
  have e:b=it:=by simpa using a
  subst e;obtain ⟨o,e,c,d⟩:=st.1;exact ⟨o,e,λv z=>by rw [d] at z; cases z⟩
 keep:=λi h h' st k=>by obtain ⟨⟨o,e,r⟩,hi⟩:=st;exact ⟨⟨o,k it (by simp) o e,r⟩,hi⟩
 item:=by
  intro X m j n l i pins s σ H E I f st hg;subst m j n;obtain ⟨f0,f1,f2,p,f4,q⟩:=f it (by simp);refine (W X.A (I.ok.hd l)).item i s _ _ hg st.1 λv h' tk m g kp=>?_;have C:Inv X pins σ H { s with heap:=h',toks:=tk }:=I.turned (t':=tk) (λb o a e=>kp b o (by simpa using a) e) f0 f1 p f4 q;obtain ⟨o,e,c,d⟩:=id g;obtain ⟨U,u,h1,h2⟩:∃ U u,x.cps[i]?=ip U/\v=g8 ⟨#[U]⟩ u:=by
   unfold SignAt at m;first
    | exact m
    | (obtain ⟨U,u,h1,h2⟩:=m; exact ⟨U,u,h1,h2⟩)
    | (obtain ⟨U,h1,u,h2⟩:=m; exact ⟨U,u,h1,h2⟩)
    | (obtain ⟨u,U,h1,h2⟩:=m; exact ⟨U,u,h1,h2⟩)
  subst h2;exact ⟨_,rfl,ZQ (s:={ s with heap:=h',toks:=tk }) e c d B ⟨.str ⟨#[U]⟩,H,C,⟨u,rfl⟩,⟨rfl,U,h1,rfl⟩,⟨g,hg⟩,λb a=>(f b a).1⟩⟩
 done:=by intro X m j n l i pins s σ H E I f st hg;subst m j n;obtain ⟨f0,f1,f2,p,f4,q⟩:=f it (by simp);have hi:i=x.cps.size:=Nat.le_antisymm st.2 hg;subst hi;exact (W X.A (I.ok.hd l)).done s _ _ st.1 λh' tk kp=>⟨rfl,I.turned (t':=tk) (λb o a e=>kp b o (by simpa using a) e) f0 f1 p f4 q⟩
 self:=λA i s Q E st h=>y A i s Q E st.1 h
theorem qgD:ItIs K F (Its x) (VJ x) where
 go:=λi H hi _=>by
  have:i < x.cps.size:=by simpa [VJ] using hi
  exact this
 yld:=λi Fi H v H' d e s1 s2 y=>by
  obtain ⟨rfl,c,h1,rfl⟩:=y;have e:d=.str ⟨#[c]⟩:=by
   unfold VJ at e;rw [aG] at e;have h1:x.cps.toList[i]?=ip c:=by simpa using h1
   rw [h1] at e;exact (aO.inj e).symm
  subst e;exact ⟨Fi,.refl,s2,.str (Ys c)⟩
 stop:=λi H hi _=>by
  have:x.cps.size<=i:=by simpa [VJ] using hi
  exact this
noncomputable def jC:D->Out (List D)
 | .lst xs=>.ok xs
 | .tup xs=>.ok xs
 | .str x=>.ok (VJ x)
 | _=>.bad
noncomputable def jZ (f:Sl->Out (D×Sl)):Sl->Out (List D×Sl):=λρ=>(f ρ).bind λp=>(jC p.1).bind λds=>.ok (ds,p.2)
section
theorem qgE {l:Expr} {tl:TE} (hl:PE X l tl):PI X tg l (λσ H R=>tl σ H λx H1=>(∃ a,x=.ref a/\(((∃ xs,SqL X.K H1 a xs)/\R (Itl X.K a) H1)\/((∃ xs,SqT X.K H1 a xs)/\R (Itt X.K a) H1)))\/∃ z,x=.str z/\R (Its z) H1):=by
 refine ⟨?_⟩;intro pins s σ H R I h;refine thn (hl pins s σ H _ I h) λv s1 ⟨x,H1,d,r1,c⟩=>?_;have fp:∀ b∈[s1.heap.objs.size],WC X pins H1 b:=λb j=>by
  have e:b=s1.heap.objs.size:=by simpa using j
  subst e;exact d.fpOk (aD _) (d.hok.fresh (aD _))
 rcases c with ⟨a,rfl,q⟩ | ⟨z,rfl,q⟩
 ·cases r1;rcases q with ⟨⟨xs,hq⟩,q⟩ | ⟨⟨xs,hq⟩,q⟩
  ·obtain ⟨its,r,p,f⟩:=d.list hq;refine wpAny_pyIter_list p.isList ?_;exact ⟨s1.heap.objs.size,[s1.heap.objs.size],_,_,H1,rfl,d.kept (t':=s1.toks) λb o e=>ae _ e,ZR a _,⟨_,aq _ rfl,rfl,rfl⟩,fp,q⟩
  ·obtain ⟨its,r,p,f⟩:=d.tuple hq;refine wpAny_pyIter_tuple (show s1.heap.IsTuple a its.toArray from p) ?_;exact ⟨s1.heap.objs.size,[s1.heap.objs.size],_,_,H1,rfl,d.kept (t':=s1.toks) λb o e=>ae _ e,XQ a _,⟨_,aq _ rfl,rfl,rfl⟩,fp,q⟩
 ·obtain ⟨t,rfl⟩:=r1;cases g:z.cps.all (· < 128) with
  | true=>refine wpAny_pyIter_ascii g ?_;exact ⟨s1.heap.objs.size,[s1.heap.objs.size],_,_,H1,rfl,d.kept (t':=s1.toks) λb o e=>ae _ e,YE _ z t "str_ascii_iterator" (by decide) (λA hA=>Walks.strAscii hA _ z t) (λA i s Q E st h=>wpAny_pyIter_striter_ascii st h),⟨⟨_,aq _ rfl,rfl,rfl⟩,bE _⟩,fp,q⟩
  | false=>refine wpAny_pyIter_wide g ?_;exact ⟨s1.heap.objs.size,[s1.heap.objs.size],_,_,H1,rfl,d.kept (t':=s1.toks) λb o e=>ae _ e,YE _ z t "str_iterator" (by decide) (λA hA=>Walks.strWide hA _ z t) (λA i s Q E st h=>wpAny_pyIter_striter_wide st h),⟨⟨_,aq _ rfl,rfl,rfl⟩,bE _⟩,fp,q⟩
theorem qW (n:C.K=X.K) (h:PE X e (tE C own m f)) (b:m≠.any:=by decide):PI X tg e (tIt C own (jZ f)):=by
 refine qbX (qgE (yy h b)) λσ H R ⟨F,ρ,r,h⟩=>⟨F,ρ,r,PoI.bindV h λv F1 H1 d ρ1 a k c h1=>?_⟩
 have c:Is C.K F1 v d:=c;cases c with
 | lst p t=>exact .inl ⟨_,rfl,.inl ⟨⟨_,by rw [<-n]; exact a.sub.seq p⟩,by rw [<-n]; exact h1 _ F1 H1 a k (qgs p t)⟩⟩
 | tup p t=>exact .inl ⟨_,rfl,.inr ⟨⟨_,by rw [<-n]; exact qZ a.sub p⟩,by rw [<-n]; exact h1 _ F1 H1 a k (qgt p t)⟩⟩
 | str z=>exact .inr ⟨_,rfl,h1 _ F1 H1 a k qgD⟩
 | _=>exact h1.elim
end
noncomputable def YF (b:Bool):D->Out D
 | .lst ds=>match wz ds with
  | some bs=>.ok (.int (bs.countP (· == b):Nat))
  | none=>.bad
 | _=>.bad
noncomputable def YG (b:Bool):D->Out D
 | .lst ds=>match wz ds with
  | some bs=>match bs.findIdx? (· == b) with
   | some j=>.ok (.int (j:Nat))
   | none=>.bad
  | none=>.bad
 | _=>.bad
section
variable {o:Expr} {fo:Sl->Out (D×Sl)} {apos:Pos} {b:Bool}
theorem VL (A:iH) (s:iB) (c b:Bool):im A s (.bool c) (.bool b) (c == b):=SeqAt.EqAt.bool_bool _ _
theorem qb8:MtR X "list.count" (λx vs H Q=>∃ (a:Addr) (xs:List V) (bs:List Bool) (b:Bool),x=.ref a/\vs=[.bl b]/\SqL X.K H a xs/\(∀ us,Vals xs us->us=bs.map ba)/\Q (.int (bs.countP (· == b):Nat)) H):=by
 intro pins s σ H x vs v us Q I f g h;obtain ⟨a,xs,bs,b,rfl,rfl,hq,i,q⟩:=h;cases f;obtain ⟨u,rfl,B⟩:=g.one;cases B;obtain ⟨its,r,pl,z⟩:=I.list hq;have e:=i its r;subst e;obtain ⟨⟨cls,dd,data,sl⟩,n,m,d,hd,t⟩:=pl;simp only at d hd t;subst d t;refine j6 PySem.F.slot_list_count ⟨_,m,rfl⟩ PySem.F.entry_list_count (PySem.F.args_list_count_2 _ _) (SeqAt.list_countAt a _ n dd sl (.bool b) (λv=>v == .bool b)) ⟨m,λy D=>?_,?_⟩
 ·have D:y∈bs.map ba:=by simpa using D
  obtain ⟨c,_,rfl⟩:=af.mp D;have e:(ba c == ba b)=(c == b):=by cases c <;> cases b <;> rfl
  show im _ s (.bool c) (.bool b) (ba c == ba b);rw [e];exact VL _ s c b
 ·refine ⟨.int (bs.countP (· == b):Nat),H,I.tok _,⟨s.toks,?_⟩,q⟩;have e:(bs.map ba).toArray.toList.countP (λv=>v == ba b)=bs.countP (· == b):=by rw [List.toList_toArray,List.countP_map];congr 1;funext c;cases c <;> cases b <;> rfl
  rw [e]
theorem qb9:MtR X "list.index" (λx vs H Q=>∃ (a:Addr) (xs:List V) (bs:List Bool) (b:Bool) (j:Nat),x=.ref a/\vs=[.bl b]/\SqL X.K H a xs/\(∀ us,Vals xs us->us=bs.map ba)/\bs.findIdx? (· == b)=ip j/\Q (.int (j:Nat)) H):=by
 intro pins s σ H x vs v us Q I l p h;obtain ⟨a,xs,bs,b,j,rfl,rfl,hq,w,G,q⟩:=h;cases l;obtain ⟨u,rfl,B⟩:=p.one;cases B;obtain ⟨its,r,pl,z⟩:=I.list hq;have e:=w its r;subst e;obtain ⟨⟨cls,dd,data,sl⟩,n,o,k,hd,t⟩:=pl;simp only at k hd t;subst k t;obtain ⟨i,g,f⟩:=bZ.mp G;have d:bs.length<=sizeLine:=by have:=r.length; simp at this; omega
 have ev:∀ c:Bool,(ba c == ba b)=(c == b):=λc=>by cases c <;> cases b <;> rfl
 refine j6 cE ⟨_,o,rfl⟩ PySem.F.entry_list_index (PySem.F.args_list_index_2 _ _) (SeqAt.list_indexAt a _ n dd sl (.bool b) (λv=>v == .bool b) j (by simpa using i) (by rw [iI] at d; omega) (by simp [ev]; simpa using g) λm A h1=>?_) ⟨o,λy D=>?_,?_⟩;·have:=f m h1;simp [ev];simpa using this
 ·have D:y∈bs.map ba:=by simpa using D
  obtain ⟨c,_,rfl⟩:=af.mp D;show im _ s (.bool c) (.bool b) (ba c == ba b);rw [ev];exact VL _ s c b
 ·exact ⟨.int (j:Nat),H,I.tok _,⟨_,rfl⟩,q⟩
theorem qca {k c2} (y:C.K=X.K) (u:PE X o (tE C own m fo))
  (f:attributeBase o "count" X.env (eval o X.env)=eval o X.env:=by rfl)
  (w:((backTo cpos (starEach [.Constant (.bool b) k c2] X.env)).all (λx=>!x.1)&&(backToKw cpos (keywordEach [] X.env)).all (λx=>x.1.isSome)
   && decide ([g9 (.bool b) k c2].length+([]:List iP).length+(if ([]:List iP).isEmpty then 0 else 1) < 30))=true:=by exact vP rfl)
  (e:(apos.endLine == cpos.line)=true:=by rfl) (s:starEach [.Constant (.bool b) k c2] X.env=[(iw,eval (.Constant (.bool b) k c2) X.env)]:=by exact qS rfl) :
  PE X (.Call (.Attribute o "count" apos) [.Constant (.bool b) k c2] [] cpos) (tE C own .sh (d1 (YF b) fo)):=by
 refine jN (WK bX PySem.F.slot_list_count PySem.F.type_list_count qb8 u (qU qdW jH s) f w e s rfl) λσ H Q h=>?_;obtain ⟨F,ρ,n,h⟩:=WO (ma:=m) h;refine ⟨F,ρ,n,?_⟩;cases q:fo ρ with
 | ok p=>
  rw [q] at h;obtain ⟨d,ρ1⟩:=p;intro v F1 H1 i k l;obtain ⟨z,dx,A,tx,po⟩:=h v F1 H1 i k l;cases dx <;> try exact po.elim
  rename_i ds;unfold YF at po;cases j:wz ds with
  | none=>simp only [j] at po; exact po.elim
  | some bs=>
   simp only [j] at po;obtain ⟨a,vs,rfl,hq,t⟩:=tx.lst A;have g:SqL X.K H1 a vs:=by rw [<-y]; exact hq
   exact ⟨.inl ⟨rfl,vs,g⟩,a,vs,bs,b,rfl,rfl,g,λus r=>gi t r j,po _ z H1 A .refl (.int _)⟩
 | exc c=>rw [q] at h; exact h
 | bad=>rw [q] at h; exact h.elim
theorem qcb {k c2} (B:C.K=X.K) (z:PE X o (tE C own m fo))
  (f:attributeBase o "index" X.env (eval o X.env)=eval o X.env:=by rfl)
  (w:((backTo cpos (starEach [.Constant (.bool b) k c2] X.env)).all (λx=>!x.1)&&(backToKw cpos (keywordEach [] X.env)).all (λx=>x.1.isSome)
   && decide ([g9 (.bool b) k c2].length+([]:List iP).length+(if ([]:List iP).isEmpty then 0 else 1) < 30))=true:=by exact vP rfl)
  (e:(apos.endLine == cpos.line)=true:=by rfl) (u:starEach [.Constant (.bool b) k c2] X.env=[(iw,eval (.Constant (.bool b) k c2) X.env)]:=by exact qS rfl) :
  PE X (.Call (.Attribute o "index" apos) [.Constant (.bool b) k c2] [] cpos) (tE C own .sh (d1 (YG b) fo)):=by
 refine jN (WK bX cE d6 qb9 z (qU qdW jH u) f w e u rfl) λσ H Q h=>?_;obtain ⟨F,ρ,y,h⟩:=WO (ma:=m) h;refine ⟨F,ρ,y,?_⟩;cases q:fo ρ with
 | ok p=>
  rw [q] at h;obtain ⟨d,ρ1⟩:=p;intro v F1 H1 i k s;obtain ⟨D,dx,A,tx,po⟩:=h v F1 H1 i k s;cases dx <;> try exact po.elim
  rename_i ds;unfold YG at po;cases n:wz ds with
  | none=>simp only [n] at po; exact po.elim
  | some bs=>
   simp only [n] at po;cases l:bs.findIdx? (· == b) with
   | none=>simp only [l] at po; exact po.elim
   | some j=>
    simp only [l] at po;obtain ⟨a,vs,rfl,hq,t⟩:=tx.lst A;have g:SqL X.K H1 a vs:=by rw [<-B]; exact hq
    exact ⟨.inl ⟨rfl,vs,g⟩,a,vs,bs,b,j,rfl,rfl,g,λus r=>gi t r n,l,po _ D H1 A .refl (.int _)⟩
 | exc c=>rw [q] at h; exact h
 | bad=>rw [q] at h; exact h.elim
end
end L2.D2
namespace L2.D2
open PySem PySem.Spec PySem.Calls PyProof.Rows PySem.W Builtin Builtin.ObjectAttr Builtin.Getset_descriptor
variable {K:Frag} {R:lr->iB->Prop}
section
variable {prog:iE} {w:iF} {A:iH} {E:iu->iB->Prop} {h:Heap} {g:Array lj} {d:Drawn} {t:Nat} {os:iW} {a C:Addr} {o:Obj}
theorem qgF (X:K.In h) (b:Looks (model prog w) h (typeOf (.ref a)) (.ref C)) (c:mroIn K C (.type "object")=ip iA) (hq:R (.ok (.ret (.ref C))) ⟨h,g,d,t,os⟩):codeAny (model prog w) A (.call (.builtin "getset_descriptor.__get__") ⟨[.builtin "object.__class__",.ref a,.ref C],[]⟩) R ⟨h,g,d,t,os⟩:=by
 have L:=looks_mroIn (M:=model prog w) X c;refine codeAny_call_builtin KF.slot_gs.plain KF.entry_gs (KF.slot_gs.check _ _ _ _ _ _ _ _ hJ (KF.args_gs _ _ _) ?_);unfold Builtin.«getset_descriptor.__get__» descrGet;rw [dga_obj];refine ir (iC ?_);unfold descrGetter descrCheckInstance descrNameAndClass isInstance;simp only [KF.owner_class];repeat lk
 refine ⟨Code.quiet_builtin _ (by decide +kernel),iK KF.entry_class ?_⟩;unfold Builtin.«object.__class__» shownTypeOf;repeat lk
 exact hq
theorem qcc {n:iu} {Q:Unit->iB->Prop} (X:K.In h) (e:Looks (model prog w) h (typeOf (.ref a)) (.ref C)) (c:subIn K (.ref C) (.type "BaseException")=ip iA) (hq:Q () ⟨h,g,d,t,os⟩):wpAny (model prog w) A (checkBuiltinCall "BaseException.__getattribute__" ⟨[.ref a,n],[]⟩) Q E ⟨h,g,d,t,os⟩:=by
 have k:builtinKind "BaseException.__getattribute__"=ip .slot:=by decide +kernel
 have b:splitId "BaseException.__getattribute__"=ip ("BaseException", "__getattribute__"):=by decide +kernel
 have f:=F.args_bexc_ga (.ref a) n;have L:Looks (model prog w) h (isInstance (.ref a) (.type "BaseException")) true:=e.andThen (looks_subIn X c);simp only [checkBuiltinCall,k,b];refine ir (L.at ?_);repeat (first | assumption | wp_step)
theorem qcd {tk:Tok} {Q:Fin->iB->Prop} (X:K.In h) (b:Looks (model prog w) h (typeOf (.ref a)) (.ref C)) (W:findIn K (.ref C) "__class__"=ip (ip (.builtin "object.__class__"))) (c:mroIn K C (.type "object")=ip iA) (hq:Q (.done (.ret (.ref C))) ⟨h,g,d,t,os⟩):wpAny (model prog w) A (Builtin.«object.__getattribute__» ⟨[.ref a,.str "__class__" tk],[]⟩) Q E ⟨h,g,d,t,os⟩:=by
 have L:=looks_findIn (M:=model prog w) X W;have e:(⟨h,g,d,t,os⟩:iB).TypeIs (.builtin "object.__class__") "getset_descriptor":=hJ;have q:=hJ;have i:=F.slot_gs_get.lookup;have f:=F.slot_gs_set.lookup;repeat (any_goals (first | assumption | with_reducible refine b.at ?_ | with_reducible refine L.at ?_ | wp_step))
 refine qgF X b c ?_;repeat (any_goals (first | assumption | wp_step))
theorem qez {tk:Tok} (X:K.In h) (b:Looks (model prog w) h (typeOf (.ref a)) (.ref C)) (c:subIn K (.ref C) (.type "BaseException")=ip iA) (W:findIn K (.ref C) "__class__"=ip (ip (.builtin "object.__class__"))) (m:mroIn K C (.type "object")=ip iA) (hq:R (.ok (.ret (.ref C))) ⟨h,g,d,t,os⟩):codeAny (model prog w) A (.call (.builtin "BaseException.__getattribute__") ⟨[.ref a,.str "__class__" tk],[]⟩) R ⟨h,g,d,t,os⟩:=
 codeAny_call_builtin F.excAttr_ValueError.ga.plain F.entry_bexc_ga (qcc X b c (qcd X b W m hq))
theorem qiC {tk:Tok} {f e:Bool} {Q:iu->iB->Prop} (X:K.In h) (L:Looks (model prog w) h (typeOf (.ref a)) (.ref C)) (s:subIn K (.ref C) (.type "BaseException")=ip iA) (g1:findIn K (.ref C) "__getattribute__"=ip (ip (.builtin "BaseException.__getattribute__"))) (Y:findIn K (.ref C) "__getattr__"=ip iq)
  (W:findIn K (.ref C) "__class__"=ip (ip (.builtin "object.__class__"))) (m:mroIn K C (.type "object")=ip iA) (hq:Q (.ref C) ⟨h,g,d,t,os⟩) :
  wpAny (model prog w) A (getAttrBy (.ref a) (.str "__class__" tk) f e) Q E ⟨h,g,d,t,os⟩:=by
 have j:=looks_findIn (M:=model prog w) X g1;have L2:=looks_findIn (M:=model prog w) X Y;have k:=F.excAttr_ValueError.ga.bind (.ref a);have i:(e&&onTheHeap (dq "BaseException.__getattribute__"))=false:=by cases e <;> rfl
 have b:(dq "BaseException.__getattribute__" == dq "object.__getattribute__")=false:=by decide +kernel
 have c:(onTheHeap (cq C)&&dq "BaseException.__getattribute__" == dq "object.__getattribute__")=false:=by rw [b]; rfl
 repeat (any_goals (first | assumption | with_reducible refine L.at ?_ | with_reducible refine j.at ?_ | with_reducible refine L2.at ?_ | wp_step))
 refine qez X L s W m ?_;repeat (any_goals (first | assumption | wp_step))
theorem qeA {Q:Option iu->iB->Prop} (X:K.In h) (b:Looks (model prog w) h (typeOf (.ref a)) (.ref C)) (c:subIn K (.ref C) (.type "BaseException")=ip iA) (g1:findIn K (.ref C) "__getattribute__"=ip (ip (.builtin "BaseException.__getattribute__"))) (Y:findIn K (.ref C) "__getattr__"=ip iq)
  (W:findIn K (.ref C) "__class__"=ip (ip (.builtin "object.__class__"))) (m:mroIn K C (.type "object")=ip iA) (hq:Q (ip (.ref C)) ⟨h,g,d,t+1,os⟩) :
  wpAny (model prog w) A (getAttr? (.ref a) "__class__") Q E ⟨h,g,d,t,os⟩:=by
 unfold getAttr? getAttrBy?;exact ir (wpAny_mkText (ir (j3 (qiC X b c g1 Y W m (iC hq)))))
end
noncomputable def xcB (K:Frag) (C:Addr):Bool:=decide (subIn K (.ref C) (.type "BaseException")=ip iA)&&decide (findIn K (.ref C) "__getattribute__"=ip (ip (.builtin "BaseException.__getattribute__")))&&decide (findIn K (.ref C) "__getattr__"=ip iq) &&
 decide (findIn K (.ref C) "__class__"=ip (ip (.builtin "object.__class__")))&&decide (mroIn K C (.type "object")=ip iA)&&(clsIn K C).isSome
def qeB (a C:Addr) (h:Heap):Prop:=∃ o vs,h.get? a=ip o/\o.cls=.ref C/\o.data=.fields vs
theorem qce {a C:Addr} (b:xcB K C=iA):KitX K (.ref a) (.ref C) (qeB a C):=by
 unfold xcB at b;simp only [aN,decide_eq_true_eq] at b;obtain ⟨⟨⟨⟨⟨u,z⟩,r⟩,o⟩,f⟩,j⟩:=b;have ty:∀ (M:Model) (h:Heap),qeB a C h->Looks M h (typeOf (.ref a)) (.ref C):=λM h ⟨v,vs,e1,i,y⟩=>by rw [<-i]; exact (Looks.ld e1).andThen .now
 refine ⟨λM h _ x=>ty M h x,λM h X _=>?_,λh p dd its n sl X l=>?_,λ{prog w A E Q s} X x hq=>?_⟩
 ·unfold clsIn at j;split at j;·rename_i U d' e c m;intro G B D s' k q;unfold isType loadHead;exact ir (wpAny_loadPart (k _ _ (X _ _ m)) (iC q))
  ·cases j
 ·refine Bool.eq_false_iff.mpr λq=>?_;have q:cq C=cq p:=beq_iff_eq.mp q;cases q;unfold clsIn at j;split at j;·rename_i U d' e c m;rw [X _ _ m] at l;cases l
  ·cases j
 ·obtain ⟨h,g,d,t,os⟩:=s;exact qeA X (ty _ h x) u z r o f hq
noncomputable def QM (ans:Addr->Option Bool):D->Out D
 | .xcp C=>match ans C with
  | some b=>.ok (.bl b)
  | none=>.bad
 | _=>.bad
variable {cn:Str}
section
variable {X:Cx} {C:Ct} {own:List Nat} {a:Expr} {fa:Sl->Out (D×Sl)} {ma:Mo} {pos:Pos} {cls:iu} {vc:V} {ans:Addr->Option Bool}
theorem YH (f:∀ Cc b,ans Cc=ip b->xcB X.K Cc=iA/\kitOne X.K (.ref Cc) cls=ip b) (i:RelV vc cls):uz X (.builtin "isinstance") (λxs H Q=>∃ x F d,xs=[x,vc]/\Same F H/\TopIs C.K F H x d/\PoV C .sh F H (QM ans d) Q):=by
 intro pins s σ H xs us Q I r h;obtain ⟨x,F,d,rfl,A,tx,po⟩:=h;obtain ⟨u,c,rfl,B,a⟩:=qbG r;cases d with
 | xcp Cc=>
  unfold QM at po;cases q:ans Cc with
  | none=>simp only [q] at po; exact po.elim
  | some b=>
   simp only [q] at po;obtain ⟨h1,h2⟩:=f Cc b q;rcases tx with tx | ⟨_,_,tx⟩
   ·cases tx with
    | @xcp ad _ hF=>
     cases B;have hx:qeB ad Cc s.heap:=(show ObjOk X.prog X.w H s.heap ad (QX ad Cc) from I.hok ad _ (A _ _ hF)).1;have e:cls=c:=by
      cases vc with
      | ref z=>exact (show cls=cq z from i).trans (show c=cq z from a).symm
      | ty z=>exact (show cls=fV z from i).trans (show c=fV z from a).symm
      | non=>exact (show cls=cV from i).trans (show c=cV from a).symm
      | bl z=>exact (show cls=ba z from i).trans (show c=ba z from a).symm
      | int z=>obtain ⟨t,rfl⟩:=i; unfold kitOne kitCls at h2; simp at h2
      | str z=>obtain ⟨t,rfl⟩:=i; unfold kitOne kitCls at h2; simp at h2
      | byt z=>obtain ⟨t,rfl⟩:=i; unfold kitOne kitCls at h2; simp at h2
      | flt z=>obtain ⟨t,rfl⟩:=i; unfold kitOne kitCls at h2; simp at h2
     subst e;exact kia_one (qce h1) I.kIn hx h2 (λz=>nomatch z) λtk=>⟨.bl b,H,I.tok tk,rfl,po _ F H A .refl (.bl b)⟩
   ·exact tx.elim
 | _=>exact po.elim
theorem YI {σ:St} {H:Hp} {Q:VK} (h:tE C own .sh (d1 (QM ans) fa) σ H Q):XU (tE C own ma fa) (XU (tC vc) qhK) σ H λxs H1=>∃ x F d,xs=[x,vc]/\Same F H1/\TopIs C.K F H1 x d/\PoV C .sh F H1 (QM ans d) Q:=by
 obtain ⟨F,ρ,r,h⟩:=WO (ma:=ma) h;refine ⟨F,ρ,r,?_⟩;cases q:fa ρ with
 | ok p=>rw [q] at h;obtain ⟨d,ρ1⟩:=p;intro v F1 H1 a k m;obtain ⟨b,dx,z⟩:=h v F1 H1 a k m;exact ⟨v,b,dx,rfl,z⟩
 | exc c=>rw [q] at h; exact h
 | bad=>rw [q] at h; exact h.elim
theorem wA {Ct:Addr} {p t:Pos} (hg:Gl X "isinstance") (m:X.mg "isinstance"=iq) (d:bootBuiltins "isinstance"=ip (.builtin "isinstance")) (l:Gl X cn) (e:X.mg cn=ip (.ref Ct)) (f:∀ Cc b,ans Cc=ip b->xcB X.K Cc=iA/\kitOne X.K (.ref Cc) (.ref Ct)=ip b) (g:PE X a (tE C own ma fa)) (c:(cn == ("__debug__":Str))=false:=by decide)
  (h1:starEach [a,.Name cn t] X.env=(iw,eval a X.env)::starEach [.Name cn t] X.env:=by rfl) (h2:starEach [.Name cn t] X.env=[(iw,eval (.Name cn t) X.env)]:=by rfl):PE X (.Call (.Name "isinstance" p) [a,.Name cn t] [] pos) (tE C own .sh (d1 (QM ans) fa)):=
 jN (wM (YH (vc:=.ref Ct) f rfl) hg m d (qU g (qU (ZO (v:=.ref Ct) l e rfl c) jH h2) h1) (by decide) (by decide) (by rw [h1]) (by rw [h2]; rfl)) λσ H Q h=>YI h
theorem qeC {T:String} {p t:Pos} (hg:Gl X "isinstance") (m:X.mg "isinstance"=iq) (g:bootBuiltins "isinstance"=ip (.builtin "isinstance")) (l:Gl X cn) (e:X.mg cn=iq) (c:bootBuiltins cn=ip (.type T)) (f:∀ Cc b,ans Cc=ip b->xcB X.K Cc=iA/\kitOne X.K (.ref Cc) (.type T)=ip b) (i:PE X a (tE C own ma fa)) (n:cn ≠ "__name__":=by decide) (d:(cn == ("__debug__":Str))=false:=by decide)
  (h1:starEach [a,.Name cn t] X.env=(iw,eval a X.env)::starEach [.Name cn t] X.env:=by rfl) (h2:starEach [.Name cn t] X.env=[(iw,eval (.Name cn t) X.env)]:=by rfl):PE X (.Call (.Name "isinstance" p) [a,.Name cn t] [] pos) (tE C own .sh (d1 (QM ans) fa)):=
 jN (wM (YH (vc:=.ty T) f rfl) hg m g (qU i (qU (ZP (v:=.ty T) l e c rfl n d) jH h2) h1) (by decide) (by decide) (by rw [h1]) (by rw [h2]; rfl)) λσ H Q h=>YI h
end
end L2.D2
namespace L2.D2
open PySem PySem.Spec PyProof.Rows
variable {P:iE} {w:iF} {K:Frag} {N:List Str} {A:iH} {C:Ct}
theorem zA {mg:Str->Option iu} {base:Heap} {qual:Str} {scope:j7} {f:Addr} {cd:iu} {outer:List Env} {s0:iB} {H0:Hp} {E:XK} (h:C.E=E):GG (cxk P w K mg base N qual scope f cd A outer s0 H0 E) C:=by subst h;exact qgx
theorem RoomQ.mono {j k:Nat} (r:RoomQ k A) (h:j<=k):RoomQ j A:=⟨by have:=r.dp; omega,by have:=r.un; omega⟩
noncomputable def qbu (ca:Str->Addr) (cs:List Str) (c:Str):Option Addr:=if c∈cs then ip (ca c) else iq
noncomputable def VM (ca:Str->Addr) (cs:List Str) (x:Str) (C:Addr):Option Bool:=if C∈cs.map ca then ip (decide (C=ca x)) else iq
noncomputable def qgG (ca:Str->Addr) (cs:List Str) (C:Addr):Option Bool:=if C∈cs.map ca then ip iA else iq
structure Xs (K:Frag) (cv:Str->iu) (ca:Str->Addr) (cs:List Str) (top:Str):Prop where
 val:∀ c∈cs,cv c=.ref (ca c)
 own:∀ c∈cs,bG K (.ref (ca c)) (cv top)=ip iA
 cls:∀ c∈cs,xcB K (ca c)=iA
 kit:∀ c∈cs,∀ d∈cs,cj K (.ref (ca c)) (.ref (ca d))=ip (decide (ca c=ca d))
 ve:∀ c∈cs,cj K (.ref (ca c)) (.type "ValueError")=ip iA
variable {x:Str}
section
variable {cv:Str->iu} {ca:Str->Addr} {cs:List Str} {top:Str}
theorem Xs.hit (z:Xs K cv ca cs top):∀ c Cc,qbu ca cs c=ip Cc->cv c=.ref Cc/\bG K (.ref Cc) (cv top)=ip true:=λc Cc h=>by
 unfold qbu at h;split at h;·cases h;exact ⟨z.val c (by assumption),z.own c (by assumption)⟩
 ·cases h
theorem Xs.ans (z:Xs K cv ca cs top) (hx:x∈cs):∀ Cc b,VM ca cs x Cc=ip b->xcB K Cc=iA/\cj K (.ref Cc) (.ref (ca x))=ip b:=λCc b h=>by
 unfold VM at h;split at h;·rename_i m;obtain ⟨c,d,rfl⟩:=af.mp m;cases h;exact ⟨z.cls c d,z.kit c d x hx⟩
 ·cases h
theorem Xs.ansV (z:Xs K cv ca cs top):∀ Cc b,qgG ca cs Cc=ip b->xcB K Cc=iA/\cj K (.ref Cc) (.type "ValueError")=ip b:=λCc b h=>by
 unfold qgG at h;split at h;·rename_i m;obtain ⟨c,d,rfl⟩:=af.mp m;cases h;exact ⟨z.cls c d,z.ve c d⟩
 ·cases h
end
inductive SK where
 | l | t
noncomputable def SK.itc:SK->String
 | .l => "list_iterator"
 | .t => "tuple_iterator"
def SeqK (h:Heap) (a:Addr):SK->Array iu->Prop
 | .l,xs=>h.IsList a xs
 | .t,xs=>h.IsTuple a xs
def ItK (h:Heap) (it a:Addr):SK->Nat->Prop
 | .l,i=>h.IsListIter it a i
 | .t,i=>h.IsTupleIter it a i
def SqK (K:Frag) (H:Hp) (a:Addr):SK->List V->Prop
 | .l,xs=>SqL K H a xs
 | .t,xs=>SqT K H a xs
variable {h h':Heap} {a:Addr} {xs:Array iu}
theorem SeqK.at:∀ {k:SK},SeqK h a k xs->(∀ o,h.get? a=ip o->h'.get? a=ip o)->SeqK h' a k xs
 | .l,⟨o,e,c⟩,k=>⟨o,k _ e,c⟩
 | .t,⟨o,e,c⟩,k=>⟨o,k _ e,c⟩
theorem SeqK.lt:∀ {k:SK},SeqK h a k xs->a < h.objs.size
 | .l,⟨o,e,c⟩=>aA e
 | .t,⟨o,e,c⟩=>aA e
variable {it:Addr} {i:Nat}
theorem ItK.obj:∀ {k:SK},ItK h it a k i->∃ o,h.get? it=ip o/\o.cls=.type k.itc/\o.data=.fields #[.ref a,.int i 0]
 | .l,⟨o,e,c,d⟩=>⟨o,e,c,d⟩
 | .t,⟨o,e,c,d⟩=>⟨o,e,c,d⟩
theorem ItK.of:∀ {k:SK},(∃ o,h.get? it=ip o/\o.cls=.type k.itc/\o.data=.fields #[.ref a,.int i 0])->ItK h it a k i
 | .l,⟨o,e,c,d⟩=>⟨o,e,c,d⟩
 | .t,⟨o,e,c,d⟩=>⟨o,e,c,d⟩
variable {E:iu->iB->Prop} {prog:iE} {s:iB} {Q:Option iu->iB->Prop} {items:Array iu} {o:Obj} {n:Nat}
section
theorem qgH {k:SK} {Q:iu->iB->Prop} (h:SeqK s.heap a k xs) (c:Q (.ref s.heap.objs.size) { s with heap:=s.heap.push { cls:=.type k.itc,data:=.fields #[.ref a,.int 0 0] } }):wpAny (model prog w) A (pyIter (.ref a)) Q E s:=by
 cases k with
 | l=>exact wpAny_pyIter_list h c
 | t=>exact wpAny_pyIter_tuple h c
noncomputable def SK.cl:SK->String
 | .l => "list"
 | .t => "tuple"
theorem GO {k:SK} {l:Addr} (a:A.handled=iq) (hi:ItK s.heap it l k i) (hl:SeqK s.heap l k items) (hx:items[i]?=iq) (c:∀ h',ic it s.heap h'->Q iq { s with heap:=h' }):wpAny (model prog w) A (pyNext (.ref it)) Q E s:=by
 cases k with
 | l=>exact wpAny_pyNext_list_end a hi hl hx c
 | t=>exact wpAny_pyNext_tuple_end a hi hl hx c
theorem Zf {k:SK} {l:Addr} {x:iu} (hi:ItK s.heap it l k i) (hl:SeqK s.heap l k items) (hx:items[i]?=ip x) (c:∀ h',ItK h' it l k (i+1)->bH it s.heap h'->Q (ip x) { s with heap:=h' }):wpAny (model prog w) A (pyNext (.ref it)) Q E s:=by
 cases k with
 | l=>exact wpAny_pyNext_list_item hi hl hx c
 | t=>exact wpAny_pyNext_tuple_item hi hl hx c
theorem SeqK.of (e:h.get? a=ip o) (d:o.data=.seq xs n):∀ {k:SK},o.cls=.type k.cl->SeqK h a k xs
 | .l,c=>⟨o,e,c,n,d⟩
 | .t,c=>⟨o,e,c,n,d⟩
end
variable {sk:SK}
section
theorem Zg:typeLookup (.type "tuple") "keys"=pure none:=by rw [j0,iR]; kernel_rfl
theorem QN {k:Nat} {Q:Option iu->iB->Prop} (n:A.handled=iq) (hx:s.heap.get? a=ip o) (l:o.cls=.type "tuple") (t:o.data=.seq xs k) (hd:o.dict=iq)
  (h:∀ h' tk,(∀ b j,s.heap.get? b=ip j->h'.get? b=ip j)->Q iq { s with heap:=h',toks:=tk }):wpAny (model prog w) A (getAttr? (.ref a) "keys") Q E s:=by
 obtain ⟨c,dct,dat,sl⟩:=o;simp only at l t hd;subst l t hd;obtain ⟨hp,g,d,tk,os⟩:=s;have hT:∀ f,(⟨hp,g,d,f,os⟩:iB).TypeIs (.ref a) "tuple":=λ_=>⟨_,hx,rfl⟩
 have f1:=sub_AttributeError;have u:=dN.lookup;have f4:=dN.bind (.ref a);have r:=am_tuple_getattr_none;have p:=Zg;have m:(["__module__", "__name__", "__qualname__", "__doc__", "__annotations__"]:List Str).contains ("keys":Str)=false:=by decide +kernel
 have hsz:("keys":Str).length+100<=sizeLine:=by rw [iI]; decide +kernel
 unfold getAttr? getAttrBy?;refine ir (wpAny_mkText (ir (j3 ?_)));unfold getAttrBy;repeat (any_goals (first | assumption | exact hT _ | ((with_reducible show wpAny _ _ (call (dq "tuple.__getattribute__") _ _) _ _ _); refine j6 dN (hT _) am_entry_tuple_getattribute (F.args_tuple_getattribute_2 _ _) (meets_getattribute_miss_tuple a xs k sl "keys" _ p m hsz) ⟨hx,n,λh' f e i=>?_⟩) | wp_step))
 obtain ⟨t',W,q⟩:=i.there;show wpAny _ _ (getattributeRaised _ _ _ _ _ _ _) _ _ _;unfold getattributeRaised;repeat (any_goals (first | assumption | wp_step))
 exact h h' f i.keeps
theorem Zh:typeLookup (.type "list") "keys"=pure none:=by rw [j0,iR]; kernel_rfl
theorem gQ {k:Nat} {Q:Option iu->iB->Prop} (n:A.handled=iq) (hx:s.heap.get? a=ip o) (l:o.cls=.type "list") (t:o.data=.seq xs k) (hd:o.dict=iq)
  (h:∀ h' tk,(∀ b j,s.heap.get? b=ip j->h'.get? b=ip j)->Q iq { s with heap:=h',toks:=tk }):wpAny (model prog w) A (getAttr? (.ref a) "keys") Q E s:=by
 obtain ⟨c,dct,dat,sl⟩:=o;simp only at l t hd;subst l t hd;obtain ⟨hp,g,d,tk,os⟩:=s;have hT:∀ f,(⟨hp,g,d,f,os⟩:iB).TypeIs (.ref a) "list":=λ_=>⟨_,hx,rfl⟩
 have f1:=sub_AttributeError;have u:=dU.lookup;have f4:=dU.bind (.ref a);have r:=am_list_getattr_none;have p:=Zh;have m:(["__module__", "__name__", "__qualname__", "__doc__", "__annotations__"]:List Str).contains ("keys":Str)=false:=by decide +kernel
 have hsz:("keys":Str).length+100<=sizeLine:=by rw [iI]; decide +kernel
 unfold getAttr? getAttrBy?;refine ir (wpAny_mkText (ir (j3 ?_)));unfold getAttrBy;repeat (any_goals (first | assumption | exact hT _ | ((with_reducible show wpAny _ _ (call (dq "list.__getattribute__") _ _) _ _ _); refine j6 dU (hT _) am_entry_list_getattribute (F.args_list_getattribute_2 _ _) (meets_getattribute_miss_list a xs k sl "keys" _ p m hsz) ⟨hx,n,λh' f e i=>?_⟩) | wp_step))
 obtain ⟨t',W,q⟩:=i.there;show wpAny _ _ (getattributeRaised _ _ _ _ _ _ _) _ _ _;unfold getattributeRaised;repeat (any_goals (first | assumption | wp_step))
 exact h h' f i.keeps
theorem zB:entryFor table "dict.update.loop"=ip Builtin.«dict.update.loop»:=entryFor_of_tree (by kernel_rfl)
theorem kQ:plainId "dict.update.loop"=true:=by decide +kernel
def GP (h:Heap) (v key val:iu):Prop:=∃ p o n,v=.ref p/\h.get? p=ip o/\o.cls=.type "tuple"/\o.data=.seq #[key,val] n
theorem qcf {sk:SK} {R:lr->iB->Prop} {d t:Addr} (hh:A.in1.handled=iq) (S:d≠t) (u:d≠it) (N:t≠it):∀ (n i:Nat) (s:iB) (kvs:List (Key×iu)) (ps:List (Key×iu×iu)),items.size - i=n->i<=items.size ->ItK s.heap it t sk i->SeqK s.heap t sk items->s.heap.DictOf (jj prog w) d kvs->ps.length=n->(∀ j p,ps[j]?=ip p->∃ v,items[i+j]?=ip v/\gF p.1 p.2.1=iA/\GP s.heap v p.2.1 p.2.2)->kvs.length+n<=sizeLine ->(∀ h' tk,h'.DictOf (jj prog w) d (ps.foldl (λl p=>stored l p.1 p.2.2) kvs)->(∀ b o,b≠d->b≠it->s.heap.get? b=ip o->h'.get? b=ip o)->R (.ok (.ret .none)) { s with heap:=h',toks:=tk }) ->codeAny (model prog w) A (.builtin "dict.update.loop" ⟨[.ref d,.ref it,rawInt i,.none],[]⟩) R s:=by
 intro n
 induction n with
 | zero=>intro i s kvs ps hn hi st H hd hl hp hz W;have e:ps=[]:=List.length_eq_zero_iff.mp hl;subst e;refine iK zB ?_;rw [bw kQ _];show wpAny _ A.in1 (pyNext (.ref it) >>= _) _ _ s;refine ir (GO hh st H (by simp; omega) λh' Z=>?_);show wpAny _ A.in1 (ret cV) _ _ _;refine iC (W h' s.toks ?_ λb o _ h2 e=>Z b o h2 e);obtain ⟨o,es,ep,D,r⟩:=hd;exact ⟨o,es,ep,Z d o u D,r⟩
 | succ n ih=>
  intro i s kvs ps hn hi st H hd hl hp hz W;cases ps with
  | nil=>simp at hl
  | cons p ps=>
   obtain ⟨v,hv,hk,q,X,nq,rfl,hq,P,c⟩:=hp 0 p rfl;obtain ⟨od,es,ep,g,hdx,a⟩:=id hd;have nqd:q≠d:=λz=>by subst z;rw [hq] at g; cases g;rw [a.1] at c; cases c
   obtain ⟨oi,f,hic,E⟩:=st.obj;have K:q≠it:=λz=>by subst z;rw [hq] at f; cases f;rw [E] at c; cases c
   refine iK zB ?_;rw [bw kQ _];show wpAny _ A.in1 (pyNext (.ref it) >>= _) _ _ s;refine ir (Zf st H (x:=.ref q) (by simpa using hv) λh' I G=>?_);have C:h'.get? q=ip X:=(G.2 q K).trans hq;have V:fM { s with heap:=h' } (.ref q) "tuple":=⟨X,C,P⟩
   have U:h'.DictOf (jj prog w) d kvs:=by obtain ⟨o,es,ep,D,r⟩:=hd;exact ⟨o,es,ep,(G.2 d u).trans D,r⟩
   have O:SeqK h' t sk items:=H.at λo D=>(G.2 t N).trans D;dsimp only;refine ir (iJ (ir ?_));refine wpAny_tryCatch ?_;unfold Builtin.Dict.pairItems;refine ir (i9 V ?_);rw [if_pos (by decide)];refine ir (lc C c (iC ?_));show wpAny _ A.in1 (holding [p.2.1,p.2.2] (dictSet d p.2.1 p.2.2)) _ _ _;refine iJ (wpAny_dictSet_pairs (knd:=jj prog w) hk U (λh2 hd2 k=>?_) (by omega));have keep:∀ b o,b≠d->b≠it->s.heap.get? b=ip o->h2.get? b=ip o:=λb o n1 n2 e=>(k.2 b n1).trans ((G.2 b n2).trans e);have Y:(stored kvs p.1 p.2.2).length<=kvs.length+1:=by unfold stored;split <;> simp
   refine iC ⟨i4 kQ _,?_⟩;have ec:rawInt ((i:Int)+1)=rawInt ((i+1:Nat):Int):=by push_cast; rfl
   rw [ec];refine ih (i+1) _ (stored kvs p.1 p.2.2) ps (by omega) (by omega) ?_ ?_ hd2 (by simpa using hl) (λj F e=>?_) (by omega) λh3 tk T k3=>?_;·obtain ⟨o,e,r⟩:=I.obj;exact .of ⟨o,(k.2 it (bh u)).trans e,r⟩
   ·exact O.at λo e=>(k.2 t (bh S)).trans e
   ·obtain ⟨v',M,Q,J,y,L,rfl,m,B,h⟩:=hp (j+1) F (by simpa using e);refine ⟨.ref J,by rw [show i+1+j=i+(j+1) by omega]; exact M,Q,J,y,L,rfl,keep J y (λz=>?_) (λz=>?_) m,B,h⟩;·subst z;rw [m] at g; cases g;rw [a.1] at h; cases h
    ·subst z;rw [m] at f; cases f;rw [E] at h; cases h
   ·exact W h3 tk T λb o n1 n2 e=>k3 b o n1 n2 (keep b o n1 n2 e)
theorem gR {t:Addr} {ps:List (Key×iu×iu)} {Q:iu->iB->Prop} (J:A.handled=iq) {m:Obj} {nt:Nat} (z:s.heap.get? t=ip m) (d:m.cls=.type sk.cl) (n:m.dict=iq) (f:m.data=.seq items nt)
  (hl:ps.length=items.size) (hp:∀ (j:Nat) (p:Key×iu×iu),ps[j]?=ip p->∃ v,items[j]?=ip v/\gF p.1 p.2.1=iA/\GP s.heap v p.2.1 p.2.2) (N:items.size<=sizeLine)
  (h:∀ h' tk,h'.DictOf (jj prog w) s.heap.objs.size (ps.foldl (λl p=>stored l p.1 p.2.2) [])->(∀ b o,s.heap.get? b=ip o->h'.get? b=ip o)->Q (.ref s.heap.objs.size) { s with heap:=h',toks:=tk }) :
  wpAny (model prog w) A (call (.type "dict") [.ref t]) Q E s:=by
 refine callType_codes (Q₁:=λobj k=>obj=.ref s.heap.objs.size/\k={ s with heap:=s.heap.push { cls:=.type "dict",data:=.dict #[] } }) F.kt_called_dict (F.kt_typeCall_dict_1 _) F.entry_dict_init (kt_code_dict_new _ ⟨rfl,rfl⟩) ?_;rintro obj k ⟨rfl,rfl⟩;have i:(s.heap.push { cls:=.type "dict",data:=.dict #[] }).DictOf (jj prog w) s.heap.objs.size []:=Heap.DictOf.new s.heap;refine ⟨i.typeIs,F.args_dict_init_2 _ _,?_⟩;unfold Builtin.«dict.__init__»;refine ir ?_;unfold Builtin.Dict.selfAndRest;refine ir (wpAny_notOrdered_dict i.typeIs ?_);show wpAny _ _ (pure (s.heap.objs.size,[cq t])) _ _ _;refine iC ?_;show wpAny _ _ (Builtin.Dict.updateFrom "dict.__init__" s.heap.objs.size (.ref t) [] .none) _ _ _;unfold Builtin.Dict.updateFrom;have g:(s.heap.push { cls:=.type "dict",data:=.dict #[] }).get? t=ip m:=ae _ z;have C:t < s.heap.objs.size:=aA z;refine ir (i9 (T:=sk.cl) ⟨m,g,d⟩ ?_);rw [if_pos (by cases sk <;> decide)];have R:∀ {L:Option iu->iB->Prop} {A1:iH} {S:iu->iB->Prop} {s1:iB},A1.handled=iq->s1.heap.get? t=ip m->(∀ h' tk,(∀ b I,s1.heap.get? b=ip I->h'.get? b=ip I)->L iq { s1 with heap:=h',toks:=tk })->wpAny (model prog w) A1 (getAttr? (.ref t) "keys") L S s1:=λa b c=>by
  cases sk with
  | l=>exact gQ a b d f n c
  | t=>exact QN a b d f n c
 refine ir (R (by exact J) g λh1 H k1=>?_);rw [if_pos (show (iq:Option iu).isNone=iA from rfl)];refine ir (k7 ?_);have y:h1.get? t=ip m:=k1 _ _ g;have D:h1.DictOf (jj prog w) s.heap.objs.size []:=by obtain ⟨o,es,ep,B,r⟩:=i;exact ⟨o,es,ep,k1 _ _ B,r⟩
 have x:SeqK h1 t sk items:=.of y f d;refine ir (qgH (s:={ s with heap:=h1,toks:=H }) x ?_);have u:s.heap.objs.size < h1.objs.size:=let ⟨o,es,ep,B,r⟩:=D; aA B;have up:∀ b o,s.heap.get? b=ip o->(h1.push { cls:=.type sk.itc,data:=.fields #[.ref t,.int 0 0] }).get? b=ip o:=λb o e=>ae _ (k1 _ _ (ae _ e));refine iC ⟨i4 kQ _,?_⟩;refine qcf (items:=items) (t:=t) (A:=A.in1) (show A.in1.in1.handled=iq from J) (cT C) (aH u) (aH (eJ C u)) items.size 0 _ [] ps (by omega) (bE _) (.of ⟨_,aq _ rfl,rfl,rfl⟩) ?_ ?_ hl (λj p e=>?_) (by simpa using N) λh2 G hd2 k2=>⟨rfl,h h2 G hd2 λb o e=>?_⟩
 ·exact .of (ae _ y) f d
 ·obtain ⟨o,es,ep,B,r⟩:=D;exact ⟨o,es,ep,ae _ B,r⟩
 ·obtain ⟨v,O,P,q,X,M,rfl,hq,r⟩:=hp j p e;exact ⟨.ref q,by simpa using O,P,q,X,M,rfl,up q X hq,r⟩
 ·have K:=aA e;exact k2 b o (aH K) (aH (eJ K u)) (up b o e)
end
noncomputable def Jh:D->Option Key
 | .int i=>ip (.inl i)
 | .str x=>ip (.inr x)
 | _=>iq
noncomputable def Ji (kvs:List (Key×D)) (k:Key) (d:D):List (Key×D):=if kvs.any (λp=>decide (p.1=k)) then kvs.map λp=>if p.1=k then (p.1,d) else p else kvs++[(k,d)]
noncomputable def qcg:D->Option (Key×D)
 | .tup [k,v]=>(Jh k).map λk=>(k,v)
 | _=>iq
noncomputable def uF:List D->Option (List (Key×D))
 | []=>ip []
 | d::ds=>match qcg d,uF ds with
  | some p,ip ps=>ip (p::ps)
  | _,_=>iq
noncomputable def WX:D->Out D
 | .tup ds=>match uF ds with
  | some ps=>.ok (.dct (ps.foldl (λl p=>Ji l p.1 p.2) []))
  | none=>.bad
 | _=>.bad
noncomputable def qgI (d:D):Out D:=(Za d).bind λds=>match uF ds with
 | some ps=>.ok (.dct (ps.foldl (λl p=>Ji l p.1 p.2) []))
 | none=>.bad
variable {d:D} {F H:Hp} {v:V} {ds:List D}
theorem qdp (A:Same F H) (h:TopIs K F H v d) (e:Za d=.ok ds):∃ a k xs,v=.ref a/\SqK K H a k xs/\IsL K F xs ds:=by
 cases d with
 | lst es=>cases e; obtain ⟨a,xs,rfl,q,t⟩:=h.lst A; exact ⟨a,.l,xs,rfl,q,t⟩
 | tup es=>cases e; obtain ⟨a,xs,rfl,q,t⟩:=h.tup A; exact ⟨a,.t,xs,rfl,q,t⟩
 | _=>cases e
theorem IsK.any {k:Key}:∀ {kv:List (Key×V)} {ks:List (Key×D)},IsK K F kv ks->(kv.any λp=>decide (p.1=k))=(ks.any λp=>decide (p.1=k))
 | _,_,.nil=>rfl
 | _,_,.cons h t=>by rw [cM,cM,IsK.any t]
theorem IsK.repl {k:Key} (i:Is K F v d):∀ {kv:List (Key×V)} {ks:List (Key×D)},IsK K F kv ks->IsK K F (kv.map λp=>if p.1=k then (p.1,v) else p) (ks.map λp=>if p.1=k then (p.1,d) else p)
 | _,_,.nil=>.nil
 | _,_,.cons (k:=k') h t=>by
  rw [aE,aE];by_cases e:k'=k;·simp only [e,if_true]; exact .cons i (IsK.repl i t)
  ·simp only [e,if_false]; exact .cons h (IsK.repl i t)
theorem IsK.snoc {k:Key} (i:Is K F v d):∀ {kv:List (Key×V)} {ks:List (Key×D)},IsK K F kv ks->IsK K F (kv++[(k,v)]) (ks++[(k,d)])
 | _,_,.nil=>.cons i .nil
 | _,_,.cons h t=>.cons h (IsK.snoc i t)
variable {kv:List (Key×V)}
theorem IsK.put {k:Key} {ks:List (Key×D)} (h:IsK K F kv ks) (i:Is K F v d):IsK K F (QF kv k v) (Ji ks k d):=by
 unfold QF Ji;rw [h.any];by_cases e:(ks.any λp=>decide (p.1=k))=iA;·rw [if_pos e,if_pos e]; exact IsK.repl i h
 ·rw [if_neg e,if_neg e]; exact IsK.snoc i h
theorem YJ:∀ {pv:List (Key×V)} {ps:List (Key×D)} {kv:List (Key×V)} {ks:List (Key×D)},IsK K F pv ps->IsK K F kv ks->IsK K F (pv.foldl (λl p=>QF l p.1 p.2) kv) (ps.foldl (λl p=>Ji l p.1 p.2) ks)
 | _,_,_,_,.nil,h=>h
 | _,_,_,_,.cons i t,h=>by rw [cu,cu];exact YJ t (h.put i)
def qjl (p:Key×V) (q:Key×iu×iu):Prop:=p.1=q.1/\RelV p.2 q.2.2
theorem GQ:∀ {pv:List (Key×V)} {tr:List (Key×iu×iu)} {kv:List (Key×V)} {vs:List (Key×iu)},lq qjl pv tr->KV kv vs->KV (pv.foldl (λl p=>QF l p.1 p.2) kv) (tr.foldl (λl p=>stored l p.1 p.2.2) vs)
 | _,_,_,_,.nil,h=>h
 | _,_,_,_,.cons r t,h=>by rw [cu,cu];refine GQ t ?_;rw [r.1];exact h.put _ r.2
theorem YK:∀ {pv:List (Key×V)} {kv:List (Key×V)},(pv.foldl (λl p=>QF l p.1 p.2) kv).length<=kv.length+pv.length
 | [],kv=>aD _
 | p::pv,kv=>by have h1:=@YK pv (QF kv p.1 p.2);have h2:=yM kv p.1 p.2;rw [cu,ap];omega
variable {X:Cx} {pins:List (Addr×Obj)} {σ:St} {u:iu} {vs:List V}
section
theorem zx {k:Key} (i:Is C.K F v d) (r:RelV v u) (e:Jh d=ip k):gF k u=true:=by
 cases d with
 | int z=>cases i; cases e; obtain ⟨t,rfl⟩:=r; exact Ve z t
 | str z=>cases i; cases e; obtain ⟨t,rfl⟩:=r; exact Vf z t
 | _=>cases e
theorem YL (f:C.K=X.K) (I:Inv X pins σ H s) (A:Same F H):∀ {vs:List V} {us:List iu} {ds:List D} {ps:List (Key×D)},IsL C.K F vs ds->Vals vs us->uF ds=ip ps ->∃ (pv:List (Key×V)) (tr:List (Key×iu×iu)),IsK C.K F pv ps/\lq qjl pv tr/\tr.length=us.length/\pv.length=us.length/\∀ (j:Nat) (p:Key×iu×iu),tr[j]?=ip p->∃ v,us[j]?=ip v/\gF p.1 p.2.1=iA/\GP s.heap v p.2.1 p.2.2
 | _,_,_,_,.nil,.nil,e=>by cases e; exact ⟨[],[],.nil,.nil,rfl,rfl,λj p e=>by simp at e⟩
 | _,_,_,_,.cons (d:=d) (ds:=ds) i t,.cons (b:=u) r rs,e=>by
  unfold uF at e;cases q:qcg d with
  | none=>rw [q] at e; cases e
  | some kd=>
   cases c:uF ds with
   | none=>rw [q,c] at e; cases e
   | some rest=>
    rw [q,c] at e;cases e;obtain ⟨pv,tr,h1,h2,y,h,x⟩:=YL f I A t rs c;unfold qcg at q;split at q
    ·rename_i B z;obtain ⟨k,l,rfl⟩:=bc.mp q;cases i with
     | @tup a xs _ hq il=>
      cases il with
      | @cons xk _ xr _ ik il2=>
       cases il2 with
       | @cons xv _ xr2 _ iv il3=>
        cases il3;cases r;obtain ⟨its,g,⟨o,m,w,n,hd⟩,_⟩:=I.tuple (show SqT X.K H a [xk,xv] by rw [<-f]; exact qZ A hq);cases g with
        | @cons _ uk _ _ rk rv2=>
         cases rv2 with
         | @cons _ uv _ _ rv3 rv4=>
          cases rv4;refine ⟨(k,xv)::pv,(k,uk,uv)::tr,.cons iv h1,.cons ⟨rfl,rv3⟩ h2,by simp [y],by simp [h],λj p e=>?_⟩;cases j with
          | zero=>simp at e;subst e;exact ⟨_,rfl,zx ik rk l,a,o,n,rfl,m,w,hd⟩
          | succ j=>simpa using x j p (by simpa using e)
    ·cases q
theorem qdq (I:Inv X pins σ H s):∀ {k:SK},SqK X.K H a k vs->∃ its o n,Vals vs its/\s.heap.get? a=ip o/\o.cls=.type k.cl/\o.dict=iq/\o.data=.seq its.toArray n/\vs.length<=sizeLine
 | .l,h=>let ⟨its,r,⟨o,n,m,c,b,hd⟩,z⟩:=I.list h; ⟨its,o,n,r,m,c,b,hd,z⟩
 | .t,h=>by obtain ⟨its,r,⟨o,m,c,n,hd⟩,z⟩:=I.tuple h;obtain ⟨o2,d,b⟩:=I.tupleN h;rw [m] at d; cases d;exact ⟨its,o,n,r,m,c,b,hd,z⟩
theorem YM (m:C.K=X.K) (y:X.calm=iA):QI X C .fr (.type "dict") qgI:=by
  intro pins s σ H xs us Q I r h;obtain ⟨x,F,dx,rfl,A,tx,po⟩:=h;unfold qgI at po;cases e:Za dx with
  | bad=>rw [e] at po; exact po.elim
  | exc c o=>cases dx <;> cases e
  | ok ds=>
   rw [e] at po;have po:PoV C .fr F H (match uF ds with | some ps=>.ok (.dct (ps.foldl (λl p=>Ji l p.1 p.2) [])) | none=>.bad) Q:=po;cases q:uF ds with
   | none=>simp only [q] at po; exact po.elim
   | some ps=>
    simp only [q] at po;obtain ⟨a,sk,vs,rfl,hq,t⟩:=qdp A tx e;obtain ⟨u,rfl,B⟩:=yL r;cases B;rw [m] at hq;obtain ⟨its,o,n,i,w,g,d,hd,L⟩:=qdq I hq;obtain ⟨pv,tr,h1,h2,G,D,z⟩:=YL m I A t i q;have k:=i.length;refine gR (ps:=tr) (I.ok.hd y) w g d hd (by simp [G]) (λj p e=>?_) (by simp; omega) λh' tk f kp=>?_;· obtain ⟨v,e1,J⟩:=z j p e;exact ⟨v,by simpa using e1,J⟩
    · have hp:H s.heap.objs.size=none:=I.hok.fresh (aD _);obtain ⟨s2,c2,E⟩:=wl (u:=.dK (pv.foldl (λl p=>QF l p.1 p.2) [])) A hp;have hl:(pv.foldl (λl p=>QF l p.1 p.2) ([]:List (Key×V))).length<=sizeLine:=by have:=@YK pv [];simp at this;omega
      have b:(s.heap.objs.size == sysModules)=false:=beq_eq_false_iff_ne.mpr (cT I.big);refine ⟨.ref s.heap.objs.size,_,I.laid (o:=.dK (pv.foldl (λl p=>QF l p.1 p.2) [])) (t':=tk) kp (aD _) (qdj hl b (GQ h2 .nil) f),rfl,po _ F _ s2 c2 ⟨_,rfl,hp,E,_,qu,YJ h1 .nil⟩⟩
theorem WY (n:C.K=X.K) (d:X.calm=iA):QI X C .fr (.type "dict") WX:=by
 intro pins s σ H xs us Q I r h;obtain ⟨x,F,dx,rfl,A,tx,po⟩:=h;cases dx <;> try exact po.elim
 exact YM n d pins s σ H _ us Q I r ⟨x,F,_,rfl,A,tx,po⟩
noncomputable def GR (kvs:List (Key×D)) (k:Key):Bool:=kvs.any λp=>decide (p.1=k)
noncomputable def inA:D->D->Out D
 | x,.dct kvs=>match Jh x with
  | some k=>.ok (.bl (GR kvs k))
  | none=>.bad
 | x,y=>qgo x y
noncomputable def JO:D->D->Out D
 | x,.dct kvs=>match Jh x with
  | some k=>.ok (.bl (!GR kvs k))
  | none=>.bad
 | x,y=>XY x y
theorem YN {ks:List (Key×D)} {k:Key} (h:IsK K F kv ks):(WD kv k).isSome=GR ks k:=by rw [<-JA,h.any]; rfl
theorem qhQ {k:Key} (h:TopIs C.K F H v d) (e:Jh d=ip k):v=kV k:=by
 cases d with
 | int z=>cases e; exact h.int
 | str z=>cases e; exact h.str.1
 | _=>cases e
theorem YO (n:C.K=X.K) (f:X.A.units+64 < cLine):OpD X C .sh (compareOp .In) inA:=by
 intro pins s σ H x y v u Q I r c h;obtain ⟨F,dx,d,b,tx,ty,po⟩:=h;by_cases hd:∃ kvs,d=.dct kvs
 ·obtain ⟨kvs,rfl⟩:=hd;cases q:Jh dx with
  | none=>unfold inA at po; simp only [q] at po; exact po.elim
  | some k=>
   unfold inA at po;simp only [q] at po;obtain ⟨a,kv,rfl,g,i⟩:=ty.dct b;cases c;have ex:=qhQ tx q;subst ex;refine qjS (by omega) I (DGet.k (k:=k) g) r λs' j=>⟨.bl _,H,j,rfl,?_⟩
   rw [YN i];exact po _ F H b .refl (.bl _)
 ·have e:inA dx d=qgo dx d:=by cases d <;> first | rfl | exact absurd ⟨_,rfl⟩ hd
  rw [e] at po;exact qiv n f pins s σ H x y v u Q I r c ⟨F,dx,d,b,tx,ty,po⟩
theorem xw (n:C.K=X.K) (f:X.A.units+64 < cLine):OpD X C .sh (compareOp .NotIn) JO:=by
 intro pins s σ H x y v u Q I r c h;obtain ⟨F,dx,d,b,tx,ty,po⟩:=h;by_cases hd:∃ kvs,d=.dct kvs
 ·obtain ⟨kvs,rfl⟩:=hd;cases q:Jh dx with
  | none=>unfold JO at po; simp only [q] at po; exact po.elim
  | some k=>
   unfold JO at po;simp only [q] at po;obtain ⟨a,kv,rfl,g,i⟩:=ty.dct b;cases c;have ex:=qhQ tx q;subst ex;refine qef (by omega) I (DGet.k (k:=k) g) r λs' j=>⟨.bl _,H,j,rfl,?_⟩
   rw [YN i];exact po _ F H b .refl (.bl _)
 ·have e:JO dx d=XY dx d:=by cases d <;> first | rfl | exact absurd ⟨_,rfl⟩ hd
  rw [e] at po;exact qbT n f pins s σ H x y v u Q I r c ⟨F,dx,d,b,tx,ty,po⟩
end
theorem qeD (t:iN) (es:Array (Int×iu)) (h:Int) (x:iu):(layNew t es h x).2.1.led=t.led:=by
 unfold layNew;cases t.freeSlot h with
 | none=>rfl
 | some p=>obtain ⟨sl,w⟩:=p;show (SetTable.orStandIn (t.put sl).1 _).led=t.led;unfold SetTable.orStandIn;split <;> rfl
theorem qeE {m f v:Nat} {l p:Bool} {c:Array Int} {t:iN} {o:Array Nat} (h:hV m f v l p c=ip (t,o)):t.led=l/\t.plain=p:=by
 unfold hV at h;cases e:SetTable.layClean m c with
 | none=>rw [e] at h;cases h
 | some ow=>rw [e] at h;have h2:=congrArg Prod.fst (aO.inj h);subst h2;exact ⟨rfl,rfl⟩
theorem WZ (t:iN) (es:Array (Int×iu)) (n:Nat):(relayAll t es n).2.1.led=t.led/\(t.plain=iw->(relayAll t es n).2.1.plain=iw):=by
 unfold relayAll;cases e:t.relaid (es.map (·.1)) n with
 | none=>exact ⟨rfl,λ_=>rfl⟩
 | some q=>
  obtain ⟨t',o⟩:=q;have k:=qeE (show hV _ _ _ _ _ _=ip (t',o) from e);dsimp only;split;·exact ⟨k.1,λz=>k.2.trans z⟩
  ·exact ⟨rfl,λ_=>rfl⟩
variable {κ:Type}
noncomputable def xQ [DecidableEq κ] (ks:List κ) (x:κ):List κ:=if x∈ks then ks else ks++[x]
noncomputable def xx (ks:List Str) (x:Str):List Str:=if x∈ks then ks else ks++[x]
noncomputable def ky (es:Array (Int×iu)) (ep:Nat) (t:iN):Obj:={ cls:=.type "set",dict:=iq,data:=.set es ep t,slots:=#[] }
structure KP (κ:Type) [DecidableEq κ] where
 kd:∀ (p:iE) (w:iF),PySem.KeyKind p w κ
 of:iu->κ
 pb:Bool
 ofi:∀ {p:iE} {w:iF} {x:κ} {v:iu},(kd p w).is x v=iA->of v=x
 sc:∀ {p:iE} {w:iF} {x:κ} {v:iu},(kd p w).is x v=iA->v.scannable=iA
 pl:∀ {p:iE} {w:iF} {x:κ} {v:iu},(kd p w).is x v=iA->pb=iA->plainKind v=iw
noncomputable def KpS:KP Str where
 kd:=PySem.strKind
 of:=strOf
 pb:=iA
 ofi:=λh=>let ⟨_,e⟩:=c6 h; by rw [e]; rfl
 sc:=λh=>let ⟨_,e⟩:=c6 h; by rw [e]; rfl
 pl:=λh _=>let ⟨_,e⟩:=c6 h; by rw [e]; rfl
structure SetG {κ:Type} [DecidableEq κ] (T:KP κ) (prog:iE) (w:iF) (es:Array (Int×iu)) (t:iN) (ks:List κ):Prop where
 el:ElemsOf (T.kd prog w) es.toList
 perm:(es.toList.map λe=>T.of e.2).Perm ks
 nd:ks.Nodup
 bd:es.size < scanBound
 fits:t.fits es.size=iA
 led:t.led=!(w.params.followText "set-order")
 plain:T.pb=iA->ks≠[]->t.plain=iw
def SetK {κ:Type} [DecidableEq κ] (T:KP κ) (prog:iE) (w:iF) (h:Heap) (a:Addr) (ks:List κ):Prop:=∃ es ep t,h.get? a=ip (ky es ep t)/\SetG T prog w es t ks
variable {es:Array (Int×iu)} {ep:Nat}
section
theorem qgJ {l:List (Int×iu)} (h:ElemsOf (PySem.strKind prog w) l) {e:Int×iu} (i:e∈l):∃ x t,e.2=.str x t:=by obtain ⟨⟨k,b,_⟩,_⟩:=h e i;obtain ⟨t,a⟩:=c6 b;exact ⟨k,t,a⟩
variable [DecidableEq κ] {T:KP κ}
theorem SetG.mem {t:iN} {ks:List κ} (h:SetG T prog w es t ks) {x:κ}:x∈ks↔∃ e∈es.toList,(T.kd prog w).is x e.2=true:=by
 rw [<-h.perm.mem_iff,af];constructor;·rintro ⟨e,i,z⟩;obtain ⟨⟨k,a,_⟩,_⟩:=h.el e i;rw [T.ofi a] at z;exact ⟨e,i,z ▸ a⟩
 ·rintro ⟨e,i,z⟩;exact ⟨e,i,T.ofi z⟩
theorem SetG.size {t:iN} {ks:List κ} (h:SetG T prog w es t ks):es.size=ks.length:=by have e:=h.perm.length_eq;simpa using e
theorem qdr {es':Array (Int×iu)} {t t':iN} (m:h.get? a=ip (ky es ep t)):(h.update a (h8 es' t')).get? a=ip (ky es' (ep+1) t'):=by have e:=bo (h8 es' t') m (by rw [putSet_of (o:=ky es ep t) es' t' rfl]; rfl);rw [putSet_of (o:=ky es ep t) es' t' rfl] at e;exact e
theorem SetG.more {e:Array (Int×iu)} {t c:iN} {ks:List κ} {x:κ} {v:iu} (h:SetG T prog w es t ks) (d:(T.kd prog w).is x v=iA) (nx:x∉ks) (r:ks.length+1 < scanBound)
  (hp:e.toList.Perm (es.toList++[((T.kd prog w).hash x,v)])) (g:c.fits e.size=iA) (hl:c.led=t.led) (hq:T.pb=iA->c.plain=iw):SetG T prog w e c (xQ ks x):=by
 have ex:xQ ks x=ks++[x]:=if_neg nx;have f:e.size=ks.length+1:=by rw [<-bN,hp.length_eq,ah,bN,h.size];rfl
 rw [ex];refine ⟨(h.el.push d (T.sc d)).perm hp,?_,?_,?_,g,hl.trans h.led,λb _=>hq b⟩;·refine (hp.map _).trans ?_;rw [cw,List.map_singleton,T.ofi d];exact h.perm.append (cO _)
 ·exact bQ.mpr ⟨h.nd,by simp,λa j b i=>by rw [ao.mp i]; exact λz=>nx (z ▸ j)⟩
 ·rw [f];exact r
theorem qeF {ks:List κ} {x:κ} {v:iu} {Q:Bool->iB->Prop} (m:(T.kd prog w).is x v=iA) (S:SetK T prog w s.heap a ks) (J:ks.length+1 < scanBound)
  (h:∀ h' b,bH a s.heap h'->SetK T prog w h' a (xQ ks x)->Q b { s with heap:=h' }):wpAny (model prog w) A (setAddHashed a v ((T.kd prog w).hash x)) Q E s:=by
 obtain ⟨es,ep,t,o,d⟩:=S;unfold setAddHashed setAddHashedIn;refine iJ (ir (iQ o rfl d.fits ?_));dsimp only;rw [byScan_of (T.sc m) d.bd d.el,if_pos rfl];unfold setAddByScan;refine ir (ir (k7 (ir (wpAny_setScan_of m o rfl d.fits d.el ?_))));cases hq:es.toList.findIdx? (λe=>(T.kd prog w).is x e.2) with
 | some j=>obtain ⟨N,hp,_⟩:=bZ.mp hq;have hx:x∈ks:=d.mem.mpr ⟨_,bY N,hp⟩;have q:=h s.heap iw (Heap.SameBut.refl a s.heap) ⟨es,ep,t,o,by rw [show xQ ks x=ks from if_pos hx]; exact d⟩;dsimp only;exact iC (iC q)
 | none=>
  have hx:x∉ks:=λz=>by obtain ⟨e,O,q⟩:=d.mem.mp z;have:=List.findIdx?_eq_none_iff.mp hq e O;rw [q] at this;cases this
  dsimp only;have hp:=layNew_perm t es ((T.kd prog w).hash x) v;have n:=layNew_fits t es ((T.kd prog w).hash x) v;have hl:=qeD t es ((T.kd prog w).hash x) v;generalize layNew t es ((T.kd prog w).hash x) v=L at hp n hl ⊢;obtain ⟨c,u,M,U⟩:=L;dsimp only at hp n hl ⊢;rw [Array.toList_push] at hp;have l:∀ f:iN,f.fits c.size=iA->f.led=t.led->(T.pb=iA->f.plain=iw)->wpAny (model prog w) A (do
    storeSet a c f
    if (!M&&f.tooFull)=iA then do
      (match (relayAll f c (c9 c.size)).2.2 with | true=>rule "set.scan.the-table-gave-way" | false=>pure ())
      storeSet a (relayAll f c (c9 c.size)).1 (relayAll f c (c9 c.size)).2.1
      pure (ip iA)
     else pure (ip iA)) (λr s'=>∃ h',s'={ s with heap:=h' }/\r=ip iA/\bH a s.heap h'/\SetK T prog w h' a (xQ ks x)) E s:=by
   intro f f2 I p2;have d2:=d.more m hx J hp f2 I p2;refine ir (wpAny_storeSet_of o rfl ?_ (k6 d2.bd));have i:=qdr (es':=c) (t':=f) o;have y:=bO s.heap a (h8 c f);split
   ·have C:=relayAll_perm f c (c9 c.size);have D:=relayAll_fits f c (c9 c.size);have B:=WZ f c (c9 c.size);generalize relayAll f c (c9 c.size)=R at C D B ⊢;obtain ⟨p,H,Y⟩:=R;dsimp only at C D B ⊢;have K:=d.more m hx J (C.trans hp) D (B.1.trans I) (λb=>B.2 (p2 b));refine ir ?_;have go:wpAny (model prog w) A (storeSet a p H >>= λ_=>pure (ip iA)) (λr s'=>∃ h',s'={ s with heap:=h' }/\r=ip iA/\bH a s.heap h'/\SetK T prog w h' a (xQ ks x)) E { s with heap:=s.heap.update a (h8 c f) }:=
     ir (wpAny_storeSet_of i rfl (iC ⟨_,rfl,rfl,y.trans (bO _ a _),p,_,H,qdr i,K⟩) (k6 K.bd))
    cases Y;·exact iC go
    ·exact k7 go
   ·exact iC ⟨_,rfl,rfl,y,c,_,f,i,d2⟩
  have fin:∀ (r:Option Bool) (s':iB),(∃ h',s'={ s with heap:=h' }/\r=ip iA/\bH a s.heap h'/\SetK T prog w h' a (xQ ks x)) ->wpAny (model prog w) A (match r with | some k=>pure k | none=>setAddHashedIn a v ((T.kd prog w).hash x) 99999) Q E s':=by rintro r s' ⟨h',rfl,rfl,y,S⟩;exact iC (h h' iA y S)
  have P:∀ (b:Bool) {g:iB} {G:Unit->iB->Prop},G () g->wpAny (model prog w) A (match b with | true=>rule "set.scan.the-table-gave-way" | false=>pure ()) G E g:=λb g G q=>by
   cases b;·exact iC q
   ·exact k7 q
  refine ir (P _ ?_);cases e1:u.plain with
  | true=>rw [if_pos rfl,hashByValue_scannable 8 (T.sc m)];refine ir (iC ?_);exact iU (l (if plainKind v=iA then u else { u with plain:=iw }) (by split; exact n; exact SetTable.fits_plain_off n) (by split <;> exact hl) (λb=>by rw [T.pl m b]; rfl)) fin λ_ _ z=>z
  | false=>rw [if_neg (by simp)];refine ir (iC ?_);exact iU (l u n hl λ_=>e1) fin λ_ _ z=>z
end
theorem qch [DecidableEq κ] (ks:List κ) (x:κ):(xQ ks x).length<=ks.length+1:=by
 unfold xQ;split;·omega
 ·rw [ah];exact aD _
theorem xy [DecidableEq κ]:∀ (l ks:List κ),(l.foldl xQ ks).length<=ks.length+l.length
 | [],ks=>aD _
 | x::l,ks=>by have h1:=xy l (xQ ks x);have h2:=qch ks x;rw [cu,ap];omega
theorem YQ:(xQ:List Str->Str->List Str)=xx:=by funext ks x;unfold xQ xx;congr
theorem VN (l ks:List Str):(l.foldl xx ks).length<=ks.length+l.length:=by rw [<-YQ];exact xy l ks
theorem SetK.at [DecidableEq κ] {T:KP κ} {ks:List κ} (S:SetK T prog w h a ks) (k:∀ o,h.get? a=ip o->h'.get? a=ip o):SetK T prog w h' a ks:=
 let ⟨es,ep,t,m,d⟩:=S; ⟨es,ep,t,k _ m,d⟩
section
variable [DecidableEq κ] {T:KP κ} {R:lr->iB->Prop} {I:Addr} {fp wr:List Addr} {P:Nat->iu->Prop} {St:Nat->iB->Prop}
theorem qci {G:Array lj->Array lj->Prop} (W:WalksS prog w A.in1 I fp wr G n P St) (S:Addr) (j:S∉fp) (ss:List κ) (K:ss.length=n) (J:∀ i v,P i v->∃ x,ss[i]?=ip x/\(T.kd prog w).is x v=iA) (d:n+1 < scanBound):∀ (k i:Nat) (s:iB),n - i=k->i<=n->St i s->SetK T prog w s.heap S ((ss.take i).foldl xQ []) ->(∀ s',Moved (S::wr) G s s'->SetK T prog w s'.heap S (ss.foldl xQ [])->R (.ok (.ret .none)) s')->codeAny (model prog w) A (.builtin "set.update.loop" ⟨[.ref S,.ref I],[]⟩) R s:=by
 have E:S∉wr:=λh=>j (W.sub _ h);have up:∀ b∈wr,b∈S::wr:=λb d=>aa _ d;intro k
 induction k with
 | zero=>
  intro i s q hi c r C;have y:i=n:=by omega
  subst y;refine iK F.entry_set_update_loop ?_;rw [bw d7 _]; show wpAny _ A.in1 (pyNext (.ref I) >>= _) _ _ s;refine ir (W.done s _ _ c λs' g=>iC (C s' (g.mono up) ?_));rw [List.take_of_length_le (ez K)] at r;exact r.at λo e=>g.heap S o E e
 | succ k H=>
  intro i s q hi c r C;have t:i < n:=by omega
  refine iK F.entry_set_update_loop ?_;rw [bw d7 _]; show wpAny _ A.in1 (pyNext (.ref I) >>= _) _ _ s;refine ir (W.item i s _ _ t c λv s' L a g=>?_);obtain ⟨x,hx,q⟩:=J i v L;have B:SetK T prog w s'.heap S ((ss.take i).foldl xQ []):=r.at λo e=>g.heap S o E e;show wpAny _ A.in1 (holding [v] (setAdd S v) >>= _) _ _ s';refine ir (iJ ?_);unfold setAdd;refine iJ (ir ((T.kd prog w).pyHash q ?_));have m:((ss.take i).foldl xQ []).length+1 < scanBound:=by have h1:=xy (ss.take i) [];rw [fP,bf] at h1;omega
  refine qeF (s:={ s' with toks:=s'.toks+1 }) q B m λh' b D l=>?_;have M:xQ ((ss.take i).foldl xQ []) x=(ss.take (i+1)).foldl xQ []:=by rw [List.take_add_one,hx,fG];rfl
  rw [M] at l;refine iC ⟨i4 d7 _,H (i+1) _ (by omega) t (W.frame _ s' _ _ a (fC _) λb d o e=>?_) l λu f p=>?_⟩;·rw [D.2 b λz:b=S=>j (z ▸ d)];exact e
  ·refine C u (Moved.trans W.gtrans ((g.mono up).then_heap (fC _) λb o d e=>?_) f) p;rw [D.2 b λz:b=S=>d (z ▸ ai)];exact e
end
section
variable [DecidableEq κ] {T:KP κ}
abbrev qgK (w:iF):Obj:=ky #[] 0 (.fresh 0 0 (!(w.params.followText "set-order")))
theorem GS (e:h.get? a=ip (qgK w)):SetK T prog w h a []:=
 ⟨_,_,_,e,⟨λe i=>by simp at i,by simp,cP,by decide,by rfl,rfl,λ_ z=>absurd rfl z⟩⟩
theorem qeG (a:iu) {Q₁:iu->iB->Prop} (h:Q₁ (.ref s.heap.objs.size) { s with heap:=s.heap.push (qgK w) }):codeAny (model prog w) A (.call (.builtin "set.__new__") ⟨[.type "set",a],[]⟩) (wants Q₁ E) s:=by
 refine codeAny_of_tree ?_; show wpAny _ A.in1 (do checkBuiltinCall "set.__new__" ⟨[.type "set",a],[]⟩; again (.builtin "set.__new__" ⟨[.type "set",a],[]⟩)) _ _ s;refine ir (wpAny_of_eq (PySem.F.newCall_set_1 a) (iC ⟨i4 PySem.F.plain_set_new _,iK PySem.F.entry_set_new ?_⟩)); rw [bw PySem.F.plain_set_new _];unfold Builtin.«set.__new__» Builtin.Frozenset.newClass; have b:=sub_set_self; obtain ⟨hp,g,d,tk,os⟩:=s; dsimp only; wp_walk
 refine iO (iC ?_); dsimp only; simp only [newObj];exact ir (wpAny_alloc (iC (iC h)))
theorem Ua:isSubtype (.type "tuple") (.type "set")=pure false:=by rw [j4]; kernel_rfl
theorem QO:isSubtype (.type "tuple") (.type "frozenset")=pure false:=by rw [j4]; kernel_rfl
theorem qcj:∀ sk:SK,isSubtype (.type sk.cl) (.type "set")=pure iw
 | .l=>PySem.F.sub_list_set
 | .t=>Ua
theorem Ub:∀ sk:SK,isSubtype (.type sk.cl) (.type "frozenset")=pure iw
 | .l=>PySem.F.sub_list_frozenset
 | .t=>QO
theorem qgL (a:A.handled=iq) (sk:SK) (it l:Addr) (e:l≠it) (items:Array iu):Walks prog w A it [it,l] [it] items.size (λi v=>items[i]?=ip v) (λi h=>ItK h it l sk i/\SeqK h l sk items):=by
 cases sk with
 | l=>exact Walks.list a it l e items
 | t=>exact Walks.tuple a it l e items
theorem SeqK.ty:∀ {sk:SK},SeqK s.heap a sk xs->s.TypeIs (.ref a) sk.cl
 | .l,⟨o,e,c,_⟩=>⟨o,e,c⟩
 | .t,⟨o,e,c,_⟩=>⟨o,e,c⟩
theorem qjV {S l:Addr} {ss:List κ} {Q:Unit->iB->Prop} (r:A.handled=iq) (k:SetK T prog w s.heap S []) (hl:SeqK s.heap l sk items) (q:ss.length=items.size) (hi:∀ (i:Nat) (v:iu),items[i]?=ip v->∃ x,ss[i]?=ip x/\(T.kd prog w).is x v=iA) (j:items.size+1 < scanBound) (g:l≠S)
  (h:∀ h' tk,SetK T prog w h' S (ss.foldl xQ [])->(∀ b o,b≠S->s.heap.get? b=ip o->h'.get? b=ip o)->Q () { s with heap:=h',toks:=tk }) :
  wpAny (model prog w) A (cH "set.__init__" S (.ref l)) Q E s:=by
 have hT:=hl.ty;unfold cH;refine ir (m:=Builtin.Frozenset.isAnySet _) ?_;unfold Builtin.Frozenset.isAnySet;refine ir (i7 hT (qcj sk) ?_);refine i7 hT (Ub sk) ?_;rw [if_neg (by decide)];refine ir (i9 hT ?_);rw [if_neg (by cases sk <;> decide)];refine ir (qgH hl ?_);have n:s.heap.objs.size≠S:=λz=>by obtain ⟨es,ep,t,p,_⟩:=k;exact cK _ (z ▸ aA p)
 have d:l≠s.heap.objs.size:=aH hl.lt;refine ir (wpAny_runValue (qci ((qgL (A:=A.in1) r sk _ l d items).toS) S ?_ ss q hi j items.size 0 _ (by omega) (bE _) ⟨.of ⟨_,aq _ rfl,rfl,rfl⟩,hl.at λo e=>ae _ e⟩ ?_ ?_))
 ·intro z;rcases ac.mp z with z | z;·exact n z.symm
  ·exact g (ao.mp z).symm
 ·exact k.at λo e=>ae _ e
 ·intro s' c B;obtain ⟨h',g',d',f,a⟩:=s';have y:g'=s.gens:=c.gens;have C:d'=s.drawn:=c.drawn;have u:a=s.os:=c.os;subst y C u;refine iC (h h' f B λb o j e=>c.heap b o ?_ (ae _ e));intro z;rcases ac.mp z with z | z;·exact j z
  ·rw [ao.mp z] at e;exact cK _ (aA e)
set_option maxHeartbeats 3200000 in
theorem GT {l:Addr} {ks:List κ} {Q:iu->iB->Prop}
  (p:∀ (A1:iH) (L:Unit->iB->Prop) (D:iu->iB->Prop),A1.handled=A.handled->(∀ h' tk,SetK T prog w h' s.heap.objs.size ks->(∀ b o,s.heap.get? b=ip o->h'.get? b=ip o)->L () { s with heap:=h',toks:=tk }) ->wpAny (model prog w) A1 (cH "set.__init__" s.heap.objs.size (.ref l)) L D { s with heap:=s.heap.push (qgK w) })
  (h:∀ h' tk,SetK T prog w h' s.heap.objs.size ks->(∀ b o,s.heap.get? b=ip o->h'.get? b=ip o)->Q (.ref s.heap.objs.size) { s with heap:=h',toks:=tk }) :
  wpAny (model prog w) A (call (.type "set") [.ref l]) Q E s:=by
 have i:∀ {Q₁:iu->iB->Prop},Q₁ (.ref s.heap.objs.size) { s with heap:=s.heap.push (qgK w) }->codeAny (model prog w) A.in1 (.call (.builtin "set.__new__") ⟨[.type "set",.ref l],[]⟩) (wants Q₁ E) s:=λh=>qeG (.ref l) h;unfold qgK ky at i p;generalize (!(w.params.followText "set-order"))=led at i p;obtain ⟨c,tl,t⟩:=bU.mro;have m:=bU.made;have q:=bU.sub;refine wpAny_call (codeAny_of_tree ?_); show wpAny _ _ (callAny (.type "set") _) _ _ _;refine iC ⟨Code.quiet_builtin _ (by decide +kernel),iK PySem.F.entry_type_call ?_⟩; rw [Around.under_plain (weight_type_call_type "set" [.ref l] []) rfl];have h1:=bU.notType;have h2:=bU.canCreate;have x:=PySem.F.typeCall_set_1 (.ref l);repeat (any_goals (first | assumption | wp_step))
 refine j9 (i (Q₁:=λobj f=>obj=.ref s.heap.objs.size/\f={ s with heap:=s.heap.push { cls:=.type "set",dict:=iq,data:=.set #[] 0 (.fresh 0 0 led) } }) ⟨rfl,rfl⟩) λr f k=>?_;cases r with
 | error e=>exact k
 | ok C=>
  cases C with
  | ret obj=>
   obtain ⟨rfl,rfl⟩:=k;have S:(s.heap.push { cls:=.type "set",dict:=iq,data:=.set #[] 0 (.fresh 0 0 led) }).get? s.heap.objs.size=ip { cls:=.type "set",dict:=iq,data:=.set #[] 0 (.fresh 0 0 led) }:=aq _ rfl;have hT:fM { s with heap:=s.heap.push { cls:=.type "set",dict:=iq,data:=.set #[] 0 (.fresh 0 0 led) } } (.ref s.heap.objs.size) "set":=⟨_,S,rfl⟩
   have u:=bU.init.lookup;have y:=bU.init.bind (.ref s.heap.objs.size);repeat (any_goals (first | assumption | wp_step))
   refine j9 (codeAny_call_builtin (R:=wants (λr d=>r=.none/\∃ h' tk,d={ s with heap:=h',toks:=tk }/\SetK T prog w h' s.heap.objs.size ks/\(∀ b o,s.heap.get? b=ip o->h'.get? b=ip o)) E) bU.init.plain PySem.F.entry_set_init (check_set_init_1 hT ?_)) λj d a=>?_
   ·unfold Builtin.«set.__init__» noKeywords;generalize z:cH=U;wp_walk
    subst z;refine p _ _ _ rfl λh' tk B v=>?_;exact iC ⟨rfl,h',tk,rfl,B,v⟩
   ·cases j with
    | error e=>exact a
    | ok g=>
     cases g with
     | ret r=>
      obtain ⟨rfl,h',tk,rfl,B,n⟩:=a;repeat (any_goals (first | assumption | wp_step))
      exact h _ _ B n
     | _=>exact a.elim
  | _=>exact k.elim
end
theorem xX {α:Type}:∀ {xs:List α} {i:Nat} (h:i < xs.length),(xs[i]::xs.eraseIdx i).Perm xs
 | [],_,h=>absurd h (Nat.not_lt_zero _)
 | x::xs,0,h=>cO _
 | x::xs,i+1,h=>(List.Perm.swap _ _ _).trans ((xX (xs:=xs) (i:=i) (Nat.lt_of_succ_lt_succ h)).cons x)
variable {M:Model}
theorem Zi {c:Source} {Q:Nat->iB->Prop} (a:n≠0) (h:∀ i d',i < n->Q i { s with drawn:=d' }):wpAny M A (choose c n) Q E s:=
 λ_ _ _=>⟨a,h _ _ (fW _ (Nat.pos_of_ne_zero a))⟩
variable {α:Type}
theorem GU:∀ (n:Nat) (xs:List α) (s:iB) {Q:List α->iB->Prop},n=xs.length->(∀ ys d',ys.Perm xs->Q ys { s with drawn:=d' })->wpAny M A (drawOrder n xs) Q E s
 | 0,xs,s,Q,hn,h=>by
  cases xs with
  | nil=>exact iC (h [] s.drawn (cO _))
  | cons x l=>cases hn
 | n+1,[],s,Q,hn,h=>by cases hn
 | n+1,x::l,s,Q,hn,h=>by show wpAny M A (choose .order (x::l).length >>= _) Q E s;refine ir (Zi (by simp) λi d' hi=>?_);have e:(x::l)[i]?=ip (x::l)[i]:=aC hi;rw [e];refine ir (GU n _ _ (by rw [List.length_eraseIdx_of_lt hi]; simp only [ap] at hn ⊢; omega) λys d2 hp=>iC (h _ d2 ?_));exact (hp.cons _).trans (xX hi)
theorem GV (next:Nat->Nat):∀ (f k:Nat) (left:List α) (out:Array α),f=left.length->(pickOrder.go next f k left out).toList.Perm (out.toList++left)
 | 0,k,left,out,hf=>by
  cases left with
  | nil=>rw [bi];exact cO _
  | cons x l=>cases hf
 | f+1,k,left,out,hf=>by have t:next k % left.length < left.length:=fW _ (by omega);have e:left[next k % left.length]?=ip left[next k % left.length]:=aC t;unfold pickOrder.go;rw [e];refine (GV next f (k+1) _ _ (by rw [List.length_eraseIdx_of_lt t]; omega)).trans ?_;rw [Array.toList_push,aS];exact List.Perm.append_left _ (xX t)
theorem gS (next:Nat->Nat) (xs:Array α):(pickOrder next xs).toList.Perm xs.toList:=by unfold pickOrder;exact GV next _ _ _ _ (by simp)
noncomputable def uG (first:iu) (i:Nat) (a:Addr) (n ep:Nat):Obj:={ cls:=.type "set_iterator",data:=.fields #[first,rawInt i,.ref a,rawInt n,rawInt ep] }
theorem slot_si_next:Slot "set_iterator" "__next__" "set_iterator.__next__":=
 .of (owner := "set_iterator") (n := "__next__") (by rw [j0,iR]; kernel_rfl) (by decide +kernel) (by decide +kernel) (by decide +kernel) (by first | exact .inl (by decide +kernel) | exact .inr (by decide +kernel)) (by rw [j4]; kernel_rfl)
theorem zD:Slot "set_iterator" "__iter__" "set_iterator.__iter__":=
 .of (owner := "set_iterator") (n := "__iter__") (by rw [j0,iR]; kernel_rfl) (by decide +kernel) (by decide +kernel) (by decide +kernel) (by first | exact .inl (by decide +kernel) | exact .inr (by decide +kernel)) (by rw [j4]; kernel_rfl)
theorem vQ (a:iu):argsOk "set_iterator.__next__" ⟨[a],[]⟩:=by unfold argsOk; kernel_rfl
theorem VO (a:iu):argsOk "set_iterator.__iter__" ⟨[a],[]⟩:=by unfold argsOk; kernel_rfl
theorem vj:entryFor table "set_iterator.__next__"=ip Builtin.«set_iterator.__next__»:=entryFor_of_tree (by kernel_rfl)
theorem JP:entryFor table "set_iterator.__iter__"=ip Builtin.«dict_keyiterator.__iter__»:=entryFor_alias (id' := "dict_keyiterator.__iter__") (by kernel_rfl) rfl (by decide +kernel) (by kernel_rfl)
theorem VP:entryFor table "set.__iter__"=ip Builtin.«frozenset.__iter__»:=entryFor_alias (id' := "frozenset.__iter__") (by kernel_rfl) rfl (by decide +kernel) (by kernel_rfl)
variable {ks:List Str} {p:Addr} {b:Bool} {ps:List Nat}
section
theorem vD (d:w.params.followText "set-order"=b):({ program:=(model prog w).prog,params:=(model prog w).w.params }:Setting).params.followText "set-order"=b:=d
theorem VQ {sl nx:Nat} {t:iN} {x:iu} {Q:Option iu->iB->Prop} (hi:s.heap.get? it=ip (uG (rawInt sl) i a n ep)) (g:s.heap.get? a=ip (ky es ep t)) (f:t.fits es.size=iA) (z:es.size=n)
  (h:∀ (A1:iH) (L:Option (iu×Nat)->iB->Prop) (S:iu->iB->Prop),L (ip (x,nx)) s->wpAny (model prog w) A1 (setNext a sl i ep) L S s)
  (c:∀ h',h'.get? it=ip (uG (rawInt nx) (i+1) a n ep)->bH it s.heap h'->Q (ip x) { s with heap:=h' }):wpAny (model prog w) A (pyNext (.ref it)) Q E s:=by
 have hT:s.TypeIs (.ref it) "set_iterator":=⟨_,hi,rfl⟩
 unfold pyNext;refine ir (j3 (iT (name:=be "__next__") hT slot_si_next (iM slot_si_next hT vj ?_ (vQ _))));show wpAny _ _ (fieldsOf (.ref it) >>= _) _ _ s;refine ir (lf hi rfl ?_);show wpAny _ _ (setEntries a >>= _) _ _ s;refine ir (i5 g rfl f ?_);rw [if_neg (by rw [z]; simp)];show wpAny _ _ (setNext a sl i ep >>= _) _ _ s;refine ir (h _ _ _ ?_);show wpAny _ _ (setField (.ref it) 0 (rawInt nx) >>= _) _ _ s;refine ir (j5 hi rfl (by simp) ?_);have h1:(s.heap.update it (Obj.mapFields (·.setIfInBounds 0 (rawInt nx)))).get? it=ip (uG (rawInt nx) i a n ep):=bo _ hi rfl;refine ir (j5 h1 rfl (by simp) (iC ⟨x,rfl,iC (c _ ?_ ((bO ..).trans (bO ..)))⟩));exact bo _ h1 rfl
theorem VR {sl:Nat} {t:iN} {Q:Option iu->iB->Prop} (h:A.handled=iq) (hi:s.heap.get? it=ip (uG (rawInt sl) i a n ep)) (g:s.heap.get? a=ip (ky es ep t)) (f:t.fits es.size=iA) (z:es.size=n)
  (c:∀ (A1:iH) (L:Option (iu×Nat)->iB->Prop) (S:iu->iB->Prop),L iq s->wpAny (model prog w) A1 (setNext a sl i ep) L S s)
  (d:∀ h',ic it s.heap h'->Q iq { s with heap:=h' }):wpAny (model prog w) A (pyNext (.ref it)) Q E s:=by
 have hT:s.TypeIs (.ref it) "set_iterator":=⟨_,hi,rfl⟩
 unfold pyNext;refine ir (j3 (iT (name:=be "__next__") hT slot_si_next (iM slot_si_next hT vj ?_ (vQ _))));show wpAny _ _ (fieldsOf (.ref it) >>= _) _ _ s;refine ir (lf hi rfl ?_);show wpAny _ _ (setEntries a >>= _) _ _ s;refine ir (i5 g rfl f ?_);rw [if_neg (by rw [z]; simp)];show wpAny _ _ (setNext a sl i ep >>= _) _ _ s;refine ir (c _ _ _ ?_);show wpAny _ _ (setField (.ref it) 2 cV >>= _) _ _ s;refine ir (j5 hi rfl (by simp) ?_); show wpAny _ _ (newExc (.type "StopIteration") [] >>= _) _ _ _;refine ir ?_; simp only [newExc,newTuple]; refine ir (iG ?_ (by size_fits));refine ir (m:=firstArgMember _ _) (wpAny_of_eq (a:=cV) (by first | rfl | (simp only [firstArgMember]; rfl)) ?_); refine iG ?_ (by size_fits); simp only [raiseNew];refine ir (wpAny_handled ?_); first | rw [show A.in1.handled=iq from h] | rw [h]
 refine ir (iC (wpAny_throw ?_)); refine ir (i7 (T := "StopIteration") (b:=iA) ⟨_,aq _ rfl,rfl⟩ isSubtype_stop ?_);exact iC (d _ (((bO ..).extBut.push _).push _))
theorem Zj {pl m:Nat} {t:iN} {hx:Int} {x:iu} {ps:Array iu} {Q:Option iu->iB->Prop} (hi:s.heap.get? it=ip (uG (.ref p) i a n ep)) (g:s.heap.get? a=ip (ky es ep t)) (h:t.fits es.size=iA) (z:es.size=n)
  (hp:s.heap.get? p=ip { cls:=.type "tuple",data:=.seq ps m }) (l:ps[i]?=ip (rawInt pl)) (hx:es[pl]?=ip (hx,x))
  (c:∀ h',h'.get? it=ip (uG (.ref p) (i+1) a n ep)->bH it s.heap h'->Q (ip x) { s with heap:=h' }):wpAny (model prog w) A (pyNext (.ref it)) Q E s:=by
 have hT:s.TypeIs (.ref it) "set_iterator":=⟨_,hi,rfl⟩
 unfold pyNext;refine ir (j3 (iT (name:=be "__next__") hT slot_si_next (iM slot_si_next hT vj ?_ (vQ _))));show wpAny _ _ (fieldsOf (.ref it) >>= _) _ _ s;refine ir (lf hi rfl ?_);show wpAny _ _ (setEntries a >>= _) _ _ s;refine ir (i5 g rfl h ?_);rw [if_neg (by rw [z]; simp)];show wpAny _ _ (seqItems? (.ref p) >>= _) _ _ s;refine ir (lc hp rfl ?_);dsimp only;rw [show ps[Int.toNat (i:Int)]?=ip (rawInt pl) from l];show wpAny _ _ (setNextDrawn a pl ep >>= _) _ _ s;refine ir ?_;unfold setNextDrawn;refine ir (iQ g rfl h ?_);dsimp only;rw [if_neg (by simp),hx];refine iC ?_;show wpAny _ _ (setField (.ref it) 1 (rawInt (i+1)) >>= _) _ _ s;refine ir (j5 hi rfl (by simp) (iC ⟨x,rfl,iC (c _ ?_ (bO ..))⟩));exact bo _ hi rfl
theorem GW {m:Nat} {t:iN} {ps:Array iu} {Q:Option iu->iB->Prop} (h:A.handled=iq) (hi:s.heap.get? it=ip (uG (.ref p) i a n ep)) (g:s.heap.get? a=ip (ky es ep t)) (f:t.fits es.size=iA) (z:es.size=n)
  (hp:s.heap.get? p=ip { cls:=.type "tuple",data:=.seq ps m }) (l:ps[i]?=iq)
  (c:∀ h',ic it s.heap h'->Q iq { s with heap:=h' }):wpAny (model prog w) A (pyNext (.ref it)) Q E s:=by
 have hT:s.TypeIs (.ref it) "set_iterator":=⟨_,hi,rfl⟩
 unfold pyNext;refine ir (j3 (iT (name:=be "__next__") hT slot_si_next (iM slot_si_next hT vj ?_ (vQ _))));show wpAny _ _ (fieldsOf (.ref it) >>= _) _ _ s;refine ir (lf hi rfl ?_);show wpAny _ _ (setEntries a >>= _) _ _ s;refine ir (i5 g rfl f ?_);rw [if_neg (by rw [z]; simp)];show wpAny _ _ (seqItems? (.ref p) >>= _) _ _ s;refine ir (lc hp rfl ?_);dsimp only;rw [show ps[Int.toNat (i:Int)]?=iq from l];show wpAny _ _ (setField (.ref it) 0 (rawInt 0) >>= _) _ _ s;refine ir (j5 hi rfl (by simp) ?_);have h1:(s.heap.update it (Obj.mapFields (·.setIfInBounds 0 (rawInt 0)))).get? it=ip (uG (rawInt 0) i a n ep):=bo _ hi rfl;refine ir (j5 h1 rfl (by simp) ?_); show wpAny _ _ (newExc (.type "StopIteration") [] >>= _) _ _ _;refine ir ?_; simp only [newExc,newTuple]; refine ir (iG ?_ (by size_fits));refine ir (m:=firstArgMember _ _) (wpAny_of_eq (a:=cV) (by first | rfl | (simp only [firstArgMember]; rfl)) ?_); refine iG ?_ (by size_fits); simp only [raiseNew];refine ir (wpAny_handled ?_); first | rw [show A.in1.handled=iq from h] | rw [h]
 refine ir (iC (wpAny_throw ?_)); refine ir (i7 (T := "StopIteration") (b:=iA) ⟨_,aq _ rfl,rfl⟩ isSubtype_stop ?_);exact iC (c _ (((((bO ..).trans (bO ..))).extBut.push _).push _))
theorem gT {Q:iu->iB->Prop} (hi:s.heap.get? it=ip o) (d:o.cls=.type "set_iterator") (h:Q (.ref it) s):wpAny (model prog w) A (pyIter (.ref it)) Q E s:=by
 have hT:s.TypeIs (.ref it) "set_iterator":=⟨_,hi,d⟩
 refine wpAny_pyIter_slot hT zD (iM zD hT JP ?_ (VO _)); show wpAny _ _ (ret (.ref it)) _ _ s;exact iC ⟨_,rfl, "set_iterator",_,hT,slot_si_next.lookup,h⟩
theorem GX {ep:Nat} {t:iN} (y:A.handled=iq) (d:w.params.followText "set-order"=iA) (f:t.fits es.size=iA) (j:a≠it):Walks prog w A it [it,a] [it] es.size (λi v=>((pickOrder (w.params.setOrder a ep) es).toList.map (·.2))[i]?=ip v) (λi h=>h.get? it=ip (uG (rawInt 0) i a es.size ep)/\h.get? a=ip (ky es ep t)) where
 sub:=λb d=>by simp at d; simp [d]
 frame:=λ_ _ _ st r=>⟨r it (by simp) _ st.1,r a (by simp) _ st.2⟩
 item:=λi s Q E hi st c=>by
  have n:(pickOrder (w.params.setOrder a ep) es).size=es.size:=by have:=(gS (w.params.setOrder a ep) es).length_eq;simpa using this
  have k:i < (pickOrder (w.params.setOrder a ep) es).size:=by omega
  obtain ⟨e,he⟩:∃ e,(pickOrder (w.params.setOrder a ep) es)[i]?=ip e:=⟨_,bL k⟩
  refine VQ (x:=e.2) (nx:=0) st.1 st.2 f rfl (λA1 L S q=>?_) λh' l p=>c e.2 h' s.toks ?_ ⟨l,?_⟩ λb o g u=>?_;·unfold setNext;refine ir (iQ st.2 rfl f ?_);dsimp only;refine ir (m:=setsByText) (ir (iO (iC ?_)));rw [vD d,if_pos rfl,if_neg (by simp)];refine ir ?_;unfold setWalk;refine ir (iQ st.2 rfl f ?_);dsimp only;refine ir (m:=setsByText) (ir (iO (iC ?_)));rw [vD d,if_pos rfl];refine ir (iO (iC ?_));refine iC ?_;rw [show (pickOrder ((⟨(model prog w).prog,(model prog w).w.params⟩:Setting).params.setOrder a ep) es)[i]?=ip e from he];exact q
  ·rw [aG,bS,he];rfl
  ·rw [p.2 a j];exact st.2
  ·rw [p.2 b (λz=>g (by simp [z]))];exact u
 done:=λs Q E st c=>by
  have n:(pickOrder (w.params.setOrder a ep) es).size=es.size:=by have:=(gS (w.params.setOrder a ep) es).length_eq;simpa using this
  refine VR y st.1 st.2 f rfl (λA1 L S q=>?_) λh' J=>c h' s.toks λb o g u=>J b o (λz=>g (by simp [z])) u;unfold setNext;refine ir (iQ st.2 rfl f ?_);dsimp only;refine ir (m:=setsByText) (ir (iO (iC ?_)));rw [vD d,if_pos rfl,if_neg (by simp)];refine ir ?_;unfold setWalk;refine ir (iQ st.2 rfl f ?_);dsimp only;refine ir (m:=setsByText) (ir (iO (iC ?_)));rw [vD d,if_pos rfl];refine ir (iO (iC ?_));refine iC ?_;rw [show (pickOrder ((⟨(model prog w).prog,(model prog w).w.params⟩:Setting).params.setOrder a ep) es)[es.size]?=iq from dj (ez n)];exact q
 self:=λi s Q E st c=>gT st.1 rfl c
noncomputable def yQ (t:iN) (i:Nat):Nat:=if i=0 then 0 else t.place.getD 0 0+1
theorem VS (j k:Nat):bu #[j] k=if j < k then 1 else 0:=by unfold bu;show bu.go #[j] k 1 0 1=_;unfold bu.go;rw [if_pos (by omega)];show (if (#[j]:Array Nat).getD 0 k < k then bu.go #[j] k 0 1 1 else bu.go #[j] k 0 0 0)=_;show (if j < k then bu.go #[j] k 0 1 1 else bu.go #[j] k 0 0 0)=_;split <;> rfl
theorem YR {t:iN} {Q:Option (iu×Nat)->iB->Prop} (g:w.params.followText "set-order"=iw) (f:t.fits es.size=iA) (hl:t.led=iA) (c:es.size<=1) (n:s.heap.get? a=ip (ky es ep t)) (hi:i<=es.size)
  (q:Q (match es[i]? with | some e=>ip (e.2,yQ t (i+1)) | none=>iq) s):wpAny (model prog w) A (setNext a (yQ t i) i ep) Q E s:=by
 have h:t.place.size=es.size:=by have:=f;simp only [SetTable.fits,aN,beq_iff_eq] at this;exact this.1
 unfold setNext;refine ir (iQ n rfl f ?_);dsimp only;refine ir (m:=setsByText) (ir (iO (iC ?_)));rw [vD g,if_neg (by simp)];show wpAny _ _ (if (!t.plain&&decide (es.size > 1))=iA then _ else _) _ _ _;rw [if_neg (by simp; intro _; omega)];refine ir ?_;show wpAny _ _ (if (!t.led&&!es.isEmpty)=iA then _ else _) _ _ _;rw [hl,if_neg (by simp)];refine iC (iC ?_);have e:(match es[bu t.place (yQ t i)]?,t.place[bu t.place (yQ t i)]? with | some (_,x),ip j=>ip (x,j+1) | _,_=>iq)=(match es[i]? with | some e=>ip (e.2,yQ t (i+1)) | none=>iq:Option (iu×Nat)):=by
  obtain ⟨l⟩:=es;obtain ⟨k,⟨pl⟩,u,fi,le,mo,pn⟩:=t;cases l with
  | nil=>simp
  | cons d l=>
   cases l with
   | cons _ _=>exact absurd c (by simp)
   | nil=>
    cases pl with
    | nil=>exact absurd h (by simp)
    | cons j pl=>
     cases pl with
     | cons _ _=>exact absurd h (by simp)
     | nil=>
      have b:i=0\/i=1:=by simp at hi; omega
      rcases b with rfl | rfl;·show (match (#[d]:Array (Int×iu))[bu #[j] 0]?,(#[j]:Array Nat)[bu #[j] 0]? with | some (_,x),ip j=>ip (x,j+1) | _,_=>iq)=ip (d.2,j+1);rw [VS,if_neg (by omega)];rfl
      ·show (match (#[d]:Array (Int×iu))[bu #[j] (j+1)]?,(#[j]:Array Nat)[bu #[j] (j+1)]? with | some (_,x),ip j=>ip (x,j+1) | _,_=>iq)=iq;rw [VS,if_pos (by omega)];rfl
 exact Eq.mp (congrArg (λz=>Q z s) e.symm) q
theorem qck {ep:Nat} {t:iN} (p:A.handled=iq) (d:w.params.followText "set-order"=iw) (f:t.fits es.size=iA) (hl:t.led=iA) (k:es.size<=1) (e:a≠it):Walks prog w A it [it,a] [it] es.size (λi v=>(es.toList.map (·.2))[i]?=ip v) (λi h=>h.get? it=ip (uG (rawInt (yQ t i)) i a es.size ep)/\h.get? a=ip (ky es ep t)) where
 sub:=λb d=>by simp at d; simp [d]
 frame:=λ_ _ _ st l=>⟨l it (by simp) _ st.1,l a (by simp) _ st.2⟩
 item:=λi s Q E hi st c=>by
  have m:es[i]?=ip es[i]:=bL hi;refine VQ (x:=es[i].2) (nx:=yQ t (i+1)) st.1 st.2 f rfl (λA1 L S q=>YR d f hl k st.2 (dg hi) (by rw [m]; exact q)) λh' g j=>c es[i].2 h' s.toks ?_ ⟨g,?_⟩ λb o n u=>?_;·rw [aG,bS,m];rfl
  ·rw [j.2 a e];exact st.2
  ·rw [j.2 b (λz=>n (by simp [z]))];exact u
 done:=λs Q E st c=>VR p st.1 st.2 f rfl (λA1 L S q=>YR d f hl k st.2 (aD _) (by rw [dj (aD _)]; exact q)) λh' J=>c h' s.toks λb o n u=>J b o (λz=>n (by simp [z])) u
 self:=λi s Q E st c=>gT st.1 rfl c
noncomputable def qgM (es:Array (Int×iu)) (ps:List Nat):List iu:=ps.map λk=>(es[k]?.map (·.2)).getD .none
theorem GY (h:ps.Perm (aK es.size)):(qgM es ps).Perm (es.toList.map (·.2)):=by
 have e:qgM es (aK es.size)=es.toList.map (·.2):=by
  apply eU;intro i;unfold qgM;rw [aG,aG,show es.toList[i]?=es[i]? from bS];by_cases hi:i < es.size;·rw [List.getElem?_range hi,bL hi];simp [hi]
  ·rw [cz (by rw [ck]; omega),dj (by omega)];rfl
 rw [<-e];exact h.map _
theorem Zk {ep m:Nat} {t:iN} (B:A.handled=iq) (q:t.fits es.size=iA) (hp:ps.Perm (aK es.size)) (g:a≠it) (f:p≠it):Walks prog w A it [it,a,p] [it] es.size (λi v=>(qgM es ps)[i]?=ip v) (λi h=>h.get? it=ip (uG (.ref p) i a es.size ep)/\h.get? a=ip (ky es ep t)/\h.get? p=ip { cls:=.type "tuple",data:=.seq (ps.map λ(i:Nat)=>rawInt i).toArray m }) where
 sub:=λb y=>by simp at y; simp [y]
 frame:=λ_ _ _ st k=>⟨k it (by simp) _ st.1,k a (by simp) _ st.2.1,k p (by simp) _ st.2.2⟩
 item:=λi s Q E hi st c=>by
  have n:ps.length=es.size:=by rw [hp.length_eq,ck]
  have l:i < ps.length:=by omega
  have k:ps[i] < es.size:=bD.mp (hp.mem_iff.mp (bY l));have r:es[ps[i]]?=ip es[ps[i]]:=bL k;refine Zj (x:=es[ps[i]].2) (hx:=es[ps[i]].1) (pl:=ps[i]) st.1 st.2.1 q rfl st.2.2 ?_ r λh' j d=>c es[ps[i]].2 h' s.toks ?_ ⟨j,?_,?_⟩ λb o e u=>?_;·rw [eY,aG,aC l];rfl
  ·unfold qgM;rw [aG,aC l];simp [r]
  ·rw [d.2 a g];exact st.2.1
  ·rw [d.2 p f];exact st.2.2
  ·rw [d.2 b (λz=>e (by simp [z]))];exact u
 done:=λs Q E st c=>by
  have n:ps.length=es.size:=by rw [hp.length_eq,ck]
  refine GW B st.1 st.2.1 q rfl st.2.2 ?_ λh' J=>c h' s.toks λb o e u=>J b o (λz=>e (by simp [z])) u;rw [eY,cz (by simp; omega)]
 self:=λi s Q E st c=>gT st.1 rfl c
theorem qcl {t:iN} {A1:iH} {Q:iu->iB->Prop} (n:A1.handled=iq) (g:s.heap.get? a=ip (ky es ep t)) (d:SetG KpS prog w es t ks)
  (q:∀ (it:Addr) (h':Heap) (r:Drawn) (ord:List iu) (fp:List Addr) (St:Nat->Heap->Prop),(∀ b o,s.heap.get? b=ip o->h'.get? b=ip o)->ord.Perm (es.toList.map (·.2))->Walks prog w A1 it fp [it] es.size (λi v=>ord[i]?=ip v) St->St 0 h' ->(∀ b∈fp,b=a\/s.heap.objs.size<=b)->s.heap.objs.size<=it->Q (.ref it) { s with heap:=h',drawn:=r }):wpAny (model prog w) A (pyIter (.ref a)) Q E s:=by
 have hT:s.TypeIs (.ref a) "set":=⟨_,g,rfl⟩
 have f:a < s.heap.objs.size:=aA g;refine wpAny_pyIter_slot hT PySem.F.slot_set_iter (iM PySem.F.slot_set_iter hT VP ?_ (PySem.F.args_set_iter_1 _));show wpAny _ _ (Builtin.Frozenset.sizeOf a >>= _) _ _ s;refine ir (m:=Builtin.Frozenset.sizeOf a) (ir (i5 g rfl d.fits (iC ?_)));refine ir (m:=setDrawn a) ?_;unfold setDrawn;refine ir (iQ g rfl d.fits ?_);dsimp only;refine ir (m:=setsByText) (ir (iO (iC ?_)));refine iC ?_;cases h:w.params.followText "set-order" with
 | true=>
  rw [vD h,if_neg (by simp)];refine ir (iC ?_);refine ir (m:=setEpoch a) (wpAny_setEpoch_of g rfl d.fits ?_);refine ir (iG (iC ⟨_,rfl, "set_iterator",_,⟨_,aq _ rfl,rfl⟩,slot_si_next.lookup,?_⟩));refine q _ _ s.drawn _ _ _ (λb o e=>ae _ e) ((gS (w.params.setOrder a ep) es).map _) (GX n h d.fits (aH f)) ⟨aq _ rfl,ae _ g⟩ ?_ (aD _);intro b h;rcases ac.mp h with z | z;·exact .inr (z ▸ aD _)
  ·exact .inl (ao.mp z)
 | false=>
  have k:t.led=true:=by rw [d.led,h]; rfl
  rw [vD h];show wpAny _ _ (if (!false&&(!t.plain&&decide (es.size > 1)))=iA then _ else _) _ _ _;by_cases u:es.size<=1
  ·rw [if_neg (by simp; intro _; omega)];refine ir (iC ?_);refine ir (m:=setEpoch a) (wpAny_setEpoch_of g rfl d.fits ?_);refine ir (iG (iC ⟨_,rfl, "set_iterator",_,⟨_,aq _ rfl,rfl⟩,slot_si_next.lookup,?_⟩));refine q _ _ s.drawn _ _ _ (λb o e=>ae _ e) (cO _) (qck n h d.fits k u (aH f)) ⟨aq _ rfl,ae _ g⟩ ?_ (aD _);intro b h;rcases ac.mp h with z | z;·exact .inr (z ▸ aD _)
   ·exact .inl (ao.mp z)
  ·have l:t.plain=false:=d.plain rfl λz=>by have x:=d.size;rw [z,bf] at x;omega
   rw [if_pos (by rw [l]; simp; omega)];refine ir (GU es.size (aK es.size) s (by simp) λps r hp=>?_);have j:ps.length=es.size:=by rw [hp.length_eq,ck]
   have hsz:(ps.map λ(i:Nat)=>rawInt i).length<=sizeLine:=by rw [ay,j]; exact k6 d.bd
   refine ir (wpAny_newTuple ?_ hsz);refine ir (m:=setEpoch a) (wpAny_setEpoch_of (ae _ g) rfl d.fits ?_);refine ir (iG (iC ⟨_,rfl, "set_iterator",_,⟨_,aq _ rfl,rfl⟩,slot_si_next.lookup,?_⟩));have c:s.heap.objs.size < (s.heap.push ({ cls:=.type "tuple",data:=.seq (ps.map λ(i:Nat)=>rawInt i).toArray }:Obj)).objs.size:=by rw [cN]; exact Nat.lt_succ_self _
   refine q _ _ r _ _ _ (λb o e=>ae _ (ae _ e)) (GY hp) (Zk (p:=s.heap.objs.size) n d.fits hp (aH (eJ f c)) (aH c)) ⟨aq _ rfl,ae _ (ae _ g),ae _ (aq _ rfl)⟩ ?_ (dg c);intro b h;rcases ac.mp h with z | z;·exact .inr (z ▸ dg c)
   ·rcases ac.mp z with z | z;·exact .inl z
    ·exact .inr (ez (ao.mp z).symm)
end
section
theorem qcm {ord:List iu} {acc:Array iu} (hl:ord.length=n) (h:lu (λi v=>ord[i]?=ip v) acc n):acc.toList=ord:=by
 apply eU;intro i;rw [show acc.toList[i]?=acc[i]? from bS];by_cases hi:i < acc.size;·rw [bL hi];exact (h.2 i _ (bL hi)).symm
 ·rw [dj (by omega),cz (by have:=h.1; omega)]
theorem Uc {t:iN} {Q:List iu->iB->Prop} (M:A.handled=iq) (J:s.heap.get? a=ip (ky es ep t)) (d:SetG KpS prog w es t ks)
  (N:∀ h' x tk ord,(∀ b o,s.heap.get? b=ip o->h'.get? b=ip o)->ord.Perm (es.toList.map (·.2))->Q ord { s with heap:=h',drawn:=x,toks:=tk }):wpAny (model prog w) A (collect (.ref a)) Q E s:=by
 have n:a < s.heap.objs.size:=aA J;unfold collect;refine ir (wpAny_runValue (iK PySem.F.entry_proto_collect ?_)); rw [bw PySem.F.plain_proto_collect _];show wpAny _ A.in1 (newList [] >>= λl=>again (.builtin "list.__iadd__" ⟨[l,.ref a],[]⟩)) _ _ s; refine ir (iG ?_);refine iC ⟨i4 PySem.F.plain_list_iadd _,iK PySem.F.entry_list_iadd ?_⟩; rw [bw PySem.F.plain_list_iadd _];have g:(s.heap.push { cls:=.type "list",data:=.seq ([]:List iu).toArray }).get? a=ip (ky es ep t):=ae _ J;have hT:fM { s with heap:=s.heap.push { cls:=.type "list",data:=.seq ([]:List iu).toArray } } (.ref a) "set":=⟨_,g,rfl⟩
 show wpAny _ A.in1 (bn (.ref s.heap.objs.size) (.ref a) (.ref s.heap.objs.size)) _ _ _; unfold bn;refine ir (i9 hT ?_);have h1:cY (.ref s.heap.objs.size) (.ref a)=false:=by simp [cY,cT n]
 rw [if_neg (by rw [h1]; decide)];refine ir (qcl (A1:=A.in1) M g d λit h2 x ord fp St k2 hp W C G hit=>?_);have u:h2.get? s.heap.objs.size=ip { cls:=.type "list",data:=.seq ([]:List iu).toArray }:=k2 _ _ (aq _ rfl);have D:h2.get? a=ip (ky es ep t):=k2 _ _ g;refine ir (iJ ?_);unfold Builtin.List.listLengthHint;have i:fM { s with heap:=h2,drawn:=x } (.ref a) "set":=⟨_,D,rfl⟩
 refine ir (wpAny_specialOf i PySem.F.slot_set_len.lookup ?_)
 (generalize f:("set.__len__":String)=id0; (fail_if_success (clear f id0)); wp_delta; rw [show splitId id0=ip ("set", "__len__") from by subst f; decide +kernel]; subst f)
 refine ir (i7 (b:=iA) i (by rw [j4]; kernel_rfl) ?_);refine ir (m:=typeOf (.ref a)) (i9 i ?_);refine iC ?_;show wpAny _ A.in1 (rule "list.extend.makes-room" >>= λ_=>Builtin.List.listTouch (.ref s.heap.objs.size) >>= λ_=>again (.builtin "list.extend.loop" ⟨[.ref s.heap.objs.size,.ref it,.ref s.heap.objs.size],[]⟩)) _ _ _;refine ir (k7 (ir ?_)); show wpAny _ A.in1 (updateSeq s.heap.objs.size (·.push .none) >>= λ_=>updateSeq s.heap.objs.size (·.pop)) _ _ _;refine ir (wpAny_updateSeq u rfl ?_); have h:=bo (cW (·.push cV)) u rfl;refine wpAny_updateSeq h rfl ?_; have j:=bo (cW (·.pop)) h rfl;have k:(s.heap.push ({ cls:=.type "list",data:=.seq ([]:List iu).toArray }:Obj)).objs.size=s.heap.objs.size+1:=cN ..;have oth:∀ b o,b≠s.heap.objs.size->h2.get? b=ip o->((h2.update s.heap.objs.size (cW (·.push cV))).update s.heap.objs.size (cW (·.pop))).get? b=ip o:=λb o c e=>(cJ _ _ (bh c)).trans ((cJ _ _ (bh c)).trans e);have I:s.heap.objs.size∉fp:=λz=>by
  rcases G _ z with q | q;·exact cT n q
  ·exact Nat.not_succ_le_self _ (k ▸ q)
 have p:ord.length=es.size:=by rw [hp.length_eq];simp
 refine iC ⟨i4 PySem.F.plain_extend_loop _,codeAny_extend_loopS W.toS (k6 d.bd) _ I _ es.size 0 _ _ _ rfl (bE _) (W.frame 0 h2 _ C λb c o e=>oth b o (λz=>I (z ▸ c)) e) j (ItemsOf.nil _) λs' L U v H r=>?_⟩;show wpAny _ A (load s.heap.objs.size >>= _) _ _ s';refine ir (wpAny_load H (iC ?_));rw [qcm p r];obtain ⟨h',g',d',y,B⟩:=s';have P:g'=s.gens:=v.gens;have R:d'=x:=v.drawn;have O:B=s.os:=v.os;subst P R O;refine N h' d' y ord (λb o e=>?_) hp;have c:=aA e;refine v.heap b o (λz=>?_) (oth b o (aH c) (k2 b o (ae _ e)));rcases ac.mp z with z | z;·exact aH c z
 ·have K:s.heap.objs.size+1<=it:=k ▸ hit;rw [<-ao.mp z] at K;exact cK _ (eJ c K)
theorem Zl {Q:iu->iB->Prop} (q:A.handled=iq) (T:SetK KpS prog w s.heap a ks) (j:ks.length < 64)
  (x:∀ (h1 h':Heap) r tk vs e ss,(∀ b o,s.heap.get? b=ip o->h1.get? b=ip o)->(∀ b o,h1.get? b=ip o->h'.get? b=ip o)->h'.get? h1.objs.size=ip (seqObj "list" vs e)->li vs.toList ss->ss.Perm ks->sortedS ss=iA->Q (.ref h1.objs.size) { s with heap:=h',drawn:=r,toks:=tk }) :
  wpAny (model prog w) A (call (.builtin "sorted") [.ref a]) Q E s:=by
 obtain ⟨es,ep,t,u,d⟩:=T;refine Calls.call_function_entry kind_sorted plain_sorted entry_sorted (args_sorted1 _) ?_; unfold Builtin.«sorted»;refine ir (m:=checkCount "sorted" 1 1 _) (iC ?_);refine ir (Uc (by exact q) u d λh1 r tk ord k1 hp=>?_);have c:li ord (ord.map strOf):=strsAre_map ord λv p=>by obtain ⟨e,i,rfl⟩:=af.mp (hp.mem_iff.mp p);exact qgJ d.el i
 have h:(ord.map strOf).Perm ks:=(hp.map strOf).trans (by rw [aV]; exact d.perm);have n:ord.length=ks.length:=by have:=h.length_eq;rwa [ay] at this
 refine ir (wpAny_newList ?_ (by rw [n,iI]; omega));have Z:(h1.push (seqObj "list" ord.toArray 0)).get? h1.objs.size=ip (seqObj "list" ord.toArray 0):=aq _ rfl;refine ir (iJ (iM slot_list_sort (s:={ s with heap:=h1.push (seqObj "list" ord.toArray 0),drawn:=r,toks:=tk }) ⟨_,Z,rfl⟩ entry_list_sort (list_sort_treeK strKind_oneLt Z c.keysOf (λv₁ k rest e=>keyKind_strs (by rw [<-e]; exact c)) (by rw [n]; exact j) λg D C=>⟨_,rfl,?_⟩) (args_list_sort _)));obtain ⟨f,B,z,y⟩:=sorted_out_str c D C;obtain ⟨e,i⟩:=sortedHeap_at (out:=(arrOf g).map (·.2)) Z;refine iC ⟨_,rfl,x h1 _ r tk _ e f k1 (λb o J=>?_) i B (z.trans h) y⟩;have l:=aA J;rw [sortedHeap_old (aH l) (by rw [cN]; exact fF l)];exact ae _ J
end
section
variable {z TI TO i1 i2:Addr} {fp1 fp2:List Addr} {n1 n2:Nat} {P1 P2:Nat->iu->Prop} {S1 S2:Nat->Heap->Prop} {a b:iu}
end
variable {t':Nat}
section
theorem GZ {ch:List Addr} (I:Inv X pins σ H s) (k:∀ b o,b∉ch->s.heap.get? b=ip o->h'.get? b=ip o) (h:∀ b∈ch,WC X pins H b):Inv X pins σ H { s with heap:=h',toks:=t' }:=by
 have t:∀ b u,H b=ip u->b∉ch:=λb u e z=>by rw [(h b z).1] at e;cases e
 refine I.step (g':=s.gens) (d':=s.drawn) (ch:=ch) (λb g=>?_) (λb o _ _ d e _=>k b o d e) (λb o _ _ d e _=>⟨o.slots,k b o d e⟩) (λ_ _ _ _ n=>n) (λb o d e=>⟨o,k b o d e⟩) (λ_ _ e=>e) (λ_ _ _ e=>e) (λb ps e=>⟨#[],by rw [e]; simp⟩) (λm f=>?_) (λb u e=>?_) I.bare;·obtain ⟨f0,f1,f2,j,f4,i⟩:=h b g;exact ⟨j,f1,f4,i⟩
 ·obtain ⟨o,es,ep,a,r⟩:=f;exact ⟨o,es,ep,k _ o (λz=>(h _ z).2.1 rfl) a,r⟩
 ·refine (I.hok b u e).stay (λc v d q=>k c v ?_ q) (λ_ q=>q) λ_ _ q=>q;rcases d with z | z
  ·rw [z];exact t b u e
  ·exact t c _ z
theorem qjW {d':Drawn} (I:Inv X pins σ H s) (k:∀ b u,s.heap.get? b=ip u->h'.get? b=ip u):Inv X pins σ H { s with heap:=h',drawn:=d',toks:=t' }:=by refine I.step (g':=s.gens) (d':=d') (ch:=[]) (λ_ z=>nomatch z) (λb o _ _ _ e _=>k b o e) (λb o _ _ _ e _=>⟨o.slots,k b o e⟩) (λ_ _ _ _ n=>n) (λb o _ e=>⟨o,k b o e⟩) (λ_ _ e=>e) (λ_ _ _ e=>e) (λb ps e=>⟨#[],by rw [e]; simp⟩) (λm c=>?_) (I.hok.kept k) I.bare;obtain ⟨o,es,ep,h,r⟩:=c;exact ⟨o,es,ep,k _ o h,r⟩
end
variable {us:List iu}
theorem qaa {xs:List V} (r:Vals xs us) (h:us[i]?=ip u):∃ x,xs[i]?=ip x/\RelV x u:=by
 have hi:i < us.length:=(aB.mp h).1;have hx:i < xs.length:=by rw [r.length]; exact hi
 obtain ⟨W,h1,h2⟩:=r.get (aC hx);rw [h] at h1;cases h1;exact ⟨xs[i],aC hx,h2⟩
def leS (x y:Str):Prop:=¬y.cps.toList < x.cps.toList
noncomputable def qfE (x:Str):List Str->List Str
 | []=>[x]
 | y::l=>if vL y x=iA then y::qfE x l else x::y::l
noncomputable def jW:List Str->List Str
 | []=>[]
 | x::l=>qfE x (jW l)
variable {y:Str}
theorem xz {z:Str} (a:leS x y) (b:leS y z):leS x z:=List.le_trans (α:=Nat) a b
theorem VT (x y:Str):leS x y\/leS y x:=List.le_total (α:=Nat) x.cps.toList y.cps.toList
theorem xA (a:leS x y) (b:leS y x):x=y:=by have e:=List.le_antisymm (α:=Nat) (as:=x.cps.toList) (bs:=y.cps.toList) a b;obtain ⟨⟨l⟩⟩:=x;obtain ⟨⟨m⟩⟩:=y;simp at e;rw [e]
theorem strLt_false:vL y x=iw↔leS x y:=by unfold vL leS;exact decide_eq_false_iff_not
theorem gU (x:Str):∀ l,(qfE x l).Perm (x::l)
 | []=>cO _
 | y::l=>by
  unfold qfE;split;·exact ((gU x l).cons y).trans (List.Perm.swap _ _ _)
  ·exact cO _
theorem qN:∀ l,(jW l).Perm l
 | []=>cO _
 | x::l=>(gU x _).trans ((qN l).cons x)
theorem gW (x:Str):∀ l,l.Pairwise leS->(qfE x l).Pairwise leS
 | [],_=>d8 _ _
 | y::l,h=>by
  have d:=aP.mp h;unfold qfE;split
  ·rename_i t;have c:leS y x:=by
    rcases VT y x with q | q;·exact q
    ·rw [<-strLt_false] at q;rw [q] at t;cases t
   refine aP.mpr ⟨λz a=>?_,gW x l d.2⟩;rcases ac.mp ((gU x l).mem_iff.mp a) with rfl | a;·exact c
   ·exact d.1 z a
  ·rename_i t;have b:leS x y:=strLt_false.mp (by cases e:vL y x with | true=>exact absurd e t | false=>rfl);refine aP.mpr ⟨λz a=>?_,h⟩;rcases ac.mp a with rfl | a;·exact b
   ·exact xz b (d.1 z a)
theorem qX:∀ l,(jW l).Pairwise leS
 | []=>dD
 | x::l=>gW x _ (qX l)
theorem uH:∀ {l m:List Str},l.Perm m->l.Pairwise leS->m.Pairwise leS->l=m
 | [],m,p,_,_=>p.nil_eq
 | x::l,[],p,_,_=>absurd p.length_eq (by simp)
 | x::l,y::m,p,hl,hm=>by
  have a:=aP.mp hl;have b:=aP.mp hm;have c:x=y:=by
   have h1:y∈x::l:=p.mem_iff.mpr (ai ..);have h2:x∈y::m:=p.mem_iff.mp (ai ..);rcases ac.mp h1 with e | e;·exact e.symm
   ·rcases ac.mp h2 with d | d;·exact d
    ·exact xA (a.1 y e) (b.1 x d)
  subst c;rw [uH p.cons_inv a.2 b.2]
theorem Jj:∀ (x:Str) (l:List Str),risingS x l=iA->(x::l).Pairwise leS
 | x,[],_=>d8 _ _
 | x,y::l,h=>by
  have h:(!ltCps y.cps.toList x.cps.toList&&risingS y l)=true:=h;rw [aN] at h;have j:=Jj y l h.2;have b:leS x y:=by have h1:=h.1;rw [ltCps_eq] at h1;unfold leS;simpa using h1
  refine aP.mpr ⟨λz a=>?_,j⟩;rcases ac.mp a with rfl | a;·exact b
  ·exact xz b ((aP.mp j).1 z a)
theorem Ud:∀ (l:List Str),sortedS l=iA->l.Pairwise leS
 | [],_=>dD
 | x::l,h=>Jj x l h
variable {ss:List Str}
theorem VU (p:ss.Perm ks) (h:sortedS ss=iA):ss=jW ks:=uH (p.trans (qN ks).symm) (Ud ss h) (qX ks)
noncomputable def zT:List D->Option (List Str)
 | []=>ip []
 | .str x::l=>(zT l).map (x::·)
 | _::_=>iq
noncomputable def yE:D->Option (List Str)
 | .lst ds=>zT ds
 | .tup ds=>zT ds
 | _=>iq
noncomputable def qfF [DecidableEq κ] (T:KP κ) (P:iE) (w:iF) (p:Addr) (ks:List κ):HO:=.ext λh=>SetK T P w h p ks
theorem qeH [DecidableEq κ] {T:KP κ} {ks:List κ} (x:SetK T P w h p ks):ObjOk P w H h p (qfF T P w p ks):=
 ⟨x,let ⟨_,_,_,e,_⟩:=x; ⟨_,e⟩,λ_ _ a k=>a.at k⟩
structure KD {κ:Type} [DecidableEq κ] (T:KP κ) where
 sqd:D->Option (List κ)
 ok:κ->Prop
 get:∀ {K:Frag} {F:Hp} {dx:D} {ss:List κ},sqd dx=ip ss->∃ ds,Za dx=.ok ds/\∀ {vs:List V} {us:List iu},IsL K F vs ds->Vals vs us->us.length=ss.length/\(∀ (i:Nat) (v:iu),us[i]?=ip v->∃ x,ss[i]?=ip x/\∀ p w,(T.kd p w).is x v=iA)/\∀ x∈ss,ok x
theorem Ue:∀ {vs:List V} {us:List iu} {ds:List D} {ss:List Str},IsL K F vs ds->Vals vs us->zT ds=ip ss->li us ss/\∀ x∈ss,x.length<=sizeLine
 | [],[],[],ss,_,_,e=>by cases e; exact ⟨.nil,λx h=>by cases h⟩
 | v::vs,u::us,d::ds,ss,.cons i il,.cons r rl,e=>by
  cases d with
  | str x=>
   cases q:zT ds with
   | none=>have e:(zT ds).map (x::·)=ip ss:=e;rw [q] at e;cases e
   | some sl=>
    have e:(zT ds).map (x::·)=ip ss:=e;rw [q] at e;cases e;cases i with
    | str z=>
     obtain ⟨t,rfl⟩:=r;have j:=Ue il rl q;refine ⟨.cons x t j.1,λy a=>?_⟩;rcases ac.mp a with rfl | a;·exact z
     ·exact j.2 y a
  | _=>cases e
variable {f fa:Sl->Out (D×Sl)}
section
variable {own:List Nat} {e:Expr} {ma:Mo} {pos:Pos}
theorem VV:∀ (l ks:List Str) {x:Str},x∈l.foldl xx ks->x∈ks\/x∈l
 | [],ks,x,h=>.inl h
 | y::l,ks,x,h=>by
  rcases VV l (xx ks y) h with q | q
  ·unfold xx at q;split at q;·exact .inl q
   ·rcases aj.mp q with q | q;·exact .inl q
    ·exact .inr (by rw [ao.mp q]; exact ai ..)
  ·exact .inr (aa _ q)
theorem YS (e:zT ds=ip ss) (l:IsL K F vs ds) (d:Vals vs us):us.length=ss.length/\(∀ (i:Nat) (v:iu),us[i]?=ip v->∃ x,ss[i]?=ip x/\∀ p w,(KpS.kd p w).is x v=iA)/\∀ x∈ss,x.length<=sizeLine:=by obtain ⟨st,D⟩:=Ue l d e;refine ⟨st.length,λi v h=>?_,D⟩;obtain ⟨y,t,e1,a⟩:=st.item i v h;refine ⟨y,a,λp w=>?_⟩;rw [e1];show fJ y (.str y t)=iA;simp [fJ]
noncomputable def KdS:KD KpS where
 sqd:=yE
 ok:=λy=>y.length<=sizeLine
 get:=λ{K F dx ss} e=>by
  cases dx with
  | lst ds=>exact ⟨ds,rfl,YS e⟩
  | tup ds=>exact ⟨ds,rfl,YS e⟩
  | _=>cases e
theorem qds [DecidableEq κ] {T:KP κ} (U:KD T) (t:C.K=X.K) (j:X.calm=iA):uz X (.type "set") (λxs H Q=>∃ x F dx ss,xs=[x]/\Same F H/\TopIs C.K F H x dx/\U.sqd dx=ip ss/\ss.length < 4000/\((∀ y∈ss,U.ok y)->∀ p,H p=iq->Q (.ref p) (upd H p (qfF T X.prog X.w p (ss.foldl xQ []))))):=by
 intro pins s σ H xs us Q I r h;obtain ⟨x,F,dx,ss,rfl,A,tx,es,hl,q⟩:=h;obtain ⟨u,rfl,B⟩:=yL r;obtain ⟨ds,e,hg⟩:=U.get (K:=C.K) (F:=F) es;obtain ⟨a,sk,vs,rfl,hq,l⟩:=qdp A tx e;cases B;rw [t] at hq;obtain ⟨its,o,n,f,m,c,g,hd,z⟩:=qdq I hq;obtain ⟨d,hi,D⟩:=hg l f;refine GT (T:=T) (λA1 L E hA k=>?_) λh' tk S kp=>⟨.ref s.heap.objs.size,_,I.laid (t':=tk) kp (aD _) (qeH S),rfl,q D _ (I.hok.fresh (aD _))⟩
 exact qjV (sk:=sk) (items:=its.toArray) (hA.trans (I.ok.hd j)) (GS (aq _ rfl)) (.of (ae _ m) hd c) (by simp [d]) (λi v e=>(hi i v (by simpa using e)).imp λx h=>⟨h.1,h.2 _ _⟩) (by rw [ax,d]; unfold scanBound; omega) (aH (aA m)) λh' tk S kp=>k h' tk S λb o J=>kp b o (aH (aA J)) (ae _ J)
theorem gX:∀ {us:List iu} {ss:List Str},li us ss->Vals (ss.map V.str) us
 | _,_,.nil=>.nil
 | _,_,.cons y t h=>.cons ⟨t,rfl⟩ (gX h)
theorem qab (c:X.calm=iA):uz X (.builtin "sorted") (λxs H Q=>∃ a ks,xs=[.ref a]/\H a=ip (qfF KpS X.prog X.w a ks)/\ks.length < 64/\∀ p,H p=iq->Q (.ref p) (upd H p (.lst ((jW ks).map V.str)))):=by
 intro pins s σ H xs us Q I r h;obtain ⟨a,ks,rfl,g,j,q⟩:=h;obtain ⟨u,rfl,B⟩:=yL r;cases B;have T:SetK KpS X.prog X.w s.heap a ks:=(I.hok a _ g).1;refine Zl (I.ok.hd c) T j λh1 h' b tk vs e ss k1 k2 hp st pm so=>?_;rw [VU pm so] at st;have d:Inv X pins σ H { s with heap:=h1,drawn:=b,toks:=tk }:=qjW I k1;have z:(jW ks).length<=sizeLine:=by rw [(qN ks).length_eq,iI];omega
 refine ⟨.ref h1.objs.size,_,d.laid (t':=tk) (o:=.lst ((jW ks).map V.str)) k2 (aD _) ⟨by rw [ay]; exact z,vs.toList,e,gX st,by simpa [seqObj] using hp⟩,rfl,q _ (d.hok.fresh (aD _))⟩
theorem qeI [DecidableEq κ] {T:KP κ}:uz X (.builtin "len") (λxs H Q=>∃ a ks,xs=[.ref a]/\H a=ip (qfF T X.prog X.w a ks)/\Q (.int ks.length) H):=by intro pins s σ H xs us Q I r h;obtain ⟨a,ks,rfl,g,q⟩:=h;obtain ⟨u,rfl,B⟩:=yL r;cases B;obtain ⟨es,ep,t,m,d⟩:SetK T X.prog X.w s.heap a ks:=(I.hok a _ g).1;have b:=d.bd;refine call_len_set m ⟨rfl,rfl,rfl⟩ rfl d.fits (by unfold scanBound at b; omega) ?_;exact ⟨.int ks.length,H,I.tok _,⟨_,by rw [d.size]⟩,q⟩
theorem Uf {m:Mo} {Q R:VK} (h:tE C own m f σ H Q) (i:∀ v H1,Q v H1->R v H1):tE C own m f σ H R:=by
 obtain ⟨F,ρ,r,po⟩:=h;refine ⟨F,ρ,r,?_⟩;cases q:f ρ with
 | ok p=>rw [q] at po;obtain ⟨d,ρ1⟩:=p;exact λv F1 H1 a b c=>i _ _ (po v F1 H1 a b c)
 | exc c ρ1=>rw [q] at po;exact po
 | bad=>rw [q] at po;exact po.elim
noncomputable def vR (d:D):Out D:=match yE d with
 | some ss=>if ss.length < 64 then .ok (.lst ((jW (ss.foldl xx [])).map D.str)) else .bad
 | none=>.bad
noncomputable def gY (d:D):Out D:=match yE d with
 | some ss=>if ss.length < 4000 then .ok (.int (ss.foldl xx []).length) else .bad
 | none=>.bad
theorem JQ:∀ {ss:List Str},(∀ x∈ss,x.length<=sizeLine)->IsL K F (ss.map V.str) (ss.map D.str)
 | [],_=>.nil
 | x::l,h=>.cons (.str (h x (ai ..))) (JQ λy a=>h y (aa _ a))
theorem xY {p p2 a:Pos} (r:C.K=X.K) (k:X.calm=iA) (hg:Gl X "sorted") (n:X.mg "sorted"=iq) (v:bootBuiltins "sorted"=ip (.builtin "sorted")) (i:Gl X "set") (g:X.mg "set"=iq) (d:bootBuiltins "set"=ip (.type "set")) (o:PE X e (tE C own ma fa))
  (j:starEach [e] X.env=[(iw,eval e X.env)]:=by exact qS rfl) (c:starEach [.Call (.Name "set" p2) [e] [] a] X.env=[(iw,eval (.Call (.Name "set" p2) [e] [] a) X.env)]:=by exact qS rfl) :
  PE X (.Call (.Name "sorted" p) [.Call (.Name "set" p2) [e] [] a] [] pos) (tE C own .fr (d1 vR fa)):=by
 refine jN (wM (qab k) hg n v (qU (uA (qds KdS r k) i g d (qU o jH j) (by decide) (by decide) (by rw [j]; rfl) rfl) jH c) (by decide) (by decide) (by rw [c]; rfl) rfl) λσ H Q h=>?_;refine Uf (xU (ma:=ma) h) λx H1 ⟨B,F,dx,ex,A,tx,po⟩=>?_;cases ex;unfold vR at po;cases es:yE dx with
 | none=>rw [es] at po;exact po.elim
 | some ss=>
  rw [es] at po;by_cases hl:ss.length < 64
  ·have po:PoV C .fr F H1 (if ss.length < 64 then .ok (.lst ((jW (ss.foldl xx [])).map D.str)) else .bad) Q:=po;rw [if_pos hl,<-YQ] at po;refine ⟨x,F,dx,ss,rfl,A,tx,es,by omega,λm q hq=>⟨q,_,rfl,qu,?_,λl f=>?_⟩⟩;·have:=xy ss [];rw [bf] at this;omega
   ·obtain ⟨s1,s,f1⟩:=wl (u:=qfF KpS X.prog X.w q (ss.foldl xQ [])) A hq;obtain ⟨s2,c2,f2⟩:=wl (u:=.lst ((jW (ss.foldl xQ [])).map V.str)) s1 f;have t:H1 l=none:=by
     by_cases z:l=q;·rw [z] at f;rw [qu] at f;cases f
     ·rwa [qF z] at f
    refine po _ _ _ s2 (s.trans' c2) ⟨l,rfl,t,f2,_,qu,JQ λy b=>m y ?_⟩;rw [YQ] at b;rcases VV ss [] ((qN _).mem_iff.mp b) with z | z;·cases z
    ·exact z
  ·have po:PoV C .fr F H1 (if ss.length < 64 then .ok (.lst ((jW (ss.foldl xx [])).map D.str)) else .bad) Q:=po;rw [if_neg hl] at po;exact po.elim
noncomputable def qhR [DecidableEq κ] {T:KP κ} (U:KD T) (add:List κ->κ->List κ) (d:D):Out D:=match U.sqd d with
 | some ss=>if ss.length < 4000 then .ok (.int (ss.foldl add []).length) else .bad
 | none=>.bad
theorem Zm [DecidableEq κ] {T:KP κ} (U:KD T) {p p2 a:Pos} (n:C.K=X.K) (f:X.calm=iA) (hg:Gl X "len") (m:X.mg "len"=iq) (v:bootBuiltins "len"=ip (.builtin "len")) (i:Gl X "set") (g:X.mg "set"=iq) (d:bootBuiltins "set"=ip (.type "set")) (j:PE X e (tE C own ma fa))
  (b:starEach [e] X.env=[(iw,eval e X.env)]:=by exact qS rfl) (c:starEach [.Call (.Name "set" p2) [e] [] a] X.env=[(iw,eval (.Call (.Name "set" p2) [e] [] a) X.env)]:=by exact qS rfl) :
  PE X (.Call (.Name "len" p) [.Call (.Name "set" p2) [e] [] a] [] pos) (tE C own .sh (d1 (qhR U xQ) fa)):=by
 refine jN (wM (qeI (T:=T)) hg m v (qU (uA (qds U n f) i g d (qU j jH b) (by decide) (by decide) (by rw [b]; rfl) rfl) jH c) (by decide) (by decide) (by rw [c]; rfl) rfl) λσ H Q h=>?_;refine Uf (xU (ma:=ma) h) λx H1 ⟨l,F,dx,ex,A,tx,po⟩=>?_;cases ex;unfold qhR at po;cases es:U.sqd dx with
 | none=>rw [es] at po;exact po.elim
 | some ss=>
  rw [es] at po;have po:PoV C .sh F H1 (if ss.length < 4000 then .ok (.int (ss.foldl xQ []).length) else .bad) Q:=po;by_cases hl:ss.length < 4000;·rw [if_pos hl] at po;refine ⟨x,F,dx,ss,rfl,A,tx,es,hl,λD q hq=>⟨q,_,rfl,qu,?_⟩⟩;obtain ⟨s1,k,f1⟩:=wl (u:=qfF T X.prog X.w q (ss.foldl xQ [])) A hq;exact po _ _ _ s1 k (.int _)
  ·rw [if_neg hl] at po;exact po.elim
theorem qac {p p2 a:Pos} (n:C.K=X.K) (f:X.calm=iA) (hg:Gl X "len") (m:X.mg "len"=iq) (v:bootBuiltins "len"=ip (.builtin "len")) (i:Gl X "set") (g:X.mg "set"=iq) (h:bootBuiltins "set"=ip (.type "set")) (j:PE X e (tE C own ma fa))
  (b:starEach [e] X.env=[(iw,eval e X.env)]:=by exact qS rfl) (c:starEach [.Call (.Name "set" p2) [e] [] a] X.env=[(iw,eval (.Call (.Name "set" p2) [e] [] a) X.env)]:=by exact qS rfl) :
  PE X (.Call (.Name "len" p) [.Call (.Name "set" p2) [e] [] a] [] pos) (tE C own .sh (d1 gY fa)):=by
 rw [show gY=qhR KdS xQ by rw [YQ];funext d;have q:KdS.sqd d=yE d:=rfl;unfold gY qhR;rw [q];cases yE d <;> rfl];exact Zm KdS n f hg m v i g h j b c
end
variable {β:Type}
@[simp] theorem kX {a:α} {k:α->Out β}:(Out.ok a).bind k=k a:=rfl
@[simp] theorem qjm {c:Str} {o:Sl} {k:α->Out β}:(Out.exc c o:Out α).bind k=.exc c o:=rfl
@[simp] theorem qjn {k:α->Out β}:(Out.bad:Out α).bind k=.bad:=rfl
@[simp] theorem qiD {a:α}:(Out.ok a).plain=.ok a:=rfl
@[simp] theorem qjo:(Out.bad:Out α).plain=.bad:=rfl
variable {c:Prop}
@[simp] theorem qjp [Decidable c] {a b:Out α} {k:α->Out β}:(if c then a else b).bind k=if c then a.bind k else b.bind k:=by split <;> rfl
@[simp] theorem qjq [Decidable c] {a b:Out α}:(if c then a else b).plain=if c then a.plain else b.plain:=by split <;> rfl
noncomputable def qcn (d:D) (A B:Out α):Out α:=match d with
 | .bl b=>if b=iA then A else B
 | _=>.bad
@[simp] theorem qhS {A B:Out α}:qcn (.bl b) A B=if b=iA then A else B:=rfl
noncomputable def qjr (p:D×Sl):Out (Bool×Sl):=match p.1 with
 | .bl b=>.ok (b,p.2)
 | _=>.bad
variable {ρ:Sl}
@[simp] theorem qiE:qjr (.bl b,ρ)=.ok (b,ρ):=rfl
noncomputable def qad (ms:List PM):Out (Fl×Sl)->Out (D×List D)
 | .ok (.nx,ρ)=>.ok (.non,qx ρ 0 ms)
 | .ok (.rt d,ρ)=>.ok (d,qx ρ 0 ms)
 | .ok _=>.bad
 | .exc c ρ=>.exc c ((qx ρ 0 ms).map ip)
 | .bad=>.bad
variable {ms:List PM}
theorem runD_ap {f:Sl->Out (Fl×Sl)}:ki N ms f ds=qad ms (f (qw N ds)):=by unfold ki qad;rfl
@[simp] theorem qjs:qad ms (.ok (.rt d,ρ))=.ok (d,qx ρ 0 ms):=rfl
@[simp] theorem qjt:qad ms (.ok (.nx,ρ))=.ok (.non,qx ρ 0 ms):=rfl
@[simp] theorem qiF {c:Str}:qad ms (.exc c ρ)=.exc c ((qx ρ 0 ms).map ip):=rfl
@[simp] theorem qiG [Decidable c] {a b:Out (Fl×Sl)}:qad ms (if c then a else b)=if c then qad ms a else qad ms b:=by split <;> rfl
noncomputable def Zn (as:List AK) (ρ:Sl):Out (D×List D)->Out (D×Sl)
 | .ok q=>.ok (q.1,jf as q.2 ρ)
 | .exc c o=>.exc c (jf as (o.map (·.getD .non)) ρ)
 | .bad=>.bad
variable {as:List AK}
@[simp] theorem qhT {q:D×List D}:Zn as ρ (.ok q)=.ok (q.1,jf as q.2 ρ):=rfl
@[simp] theorem qgN {c:Str} {o:Sl}:Zn as ρ (.exc c o)=.exc c (jf as (o.map (·.getD .non)) ρ):=rfl
@[simp] theorem qgO [Decidable c] {a b:Out (D×List D)}:Zn as ρ (if c then a else b)=if c then Zn as ρ a else Zn as ρ b:=by split <;> rfl
variable {ρ:Sl}
@[simp] theorem Ug:qe i ρ=match ρ[i]? with | some (ip d)=>.ok (d,ρ) | _=>.bad:=rfl
@[simp] theorem qjX:dC d ρ=.ok (d,ρ):=rfl
variable {gg:D->Sl->Out Sl}
section
variable {g g':D->D->Out D} {g1:D->Out D} {fb fc:Sl->Out (D×Sl)} {ft fu:Sl->Out (Bool×Sl)} {fr:Sl->Out (List D×Sl)} {fs ft1:Sl->Out (Fl×Sl)} {fi:Sl->Out (List D×Sl)} {G:List D->Out (D×List D)}
@[simp] theorem Zo:d1 g1 fa ρ=(fa ρ).bind λp=>(g1 p.1).plain.bind λd=>.ok (d,p.2):=rfl
@[simp] theorem qiH:d2 g fa fb ρ=(fa ρ).bind λp=>(fb p.2).bind λq=>(g p.1 q.1).plain.bind λd=>.ok (d,q.2):=rfl
@[simp] theorem qiI:xT f ρ=(f ρ).bind λp=>(wu p.1).bind λb=>.ok (b,p.2):=rfl
@[simp] theorem qhU:jb f ρ=(f ρ).bind qjr:=rfl
@[simp] theorem qiJ:QG ft ρ=(ft ρ).bind λp=>.ok (!p.1,p.2):=rfl
@[simp] theorem qhV:qiB f ρ=(jb f ρ).bind λp=>.ok (.bl (!p.1),p.2):=rfl
@[simp] theorem qiK:qdk ft fu ρ=(ft ρ).bind λp=>if p.1=iA then fu p.2 else .ok (iw,p.2):=rfl
@[simp] theorem qju:dOr ft fu ρ=(ft ρ).bind λp=>if p.1=iA then .ok (iA,p.2) else fu p.2:=rfl
@[simp] theorem qhW:Vt fa fb ρ=(fa ρ).bind λp=>qcn p.1 (fb p.2) (.ok (.bl iw,p.2)):=by
 unfold Vt;cases fa ρ with
 | ok p=>
  obtain ⟨d,r⟩:=p;cases d <;> try rfl
  rename_i b;cases b <;> rfl
 | exc c o=>rfl
 | bad=>rfl
@[simp] theorem qiL:qjg fa fb ρ=(fa ρ).bind λp=>qcn p.1 (.ok (.bl iA,p.2)) (fb p.2):=by
 unfold qjg;cases fa ρ with
 | ok p=>
  obtain ⟨d,r⟩:=p;cases d <;> try rfl
  rename_i b;cases b <;> rfl
 | exc c o=>rfl
 | bad=>rfl
@[simp] theorem qjv:dIf ft fa fb ρ=(ft ρ).bind λp=>if p.1=iA then fa p.2 else fb p.2:=rfl
@[simp] theorem qgP:xg g g' fa fb fc ρ=(fa ρ).bind λp=>(fb p.2).bind λq=>(g p.1 q.1).plain.bind λz=>qcn z ((fc q.2).bind λr=>(g' q.1 r.1).plain.bind λd=>.ok (d,r.2)) (.ok (.bl iw,q.2)):=by
 unfold xg;congr 1;funext p;congr 1;funext q;congr 1;funext z;cases z <;> try rfl
 rename_i b;cases b <;> rfl
@[simp] theorem qeJ:qE ρ=.ok ([],ρ):=rfl
@[simp] theorem qco:qd fa fr ρ=(fa ρ).bind λp=>(fr p.2).bind λq=>.ok (p.1::q.1,q.2):=rfl
@[simp] theorem qcp:kt fr ρ=(fr ρ).bind λq=>.ok (D.non::q.1,q.2):=rfl
@[simp] theorem qiM:vM fr ρ=(fr ρ).bind λp=>if p.1.length<=sizeLine then .ok (.tup p.1,p.2) else .bad:=rfl
@[simp] theorem qiN:yz fr ρ=(fr ρ).bind λp=>if p.1.length<=sizeLine then .ok (.lst p.1,p.2) else .bad:=rfl
@[simp] theorem qhX:jJ ρ=.ok (.nx,ρ):=rfl
@[simp] theorem Uh:qT fs ft1 ρ=(fs ρ).bind λp=>match p.1 with | .nx=>ft1 p.2 | _=>.ok p:=by
 show _=_;unfold qT;cases fs ρ with
 | ok p=>obtain ⟨l,r⟩:=p; cases l <;> rfl
 | exc c o=>rfl
 | bad=>rfl
@[simp] theorem qgQ:sIf ft fs ft1 ρ=(ft ρ).bind λp=>if p.1=iA then fs p.2 else ft1 p.2:=rfl
@[simp] theorem qcq:kD f ρ=(f ρ).bind λp=>.ok (.nx,p.2):=rfl
@[simp] theorem gZ:jM f ρ=(f ρ).bind λp=>.ok (.rt p.1,p.2):=rfl
@[simp] theorem Qa:jz i f ρ=(f ρ).bind λp=>if i < p.2.length then .ok (.nx,p.2.set i (ip p.1)) else .bad:=rfl
@[simp] theorem qcr:qv as G fr ρ=(fr ρ).bind λp=>match qC as p.1 p.2 with | some ds=>Zn as p.2 (G ds) | none=>.bad:=rfl
@[simp] theorem qiO:qjT f ρ=(f ρ).bind λp=>(Za p.1).bind λds=>.ok (ds,p.2):=rfl
@[simp] theorem qiP:jZ f ρ=(f ρ).bind λp=>(jC p.1).bind λds=>.ok (ds,p.2):=rfl
@[simp] theorem qjw:gNm i d ρ=if i < ρ.length then .ok (ρ.set i (ip d)) else .bad:=rfl
@[simp] theorem kL:QK fi gg fs ρ=(fi ρ).bind λp=>vC gg fs p.1 p.2:=rfl
@[simp] theorem qiQ:qix f gg ρ=(f ρ).bind λp=>match gg p.1 p.2 with | .ok ρ'=>.ok (.nx,ρ') | _=>.bad:=rfl
@[simp] theorem qeK {gg:List D->D->Out (List D)}:gN i gg f ρ=if yP ρ[i]?=iA then (f ρ).bind λp=>(match p.2[i]? with | some (ip (.lst xs))=>(match gg xs p.1 with | .ok ys=>.ok (.non,p.2.set i (ip (.lst ys))) | _=>.bad) | _=>.bad) else .bad:=rfl
@[simp] theorem qjx:ftT ρ=.ok (iA,ρ):=rfl
end
end L2.D2
namespace L2.D2
open PySem PySem.Spec PyProof.Rows
def qfA (i j:Int):Prop:=(0<=j/\j<=64)/\-4611686018427387904 < i/\i < 4611686018427387904
instance:∀ i j,Decidable (qfA i j):=λi j=>inferInstanceAs (Decidable (_/\_))
variable {X:Cx} {C:Ct}
section
theorem qdh:OpR X (binaryOp .Pow) (rI qfA λi j=>.int (i ^ j.toNat)):=opI λi j _ _ _ _ _ d q=>by obtain ⟨⟨a,h1⟩,h2,h⟩:=d;exact pow_int_small a (by omega) (by omega) q
noncomputable def qiR:D->D->Out D:=uu λi j=>if qfA i j then .ok (.int (i ^ j.toNat)) else .bad
theorem qgR:OpD X C .sh (binaryOp .Pow) qiR:=Yl qdh λ_ _ _=>.int _
end
noncomputable def qae (sep:Str):D->Out D
 | .lst ds=>match zT ds with
  | some ss=>if (ss.map (·.length)).sum+ss.length * sep.length<=16777216/\(fR sep ss).length<=sizeLine then .ok (.str (fR sep ss)) else .bad
  | none=>.bad
 | _=>.bad
variable {own:List Nat} {e:Expr} {m:Mo}
section
variable {fe:Sl->Out (D×Sl)} {apos cpos:Pos} {sep:Str}
theorem qeL:MtR X "str.join" (λx vs H Q=>∃ (sep:Str) (a:Addr) (xs:List V) (ss:List Str),x=.str sep/\vs=[.ref a]/\SqL X.K H a xs/\(∀ us,Vals xs us->li us ss)/\(ss.map (·.length)).sum+ss.length * sep.length<=16777216/\Q (.str (fR sep ss)) H):=by intro pins s σ H x vs v us Q I d c h;obtain ⟨sep,a,xs,ss,rfl,rfl,hq,f,z,q⟩:=h;obtain ⟨t,rfl⟩:=d;obtain ⟨u,rfl,B⟩:=c.one;cases B;obtain ⟨its,r,pl,_⟩:=I.list hq;obtain ⟨o,n,m,e,hd,b⟩:=pl;exact join_list ⟨o,m,e,n,b⟩ (by simpa using f its r) z λt' k=>⟨.str (fR sep ss),H,I.tok _,⟨_,rfl⟩,q⟩
theorem qeM {k c2} (u:C.K=X.K) (o:PE X e (tE C own m fe))
  (f:attributeBase (.Constant (.str sep) k c2) "join" X.env (eval (.Constant (.str sep) k c2) X.env)=eval (.Constant (.str sep) k c2) X.env:=by rfl)
  (w:((backTo cpos (starEach [e] X.env)).all (λx=>!x.1)&&(backToKw cpos (keywordEach [] X.env)).all (λx=>x.1.isSome)
   && decide ([e].length+([]:List iP).length+(if ([]:List iP).isEmpty then 0 else 1) < 30))=true:=by exact vP rfl)
  (b:(apos.endLine == cpos.line)=true:=by rfl) (s:starEach [e] X.env=[(iw,eval e X.env)]:=by exact qS rfl) :
  PE X (.Call (.Attribute (.Constant (.str sep) k c2) "join" apos) [e] [] cpos) (tE C own .sh (d1 (qae sep) fe)):=by
 refine jN (WK PySem.F.plainAttrs_str PySem.F.slot_str_join PySem.F.type_str_join qeL qde (qU o jH s) f w b s rfl) λσ H Q h=>?_;refine ⟨rfl,?_⟩;obtain ⟨F,ρ,n,h⟩:=WO (ma:=m) h;refine ⟨F,ρ,n,?_⟩;cases q:fe ρ with
 | ok p=>
  rw [q] at h;obtain ⟨d,ρ1⟩:=p;intro v F1 H1 g k j;obtain ⟨y,dx,A,tx,po⟩:=h v F1 H1 g k j;cases dx <;> try exact po.elim
  rename_i ds;unfold qae at po;cases i:zT ds with
  | none=>simp only [i] at po; exact po.elim
  | some ss=>
   simp only [i] at po;by_cases z:(ss.map (·.length)).sum+ss.length * sep.length<=16777216/\(fR sep ss).length<=sizeLine
   ·rw [if_pos z] at po;obtain ⟨a,vs,rfl,hq,t⟩:=tx.lst A;have l:SqL X.K H1 a vs:=by rw [<-u]; exact hq
    exact ⟨sep,a,vs,ss,rfl,rfl,l,λus r=>(Ue t r i).1,z.1,po _ y H1 A .refl (.str z.2)⟩
   ·rw [if_neg z] at po;exact po.elim
 | exc c=>rw [q] at h; exact h
 | bad=>rw [q] at h; exact h.elim
end
noncomputable def dM (k:D->Bool) (g:D->D->Out D) (fo fa:Sl->Out (D×Sl)):Sl->Out (D×Sl):=λρ=>(fo ρ).bind λp=>if k p.1 then (fa p.2).bind λq=>(g p.1 q.1).plain.bind λd=>.ok (d,q.2) else .bad
variable {a:Expr} {fa fb:Sl->Out (D×Sl)} {ma mb:Mo} {pos:Pos} {σ:St} {F H:Hp} {Q:VK} {g:D->D->Out D}
section
variable {b:Expr}
theorem Po.imp {r:Out (D×Sl)} {R:VK} (h:Po C own m σ F H r Q) (i:∀ v H',Q v H'->R v H'):Po C own m σ F H r R:=by
 cases r with
 | ok p=>exact λv F' H' a c mo=>i v H' (h v F' H' a c mo)
 | exc x=>exact h
 | bad=>exact h.elim
theorem qeN {k:D->Bool} (f:ma≠.any) (h:tE C own m (dM k g fa fb) σ H Q):tE C own ma fa σ H λx H1=>(∃ F dx,Same F H1/\TopIs C.K F H1 x dx/\k dx=iA)/\tE C own mb fb σ H1 λy H2=>∃ F dx j,Same F H2/\TopIs C.K F H2 x dx/\TopIs C.K F H2 y j/\PoV C m F H2 (g dx j) Q:=by
 obtain ⟨F,ρ,p,h⟩:=h;refine ⟨F,ρ,p,Po.bind h λv F1 H1 d ρ1 a n c h1=>?_⟩;cases i:k d with
 | false=>simp only [i] at h1; exact h1.elim
 | true=>simp only [i,if_true] at h1;exact ⟨⟨F1,d,a.sub,c.top,i⟩,F1,ρ1,a,Po.bind h1 λw l H2 e ρ2 r c2 b h2=>⟨l,d,e,r.sub,(c.grow f c2 λx z=>(p.OA_there z).1).top,b.top,PoV.of r h2⟩⟩
def MtD (X:Cx) (C:Ct) (m:Mo) (id:String) (g:D->D->Out D):Prop:=
 MtR X id (λx vs H Q=>∃ y F dx d,vs=[y]/\Same F H/\TopIs C.K F H x dx/\TopIs C.K F H y d/\PoV C m F H (g dx d) Q)
noncomputable def qfG:D->Bool
 | .lst _=>iA
 | _=>iw
theorem YT {name:Str} {id:String} {apos cpos:Pos} (slot:Slot "list" name id) (d:typeOf (.builtin id)=pure (.type "method_descriptor")) (i:MtD X C m id g) (n:C.K=X.K)
  (l:PE X a (tE C own ma fa)) (j:PE X b (tE C own mb fb)) (f:ma≠.any:=by decide)
  (c:attributeBase a name X.env (eval a X.env)=eval a X.env:=by rfl)
  (w:((backTo cpos (starEach [b] X.env)).all (λx=>!x.1)&&(backToKw cpos (keywordEach [] X.env)).all (λx=>x.1.isSome)
   && decide ([b].length+([]:List iP).length+(if ([]:List iP).isEmpty then 0 else 1) < 30))=true:=by exact vP rfl)
  (e:(apos.endLine == cpos.line)=true:=by rfl) (s:starEach [b] X.env=[(iw,eval b X.env)]:=by exact qS rfl) :
  PE X (.Call (.Attribute a name apos) [b] [] cpos) (tE C own m (dM qfG g fa fb)):=by
 refine jN (WK bX slot d i l (qU j jH s) c w e s rfl) λσ H Q h=>?_;obtain ⟨F,ρ,p,h⟩:=qeN (ma:=ma) (mb:=mb) f h;refine ⟨F,ρ,p,Po.imp h λx H1 h1=>?_⟩;obtain ⟨⟨F1,dx,A,tx,k⟩,h2⟩:=h1;refine ⟨?_,?_⟩
 ·cases dx <;> try (cases k; done)
  obtain ⟨a,vs,rfl,hq,t⟩:=tx.lst A;exact .inl ⟨rfl,vs,by rw [<-n]; exact hq⟩
 ·obtain ⟨o,ρ2,r,h2⟩:=h2;exact ⟨o,ρ2,r,Po.imp h2 λy H2 q=>⟨y,q.choose,q.choose_spec.choose,q.choose_spec.choose_spec.choose,rfl,q.choose_spec.choose_spec.choose_spec⟩⟩
end
theorem qaf {pins:List (Addr×Obj)} {s:iB} (I:Inv X pins σ H s) (A:Same F H) {n:Nat} {e:D}:∀ {vs:List V} {ds:List D} {us:List iu} {b:Bool},IsL X.K F vs ds->Vals vs us->gb n e ds=ip b ->us.map (ZJ X F n e)=ds.map λd=>eqN n d e == ip iA
 | _,_,_,b,.nil,.nil,h=>rfl
 | _,_,_,b,.cons i t,.cons r rs,h=>by obtain ⟨a,c,q,f,rfl⟩:=Vr h;rw [aE,aE,qaf I A t rs f,Gp I A i r q,q];cases a <;> rfl
noncomputable def uI:D->D->Out D
 | .lst ds,e=>match gb 7 e ds with
  | some _=>match (ds.map λd=>eqN 7 d e == ip iA).findIdx? id with
   | some j=>.ok (.int (j:Nat))
   | none=>.bad
  | none=>.bad
 | _,_=>.bad
section
theorem YU (R:C.K=X.K) (O:X.A.units+64 < cLine):MtD X C .sh "list.index" uI:=by
 intro pins s σ H x vs v us Q I E J h;obtain ⟨y,F,dx,q,rfl,i,tx,ty,po⟩:=h;rw [R] at tx ty;obtain ⟨u,rfl,L⟩:=J.one;unfold uI at po;cases dx <;> try exact po.elim
 rename_i ds;cases e:gb 7 q ds with
 | none=>simp only [e] at po; exact po.elim
 | some b=>
  simp only [e] at po;cases G:(ds.map λd=>eqN 7 d q == ip iA).findIdx? id with
  | none=>simp only [G] at po; exact po.elim
  | some j=>
   simp only [G] at po;obtain ⟨F',g',c,M⟩:=ty.is i;obtain ⟨a,xs,rfl,p,z⟩:=tx.lst i;cases E;obtain ⟨its,r,pl,S⟩:=I.list p;obtain ⟨h1,h2⟩:=Vs (A:=X.A) (y:=.non) (a:=a) (u:=.none) I O c M L (z.mono g') r e;have P:=qaf I c (z.mono g') r e;rw [<-P] at G;obtain ⟨⟨cls,dd,data,sl⟩,n,B,D,hd,t⟩:=pl;simp only at D hd t;subst D t;obtain ⟨o,l,k⟩:=bZ.mp G;have f:its.length<=sizeLine:=by have:=r.length; omega
   have g:j < its.length:=by simpa using o
   refine j6 cE ⟨_,B,rfl⟩ PySem.F.entry_list_index (PySem.F.args_list_index_2 _ _) (SeqAt.list_indexAt a _ n dd sl u (ZJ X F' 7 q) j (by simpa using g) (by rw [iI] at f; omega) (by simpa using l) λm T h1=>?_) ⟨B,λw N=>h2 w N,?_⟩;·have:=k m h1;simpa using this
   ·exact ⟨.int (j:Nat),H,I.tok _,⟨_,rfl⟩,po _ F H i .refl (.int _)⟩
end
def qgS (i j:Int):Prop:=(-(2 ^ 62)<=i/\i < 2 ^ 62)/\-(2 ^ 62)<=j/\j < 2 ^ 62
instance:∀ i j,Decidable (qgS i j):=λi j=>inferInstanceAs (Decidable (_/\_))
variable {lo:Int} {K:Frag}
section
variable {b tg:Expr}
theorem qag:∀ {xs:List V} {us:List iu},xs.length=us.length->(∀ (j:Nat) (x:V) (u:iu),xs[j]?=ip x->us[j]?=ip u->RelV x u)->Vals xs us
 | [],[],_,_=>.nil
 | x::xs,u::us,hl,h=>.cons (h 0 x u rfl rfl) (qag (Nat.succ.inj hl) λj y w a b=>h (j+1) y w (by simpa using a) (by simpa using b))
 | [],_::_,hl,_=>nomatch hl
 | _::_,[],hl,_=>nomatch hl
noncomputable def qhY (p:Addr) (lo hi:Int):HO:=.ext λh=>∃ t u v,IsRange h p lo hi 1 t u v
theorem qeO {P:iE} {w:iF} {h:Heap} {p:Addr} {hi:Int} {t u v:Tok} (x:IsRange h p lo hi 1 t u v):ObjOk P w H h p (qhY p lo hi):=
 ⟨⟨t,u,v,x⟩,⟨_,x⟩,λ_ _ ⟨t,u,v,x⟩ k=>⟨t,u,v,k _ x⟩⟩
theorem qah:uz X (.type "range") (λxs H Q=>∃ j:Int,xs=[.int j]/\∀ p,H p=iq->Q (.ref p) (upd H p (qhY p 0 j))):=by intro pins s σ H xs us Q I r h;obtain ⟨j,rfl,q⟩:=h;obtain ⟨u,rfl,B⟩:=yL r;obtain ⟨t,rfl⟩:=B;exact call_range_1 ⟨.ref s.heap.objs.size,_,I.laid (t':=s.toks+1+1) (λb o e=>ae _ e) (aD _) (qeO (IsRange.new ..)),rfl,q _ (I.hok.fresh (aD _))⟩
theorem qcs (d:X.calm=iA):uz X (.type "list") (λxs H Q=>∃ r lo hi,xs=[.ref r]/\H r=ip (qhY r lo hi)/\(qgS lo hi/\hi - lo<=1000000)/\∀ p,H p=iq->Q (.ref p) (upd H p (.lst ((aK (hi - lo).toNat).map λk=>V.int (lo+(k:Nat)))))):=by
 intro pins s σ H xs us Q I r h;obtain ⟨a,lo,hi,rfl,g,z,q⟩:=h;obtain ⟨u,rfl,B⟩:=yL r;cases B;obtain ⟨t,u,v,f⟩:=(I.hok a _ g).1;have l:Builtin.Range.rangeSize lo hi 1=(((hi - lo).toNat:Nat):Int):=by rw [rangeSize_one]; split <;> omega
 refine call_list_range (n:=(hi - lo).toNat) (I.ok.hd d) f (small_one z.1.1.1 z.1.1.2 z.1.2.1 z.1.2.2) l (by omega) λh' tk acc c k hp b=>?_;refine ⟨.ref s.heap.objs.size,_,I.laid (t':=tk) (o:=.lst ((aK (hi - lo).toNat).map λk=>V.int (lo+(k:Nat)))) k (aD _) ⟨by rw [ay,ck,iI]; omega,acc.toList,c,?_,by simpa using hp⟩,rfl,q _ (I.hok.fresh (aD _))⟩;refine qag (by rw [ay,ck,bN,b.1]) λj x w ex e=>?_;rw [aG] at ex;obtain ⟨k,i,rfl⟩:=bc.mp ex;obtain ⟨G,rfl⟩:=aB.mp i;obtain ⟨t,rfl⟩:=b.2 j w (by simpa using e);exact ⟨t,by simp⟩
noncomputable def xB:D->Out D
 | .int j=>if qgS 0 j/\j - 0<=1000000 then .ok (.lst (QJ 0 (j - 0).toNat)) else .bad
 | _=>.bad
theorem qai:∀ l:List Nat,IsL K F (l.map λk=>V.int (lo+(k:Nat))) (l.map λk=>D.int (lo+(k:Nat)))
 | []=>.nil
 | k::l=>.cons (.int _) (qai l)
theorem Zp {p p2 a:Pos} (o:X.calm=iA) (hg:Gl X "list") (n:X.mg "list"=iq) (v:bootBuiltins "list"=ip (.type "list")) (i:Gl X "range") (g:X.mg "range"=iq) (d:bootBuiltins "range"=ip (.type "range")) (r:PE X e (tE C own ma fa))
  (m:starEach [e] X.env=[(iw,eval e X.env)]:=by exact qS rfl) (c:starEach [.Call (.Name "range" p2) [e] [] a] X.env=[(iw,eval (.Call (.Name "range" p2) [e] [] a) X.env)]:=by exact qS rfl) :
  PE X (.Call (.Name "list" p) [.Call (.Name "range" p2) [e] [] a] [] pos) (tE C own .fr (d1 xB fa)):=by
 refine jN (uA (qcs o) hg n v (qU (uA qah i g d (qU r jH m) (by decide) (by decide) (by rw [m]; rfl) rfl) jH c) (by decide) (by decide) (by rw [c]; rfl) rfl) λσ H Q h=>?_;refine Uf (xU (ma:=ma) h) λx H1 ⟨w,F,dx,ex,A,tx,po⟩=>?_;cases ex;cases dx <;> try exact po.elim
 rename_i j;unfold xB at po;by_cases b:qgS 0 j/\j - 0<=1000000
 ·simp only [if_pos b] at po;obtain rfl:=tx.int;refine ⟨j,rfl,λq hq=>⟨q,0,j,rfl,qu,b,λl f=>?_⟩⟩;obtain ⟨s1,s,f1⟩:=wl (u:=qhY q 0 j) A hq;obtain ⟨s2,c2,f2⟩:=wl (u:=.lst ((aK (j - 0).toNat).map λk=>V.int (0+(k:Nat)))) s1 f;have t:H1 l=none:=by
   by_cases z:l=q;·rw [z] at f;rw [qu] at f;cases f
   ·rwa [qF z] at f
  exact po _ _ _ s2 (s.trans' c2) ⟨l,rfl,t,f2,_,qu,qai _⟩
 ·simp only [if_neg b] at po;exact po.elim
end
noncomputable def Ite (K:Frag) (a:Addr) (xs:List V):It:=
 ⟨λi H=>i < xs.length/\SqL K H a xs,λi H v H'=>∃ x p,xs[i]?=ip x/\H p=iq/\v=.ref p/\H'=upd H p (.tup [.int (i:Nat),x]),λi H=>xs.length<=i/\SqL K H a xs⟩
theorem qaj {P:iE} {w:iF} {K:Frag} {t:List Expr} {x1} {pos:Pos} (b a:Nat) (xs:List V) (h1:a < b):Turn P w K (.Tuple t x1 pos) (Ite K a xs) [b+1,b] (b+1) (λi h=>(∃ old,IsEnum h (b+1) b i old)/\h.IsListIter b a i) where
 mem:=by simp
 obj:=λi h st c d=>by
  obtain ⟨⟨old,f⟩,o,j,l,hd⟩:=st;simp only [ac,bv,or_false] at d;rcases d with rfl | rfl;·exact ⟨_,f,λv z=>by cases z⟩
  ·exact ⟨o,j,λv z=>by rw [hd] at z; cases z⟩
 keep:=λi h h' st k=>by obtain ⟨⟨old,f⟩,o,j,l,hd⟩:=st;exact ⟨⟨old,k _ (by simp) _ f⟩,o,k _ (by simp) _ j,l,hd⟩
 item:=by
  intro X B A C d i pins s σ H E I p st hg;subst B A C;obtain ⟨⟨old,f⟩,hit⟩:=st;obtain ⟨hl,q⟩:=hg;obtain ⟨its,r,pl,_⟩:=I.list q;have hi:i < its.length:=by rw [<-r.length]; exact hl
  have hx:its.toArray[i]?=ip its[i]:=by simp [hi]
  refine wpAny_pyNext_enum_item f hit pl.isList hx (Nat.succ_ne_self b) λh' M y J S kp=>?_;refine ⟨_,rfl,wpAny_letOwnedTupleGo_enum M λhq O g=>?_⟩;obtain ⟨x,ex,L⟩:=qaa r (aC hi);have hT:H s.heap.objs.size=none:=I.hok.fresh (aD _);have u:b+1 < s.heap.objs.size:=aA f;have T:∀ c∈[b+1,b],c≠s.heap.objs.size:=λc d=>by simp only [ac,bv,or_false] at d;have lt':b+1 < s.heap.objs.size:=u;generalize s.heap.objs.size=m at lt';intro z;omega
  have R:Inv X pins σ (upd H s.heap.objs.size (.tup [.int (i:Nat),x])) { s with heap:=s.heap.push { cls:=.type "tuple",data:=.seq #[.int i s.toks,its[i]] } }:=
   I.laid (t':=s.toks) (λ_ _ e=>ae _ e) (aD _) ⟨⟨by simp only [ap,bf]; rw [iI]; decide,_,aq _ rfl,rfl⟩,[.int i s.toks,its[i]],.cons ⟨_,rfl⟩ (.cons L .nil),⟨_,aq _ rfl,rfl,_,rfl⟩⟩
  have Q:Inv X pins σ (upd H s.heap.objs.size (.tup [.int (i:Nat),x])) { s with heap:=hq,toks:=s.toks+1 }:=by
   refine GZ (s:={ s with heap:=s.heap.push { cls:=.type "tuple",data:=.seq #[.int i s.toks,its[i]] } }) (ch:=[b+1,b]) R (λc o n e=>?_) λc d=>⟨by rw [qF (T c d)]; exact (p c d).1,(p c d).2⟩
   simp only [ac,bv,or_false,not_or] at n;rw [g.2 c n.1];by_cases D:c=s.heap.objs.size;·subst D;have G:(s.heap.push ({ cls:=.type "tuple",data:=.seq #[.int i s.toks,its[i]] }:Obj)).get? s.heap.objs.size=ip { cls:=.type "tuple",data:=.seq #[.int i s.toks,its[i]] }:=aq _ rfl;rw [show (s.heap.push ({ cls:=.type "tuple",data:=.seq #[.int i s.toks,its[i]] }:Obj)).get? s.heap.objs.size=ip o from e] at G;rw [G];exact J
   ·have N:s.heap.get? c=ip o:=by have:=e;rwa [show (s.heap.push ({ cls:=.type "tuple",data:=.seq #[.int i s.toks,its[i]] }:Obj)).get? c=s.heap.get? c from Heap.get?_push_ne _ _ _ D] at this
    exact kp c o n.1 n.2 N
  refine ⟨.ref s.heap.objs.size,_,Q,rfl,⟨x,_,ex,hT,rfl,rfl⟩,⟨⟨_,by simpa using O⟩,?_⟩,λc d=>by rw [qF (T c d)]; exact (p c d).1⟩;obtain ⟨o,j,l,hd⟩:=y;exact ⟨o,(g.2 _ (Nat.succ_ne_self b).symm).trans j,l,hd⟩
 done:=by
  intro X B A C d i pins s σ H E I p st hg;subst B A C;obtain ⟨⟨old,f⟩,hit⟩:=st;obtain ⟨hl,q⟩:=hg;obtain ⟨its,r,pl,_⟩:=I.list q;refine wpAny_pyNext_enum_end (I.ok.hd d) f hit pl.isList (by simp; rw [<-r.length]; exact hl) λh' ex=>⟨rfl,GZ (t':=s.toks) (ch:=[b+1,b]) I (λc o n e=>?_) p⟩
  simp only [ac,bv,or_false,not_or] at n;exact ex c o n.2 e
 self:=λ_ _ _ _ _ st h=>wpAny_pyIter_enum st.1.choose_spec h
theorem qak:bootBuiltins "enumerate"=ip (.type "enumerate"):=by decide +kernel
noncomputable def JR (xs:List D):List D:=(xs.zipIdx).map λp=>.tup [.int (p.2:Nat),p.1]
noncomputable def Zq (f:Sl->Out (D×Sl)):Sl->Out (List D×Sl):=λρ=>(f ρ).bind λp=>match p.1 with
 | .lst xs=>.ok (JR xs,p.2)
 | _=>.bad
theorem qgT {a:Addr} {xs:List V} {ds:List D} (p:SqL K F a xs) (t:IsL K F xs ds):ItIs K F (Ite K a xs) (JR ds) where
 go:=λi H hi s=>by unfold JR at hi;rw [ay,List.length_zipIdx] at hi;exact ⟨by rw [t.length]; exact hi,s.seq p⟩
 yld:=λi Fi H v H' d e s1 s2 y=>by
  obtain ⟨x,q,hx,n,rfl,rfl⟩:=y;obtain ⟨d1,e1,i1⟩:=t.get hx;have o:d=.tup [.int (i:Nat),d1]:=by unfold JR at e;rw [aG,List.getElem?_zipIdx,e1] at e;simpa using e.symm
  subst o;obtain ⟨g1,Y⟩:=uD (u:=.tup [.int (i:Nat),x]) s2 n;exact ⟨_,Y,g1,.tup (.of qu) (.cons (.int _) (.cons ((i1.mono s1).mono Y.grow) .nil))⟩
 stop:=λi H hi s=>by unfold JR at hi;rw [ay,List.length_zipIdx] at hi;exact ⟨by rw [t.length]; exact hi,s.seq p⟩
section
theorem qeP {ta:TA} {p tpos:Pos} {t:List Expr} {x1} (hg:Gl X "enumerate") (m:X.mg "enumerate"=iq) (l:PA X [a] ta) (k:starEach [a] X.env=[(iw,eval a X.env)]):PI X (.Tuple t x1 tpos) (.Call (.Name "enumerate" p) [a] [] pos) (λσ H R=>ta σ H λvs H1=>∃ c xs,vs=[.ref c]/\SqL X.K H1 c xs/\R (Ite X.K c xs) H1):=by
 refine ⟨?_⟩;intro pins s σ H R I h;refine Call_ (zv I hg m qak (bC (thn (l pos pins s σ H _ I h) λus s1 ⟨vs,H1,d,r1,j⟩=>?_) k rfl));obtain ⟨c,xs,rfl,w,q⟩:=j;obtain ⟨u,rfl,e1⟩:=yL r1;cases e1;obtain ⟨its,v,pl,_⟩:=d.list w;have f:c < s1.heap.objs.size:=let ⟨o,_,e,_⟩:=pl; aA e;refine call_enumerate_list pl.isList λh' i hit z kp=>?_;refine wpAny_pyIter_enum i ?_;refine ⟨s1.heap.objs.size+1,_,_,Ite X.K c xs,H1,rfl,d.kept (t':=s1.toks) kp,qaj s1.heap.objs.size c xs f,⟨⟨_,i⟩,hit⟩,λb g=>?_,q⟩;have S:s1.heap.objs.size<=b:=by
  simp only [ac,bv,or_false] at g;rcases g with rfl | rfl;·exact Nat.le_add_right _ _
  ·exact aD _
 exact d.fpOk S (d.hok.fresh S)
theorem YV {p tpos:Pos} {e:List Expr} {x1} (n:C.K=X.K) (hg:Gl X "enumerate") (m:X.mg "enumerate"=iq) (g:PE X a (tE C own ma fa)) (h1:ma≠.any:=by decide) (s:starEach [a] X.env=[(iw,eval a X.env)]:=by exact qS rfl):PI X (.Tuple e x1 tpos) (.Call (.Name "enumerate" p) [a] [] pos) (tIt C own (Zq fa)):=by
 refine qbX (qeP hg m (qU (yy g h1) jH s) s) λσ H R ⟨F,ρ,b,h⟩=>⟨F,ρ,b,PoI.bindV h λv F1 H1 d ρ1 r k c h1=>?_⟩
 have c:Is C.K F1 v d:=c;cases c with
 | lst p t=>exact ⟨_,_,rfl,by rw [<-n]; exact r.sub.seq p,by rw [<-n]; exact h1 _ F1 H1 r k (qgT p t)⟩
 | _=>exact h1.elim
end
mutual
def qgU:Nat->Expr->Option D
 | 0,_=>iq
 | n+1,e=>match e with
  | .Constant c _ _=>match c with
   | .none=>ip .non
   | .bool b=>ip (.bl b)
   | .int i=>ip (.int i)
   | .str x=>if x.length<=sizeLine then ip (.str x) else iq
   | _=>iq
  | .UnaryOp .USub (.Constant (.int i) _ _) _=>ip (.int (-i))
  | .List es _=>(qfH n es).bind λds=>if ds.length<=sizeLine then ip (.lst ds) else iq
  | .Tuple es _ _=>(qfH n es).bind λds=>if ds.length<=sizeLine then ip (.tup ds) else iq
  | _=>iq
def qfH:Nat->List Expr->Option (List D)
 | _,[]=>ip []
 | 0,_::_=>iq
 | n+1,e::es=>(qgU n e).bind λd=>(qfH n es).bind λds=>ip (d::ds)
end
theorem YW {α:Type}:∀ l:List α,((l.map λ_=>AK.vl).all λa=>decide (a=.vl))=iA
 | []=>rfl
 | _::l=>by rw [aE,fL,YW l]; rfl
theorem qal {n:Nat} {e:Expr} {d:D} (h:qgU n e=ip d):Gk e=true:=by
 cases n with
 | zero=>cases h
 | succ n=>cases e <;> first | rfl | (simp [qgU] at h)
section
variable {X:Cx} {C:Ct} {own:List Nat}
mutual
theorem YX:∀ (n:Nat) {e:Expr} {d:D},qgU n e=ip d->PE X e (tE C own .sh (dC d))
 | 0,_,_,h=>by cases h
 | n+1,e,d,h=>by
  unfold qgU at h;split at h
  ·split at h;·cases h; exact Vq
   ·cases h; exact gJ
   ·cases h; exact qt
   ·split at h;·rename_i z;cases h;exact vg z
    ·cases h
   ·cases h
  ·cases h;exact jN (qbP Yy qt) λσ H Q h=>h
  ·obtain ⟨ds,h1,h2⟩:=cB.mp h;split at h2
   ·rename_i z;cases h2;have i:yz (λρ=>.ok (ds,ρ))=dC (.lst ds):=by funext ρ;unfold yz dC;rw [Out.oj,if_pos z]
    rw [<-i];exact yy (jO (JS n h1) (YW _)) (by decide)
   ·cases h2
  ·obtain ⟨ds,h1,h2⟩:=cB.mp h;split at h2
   ·rename_i z;cases h2;have i:vM (λρ=>.ok (ds,ρ))=dC (.tup ds):=by funext ρ;unfold vM dC;rw [Out.oj,if_pos z]
    rw [<-i];exact jX (JS n h1) (YW _)
   ·cases h2
  ·cases h
theorem JS:∀ (n:Nat) {es:List Expr} {ds:List D},qfH n es=ip ds->PA X es (tAr C own (es.map λ_=>.vl) λρ=>.ok (ds,ρ))
 | 0,[],ds,h=>by cases h;exact qg
 | _+1,[],ds,h=>by cases h;exact qg
 | 0,_::_,ds,h=>by cases h
 | n+1,e::es,ds,h=>by unfold qfH at h;obtain ⟨d,h1,h⟩:=cB.mp h;obtain ⟨c,h2,h⟩:=cB.mp h;cases h;have i:qd (dC d) (λρ=>.ok (c,ρ))=λρ=>.ok (d::c,ρ):=rfl;rw [<-i];exact qc (YX n h1) (JS n h2) (by decide) (kq (qal h1))
end
theorem qam {es:List Expr} {ds:List D} {pos:Pos} (n:Nat) (h:qfH n es=ip ds):PE X (.List es pos) (tE C own .fr (yz λρ=>.ok (ds,ρ))):=jO (JS n h) (YW _)
end
noncomputable def txI (i:Int):Str:=toString i
def CTx (i:Int):Prop:=i.natAbs.log2 < 1920/\(txI i).length<=sizeLine
instance:∀ i,Decidable (CTx i):=λi=>inferInstanceAs (Decidable (_/\_))
end L2.D2
namespace PySem
open Builtin Builtin.Str
end PySem
namespace L2.D2
open PySem PySem.Spec PyProof.Rows
def qjY (x y:Str):Prop:=(y.length == 0)=iw/\(Txt.split x y).length<=sizeLine/\∀ z∈Txt.split x y,z.length<=sizeLine
instance:∀ x y,Decidable (qjY x y):=λx y=>inferInstanceAs (Decidable (_/\_))
inductive IntsAre:List iu->List Int->Prop
 | nil:IntsAre [] []
 | cons (y:Int) (t:Tok) {vs:List iu} {ys:List Int} (h:IntsAre vs ys):IntsAre (g7 y t::vs) (y::ys)
theorem IntsAre.item:∀ {vs:List iu} {ys:List Int},IntsAre vs ys->∀ (i:Nat) (v:iu),vs[i]?=ip v->∃ y t,v=g7 y t/\ys[i]?=ip y
 | _,_,.nil,i,v,e=>by simp at e
 | _,_,.cons y t h,0,v,e=>by simp at e; subst e; exact ⟨y,t,rfl,rfl⟩
 | _,_,.cons y t h,i+1,v,e=>by obtain ⟨z,t',e1,a⟩:=h.item i v (by simpa using e);exact ⟨z,t',e1,by simpa using a⟩
variable {K:Frag} {F H:Hp}
section
theorem TopIs.ins {v:V} {c:Addr} {fs:List (Str×D)} (s:Same F H) (h:TopIs K F H v (.ins c fs)):∃ a dx fv,v=.ref a/\H a=ip (.ins c dx fv)/\IsF K F fv fs:=by
 rcases h with h | ⟨a,rfl,dx,fv,e,t⟩
 ·cases h with
  | ins e t=>exact ⟨_,_,_,rfl,s _ _ e,t⟩
 ·exact ⟨a,dx,fv,rfl,e,t⟩
end
variable {own:List Nat} {σ:St} {ρ:Sl} {i:Nat} {b:Addr}
section
variable {own1:List Nat}
theorem Rep.frz {o:HO} (r:Rep K own F H σ ρ) (h:H b=ip o) (E:F b=iq) (n:¬OA own σ b):Rep K own (upd F b o) H σ ρ:=by
 have gr:Same F (upd F b o):=λc w e=>by rw [qF (qM e E)]; exact e
 refine ⟨λc w e=>?_,r.len,λj d G e=>?_,λj d G e=>?_,r.opn,r.dis⟩
 ·by_cases q:c=b;·subst q; rw [qu] at e; cases e; exact h
  ·rw [qF q] at e; exact r.sub c w e
 ·obtain ⟨v,h1,h2⟩:=r.val j d G e;exact ⟨v,h1,h2.mono gr⟩
 ·obtain ⟨a,h1,h2,f⟩:=r.ow j d G e;exact ⟨a,h1,by rw [qF (λz=>n ⟨j,G,by rw [<-z]; exact h1⟩)]; exact h2,f.grow gr λ_ q=>q⟩
end
variable {X:Cx} {C:Ct} {pos:Pos} {x:Str}
section
theorem vr (i:Nat) (h:X.N[i]?=ip x:=by rfl) (c:Vis X.env.scope x:=by first | exact aw rfl | exact ci (aw rfl) | exact ci (ci rfl)) (m:i∉own:=by decide) (hd:(x == ("__debug__":Str))=false:=by decide) (d:(x == ("__classdict__":Str))=false:=by decide):PE X (.Name x pos) (tE C own .sh (qe i)):=qgj h c m hd d
end
section
theorem Rep.swap {F' H':Hp} {g:Nat} {o:D} (r:Rep K own F H σ ρ) (hg:g∈own) (J:σ[g]?=ip (ip (V.ref b))) (c:Chg (λz=>z=b) F H F' H') (A:Same F' H') (fb:F' b=iq) (ow:OwnIs K F' H' b o):Rep K own F' H' σ (ρ.set g (ip o))/\Chg (OA own σ) F H F' H':=by
 obtain ⟨l,h⟩:=r.opn g hg;have hl:g < ρ.length:=(aB.mp h).1;refine ⟨⟨A,by simp [r.len],λj d G e=>?_,λj d G e=>?_,λj G=>?_,r.dis⟩,c.mono λz k=>⟨g,hg,by rw [k]; exact J⟩⟩;·rw [au (λz=>G (by rw [<-z]; exact hg))] at e;obtain ⟨v,h1,h2⟩:=r.val j d G e;exact ⟨v,h1,h2.mono c.grow⟩
 ·by_cases q:j=g;·subst q;rw [aF hl] at e;cases e;exact ⟨b,J,fb,ow⟩
  ·rw [au (bh q)] at e;obtain ⟨a,h1,h2,f⟩:=r.ow j d G e;have na:a≠b:=λz=>by subst z; exact q (r.dis j g a G hg h1 J)
   refine ⟨a,h1,?_,f.grow c.grow λo q=>c.keep a o q na⟩;cases i:F' a with
   | none=>rfl
   | some u=>
    rcases c.new a (by rw [i]; simp) with z | z | z;·exact absurd h2 z
    ·exact absurd z f.there
    ·exact absurd z na
 ·by_cases q:j=g;·subst q; exact ⟨o,aF hl⟩
  ·rw [au (bh q)]; exact r.opn j G
end
noncomputable def YY (n:Nat) (fw fx:Sl->Out (D×Sl)):Sl->Out (Fl×Sl):=λρ=>(fw ρ).bind λp=>(fx p.2).bind λq=>match (q.2[n]?:Option (Option D)),q.1 with
 | some (ip (.lst ds)),.int k=>(match ixN ds.length k with | some j=>.ok (.nx,q.2.set n (ip (.lst (ds.set j p.1)))) | none=>.bad)
 | _,_=>.bad
theorem qjZ {cv:Str->iu} {ca:Str->Addr} {n:Str} (v:cv n=.ref (ca n)) (s:bG K (.ref (ca n)) (.ref (ca n))=ip iA):∀ c Cc,qbu ca [n] c=ip Cc->cv c=.ref Cc/\bG K (.ref Cc) (.ref (ca n))=ip true:=λc Cc h=>by
 unfold qbu at h;split at h
 ·rename_i z;cases h;have z:c=n:=by simpa using z
  subst z;exact ⟨v,s⟩
 ·cases h
variable {n:Nat} {m mx:Mo} {ix:Expr} {apos cpos:Pos}
section
variable {mo mw:Mo} {e o w:Expr} {fe fo fw fx:Sl->Out (D×Sl)} {p1 p2 p3:Pos}
theorem qan (I:X.N[n]?=ip x) (G:Vis X.env.scope x) (m:n∈own) (E:PE X w (tE C own mw fw)) (hx:PE X ix (tE C own mx fx)) (f:mw≠.any:=by decide)
  (hd:(x == ("__debug__":Str))=false:=by decide) (p:(x == ("__classdict__":Str))=false:=by decide)
  (g:∀ v,assign (.Subscript (.Name x p1) ix p2) X.env v=(do
   let ov <-holding [v] (eval (.Name x p1) X.env)
   let i <-holding [v,ov] (eval ix X.env)
   standAt p2
   holding [v,ov,i] (setItem ov i v)
   release [v,ov,i] []):=by intro _; rfl)
  (t:swapsWithSole [.Subscript (.Name x p1) ix p2] w p3.line X.env=pure false:=by rfl) (D:swappedStores [.Subscript (.Name x p1) ix p2] w X.env=pure none:=by rfl)
  (s:(assignEach [.Subscript (.Name x p1) ix p2] X.env).map (·.2)=[assign (.Subscript (.Name x p1) ix p2) X.env]:=by rfl) :
  PS X (.Assign [.Subscript (.Name x p1) ix p2] w p3) (tSt C own own (YY n fw fx)):=by
 refine QH (qdf (yy E f) (qfW (yC I G hd p) hx qbH g) t D s) λU σ H ⟨F,ρ,B,h⟩=>⟨F,ρ,B,PoS.bindE h λv F1 H1 d ρ1 b S c h1=>?_⟩
 have c:Is C.K F1 v d:=c;obtain ⟨M,o⟩:=b.opn n m;obtain ⟨a,e1,R,Q⟩:=b.ow n M m o;refine ⟨_,e1,F1,ρ1,b,PoS.bindE h1 λi P H2 L ρ2 r c2 e h2=>?_⟩;obtain ⟨d2,hd2⟩:=r.opn n m;obtain ⟨T,A,J,o2⟩:=r.ow n d2 m hd2;rw [e1] at A;cases A;simp only [hd2] at h2;cases d2 with
 | lst ds=>
  cases L with
  | int k=>
   have l:=e.top.int;subst l;obtain ⟨xs,ex,y⟩:=o2;cases q:ixN ds.length k with
   | none=>simp only [q] at h2; exact h2.elim
   | some j=>simp only [q] at h2;obtain ⟨r3,O⟩:=r.write (u:=.lst (xs.set j v)) (d:=.lst (ds.set j d)) m e1 ⟨_,qu,y.set (c.mono c2.grow) j⟩;exact ⟨a,xs,k,j,rfl,rfl,ex,by rw [y.length]; exact q,h2 σ P _ ⟨r3,O,λ_ z=>.inl z,λ_ _=>rfl⟩⟩
  | _=>exact h2.elim
 | _=>exact h2.elim
end
section
variable {mb:Mo} {b:Expr} {fb:Sl->Out (D×Sl)} {px:Pos}
noncomputable def d2O (i:Nat) (g:D->D->Out D) (fb:Sl->Out (D×Sl)):Sl->Out (D×Sl):=λρ=>(fb ρ).bind λq=>match (q.2[i]?:Option (Option D)) with
 | some (ip d)=>(g d q.1).plain.bind λr=>.ok (r,q.2)
 | _=>.bad
theorem qeQ {g:D->D->Out D} {Q:VK} (o:i∈own) (h:tE C own m (d2O i g fb) σ H Q):qh3 i σ H λx H1=>tE C own mb fb σ H1 λy H2=>∃ F dx j,Same F H2/\TopIs C.K F H2 x dx/\TopIs C.K F H2 y j/\PoV C m F H2 (g dx j) Q:=by obtain ⟨F,ρ,p,h⟩:=h;obtain ⟨A,e⟩:=p.opn i o;obtain ⟨a,e1,E,l⟩:=p.ow i A o e;refine ⟨_,e1,F,ρ,p,Po.bind h λv F1 H1 d ρ1 r n c h1=>?_⟩;obtain ⟨d1,b⟩:=r.opn i o;obtain ⟨q,f,k,o1⟩:=r.ow i d1 o b;rw [e1] at f;cases f;simp only [b] at h1;exact ⟨F1,d1,d,r.sub,.inr ⟨a,rfl,o1⟩,c.top,PoV.of r h1⟩
theorem qgV (o:C.K=X.K) (t:X.A.units+64 < cLine) (n:X.N[i]?=ip x) (g:Vis X.env.scope x) (m:i∈own) (l:PE X b (tE C own mb fb)) (j:WJ b)
  (hd:(x == ("__debug__":Str))=false:=by decide) (e:(x == ("__classdict__":Str))=false:=by decide):PE X (.Subscript (.Name x px) b pos) (tE C own .sh (d2O i ixD fb)):=by
 refine jN (qf9 (qdl (by omega)) (yC n g hd e) l j) λσ H Q h=>?_;obtain ⟨v,e1,F,ρ,f,h⟩:=qeQ (mb:=mb) m h;refine ⟨v,e1,F,ρ,f,?_⟩;cases d:fb ρ with
 | ok p=>rw [d] at h;obtain ⟨d',k⟩:=p;intro w u q r J a;obtain ⟨M,dx,y,s,tx,ty,po⟩:=h w u q r J a;exact qdm (σ:=σ) o s tx ty po
 | exc c=>rw [d] at h; exact h
 | bad=>rw [d] at h; exact h.elim
end
def FlyA (h:Heap) (ex T:Addr) (cls:iu):Prop:=∃ o vs a ts l,h.get? ex=ip o/\o.cls=cls/\o.data=.fields vs/\vs[1]?=ip (.ref T)/\T≠ex/\h.get? T=ip a/\a.data=.fields ts/\ts[3]?=ip l
theorem FlyA.tr {h base:Heap} {ex T:Addr} {cls:iu} (f:FlyA h ex T cls) (d:base.get? T=iq):∃ B l,h.TracedAtW base ex cls B l:=by obtain ⟨o,vs,a,ts,l,p,e,c,y,q,b,k,j⟩:=f;have z:0 < vs.size:=Nat.lt_of_succ_lt (Array.getElem?_eq_some_iff.mp y).1;exact ⟨vs[0],l,o,vs,T,a,ts,p,⟨e,by simp [z]⟩,c,y,d,q,b,k,j⟩
noncomputable def zU (n:Nat) (fw fx:Sl->Out (D×Sl)):Sl->Out (Fl×Sl):=λρ=>(fw ρ).bind λp=>(fx p.2).bind λq=>match (q.2[n]?:Option (Option D)) with
 | some (ip (.dct kvs))=>(match Jh q.1 with
  | some k=>if kvs.length < sizeLine then .ok (.nx,q.2.set n (ip (.dct (Ji kvs k p.1)))) else .bad
  | none=>.bad)
 | _=>.bad
section
variable {w:Expr} {fw fx:Sl->Out (D×Sl)} {mw:Mo} {p1 p2 p3:Pos}
theorem gk (P:X.A.units+64 < cLine) (D:X.N[n]?=ip x) (y:Vis X.env.scope x) (m:n∈own) (t:PE X w (tE C own mw fw)) (hx:PE X ix (tE C own mx fx)) (g:mw≠.any:=by decide)
  (hd:(x == ("__debug__":Str))=false:=by decide) (j:(x == ("__classdict__":Str))=false:=by decide) (B:swapsWith w (ip (.Subscript (.Name x p1) ix p2)) p3.line X.env=pure false:=by rfl) :
  PS X (.Assign [.Subscript (.Name x p1) ix p2] w p3) (tSt C own own (zU n fw fx)):=by
 refine QH (qeg (by omega) (yC D y hd j) hx (yy t g) B) λU σ H ⟨F,ρ,s,h⟩=>⟨F,ρ,s,PoS.bindE h λv F1 H1 d ρ1 b R c h1=>?_⟩
 have c:Is C.K F1 v d:=c;obtain ⟨E,i⟩:=b.opn n m;obtain ⟨a,e1,Q,M⟩:=b.ow n E m i;refine ⟨_,e1,F1,ρ1,b,PoS.bindE h1 λO I H2 L ρ2 r c2 e h2=>?_⟩;obtain ⟨d2,hd2⟩:=r.opn n m;obtain ⟨S,p,J,o2⟩:=r.ow n d2 m hd2;rw [e1] at p;cases p;simp only [hd2] at h2;cases d2 with
 | dct kvs=>
  cases q:Jh L with
  | none=>simp only [q] at h2; exact h2.elim
  | some k=>
   simp only [q] at h2;have l:=qhQ e.top q;subst l;obtain ⟨kv,ex,o⟩:=o2;by_cases f:kvs.length < sizeLine;·simp only [if_pos f] at h2;obtain ⟨r3,G⟩:=r.write (u:=.dK (QF kv k v)) (d:=.dct (Ji kvs k d)) m e1 ⟨_,qu,o.put (c.mono c2.grow)⟩;exact ⟨a,_,rfl,DPut.k ex (by rw [o.length]; exact f),h2 σ I _ ⟨r3,G,λ_ z=>.inl z,λ_ _=>rfl⟩⟩
   ·simp only [if_neg f] at h2; exact h2.elim
 | _=>exact h2.elim
end
noncomputable def qao (i:Nat):Sl->Out (D×Sl):=λρ=>match (ρ[i]?:Option (Option D)) with
 | some (ip (.lst (d::es)))=>.ok (d,ρ.set i (ip (.lst es)))
 | _=>.bad
section
variable {px:Pos}
theorem qeR:MtR X "list.pop" (λx vs H Q=>∃ l v xs,x=.ref l/\vs=[.int 0]/\H l=ip (.lst (v::xs))/\Q v (upd H l (.lst xs))):=by intro pins s σ H x vs v us Q I d r h;obtain ⟨l,y,xs,rfl,rfl,b,q⟩:=h;exact qbJ pins s σ H _ _ v us Q I d r ⟨l,_,0,0,y,rfl,rfl,b,by decide,by decide,by simp [seqIndex?],rfl,q⟩
theorem qeS {j:Nat} {p:Pos} (n:X.N[i]?=ip x) (g:Vis X.env.scope x) (m:i∈own) (hd:(x == ("__debug__":Str))=false:=by decide) (f:(x == ("__classdict__":Str))=false:=by decide)
  (b:attributeBase (.Name x px) "pop" X.env (eval (.Name x px) X.env)=eval (.Name x px) X.env:=by rfl) (e:(apos.endLine == cpos.line)=true:=by rfl)
  (w:((backTo cpos (starEach [.Constant (.int 0) j p] X.env)).all (λx=>!x.1)&&(backToKw cpos (keywordEach [] X.env)).all (λx=>x.1.isSome)
   && decide ([g9 (.int 0) j p].length+([]:List iP).length+(if ([]:List iP).isEmpty then 0 else 1) < 30))=true:=by exact vP rfl)
  (s:starEach [.Constant (.int 0) j p] X.env=[(iw,eval (.Constant (.int 0) j p) X.env)]:=by exact qS rfl) :
  PE X (.Call (.Attribute (.Name x px) "pop" apos) [.Constant (.int 0) j p] [] cpos) (tE C own .sh (qao i)):=by
 refine jN (WK bX PySem.F.slot_list_pop PySem.F.type_list_pop qeR (yC n g hd f) (qU qdd jH s) b w e s rfl) λσ H Q ⟨F,ρ,r,h⟩=>?_;obtain ⟨A,c⟩:=r.opn i m;obtain ⟨a,e1,E,k⟩:=r.ow i A m c;unfold qao at h;simp only [c] at h;cases A with
 | lst es=>
  cases es with
  | nil=>exact h.elim
  | cons d es=>
   obtain ⟨xs,ex,l⟩:=k;cases l with
   | cons v l=>refine ⟨_,e1,.inl ⟨rfl,_,.inl (.inl ex)⟩,?_⟩;obtain ⟨r2,J⟩:=r.write (u:=.lst _) (d:=.lst es) m e1 ⟨_,qu,l⟩;exact ⟨a,_,_,rfl,rfl,ex,h _ F _ r2 J v⟩
 | _=>exact h.elim
end
noncomputable def qhZ (kvs:List (Key×D)) (k:Key) (d:D):D:=match kvs.find? λkv=>decide (kv.1=k) with
 | some kv=>kv.2
 | none=>d
noncomputable def qct (fo fe ff:Sl->Out (D×Sl)):Sl->Out (D×Sl):=λρ=>(fo ρ).bind λp=>if (match p.1 with | .dct _=>iA | _=>iw)=iA then (fe p.2).bind λq=>(ff q.2).bind λr=>(match p.1 with
 | .dct kvs=>(match Jh q.1 with
  | some k=>.ok (qhZ kvs k r.1,r.2)
  | none=>.bad)
 | _=>.bad) else .bad
theorem IsK.miss {k:Key}:∀ {vs:List (Key×V)} {ds:List (Key×D)},IsK K F vs ds->(ds.find? λkv=>decide (kv.1=k))=iq->WD vs k=iq
 | _,_,.nil,e=>rfl
 | _,_,.cons (k:=k') (vs:=vs) h t,e=>by
  by_cases q:k'=k;·rw [bI (by simp [q])] at e;cases e
  ·rw [bA (by simp [q])] at e;rw [xc q];exact IsK.miss t e
section
variable {o e f:Expr} {fo fe ff:Sl->Out (D×Sl)} {me mf:Mo}
theorem qeT (Z:X.A.units+64 < cLine) (P:PE X o (tE C own .sh fo)) (T:PE X e (tE C own me fe)) (S:PE X f (tE C own mf ff)) (D:mf≠.any:=by decide) (R:me≠.any:=by decide)
  (i:attributeBase o "get" X.env (eval o X.env)=eval o X.env:=by rfl)
  (n:((backTo cpos (starEach [e,f] X.env)).all (λx=>!x.1)&&(backToKw cpos (keywordEach [] X.env)).all (λx=>x.1.isSome)
   && decide (([e,f]:List Expr).length+([]:List iP).length+(if ([]:List iP).isEmpty then 0 else 1) < 30))=true:=by exact vP rfl)
  (g:(apos.endLine == cpos.line)=true:=by rfl) (B:backTo cpos (starEach [e,f] X.env)=[(iw,eval e X.env),(iw,eval f X.env)]:=by rfl) :
  PE X (.Call (.Attribute o "get" apos) [e,f] [] cpos) (tE C own .sh (qct fo fe ff)):=by
 refine jN (qbN (by omega) P T (yy S D) ⟨i,n,g,B⟩) λσ H Q ⟨F,ρ,M,h⟩=>?_;refine ⟨F,ρ,M,Po.bind h λv F1 H1 d ρ1 r c1 b h1=>?_⟩;have b:Is C.K F1 v d:=b;cases d with
 | dct kvs=>
  simp only [if_true] at h1;cases b with
  | dct G N=>
   rename_i a kv;refine ⟨a,rfl,.inl ⟨kv,.inl (r.sub _ _ G)⟩,F1,ρ1,r,Po.bind h1 λy Y H2 W ρ2 s c2 t h2=>?_⟩;refine ⟨Y,ρ2,s,Po.bind h2 λz u I V L c J m j=>?_⟩;have m:Is C.K u z V:=m;cases q:Jh W with
   | none=>simp only [q] at j; exact j.elim
   | some k=>
    simp only [q] at j;have O:=qhQ t.top q;subst O;have E:u a=ip (.dK kv):=J.grow _ _ (c2.grow _ _ G);have l:IsK C.K u kv kvs:=(N.mono c2.grow).mono J.grow;refine ⟨WD kv k,.inl ⟨kv,k,.inl (c.sub _ _ E),rfl,rfl⟩,?_⟩;unfold qhZ at j;cases p:kvs.find? λkv=>decide (kv.1=k) with
    | none=>simp only [p] at j;rw [l.miss p];exact j z u I c .refl m
    | some kd=>simp only [p] at j;obtain ⟨w,e1,U⟩:=l.find p;rw [e1];exact j w u I c .refl U
 | _=>exact h1.elim
end
end L2.D2
namespace L2.D2
open PySem PySem.Spec PyProof.Rows PySem.W
section
variable {prog:iE} {w:iF} {A:iH} {E:iu->iB->Prop} {s:iB} {T:String} {r d:Addr} {n:Nat} {P:Nat->iu->Prop} {OK:Heap->Prop}
theorem qap {Q:List iu->iB->Prop} (K:KdlSrc prog w T r d n P OK) (f:A.handled=iq) (hok:OK s.heap) (c:n<=sizeLine)
  (g:∀ h' tk acc,(∀ b o,s.heap.get? b=ip o->h'.get? b=ip o)->lu P acc n->Q acc.toList { s with heap:=h',toks:=tk }):wpAny (model prog w) A (collect (.ref r)) Q E s:=by
 unfold collect;refine ir (wpAny_runValue (iK F.entry_proto_collect ?_));rw [bw F.plain_proto_collect _];show wpAny _ A.in1 (newList [] >>= λl=>again (.builtin "list.__iadd__" ⟨[l,.ref r],[]⟩)) _ _ s;refine ir (iG ?_);refine iC ⟨i4 F.plain_list_iadd _,iK F.entry_list_iadd ?_⟩;rw [bw F.plain_list_iadd _];have t:=K.there _ hok;have S:(s.heap.push { cls:=.type "list",data:=.seq ([]:List iu).toArray }).get? s.heap.objs.size=ip { cls:=.type "list",data:=.seq ([]:List iu).toArray }:=aq _ rfl;show wpAny _ A.in1 (bn (.ref s.heap.objs.size) (.ref r) (.ref s.heap.objs.size)) _ _ _;refine kdl_extend (R:=λr s'=>match r with
  | .ok (.ret v)=>wpAny (model prog w) A (match v with
   | .ref a=>do
    let o <-load a
    match o.data with
     | .seq xs _=>pure xs.toList
     | _=>unsupported "internal:collect"
   | _=>unsupported "internal:collect") Q E s'
  | .ok _=>False
  | .error e=>E e s') (s:={ s with heap:=s.heap.push { cls:=.type "list",data:=.seq ([]:List iu).toArray } }) K f (K.keep _ _ hok λb _ o e=>ae _ e) _ (cT t.1) (cT t.2) _ 0 S (λh' tk L U k B h=>?_) c
 show wpAny _ A (load s.heap.objs.size >>= _) _ _ _;refine ir (wpAny_load B ?_);exact iC (g h' tk L (λb o e=>k b o (aH (aA e)) (ae _ e)) h)
theorem qaq:∀ (ss:List Str) (us:List iu),us.length=ss.length->(∀ (j:Nat) (v:iu),us[j]?=ip v->∃ x t,ss[j]?=ip x/\v=g8 x t)->li us ss
 | [],[],_,_=>.nil
 | [],_::_,h,_=>by cases h
 | _::_,[],h,_=>by cases h
 | x::ss,u::us,h,k=>by obtain ⟨n,t,e1,i⟩:=k 0 u rfl;cases e1;rw [i];refine .cons _ t (qaq ss us (by simpa using h) λj v e=>?_);simpa using k (j+1) v (by simpa using e)
theorem qcu {ss:List Str} {Q:iu->iB->Prop} (K:KdlSrc prog w T r d n P OK) (l:A.handled=iq) (hok:OK s.heap) (h:∀ acc:Array iu,lu P acc n->li acc.toList ss) (j:ss.length < 64) (i:n<=sizeLine)
  (q:∀ (h1 h':Heap) tk vs e f,(∀ b o,s.heap.get? b=ip o->h1.get? b=ip o)->(∀ b o,h1.get? b=ip o->h'.get? b=ip o)->h'.get? h1.objs.size=ip (seqObj "list" vs e)->li vs.toList f->f.Perm ss->sortedS f=iA->Q (.ref h1.objs.size) { s with heap:=h',toks:=tk }) :
  wpAny (model prog w) A (call (.builtin "sorted") [.ref r]) Q E s:=by
 refine Calls.call_function_entry kind_sorted plain_sorted entry_sorted (args_sorted1 _) ?_; unfold Builtin.«sorted»;refine ir (m:=checkCount "sorted" 1 1 _) (iC ?_);refine ir (qap (A:=A.in1) K (show A.in1.handled=iq from l) hok i λh1 tk acc k1 hi=>?_);have c:=h acc hi;have hl:acc.toList.length < 64:=by rw [c.length]; exact j
 refine ir (wpAny_newList ?_ (by rw [iI]; omega));have Z:(h1.push (seqObj "list" acc.toList.toArray 0)).get? h1.objs.size=ip (seqObj "list" acc.toList.toArray 0):=aq _ rfl;refine ir (iJ (iM slot_list_sort (s:={ s with heap:=h1.push (seqObj "list" acc.toList.toArray 0),toks:=tk }) ⟨_,Z,rfl⟩ entry_list_sort (list_sort_treeK strKind_oneLt Z c.keysOf (λv₁ k rest e=>keyKind_strs (by rw [<-e]; exact c)) hl λg v u=>⟨_,rfl,?_⟩) (args_list_sort _)));obtain ⟨f,t,z,x⟩:=sorted_out_str c v u;obtain ⟨e,p⟩:=sortedHeap_at (out:=(arrOf g).map (·.2)) Z;refine iC ⟨_,rfl,q h1 _ tk _ e f k1 (λb o J=>?_) p t z x⟩;have a:=aA J;rw [sortedHeap_old (aH a) (by rw [cN]; exact fF a)];exact ae _ J
end
variable {α:Type}
noncomputable def Ui:List (Key×α)->Option (List Str)
 | []=>ip []
 | (.inr x,_)::l=>(Ui l).map (x::·)
 | (.inl _,_)::_=>iq
theorem YZ:∀ {l:List (Key×α)} {ss:List Str},Ui l=ip ss->l.map (·.1)=ss.map bp
 | [],ss,h=>by cases h; rfl
 | (.inr x,_)::l,ss,h=>by obtain ⟨f,e,rfl⟩:=bc.mp (show (Ui l).map (x::·)=ip ss from h);rw [aE,aE,YZ e]
 | (.inl _,_)::_,ss,h=>by cases h
theorem IsK.keys {K:Frag} {F:Hp}:∀ {kv:List (Key×V)} {ks:List (Key×D)},IsK K F kv ks->kv.map (·.1)=ks.map (·.1)
 | _,_,.nil=>rfl
 | _,_,.cons h t=>by rw [aE,aE,IsK.keys t]
theorem KV.keys:∀ {kv:List (Key×V)} {vs:List (Key×iu)},KV kv vs->kv.map (·.1)=vs.map (·.1)
 | _,_,.nil=>rfl
 | _,_,.cons h t=>by rw [aE,aE,h.1,KV.keys t]
noncomputable def kz:D->Out D
 | .dct kvs=>(match Ui kvs with
  | some ss=>if ss.length < 64/\(ss.all λy=>decide (y.length<=sizeLine))=iA then .ok (.lst ((jW ss).map D.str)) else .bad
  | none=>.bad)
 | _=>.bad
section
variable {X:Cx} {C:Ct} {own:List Nat} {e:Expr} {fa:Sl->Out (D×Sl)} {ma:Mo} {pos:Pos}
theorem Jk (D:X.calm=iA):QI X C .fr (.builtin "sorted") kz:=by
 intro pins s σ H xs us Q I r h;obtain ⟨x,F,dx,rfl,A,tx,po⟩:=h;obtain ⟨u,rfl,B⟩:=yL r;cases dx with
 | dct kvs=>
  obtain ⟨a,kv,rfl,G,p⟩:=tx.dct A;cases B;cases q:Ui kvs with
  | none=>simp only [kz,q] at po; exact po.elim
  | some ss=>
   simp only [kz,q] at po;by_cases hl:ss.length < 64/\(ss.all λy=>decide (y.length<=sizeLine))=iA
   ·rw [if_pos hl] at po;obtain ⟨f,b,vs,rel,dd⟩:=(show ObjOk X.prog X.w H s.heap a (.dK kv) from I.hok a _ G)
    obtain ⟨ep,L⟩:=dd.dictAt;have g:vs.map (·.1)=ss.map bp:=by rw [<-KV.keys rel,p.keys,YZ q]
    have n:vs.length=ss.length:=by have:=congrArg fB g; simpa using this
    refine qcu (kdl_dict (kvs:=vs) (ep:=ep) b) (I.ok.hd D) L (λacc hi=>qaq _ _ (by rw [bN,hi.1,n]) λj v e=>?_) hl.1 (by rw [n,iI]; omega) λh1 h' tk us e m k1 k2 hp st pm so=>?_
    ·obtain ⟨k,x,e1,K⟩:=hi.2 j v (by rw [<-bS]; exact e);have E:(vs.map (·.1))[j]?=ip k:=by rw [aG,e1]; rfl
     rw [g,aG] at E;obtain ⟨y,J,rfl⟩:=bc.mp E;rcases ju (show gF (bp y) v=iA from K) with ⟨i,t,d,_⟩ | ⟨z,t,d,rfl⟩
     ·cases d
     ·cases d;exact ⟨_,t,J,rfl⟩
    ·rw [VU pm so] at st;have l:Inv X pins σ H { s with heap:=h1,toks:=tk }:=I.kept (t':=tk) k1;have f:(jW ss).length<=sizeLine:=by rw [(qN _).length_eq,iI];omega
     have hq:H h1.objs.size=none:=l.hok.fresh (aD _);obtain ⟨s2,c2,f2⟩:=wl (u:=.lst ((jW ss).map V.str)) A hq;exact ⟨.ref h1.objs.size,_,l.laid (t':=tk) (o:=.lst ((jW ss).map V.str)) k2 (aD _) ⟨by rw [ay]; exact f,us.toList,e,gX st,by simpa [seqObj] using hp⟩,rfl,po _ _ _ s2 c2 ⟨_,rfl,hq,f2,_,qu,JQ λy c=>by have:=(qN _).mem_iff.mp c;exact of_decide_eq_true (aM.mp hl.2 y this)⟩⟩
   ·rw [if_neg hl] at po; exact po.elim
 | _=>exact po.elim
end
end L2.D2
namespace PySem.F
theorem nolen_lri:typeLookup (.type "list_reverseiterator") "__len__"=pure none:=by rw [j0,iR]; kernel_rfl
theorem hint_lri:typeLookup (.type "list_reverseiterator") "__length_hint__"=pure (ip (.builtin "list_reverseiterator.__length_hint__")):=by rw [j0,iR]; kernel_rfl
end PySem.F
namespace L2.D2
open PySem PySem.Spec PyProof.Rows PySem.W
section
variable {prog:iE} {w:iF} {A:iH} {E:iu->iB->Prop} {s:iB} {I l:Addr} {items:Array iu}
theorem Zr {R:lr->iB->Prop} (p:A.handled=iq) (d:l≠I) (hit:s.heap.IsRevIter I l ((items.size:Int) - 1)) (hl:s.heap.IsList l items) (S:Addr) (a:S≠I) (j:S≠l) (res:iu) (c:Nat) (T:s.heap.get? S=ip { cls:=.type "list",data:=.seq #[] c })
  (t:∀ h' tk L U,(∀ b o,b≠S->b≠I->s.heap.get? b=ip o->h'.get? b=ip o)->h'.get? S=ip { cls:=.type "list",dict:=iq,data:=.seq L U,slots:=#[] }->lu (λi v=>items[items.size - 1 - i]?=ip v) L items.size->R (.ok (.ret res)) { s with heap:=h',toks:=tk }) (n:items.size<=sizeLine) :
  wpAny (model prog w) A.in1 (bn (.ref S) (.ref I) res)
   (λfin s'=>match fin with | .done f=>R (.ok f) s' | .again U=>U.quiet=iA/\codeAny (model prog w) A U R s') (λe s'=>R (.error e) s') s:=by
 have W:=Walks.listRev (prog:=prog) (w:=w) (A:=A.in1) p I l d items;have k:S∉[I,l]:=by simp only [ac,bv,or_false,not_or]; exact ⟨a,j⟩
 have st:0<=items.size/\s.heap.IsRevIter I l ((items.size:Int) - 1 - ((0:Nat):Int))/\s.heap.IsList l items:=⟨bE _,by simpa using hit,hl⟩
 unfold bn;refine ir (i9 hit.typeIs ?_);have h1:cY (.ref S) (.ref I)=false:=by simp [cY,a]
 rw [if_neg (by rw [h1]; decide)];refine ir (W.self 0 _ _ _ st ?_);refine ir (iJ ?_);unfold Builtin.List.listLengthHint;refine ir (wpAny_specialOf hit.typeIs F.nolen_lri ?_);show wpAny _ A.in1 (specialOf (cq I) (be "__length_hint__") >>= _) _ _ _;refine ir (wpAny_specialOf hit.typeIs F.hint_lri ?_);generalize E:("list_reverseiterator.__length_hint__":String)=id0
 wp_delta
 rw [show splitId id0=ip ("list_reverseiterator", "__length_hint__") from by subst E; decide +kernel];subst E;refine ir (i7 (b:=iA) hit.typeIs (by rw [j4]; kernel_rfl) ?_);refine iC ?_;rw [if_neg (by decide)];refine iC ⟨i4 F.plain_extend_loop _,codeAny_extend_loopS W.toS n S k res items.size 0 _ #[] c rfl (bE _) st T (ItemsOf.nil _) λs' L U m B r=>?_⟩;rw [Moved.eq_with m];refine t s'.heap s'.toks L U (λb o q g e=>m.heap b o (λh=>?_) e) B r;rcases ac.mp h with u | h;·exact q u
 ·exact g (ao.mp h)
theorem qcv {Q:iu->iB->Prop} (p:A.handled=iq) (g:l≠I) (hit:s.heap.IsRevIter I l ((items.size:Int) - 1)) (hl:s.heap.IsList l items) (n:items.size<=sizeLine)
  (q:∀ h' tk L U,(∀ b o,b≠I->s.heap.get? b=ip o->h'.get? b=ip o)->h'.get? s.heap.objs.size=ip { cls:=.type "list",dict:=iq,data:=.seq L U,slots:=#[] }->lu (λi v=>items[items.size - 1 - i]?=ip v) L items.size->Q (.ref s.heap.objs.size) { s with heap:=h',toks:=tk }) :
  wpAny (model prog w) A (call (.type "list") [.ref I]) Q E s:=by
 refine callType_codes (Q₁:=λobj d=>obj=.ref s.heap.objs.size/\d={ s with heap:=s.heap.push { cls:=.type "list",data:=.seq #[] } }) PySem.F.called_list (PySem.F.typeCall_list_1 _) PySem.F.entry_list_init
  (code_list_new _ ⟨rfl,rfl⟩) λobj d h₁=>?_
 obtain ⟨rfl,rfl⟩:=h₁;have T:(s.heap.push { cls:=.type "list",data:=.seq #[] }).get? s.heap.objs.size=ip { cls:=.type "list",data:=.seq #[] }:=aq _ rfl;obtain ⟨t,f,_⟩:=id hit;obtain ⟨ol,c,_⟩:=id hl;have a:s.heap.objs.size≠I:=cT (aA f);have j:s.heap.objs.size≠l:=cT (aA c);refine ⟨⟨_,T,rfl⟩,PySem.F.args_list_init_2 _ _,?_⟩;show wpAny _ _ (do let old <-Builtin.List.listItems (.ref s.heap.objs.size); Builtin.List.listUpdate (.ref s.heap.objs.size) (λ_=>#[]); letGo old.toList.reverse; bn (.ref s.heap.objs.size) (.ref I) .none) _ _ _;refine ir ?_;unfold Builtin.List.listItems;refine ir (lc T rfl (iC ?_));show wpAny _ _ (updateSeq s.heap.objs.size (λ_=>#[]) >>= λ_=>letGo (#[]:Array iu).toList.reverse >>= λ_=>bn (.ref s.heap.objs.size) (.ref I) .none) _ _ _;refine ir (wpAny_updateSeq T rfl ?_);have h:=bo (cW (λ_=>(#[]:Array iu))) T rfl;have oth:∀ b o,b≠s.heap.objs.size->s.heap.get? b=ip o->((s.heap.push { cls:=.type "list",data:=.seq #[] }).update s.heap.objs.size (cW (λ_=>(#[]:Array iu)))).get? b=ip o:=
  λb o k e=>(cJ _ _ (bh k)).trans (ae _ e)
 refine ir (wpAny_letGo ?_);refine Zr (A:=A.in1) p g (hit.at λo e=>oth I o a.symm e) (hl.at λo e=>oth l o j.symm e) _ a j .none _ h (λh' tk L U m B r=>?_) n;exact ⟨rfl,q h' tk L U (λb o k e=>m b o (aH (aA e)) k (oth b o (aH (aA e)) e)) B r⟩
end
noncomputable def xC:D->Out D
 | .lst xs=>.ok (.lst xs.reverse)
 | _=>.bad
theorem qcw {vs:List V} {its:List iu} {acc:Array iu} (r:Vals vs its) (h:lu (λi v=>its.toArray[its.toArray.size - 1 - i]?=ip v) acc its.toArray.size):Vals vs.reverse acc.toList:=by
 have e:acc.toList=its.reverse:=by
  apply eU;intro j;have s:acc.size=its.length:=by simpa using h.1
  by_cases G:j < its.length;·have c:acc.toList[j]?=ip (acc.toList[j]'(by rw [bN]; omega)):=aC _;have h2:=h.2 j _ (by rw [<-bS]; exact c);rw [c,List.getElem?_reverse G,<-h2];simp
  ·rw [cz (by rw [bN]; omega),cz (by rw [fq]; omega)]
 rw [e];exact r.reverse
theorem Uj {K:Frag} {F:Hp}:∀ {vs:List V} {ds:List D},IsL K F vs ds->IsL K F vs.reverse ds.reverse
 | _,_,.nil=>.nil
 | _,_,.cons h t=>by rw [cC,cC];exact (Uj t).append (.cons h .nil)
section
variable {X:Cx} {C:Ct} {own:List Nat} {e:Expr} {fa:Sl->Out (D×Sl)} {ma:Mo} {pos:Pos}
theorem Zs {p p2 d:Pos} (U:C.K=X.K) (S:X.calm=iA) (hg:Gl X "list") (R:X.mg "list"=iq) (M:bootBuiltins "list"=ip (.type "list")) (y:Gl X "reversed") (w:X.mg "reversed"=iq) (q:bootBuiltins "reversed"=ip (.type "reversed")) (T:PE X e (tE C own ma fa))
  (G:starEach [e] X.env=[(iw,eval e X.env)]:=by exact qS rfl) (f:starEach [.Call (.Name "reversed" p2) [e] [] d] X.env=[(iw,eval (.Call (.Name "reversed" p2) [e] [] d) X.env)]:=by exact qS rfl) :
  PE X (.Call (.Name "list" p) [.Call (.Name "reversed" p2) [e] [] d] [] pos) (tE C own .fr (d1 xC fa)):=by
 refine ⟨?_⟩;intro pins s σ H Q I h;refine iV (zv I hg R M ?_ (by decide) (by decide));refine bC ?_ (by rw [f]; rfl) rfl;rw [f];show wpAny _ _ (spliced ((iw,eval (.Call (.Name "reversed" p2) [e] [] d) X.env)::[])) _ _ s;refine dY ?_;refine iV (zv I y w q ?_ (by decide) (by decide));refine bC (thn ((qU T jH G) d pins s σ H _ I (xU (ma:=ma) h)) λus s1 ⟨vs,H1,A,r1,L⟩=>?_) (by rw [G]; rfl) rfl;obtain ⟨x,F,dx,rfl,B,tx,po⟩:=L;obtain ⟨u,rfl,J⟩:=yL r1;cases dx with
 | lst ds=>
  obtain ⟨a,vs,rfl,hq,t⟩:=tx.lst B;rw [U] at hq;cases J;obtain ⟨its,D,k,E⟩:=A.list hq;have pl:s1.heap.IsList a its.toArray:=by obtain ⟨o,n,P,O,_,z⟩:=k;exact ⟨o,P,O,n,z⟩
  refine call_reversed_list pl ?_;refine fA ?_;have N:=aq (h:=s1.heap) (o:=revObj a ((its.toArray.size:Int) - 1)) ;have j:(s1.heap.push (revObj a ((its.toArray.size:Int) - 1))).IsList a its.toArray:=pl.at λo i=>ae _ i;obtain ⟨oa,r,_⟩:=id pl;have v:a≠s1.heap.objs.size:=aH (aA r);refine qcv (s:={ s1 with heap:=s1.heap.push (revObj a ((its.toArray.size:Int) - 1)) }) (I.ok.hd S) v ⟨_,aq _ rfl,rfl,rfl⟩ j (by rw [ax,<-D.length]; exact E) λh' tk acc c kp hp hi=>?_;have l:∀ b o,s1.heap.get? b=ip o->h'.get? b=ip o:=λb o i=>kp b o (aH (aA i)) (ae _ i);have hsz:(s1.heap.push (revObj a ((its.toArray.size:Int) - 1))).objs.size=s1.heap.objs.size+1:=cN ..;have m:H1 (s1.heap.objs.size+1)=none:=A.hok.fresh (fC _);obtain ⟨s2,c2,f2⟩:=wl (u:=.lst vs.reverse) B m;have hp:h'.get? (s1.heap.objs.size+1)=ip { cls:=.type "list",dict:=iq,data:=.seq acc c,slots:=#[] }:=by rw [<-hsz]; exact hp
  have g:EP X pins σ Q (.ref (s1.heap.objs.size+1)) { s1 with heap:=h',toks:=tk }:=
   ⟨.ref (s1.heap.objs.size+1),_,A.laid (t':=tk) (o:=.lst vs.reverse) l (fC _) ⟨by rw [fq]; exact E,acc.toList,c,qcw D hi,by simpa using hp⟩,rfl,po _ _ _ s2 c2 ⟨_,rfl,m,f2,_,qu,Uj t⟩⟩
  rw [<-hsz] at g;exact g
 | _=>exact po.elim
end
end L2.D2
namespace L2.D2
open PySem PySem.Spec PyProof.Rows
noncomputable def Xa:D->Out D
 | .lst ds=>match uF ds with
  | some ps=>.ok (.dct (ps.foldl (λl p=>Ji l p.1 p.2) []))
  | none=>.bad
 | _=>.bad
variable {s:iB}
section
variable {X:Cx} {C:Ct} {pins:List (Addr×Obj)} {σ:St} {F H:Hp}
theorem qcx (n:C.K=X.K) (d:X.calm=iA):QI X C .fr (.type "dict") Xa:=by
 intro pins s σ H xs us Q I r h;obtain ⟨x,F,dx,rfl,A,tx,po⟩:=h;cases dx <;> try exact po.elim
 exact YM n d pins s σ H _ us Q I r ⟨x,F,_,rfl,A,tx,po⟩
end
open PySem.SeqAt
open AutoSeq1 (wpAny_loadPart')
open MeetsSeq MeetsSeq2 MeetsSeq3
def RcLtAt (A:iH) (s:iB) (y x:iu) (b:Bool):Prop:=
 ∀ (prog:iE) (w:iF) (E:iu->iB->Prop) (Q:iu->iB->Prop),Q (.bool b) s->wpAny (model prog w) A (richCompare .Lt y x) Q E s
def LtL (A:iH) (s:iB) (k b:Bool):List (iu×iu)->Prop
 | []=>b=k
 | (y,x)::t=>(EqAt A.in1 s y x iA/\LtL A s k b t)\/(EqAt A.in1 s y x iw/\RcLtAt A.in1 s y x b)
theorem Zu (l b:Addr) (items i:Array iu) (n n2:Nat) (dd f:Option Addr) (sl e:Array (Option iu)) (c:Bool):Meets (Builtin.«tuple.__lt__» ⟨[.ref l,.ref b],[]⟩)
   (λA R s=>s.heap.get? l=ip { cls:=.type "tuple",dict:=dd,data:=.seq items n,slots:=sl }/\s.heap.get? b=ip { cls:=.type "tuple",dict:=f,data:=.seq i n2,slots:=e } /\
    LtL A s (decide (items.size < i.size)) c (items.toList.zip i.toList)/\R (.ok (.ret (.bool c))) s):=
 .of_wp λprog w A R s h=>by
  obtain ⟨hp,g,d,tk,os⟩:=s; obtain ⟨hl,k,j,h⟩:=h;have f2:=AutoSeq1.sub_tuple_tuple;wp_walk using wpAny_loadPart' hl,wpAny_loadPart' k,wpAny_forIn_list _ (λrest b s'=>b.1=iq/\s'=⟨hp,g,d,tk,os⟩/\LtL A ⟨hp,g,d,tk,os⟩ (decide (items.size < i.size)) c rest) _
  case turn=>
   rintro ⟨y,x⟩ rest b s' ⟨a,rfl,z⟩;rcases z with ⟨e1,z⟩ | ⟨e1,z⟩
   ·refine ir (e1 prog w _ _ ?_);wp_walk
    exact ⟨rfl,rfl,z⟩
   ·refine ir (e1 prog w _ _ ?_);refine ir (k7 (ir (z prog w _ _ ?_)));wp_walk
    exact ⟨_,rfl,h⟩
  case fin=>
   rintro ⟨o,m⟩ s' ⟨a,rfl,z⟩;simp only at a;subst a;have z:c=_:=z;subst z;wp_walk
   exact ⟨_,rfl,by simpa [Builtin.Tuple.tupleCompareSizes] using h⟩
  case h=>
   exact ⟨rfl,rfl,j⟩
theorem RcLtAt.tuples {A:iH} {l b:Addr} {items i:Array iu} {c:Bool} (hl:s.heap.IsTuple l items) (p:s.heap.IsTuple b i) (u:A.units < cLine)
  (o:LtL A s (decide (items.size < i.size)) c (items.toList.zip i.toList)):RcLtAt A s (.ref l) (.ref b) c:=λprog w E Q h=>by
 obtain ⟨⟨cls,dd,data,sl⟩,m,j,n,hd⟩:=id hl;obtain ⟨⟨k,f,g,e⟩,a,d,n2,hd2⟩:=id p;simp only at j hd d hd2;subst j hd d hd2;exact richCompare_meets_room (op:=.Lt) ⟨_,m,rfl⟩ ⟨_,a,rfl⟩ F.slot_tuple_lt F.entry_tuple_lt (F.args_tuple_lt_2 _ _) (Zu l b items i n n2 dd f sl e c)
  ⟨m,a,o,show ba c≠Value.notImplemented/\Q (.bool c) s from ⟨(λx=>nomatch x),h⟩⟩ u
end L2.D2
namespace L2.D2
open PySem PySem.Spec PyProof.Rows
open PySem.SeqAt
noncomputable def ltZ:List Int->List Int->Bool
 | x::xs,y::ys=>if x=y then ltZ xs ys else decide (x < y)
 | [],_::_=>iA
 | _,[]=>iw
end L2.D2
namespace L2.D2
open PySem PySem.Spec PyProof.Rows
open AutoSeq1 (wpAny_loadPart')
end L2.D2
namespace L2.D2
open PySem PySem.Spec PyProof.Rows
noncomputable def Itv (K:Frag) (a:Addr) (xs:List V):It:=
 ⟨λi H=>i < xs.length/\SqL K H a xs,λi H x H'=>H'=H/\xs.reverse[i]?=ip x,λi H=>xs.length<=i/\SqL K H a xs⟩
variable {K:Frag} {tg:Expr}
theorem qcy {P:iE} {w:iF} (a it:Addr) (xs:List V):Turn P w K tg (Itv K a xs) [it] it (λi h=>h.IsRevIter it a ((xs.length:Int) - 1 - i)/\i<=xs.length) where
 mem:=by simp
 obj:=λi h st b g=>by
  have e:b=it:=by simpa using g
  subst e;obtain ⟨⟨o,e,c,d⟩,_⟩:=st;exact ⟨o,e,λv z=>by rw [d] at z; cases z⟩
 keep:=λi h h' st k=>⟨st.1.at λo e=>k it (by simp) o e,st.2⟩
 item:=by
  intro X n m q y i pins s σ H E I l st hg;subst n m q;obtain ⟨hl,hq⟩:=hg;obtain ⟨its,B,p,N⟩:=I.list hq;have G:xs.length - 1 - i < xs.length:=by omega
  have hx:xs[xs.length - 1 - i]?=ip xs[xs.length - 1 - i]:=aC G;obtain ⟨u,D,C⟩:=B.get hx;obtain ⟨f0,f1,f2,t,f4,r⟩:=l it (by simp);have J:((xs.length:Int) - 1 - i)=((xs.length - 1 - i:Nat):Int):=by omega
  have f:=st.1;rw [J] at f;refine wpAny_pyNext_rev_item f p.isList (x:=u) (by simpa using D) λh' j A=>?_;have M:Inv X pins σ H { s with heap:=h' }:=I.turned (t':=s.toks) (λb o g e=>(A.2 b g).trans e) f0 f1 t f4 r;obtain ⟨o,e,c,d⟩:=id j;refine ⟨u,rfl,ZQ (s:={ s with heap:=h' }) e c d (by decide) ⟨xs[xs.length - 1 - i],H,M,C,⟨rfl,?_⟩,⟨?_,hl⟩,λb g=>(l b g).1⟩⟩;·rw [List.getElem?_reverse (by omega)];exact hx
  ·rw [show ((xs.length:Int) - 1 - ((i+1:Nat):Int))=((xs.length - 1 - i:Nat):Int) - 1 by omega];exact j
 done:=by intro X n m q y i pins s σ H E I l st hg;subst n m q;obtain ⟨hl,hq⟩:=hg;obtain ⟨f0,f1,f2,t,f4,r⟩:=l it (by simp);have f:=st.1;rw [show ((xs.length:Int) - 1 - i)=-1 by have:=st.2; omega] at f;exact wpAny_pyNext_rev_end (I.ok.hd y) f λh' L=>⟨rfl,I.turned (t':=s.toks) (λb o g e=>L b o g e) f0 f1 t f4 r⟩
 self:=λ_ _ _ _ _ st h=>wpAny_pyIter_revIter st.1 h
theorem qcz:bootBuiltins "reversed"=ip (.type "reversed"):=by decide +kernel
noncomputable def qiS (f:Sl->Out (D×Sl)):Sl->Out (List D×Sl):=λρ=>(f ρ).bind λp=>match p.1 with
 | .lst xs=>.ok (xs.reverse,p.2)
 | _=>.bad
theorem qgW {F:Hp} {a:Addr} {xs:List V} {ds:List D} (p:SqL K F a xs) (t:IsL K F xs ds):ItIs K F (Itv K a xs) ds.reverse where
 go:=λi H hi s=>⟨by rw [t.length]; simpa using hi,s.seq p⟩
 yld:=λi Fi H v H' d e s1 s2 y=>by obtain ⟨rfl,hx⟩:=y;obtain ⟨d1,e1,i1⟩:=(Uj t).get hx;rw [e] at e1;cases e1;exact ⟨Fi,.refl,s2,i1.mono s1⟩
 stop:=λi H hi s=>⟨by rw [t.length]; simpa using hi,s.seq p⟩
section
variable {X:Cx} {C:Ct} {own:List Nat} {a:Expr} {fa:Sl->Out (D×Sl)} {ma:Mo} {pos:Pos}
theorem qgX {ta:TA} {p:Pos} (hg:Gl X "reversed") (m:X.mg "reversed"=iq) (k:PA X [a] ta) (g:starEach [a] X.env=[(iw,eval a X.env)]):PI X tg (.Call (.Name "reversed" p) [a] [] pos) (λσ H R=>ta σ H λvs H1=>∃ c xs,vs=[.ref c]/\SqL X.K H1 c xs/\R (Itv X.K c xs) H1):=by
 refine ⟨?_⟩;intro pins s σ H R I h;refine Call_ (zv I hg m qcz (bC (thn (k pos pins s σ H _ I h) λus s1 ⟨vs,H1,d,r1,f⟩=>?_) g rfl));obtain ⟨c,xs,rfl,w,q⟩:=f;obtain ⟨u,rfl,e1⟩:=yL r1;cases e1;obtain ⟨its,j,pl,_⟩:=d.list w;refine call_reversed_list pl.isList ?_;have hit:(s1.heap.push (revObj c ((its.toArray.size:Int) - 1))).IsRevIter s1.heap.objs.size c ((xs.length:Int) - 1 - (0:Nat)):=by refine ⟨_,aq _ rfl,rfl,?_⟩;rw [ax,<-j.length];simp [revObj]
 refine wpAny_pyIter_revIter (s:={ s1 with heap:=s1.heap.push (revObj c ((its.toArray.size:Int) - 1)) }) hit ?_;refine ⟨s1.heap.objs.size,_,_,Itv X.K c xs,H1,rfl,d.kept (t':=s1.toks) λb o e=>ae _ e,qcy c s1.heap.objs.size xs,⟨hit,bE _⟩,λb i=>?_,q⟩;have e:b=s1.heap.objs.size:=by simpa using i
 subst e;exact d.fpOk (aD _) (d.hok.fresh (aD _))
theorem qeU {p:Pos} (n:C.K=X.K) (hg:Gl X "reversed") (m:X.mg "reversed"=iq) (g:PE X a (tE C own ma fa)) (h1:ma≠.any:=by decide) (s:starEach [a] X.env=[(iw,eval a X.env)]:=by exact qS rfl):PI X tg (.Call (.Name "reversed" p) [a] [] pos) (tIt C own (qiS fa)):=by
 refine qbX (qgX hg m (qU (yy g h1) jH s) s) λσ H R ⟨F,ρ,b,h⟩=>⟨F,ρ,b,PoI.bindV h λv F1 H1 d ρ1 r k c h1=>?_⟩
 have c:Is C.K F1 v d:=c;cases c with
 | lst p t=>exact ⟨_,_,rfl,by rw [<-n]; exact r.sub.seq p,by rw [<-n]; exact h1 _ F1 H1 r k (qgW p t)⟩
 | _=>exact h1.elim
end
end L2.D2
namespace L2.D2
open PySem PySem.Spec PyProof.Rows PySem.W
end L2.D2
namespace L2.D2
open PySem PySem.Spec PyProof.Rows
theorem fsc {N P:List Str} {sc:j7} (a:sc.kind=.function:=by rfl) (b:sc.isCoroutine=false:=by rfl) (c:sc.isGenerator=false:=by rfl) (d:N.Nodup:=by decide +kernel) (e:N.take P.length=P:=by rfl) (f:∀ x∈P,sc.names.lookup x=ip .local\/sc.names.lookup x=ip .cell:=by decide +kernel) (g:∀ y∈sc.names,y.2≠.free:=by decide +kernel):FnScope N P sc:=⟨a,b,c,d,e,f,g⟩
end L2.D2
namespace L2.D2
open PySem PySem.Spec PyProof.Rows PySem.W
variable {s:iB}
section
variable {prog:iE} {w:iF} {A:iH} {E:iu->iB->Prop}
variable {z TI TO i1 i2:Addr} {fp1 fp2:List Addr} {n1 n2 i:Nat} {P1 P2:Nat->iu->Prop} {S1 S2:Nat->Heap->Prop} {a b:iu}
end
theorem ad {x y:Nat} (h:x < y\/y < x):x≠y:=by omega
section
variable {X:Cx} {pins:List (Addr×Obj)} {σ:St} {H H':Hp} {h':Heap}
theorem Inv.grown {t':Nat} (I:Inv X pins σ H s) (k:∀ b u,s.heap.get? b=ip u->h'.get? b=ip u) (old:∀ b o,H b=ip o->H' b=ip o) (low:∀ b,b < s.heap.objs.size->H b=iq->H' b=iq)
  (new:∀ b o,H b=iq->H' b=ip o->ObjOk X.prog X.w H' h' b o):Inv X pins σ H' { s with heap:=h',toks:=t' }:=by
 refine I.un ⟨λb u q _ _ _=>k b u q,λb u q _ _ _=>⟨u.slots,k b u q⟩,λb u q n _=>low b (aA q) n,λb u q _=>⟨u,k b u q⟩,λb xs q=>old _ _ q,λb u xs q=>old _ _ q,λb ps q=>⟨#[],by rw [old _ _ q]; simp⟩⟩ λb u e=>?_;cases q:H b with
 | none=>exact new b u q e
 | some o=>have:=old b o q;rw [e] at this;cases this;exact (I.hok b u q).stay (λc v _ q=>k c v q) (λc q=>old _ _ q) λc xs q=>old _ _ q
end
end L2.D2
namespace L2.D2
open PySem PySem.Spec PyProof.Rows
end L2.D2
set_option maxHeartbeats 4000000
namespace Kx
open PySem PySem.Spec PyProof.Rows L2 L2.D2
noncomputable def top (i:Nat):Stmt:=PySem.Challenge.pw_lookwords_k11_whole_places.main.body.getD i (.Pass ⟨0,0,0,0⟩)
noncomputable def CS:List Str:=["NoWords", "NoLook", "NoNumbers", "NoRoom", "NoWord", "NoWorths", "Never", "Full", "Known", "NoPlace", "NoLetters", "NoText", "Nothing"]
noncomputable def FS:List Str:=[]
structure Zt (K:Frag) (mg:Str->Option iu) (cv:Str->iu) (ca:Str->Addr):Prop where
 xs:Xs K cv ca CS "WordError"
 mref:∀ c∈CS,mg c=ip (.ref (ca c))
 xin:∀ c∈CS,dS K (ca c) bmV "ValueError.__new__"=iA
 fref:∀ x∈FS,mg x=ip (.ref (ca x))
 m_WordError:mg "WordError"=ip (cv "WordError")
 z_ValueError:mg "ValueError"=iq
 z_all:mg "all"=iq
 z_bool:mg "bool"=iq
 z_dict:mg "dict"=iq
 z_enumerate:mg "enumerate"=iq
 z_int:mg "int"=iq
 z_isinstance:mg "isinstance"=iq
 z_len:mg "len"=iq
 z_list:mg "list"=iq
 z_max:mg "max"=iq
 z_min:mg "min"=iq
 z_range:mg "range"=iq
 z_reversed:mg "reversed"=iq
 z_set:mg "set"=iq
 z_sorted:mg "sorted"=iq
 z_str:mg "str"=iq
 z_tuple:mg "tuple"=iq
 c_LEAST_PLACE:∃ t,mg "LEAST_PLACE"=ip (.int (-3) t)
 c_MOST_LETTERS:∃ t,mg "MOST_LETTERS"=ip (.int 6 t)
 c_MOST_PLACE:∃ t,mg "MOST_PLACE"=ip (.int 2 t)
 c_MOST_ROOM:∃ t,mg "MOST_ROOM"=ip (.int 99 t)
 c_MOST_WORDS:∃ t,mg "MOST_WORDS"=ip (.int 6 t)
 s_NoWorths:bG K (.ref (ca "NoWorths")) (.ref (ca "NoWorths"))=ip iA
theorem JT:bootBuiltins "ValueError"=ip (.type "ValueError"):=by decide +kernel
theorem Jl:bootBuiltins "all"=ip (.builtin "all"):=by decide +kernel
theorem qeV:bootBuiltins "bool"=ip (.type "bool"):=by decide +kernel
theorem JU:bootBuiltins "dict"=ip (.type "dict"):=by decide +kernel
theorem qgY:bootBuiltins "int"=ip (.type "int"):=by decide +kernel
theorem qA:bootBuiltins "isinstance"=ip (.builtin "isinstance"):=by decide +kernel
theorem jq:bootBuiltins "len"=ip (.builtin "len"):=by decide +kernel
theorem Qb:bootBuiltins "list"=ip (.type "list"):=by decide +kernel
theorem qgZ:bootBuiltins "max"=ip (.builtin "max"):=by decide +kernel
theorem qg0:bootBuiltins "min"=ip (.builtin "min"):=by decide +kernel
theorem qcA:bootBuiltins "range"=ip (.type "range"):=by decide +kernel
theorem Uk:bootBuiltins "reversed"=ip (.type "reversed"):=by decide +kernel
theorem Xb:bootBuiltins "set"=ip (.type "set"):=by decide +kernel
theorem uJ:bootBuiltins "sorted"=ip (.builtin "sorted"):=by decide +kernel
theorem qdt:bootBuiltins "str"=ip (.type "str"):=by decide +kernel
theorem kA:bootBuiltins "tuple"=ip (.type "tuple"):=by decide +kernel
instance {α:Type}:Inhabited (Out α):=⟨.bad⟩
section
variable {P:iE} {w:iF} {K:Frag} {mg:Str->Option iu} {base:Heap} {cv:Str->iu} {ca:Str->Addr}
abbrev vS:Stmt:=top 21
abbrev zE:List Str:=["thing", "least", "most"]
theorem JV:FnScope zE ["thing", "least", "most"] (qf vS):=fsc
noncomputable def vU:Sl->Out (Fl×Sl):=(qT (sIf (dOr (QG (xT (d1 (gh "int") (qe 0)))) (xT (d1 (gh "bool") (qe 0)))) (jM (dC (.bl iw))) jJ)
  (jM (xg leD leD (qe 1) (qe 0) (qe 2))))
noncomputable abbrev jr:List D->Out (D×List D):=ki zE [.val,.val,.val] (vU)
abbrev jT P w K mg base cv:=DefOk P w K mg base cv 1 "is_between" ["thing", "least", "most"] [.val,.val,.val] .sh (jr)
theorem JW (Z:Zt K mg cv ca) (T:qY K mg "is_between" vS ["thing", "least", "most"]):jT P w K mg base cv:=
 qJ (k:=0) (own':=[]) (fb:=vU) T JV λcdv f A outer s H E h=>(ql (jo (PW.pt (uC (jB (jn rfl (xu rfl rfl Z.z_isinstance qA rfl Z.z_int qgY (vr 0)) (λ_=>rfl))) (kr (jn rfl (xu rfl rfl Z.z_isinstance qA rfl Z.z_bool qeV (vr 0)) (λ_=>rfl))))) (qo (qr gJ)) qV)
  (qo (qr (Yr Vx Vx (vr 1) (vr 0) (vr 2)))))
abbrev wP:Stmt:=top 22
abbrev Qc:List Str:=["thing"]
theorem VW:FnScope Qc ["thing"] (qf wP):=fsc
noncomputable def vE:Sl->Out (Fl×Sl):=(jM (Vt (d1 (gh "str") (qe 0)) (Vt (d2 eqD (d1 jD (qe 0)) (dC (.int 1))) (xg leD leD (dC (.str "a")) (qe 0) (dC (.str "z"))))))
noncomputable abbrev vF:List D->Out (D×List D):=ki Qc [.val] (vE)
abbrev uK P w K mg base cv:=DefOk P w K mg base cv 1 "is_letter" ["thing"] [.val] .sh (vF)
theorem VX (Z:Zt K mg cv ca) (T:qY K mg "is_letter" wP ["thing"]):uK P w K mg base cv:=
 qJ (k:=0) (own':=[]) (fb:=vE) T VW λcdv f A outer s H E h=>(qo (qr (Vu (xu rfl rfl Z.z_isinstance qA rfl Z.z_str qdt (vr 0)) (Vu (yD (wN rfl h.units) (qH (jv rfl) rfl Z.z_len jq (vr 0)) qt) (Yp (Yr Vx Vx vg (vr 0) vg))))))
abbrev wB:Stmt:=top 23
abbrev Qd:List Str:=["thing"]
theorem Zv:FnScope Qd ["thing"] (qf wB):=fsc
noncomputable def Qe:Sl->Out (Fl×Sl):=(qT (sIf (dOr (QG (xT (d1 (gh "str") (qe 0)))) (QG (jb (xg leD leD (dC (.int 1)) (d1 jD (qe 0)) (dC (.int 6)))))) (jM (dC (.bl iw))) jJ)
  (jM (d1 GM (jw [] 1 [] (jZ (qe 0)) (gNm 0) ftT (qv [.vl] vF (qd (qe 0) qE))))))
noncomputable abbrev xD:List D->Out (D×List D):=ki Qd [.val] (Qe)
abbrev Jm P w K mg base cv:=DefOk P w K mg base cv 2 "is_word" ["thing"] [.val] .sh (xD)
theorem Zw (Z:Zt K mg cv ca) (T:qY K mg "is_word" wB ["thing"]) (o:uK P w K mg base cv):Jm P w K mg base cv:=
 qJ (k:=1) (own':=[]) (fb:=Qe) T Zv λcdv f A outer s H E h=>(ql (jo (PW.pt (uC (jB (jn rfl (xu rfl rfl Z.z_isinstance qA rfl Z.z_str qdt (vr 0)) (λ_=>rfl))) (kr (jB (Vw Vx Vx qt (qH (jv rfl) rfl Z.z_len jq (vr 0)) (xq Z.c_MOST_LETTERS rfl)))))) (qo (qr gJ)) qV)
  (qo (qr (qH (Jf rfl rfl) rfl Z.z_all Jl (jQ (N:=["sign"]) (nt:=1) (cap:=[]) rfl (vN (names:=(qf wB).names) rfl (by decide +kernel)) (jV (names:=(qf wB).names) (N:=Qd) rfl rfl (by decide +kernel)) (qW rfl (vr 0)) (λfp L s1 H1=>(qy (i:=0) (show aU (["sign"]:List Str) from by decide +kernel) rfl (aw rfl))) (λfp L s1 H1=>jm) (λfp L s1 H1=>(qm o h (by decide) yA rfl (qc (vr 0) qg))))))))
abbrev vx:Stmt:=top 24
abbrev xZ:List Str:=["thing"]
theorem Ul:FnScope xZ ["thing"] (qf vx):=fsc
noncomputable def za:Sl->Out (Fl×Sl):=(qT (sIf (dOr (QG (xT (d1 (gh "tuple") (qe 0)))) (QG (jb (xg leD leD (dC (.int 1)) (d1 jD (qe 0)) (dC (.int 6)))))) (jM (dC (.bl iw))) jJ)
  (jM (Vt (d1 GM (jw [] 1 [] (jZ (qe 0)) (gNm 0) ftT (qv [.vl] xD (qd (qe 0) qE)))) (d2 eqD (d1 gY (qe 0)) (d1 jD (qe 0))))))
noncomputable abbrev zb:List D->Out (D×List D):=ki xZ [.val] (za)
abbrev Qf P w K mg base cv:=DefOk P w K mg base cv 3 "is_words" ["thing"] [.val] .sh (zb)
theorem Um (Z:Zt K mg cv ca) (T:qY K mg "is_words" vx ["thing"]) (O:Jm P w K mg base cv):Qf P w K mg base cv:=
 qJ (k:=2) (own':=[]) (fb:=za) T Ul λcdv f A outer s H E h=>(ql (jo (PW.pt (uC (jB (jn rfl (xu rfl rfl Z.z_isinstance qA rfl Z.z_tuple kA (vr 0)) (λ_=>rfl))) (kr (jB (Vw Vx Vx qt (qH (jv rfl) rfl Z.z_len jq (vr 0)) (xq Z.c_MOST_WORDS rfl)))))) (qo (qr gJ)) qV)
  (qo (qr (Vu (qH (Jf rfl rfl) rfl Z.z_all Jl (jQ (N:=["part"]) (nt:=1) (cap:=[]) rfl (vN (names:=(qf vx).names) rfl (by decide +kernel)) (jV (names:=(qf vx).names) (N:=xZ) rfl rfl (by decide +kernel)) (qW rfl (vr 0)) (λfp L s1 H1=>(qy (i:=0) (show aU (["part"]:List Str) from by decide +kernel) rfl (aw rfl))) (λfp L s1 H1=>jm) (λfp L s1 H1=>(qm O h (by decide) yA rfl (qc (vr 0) qg))))) (Yp (yD (wN rfl h.units) (qac rfl rfl rfl Z.z_len jq rfl Z.z_set Xb (vr 0)) (qH (jv rfl) rfl Z.z_len jq (vr 0))))))))
abbrev vm:Stmt:=top 29
abbrev xE:List Str:=["thing"]
theorem QP:FnScope xE ["thing"] (qf vm):=fsc
noncomputable def wQ:Sl->Out (Fl×Sl):=(sIf (QG (xT (qv [.vl] zb (qd (qe 0) qE)))) (kJ "NoWords" (qd (dC (.str "words are a tuple of 1 to 6 unlike words of 1 to 6 letters from a to z")) qE)) jJ)
noncomputable abbrev wR:List D->Out (D×List D):=ki xE [.val] (wQ)
abbrev yF P w K mg base cv:=DefOk P w K mg base cv 4 "check_words" ["thing"] [.val] .sh (wR)
theorem QQ (Z:Zt K mg cv ca) (T:qY K mg "check_words" vm ["thing"]) (o:Qf P w K mg base cv):yF P w K mg base cv:=
 qJ (k:=3) (own':=[]) (fb:=wQ) T QP λcdv f A outer s H E h=>(qo (jo (jB (jn rfl (qm o h (by decide) qK rfl (qc (vr 0) qg)) (λ_=>rfl))) (qo (kU rfl (zA rfl) rfl rfl (Z.mref "NoWords" (by decide +kernel)) (Z.xs.val "NoWords" (by decide +kernel)) (Z.xin "NoWords" (by decide +kernel)) (qc vg qg))) qV))
abbrev wC:Stmt:=top 25
abbrev Qg:List Str:=["thing"]
theorem Zx:FnScope Qg ["thing"] (qf wC):=fsc
noncomputable def Qh:Sl->Out (Fl×Sl):=(qT (sIf (dOr (QG (xT (d1 (gh "tuple") (qe 0)))) (jb (d2 neD (d1 jD (qe 0)) (dC (.int 2))))) (jM (dC (.bl iw))) jJ)
  (jM (d1 GM (jw [] 1 [] (jZ (qe 0)) (gNm 0) ftT (qv [.vl,.vl,.vl] jr (qd (qe 0) (qd (dC (.int (-3))) (qd (dC (.int 2)) qE))))))))
noncomputable abbrev Qi:List D->Out (D×List D):=ki Qg [.val] (Qh)
abbrev Jn P w K mg base cv:=DefOk P w K mg base cv 2 "is_look" ["thing"] [.val] .sh (Qi)
theorem Zy (Z:Zt K mg cv ca) (T:qY K mg "is_look" wC ["thing"]) (o:jT P w K mg base cv):Jn P w K mg base cv:=
 qJ (k:=1) (own':=[]) (fb:=Qh) T Zx λcdv f A outer s H E h=>(ql (jo (PW.pt (uC (jB (jn rfl (xu rfl rfl Z.z_isinstance qA rfl Z.z_tuple kA (vr 0)) (λ_=>rfl))) (kr (qP (JC rfl h.units) (qH (jv rfl) rfl Z.z_len jq (vr 0)) qt)))) (qo (qr gJ)) qV)
  (qo (qr (qH (Jf rfl rfl) rfl Z.z_all Jl (jQ (N:=["place"]) (nt:=1) (cap:=[]) rfl (vN (names:=(qf wC).names) rfl (by decide +kernel)) (jV (names:=(qf wC).names) (N:=Qg) rfl rfl (by decide +kernel)) (qW rfl (vr 0)) (λfp L s1 H1=>(qy (i:=0) (show aU (["place"]:List Str) from by decide +kernel) rfl (aw rfl))) (λfp L s1 H1=>jm) (λfp L s1 H1=>(qm o h (by decide) yA rfl (qc (vr 0) (qc (xq Z.c_LEAST_PLACE rfl) (qc (xq Z.c_MOST_PLACE rfl) qg))))))))))
abbrev vV:Stmt:=top 30
abbrev zF:List Str:=["thing"]
theorem JX:FnScope zF ["thing"] (qf vV):=fsc
noncomputable def uL:Sl->Out (Fl×Sl):=(sIf (QG (xT (qv [.vl] Qi (qd (qe 0) qE)))) (kJ "NoLook" (qd (dC (.str "a look is a tuple of two places from -3 to 2")) qE)) jJ)
noncomputable abbrev uM:List D->Out (D×List D):=ki zF [.val] (uL)
abbrev xF P w K mg base cv:=DefOk P w K mg base cv 3 "check_look" ["thing"] [.val] .sh (uM)
theorem JY (Z:Zt K mg cv ca) (T:qY K mg "check_look" vV ["thing"]) (O:Jn P w K mg base cv):xF P w K mg base cv:=
 qJ (k:=2) (own':=[]) (fb:=uL) T JX λcdv f A outer s H E h=>(qo (jo (jB (jn rfl (qm O h (by decide) qK rfl (qc (vr 0) qg)) (λ_=>rfl))) (qo (kU rfl (zA rfl) rfl rfl (Z.mref "NoLook" (by decide +kernel)) (Z.xs.val "NoLook" (by decide +kernel)) (Z.xin "NoLook" (by decide +kernel)) (qc vg qg))) qV))
abbrev wS:Stmt:=top 35
abbrev Qj:List Str:=["word", "place", "at"]
theorem sc_letter_at:FnScope Qj ["word", "place"] (qf wS):=fsc
noncomputable def wT:Sl->Out (Fl×Sl):=(qT (jz 2 (dIf (jb (d2 geD (qe 1) (dC (.int 0)))) (qe 1) (d2 kb (d1 jD (qe 0)) (qe 1))))
  (jM (d2 ixD (qe 0) (d2 qhO (dC (.int 0)) (d2 qhP (qe 2) (d2 JB (d1 jD (qe 0)) (dC (.int 1))))))))
noncomputable abbrev vG:List D->Out (D×List D):=ki Qj [.val,.val] (wT)
abbrev zG P w K mg base cv:=DefOk P w K mg base cv 1 "letter_at" ["word", "place"] [.val,.val] .sh (vG)
theorem VY (Z:Zt K mg cv ca) (T:qY K mg "letter_at" wS ["word", "place"]):zG P w K mg base cv:=
 qJ (k:=0) (own':=[]) (fb:=wT) T sc_letter_at λcdv f A outer s H E h=>(ql (qG (i:=2) sc_letter_at.nd rfl (aw rfl) (Vv (qP qek (vr 1) qt) (vr 1) (qR (jI rfl) (qH (jv rfl) rfl Z.z_len jq (vr 0)) (vr 1))))
  (qo (qr (ji rfl h.units (vr 0) (VI (qgB rfl) rfl Z.z_max qgZ qt (VI (qgC rfl) rfl Z.z_min qg0 (vr 2) (qR zy (qH (jv rfl) rfl Z.z_len jq (vr 0)) qt))) (λ_ _=>rfl)))))
abbrev zc:Stmt:=top 36
abbrev Uo:List Str:=["words", "look"]
theorem qcB:FnScope Uo ["words", "look"] (qf zc):=fsc
noncomputable def Up:Sl->Out (Fl×Sl):=(qT (kD (qv [.vl] wR (qd (qe 0) qE)))
  (qT (kD (qv [.vl] uM (qd (qe 1) qE)))
  (jM (jw [] 1 [1] (jZ (qe 0)) (gNm 0) ftT (vM (qd (qv [.vl,.vl] vG (qd (qe 0) (qd (d2 ixD (qe 1) (dC (.int 0))) qE))) (qd (qv [.vl,.vl] vG (qd (qe 0) (qd (d2 ixD (qe 1) (dC (.int 1))) qE))) qE)))))))
noncomputable abbrev wU:List D->Out (D×List D):=ki Uo [.val,.val] (Up)
abbrev yj P w K mg base cv:=DefOk P w K mg base cv 5 "pairs" ["words", "look"] [.val,.val] .sh (wU)
theorem qcC (Z:Zt K mg cv ca) (T:qY K mg "pairs" zc ["words", "look"]) (R:yF P w K mg base cv) (V:xF P w K mg base cv) (o:zG P w K mg base cv):yj P w K mg base cv:=
 qJ (k:=4) (own':=[]) (fb:=Up) T qcB λcdv f A outer s H E h=>(ql (jl (qm R h (by decide) qK rfl (qc (vr 0) qg)))
  (ql (jl (qm V h (by decide) qK rfl (qc (vr 1) qg)))
  (qo (qr (jQ (N:=["word", "look"]) (nt:=1) (cap:=[1]) rfl (vN (names:=(qf zc).names) rfl (by decide +kernel)) (jV (names:=(qf zc).names) (N:=Uo) rfl rfl (by decide +kernel)) (qW rfl (vr 0)) (λfp L s1 H1=>(qy (i:=0) (show aU (["word", "look"]:List Str) from by decide +kernel) rfl (aw rfl))) (λfp L s1 H1=>jm) (λfp L s1 H1=>(jX (qc (qm o h (by decide) yA rfl (qc (vr 0) (qc (ji rfl h.units (vr 1) qt (λ_ _=>rfl)) qg))) (qc (qm o h (by decide) yA rfl (qc (vr 0) (qc (ji rfl h.units (vr 1) qt (λ_ _=>rfl)) qg))) qg)))))))))
abbrev jA:Stmt:=top 37
abbrev vW:List Str:=["seen"]
theorem JZ:FnScope vW ["seen"] (qf jA):=fsc
noncomputable def uN:Sl->Out (Fl×Sl):=(jM (d1 vR (d2 kb (jw [] 1 [] (jZ (qe 0)) (gNm 0) ftT (d2 ixD (qe 0) (dC (.int 0)))) (jw [] 1 [] (jZ (qe 0)) (gNm 0) ftT (d2 ixD (qe 0) (dC (.int 1)))))))
noncomputable abbrev js:List D->Out (D×List D):=ki vW [.val] (uN)
abbrev vn P w K mg base cv:=DefOk P w K mg base cv 1 "letters_of" ["seen"] [.val] .sh (js)
theorem Ka (Z:Zt K mg cv ca) (T:qY K mg "letters_of" jA ["seen"]):vn P w K mg base cv:=
 qJ (k:=0) (own':=[]) (fb:=uN) T JZ λcdv f A outer s H E h=>(qo (qr (xY rfl rfl rfl Z.z_sorted uJ rfl Z.z_set Xb (qR (jI rfl) (jQ (N:=["pair"]) (nt:=1) (cap:=[]) rfl (vN (names:=(qf jA).names) rfl (by decide +kernel)) (jV (names:=(qf jA).names) (N:=vW) rfl rfl (by decide +kernel)) (qW rfl (vr 0)) (λfp L s1 H1=>(qy (i:=0) (show aU (["pair"]:List Str) from by decide +kernel) rfl (aw rfl))) (λfp L s1 H1=>jm) (λfp L s1 H1=>(ji rfl h.units (vr 0) qt (λ_ _=>rfl)))) (jQ (N:=["pair"]) (nt:=1) (cap:=[]) rfl (vN (names:=(qf jA).names) rfl (by decide +kernel)) (jV (names:=(qf jA).names) (N:=vW) rfl rfl (by decide +kernel)) (qW rfl (vr 0)) (λfp L s1 H1=>(qy (i:=0) (show aU (["pair"]:List Str) from by decide +kernel) rfl (aw rfl))) (λfp L s1 H1=>jm) (λfp L s1 H1=>(ji rfl h.units (vr 0) qt (λ_ _=>rfl))))))))
abbrev kR:Stmt:=top 42
abbrev yG:List Str:=["pair", "letter"]
theorem Qk:FnScope yG ["pair", "letter"] (qf kR):=fsc
noncomputable def wm:Sl->Out (Fl×Sl):=(jM (dIf (jb (d2 eqD (qe 1) (d2 ixD (qe 0) (dC (.int 0))))) (d2 ixD (qe 0) (dC (.int 1))) (d2 ixD (qe 0) (dC (.int 0)))))
noncomputable abbrev kS:List D->Out (D×List D):=ki yG [.val,.val] (wm)
abbrev uO P w K mg base cv:=DefOk P w K mg base cv 1 "other_letter" ["pair", "letter"] [.val,.val] .sh (kS)
theorem Ql (Z:Zt K mg cv ca) (T:qY K mg "other_letter" kR ["pair", "letter"]):uO P w K mg base cv:=
 qJ (k:=0) (own':=[]) (fb:=wm) T Qk λcdv f A outer s H E h=>(qo (qr (Vv (qP (wN rfl h.units) (vr 1) (ji rfl h.units (vr 0) qt (λ_ _=>rfl))) (ji rfl h.units (vr 0) qt (λ_ _=>rfl)) (ji rfl h.units (vr 0) qt (λ_ _=>rfl)))))
abbrev gl:Stmt:=top 46
abbrev Kb:List Str:=["seen", "root", "ways", "waiting", "letter", "at", "pair", "reached"]
theorem sc_spread:FnScope Kb ["seen", "root", "ways"] (qf gl):=fsc
noncomputable def Kc:Sl->Out (Fl×Sl):=(qT (zU 2 (vM (qd (qe 1) (qd (yz qE) qE))) (qe 1))
  (qT (jz 3 (yz (qd (qe 1) qE)))
  (kG (jb (d2 gtD (d1 jD (qe 3)) (dC (.int 0))))
  (qT (jz 4 (qao 3))
  (QK (Zq (qe 0)) (jL 2 (qD (gNm 5) (qD (gNm 6) jK)))
  (qT (jz 7 (qv [.vl,.vl] kS (qd (qe 6) (qd (qe 4) qE))))
  (sIf (qdk (jb (d2 inA (qe 4) (qe 6))) (jb (d2 JO (qe 7) (qe 2)))) (qT (zU 2 (vM (qd (qe 1) (qd (d2 kb (d2 ixD (d2O 2 ixD (qe 4)) (dC (.int 1))) (yz (qd (qe 5) qE))) qE))) (qe 7))
  (kD (gN 3 JK (qe 7)))) jJ)))) 20)))
noncomputable abbrev gm:List D->Out (D×List D):=ki Kb [.val,.val,.io] (Kc)
abbrev VZ P w K mg base cv:=DefOk P w K mg base cv 2 "spread" ["seen", "root", "ways"] [.val,.val,.io] .sh (gm)
theorem qar (Z:Zt K mg cv ca) (T:qY K mg "spread" gl ["seen", "root", "ways"]) (o:uO P w K mg base cv):VZ P w K mg base cv:=
 qJ (k:=1) (own':=[3,2]) (fb:=Kc) T sc_spread λcdv f A outer s H E h=>(ql (gk (n:=2) h.units rfl (aw rfl) (by decide) (jX (qc (vr 1) (qc (jO qg) qg))) (vr 1))
  (ql (ka (i:=3) sc_spread.nd rfl (aw rfl) (jO (qc (vr 1) qg)))
  (qo (GB 20 aR (qP qiw (qH (jv rfl) rfl Z.z_len jq (vd (i:=3) rfl (aw rfl) (by decide))) qt)
  (ql (qG (i:=4) sc_spread.nd rfl (aw rfl) (qeS (i:=3) rfl (aw rfl) (by decide)))
  (qo (kf aR rfl (YV rfl rfl Z.z_enumerate (vr 0)) (vB rfl rfl (qL (qy (i:=5) sc_spread.nd rfl (aw rfl)) (qL (qy (i:=6) sc_spread.nd rfl (aw rfl)) kw)))
  (ql (qG (i:=7) sc_spread.nd rfl (aw rfl) (qm o h (by decide) qK rfl (qc (vr 6) (qc (vr 4) qg))))
  (qo (jo (PW.pt (WR (qP (YO rfl h.units) (vr 4) (vr 6)) (kr (qP (xw rfl h.units) (vr 7) (vd (i:=2) rfl (aw rfl) (by decide)))))) (ql (gk (n:=2) h.units rfl (aw rfl) (by decide) (jX (qc (vr 1) (qc (qR (jI rfl) (ji rfl h.units (qgV (i:=2) rfl h.units rfl (aw rfl) (by decide) (vr 4) (λ_ _=>rfl)) qt (λ_ _=>rfl)) (jO (qc (vr 5) qg))) qg))) (vr 7))
  (qo (jl (ww (i:=3) rfl rfl (aw rfl) (by decide) (vr 7))))) qV))))))))))
abbrev xG:Stmt:=top 47
abbrev Qm:List Str:=["seen", "ways", "letter"]
theorem sc_ways_of:FnScope Qm ["seen"] (qf xG):=fsc
noncomputable def Qn:Sl->Out (Fl×Sl):=(qT (jz 1 (dC (.dct [])))
  (qT (QK (jZ (qv [.vl] js (qd (qe 0) qE))) (gNm 2)
  (sIf (jb (d2 JO (qe 2) (qe 1))) (kD (qv [.vl,.vl,.sl 1] gm (qd (qe 0) (qd (qe 2) (kt qE))))) jJ))
  (jM (qe 1))))
noncomputable abbrev wE:List D->Out (D×List D):=ki Qm [.val] (Qn)
abbrev yk P w K mg base cv:=DefOk P w K mg base cv 3 "ways_of" ["seen"] [.val] .sh (wE)
theorem Zz (Z:Zt K mg cv ca) (T:qY K mg "ways_of" xG ["seen"]) (o:vn P w K mg base cv) (O:VZ P w K mg base cv):yk P w K mg base cv:=
 qJ (k:=2) (own':=[]) (fb:=Qn) T sc_ways_of λcdv f A outer s H E h=>(ql (ka (i:=1) sc_ways_of.nd rfl (aw rfl) JD)
  (ql (kf aR rfl (qW rfl (qm o h (by decide) qK rfl (qc (vr 0) qg))) (qy (i:=2) sc_ways_of.nd rfl (aw rfl))
  (qo (jo (qP (xw rfl h.units) (vr 2) (vd (i:=1) rfl (aw rfl) (by decide))) (qo (jl (qm O h (by decide) qK rfl (qc (vr 0) (qc (vr 2) (je (i:=1) rfl (aw rfl) (by decide) qg)))))) qV)))
  (kP [1] (qo (qr (vr 1))))))
abbrev vX:Stmt:=top 48
abbrev uP:List Str:=["seen", "ways", "found", "at", "pair", "back"]
theorem sc_circles_of:FnScope uP ["seen", "ways"] (qf vX):=fsc
noncomputable def uQ:Sl->Out (Fl×Sl):=(qT (jz 2 (yz qE))
  (qT (QK (Zq (qe 0)) (jL 2 (qD (gNm 3) (qD (gNm 4) jK)))
  (qT (jz 5 (d1 xC (d2 ixD (d2 ixD (qe 1) (d2 ixD (qe 4) (dC (.int 1)))) (dC (.int 1)))))
  (kD (gN 2 JK (vM (qd (d2 ixD (d2 ixD (qe 1) (d2 ixD (qe 4) (dC (.int 0)))) (dC (.int 0))) (qd (d2 kb (d2 kb (d2 ixD (d2 ixD (qe 1) (d2 ixD (qe 4) (dC (.int 0)))) (dC (.int 1))) (yz (qd (qe 3) qE))) (qe 5)) qE)))))))
  (jM (qe 2))))
noncomputable abbrev vY:List D->Out (D×List D):=ki uP [.val,.val] (uQ)
abbrev wV P w K mg base cv:=DefOk P w K mg base cv 1 "circles_of" ["seen", "ways"] [.val,.val] .sh (vY)
theorem Ke (Z:Zt K mg cv ca) (T:qY K mg "circles_of" vX ["seen", "ways"]):wV P w K mg base cv:=
 qJ (k:=0) (own':=[]) (fb:=uQ) T sc_circles_of λcdv f A outer s H E h=>(ql (ka (i:=2) sc_circles_of.nd rfl (aw rfl) (jO qg))
  (ql (kf aR rfl (YV rfl rfl Z.z_enumerate (vr 0)) (vB rfl rfl (qL (qy (i:=3) sc_circles_of.nd rfl (aw rfl)) (qL (qy (i:=4) sc_circles_of.nd rfl (aw rfl)) kw)))
  (ql (qG (i:=5) sc_circles_of.nd rfl (aw rfl) (Zs rfl rfl rfl Z.z_list Qb rfl Z.z_reversed Uk (ji rfl h.units (ji rfl h.units (vr 1) (ji rfl h.units (vr 4) qt (λ_ _=>rfl)) (λ_ _=>rfl)) qt (λ_ _=>rfl))))
  (qo (jl (ww (i:=2) rfl rfl (aw rfl) (by decide) (jX (qc (ji rfl h.units (ji rfl h.units (vr 1) (ji rfl h.units (vr 4) qt (λ_ _=>rfl)) (λ_ _=>rfl)) qt (λ_ _=>rfl)) (qc (qR (jI rfl) (qR (jI rfl) (ji rfl h.units (ji rfl h.units (vr 1) (ji rfl h.units (vr 4) qt (λ_ _=>rfl)) (λ_ _=>rfl)) qt (λ_ _=>rfl)) (jO (qc (vr 3) qg))) (vr 5)) qg))))))))
  (kP [2] (qo (qr (vr 2))))))
abbrev gn:Stmt:=top 44
abbrev Xc:List Str:=["walk"]
theorem qas:FnScope Xc ["walk"] (qf gn):=fsc
noncomputable def gp:Sl->Out (Fl×Sl):=(jM (d2 eqD (d2 wq (d1 jD (qe 0)) (dC (.int 2))) (dC (.int 1))))
noncomputable abbrev wW:List D->Out (D×List D):=ki Xc [.val] (gp)
abbrev xH P w K mg base cv:=DefOk P w K mg base cv 1 "is_odd" ["walk"] [.val] .sh (wW)
theorem qat (Z:Zt K mg cv ca) (T:qY K mg "is_odd" gn ["walk"]):xH P w K mg base cv:=
 qJ (k:=0) (own':=[]) (fb:=gp) T qas λcdv f A outer s H E h=>(qo (qr (yD (wN rfl h.units) (qR kE (qH (jv rfl) rfl Z.z_len jq (vr 0)) qt) qt)))
abbrev wX:Stmt:=top 49
abbrev yR:List Str:=["circles", "first", "root", "walk"]
theorem sc_first_odd:FnScope yR ["circles"] (qf wX):=fsc
noncomputable def yS:Sl->Out (Fl×Sl):=(qT (jz 1 (dC (.dct [])))
  (qT (QK (jZ (qe 0)) (jL 2 (qD (gNm 2) (qD (gNm 3) jK)))
  (sIf (qdk (xT (qv [.vl] wW (qd (qe 3) qE))) (jb (d2 JO (qe 2) (qe 1)))) (zU 1 (qe 3) (qe 2)) jJ))
  (jM (qe 1))))
noncomputable abbrev wY:List D->Out (D×List D):=ki yR [.val] (yS)
abbrev uR P w K mg base cv:=DefOk P w K mg base cv 2 "first_odd" ["circles"] [.val] .sh (wY)
theorem Wa (Z:Zt K mg cv ca) (T:qY K mg "first_odd" wX ["circles"]) (o:xH P w K mg base cv):uR P w K mg base cv:=
 qJ (k:=1) (own':=[]) (fb:=yS) T sc_first_odd λcdv f A outer s H E h=>(ql (ka (i:=1) sc_first_odd.nd rfl (aw rfl) JD)
  (ql (kf aR rfl (qW rfl (vr 0)) (vB rfl rfl (qL (qy (i:=2) sc_first_odd.nd rfl (aw rfl)) (qL (qy (i:=3) sc_first_odd.nd rfl (aw rfl)) kw)))
  (qo (jo (PW.pt (WR (jn rfl (qm o h (by decide) qK rfl (qc (vr 3) qg)) (λ_=>rfl)) (kr (qP (xw rfl h.units) (vr 2) (vd (i:=1) rfl (aw rfl) (by decide)))))) (qo (gk (n:=1) h.units rfl (aw rfl) (by decide) (vr 3) (vr 2))) qV)))
  (kP [1] (qo (qr (vr 1))))))
abbrev yl:Stmt:=top 43
abbrev zd:List Str:=["walk", "numbers", "start", "total", "at"]
theorem sc_comes_to:FnScope zd ["walk", "numbers", "start"] (qf yl):=fsc
noncomputable def ze:Sl->Out (Fl×Sl):=(qT (jz 3 (qe 2))
  (qT (QK (jZ (qe 0)) (gNm 4)
  (jz 3 (d2 JB (d2 ixD (qe 1) (qe 4)) (qe 3))))
  (jM (qe 3))))
noncomputable abbrev vy:List D->Out (D×List D):=ki zd [.val,.val,.val] (ze)
abbrev wZ P w K mg base cv:=DefOk P w K mg base cv 1 "comes_to" ["walk", "numbers", "start"] [.val,.val,.val] .sh (vy)
theorem Uq (Z:Zt K mg cv ca) (T:qY K mg "comes_to" yl ["walk", "numbers", "start"]):wZ P w K mg base cv:=
 qJ (k:=0) (own':=[]) (fb:=ze) T sc_comes_to λcdv f A outer s H E h=>(ql (qG (i:=3) sc_comes_to.nd rfl (aw rfl) (vr 2))
  (ql (kf aR rfl (qW rfl (vr 0)) (qy (i:=4) sc_comes_to.nd rfl (aw rfl))
  (qo (qG (i:=3) sc_comes_to.nd rfl (aw rfl) (qR zy (ji rfl h.units (vr 1) (vr 4) (λ_ _=>rfl)) (vr 3)))))
  (qo (qr (vr 3)))))
abbrev Xd:Stmt:=top 52
abbrev qdu:List Str:=["total", "room", "rest"]
theorem sc_half:FnScope qdu ["total", "room"] (qf Xd):=fsc
noncomputable def qau:Sl->Out (Fl×Sl):=(qT (jz 2 (d2 wq (qe 0) (qe 1)))
  (jM (dIf (jb (d2 eqD (d2 wq (qe 2) (dC (.int 2))) (dC (.int 0)))) (d2 xS (qe 2) (dC (.int 2))) (d2 xS (d2 kb (qe 2) (qe 1)) (dC (.int 2))))))
noncomputable abbrev qav:List D->Out (D×List D):=ki qdu [.val,.val] (qau)
abbrev qaw P w K mg base cv:=DefOk P w K mg base cv 1 "half" ["total", "room"] [.val,.val] .sh (qav)
theorem qeW (Z:Zt K mg cv ca) (T:qY K mg "half" Xd ["total", "room"]):qaw P w K mg base cv:=
 qJ (k:=0) (own':=[]) (fb:=qau) T sc_half λcdv f A outer s H E h=>(ql (qG (i:=2) sc_half.nd rfl (aw rfl) (qR kE (vr 0) (vr 1)))
  (qo (qr (Vv (qP (wN rfl h.units) (qR kE (vr 2) qt) qt) (qR gK (vr 2) qt) (qR gK (qR (jI rfl) (vr 2) (vr 1)) qt)))))
abbrev vo:Stmt:=top 53
abbrev xI:List Str:=["walk", "room", "numbers", "worth"]
theorem sc_root_worths:FnScope xI ["walk", "room", "numbers"] (qf vo):=fsc
noncomputable def kB:Sl->Out (Fl×Sl):=(qT (sIf (jb (d2 eqD (d1 jD (qe 0)) (dC (.int 0)))) (jM (d1 xB (qe 1))) jJ)
  (qT (jz 3 (qv [.vl,.vl] qav (qd (qv [.vl,.vl,.vl] vy (qd (qe 0) (qd (qe 2) (qd (dC (.int 0)) qE)))) (qd (qe 1) qE))))
  (jM (dIf (jb (d2 eqD (d2 wq (qe 1) (dC (.int 2))) (dC (.int 0)))) (yz (qd (qe 3) (qd (d2 kb (qe 3) (d2 xS (qe 1) (dC (.int 2)))) qE))) (yz (qd (qe 3) qE))))))
noncomputable abbrev vp:List D->Out (D×List D):=ki xI [.val,.val,.val] (kB)
abbrev yH P w K mg base cv:=DefOk P w K mg base cv 2 "root_worths" ["walk", "room", "numbers"] [.val,.val,.val] .sh (vp)
theorem QR (Z:Zt K mg cv ca) (T:qY K mg "root_worths" vo ["walk", "room", "numbers"]) (o:wZ P w K mg base cv) (O:qaw P w K mg base cv):yH P w K mg base cv:=
 qJ (k:=1) (own':=[]) (fb:=kB) T sc_root_worths λcdv f A outer s H E h=>(ql (jo (qP (wN rfl h.units) (qH (jv rfl) rfl Z.z_len jq (vr 0)) qt) (qo (qr (Zp rfl rfl Z.z_list Qb rfl Z.z_range qcA (vr 1)))) qV)
  (ql (qG (i:=3) sc_root_worths.nd rfl (aw rfl) (qm O h (by decide) qK rfl (qc (qm o h (by decide) qK rfl (qc (vr 0) (qc (vr 2) (qc qt qg)))) (qc (vr 1) qg))))
  (qo (qr (Vv (qP (wN rfl h.units) (qR kE (vr 1) qt) qt) (jO (qc (vr 3) (qc (qR (jI rfl) (vr 3) (qR gK (vr 1) qt)) qg))) (jO (qc (vr 3) qg)))))))
abbrev kl:Stmt:=top 54
abbrev wF:List Str:=["seen", "room", "numbers", "ways", "first", "roots"]
theorem sc_roots_of:FnScope wF ["seen", "room", "numbers"] (qf kl):=fsc
noncomputable def zf:Sl->Out (Fl×Sl):=(qT (jz 3 (qv [.vl] wE (qd (qe 0) qE)))
  (qT (jz 4 (qv [.vl] wY (qd (qv [.vl,.vl] vY (qd (qe 0) (qd (qe 3) qE))) qE)))
  (qT (jz 5 (jw [] 1 [3] (jZ (d1 kz (qe 3))) (gNm 0) (jb (d2 eqD (d2 ixD (d2 ixD (qe 1) (qe 0)) (dC (.int 0))) (qe 0))) (qe 0)))
  (jM (jw [] 1 [1,2,4] (jZ (qe 5)) (gNm 0) ftT (vM (qd (qe 0) (qd (qv [.vl,.vl,.vl] vp (qd (qct (qe 3) (qe 0) (yz qE)) (qd (qe 1) (qd (qe 2) qE)))) qE))))))))
noncomputable abbrev kM:List D->Out (D×List D):=ki wF [.val,.val,.val] (zf)
abbrev ua P w K mg base cv:=DefOk P w K mg base cv 4 "roots_of" ["seen", "room", "numbers"] [.val,.val,.val] .sh (kM)
theorem Ur (Z:Zt K mg cv ca) (T:qY K mg "roots_of" kl ["seen", "room", "numbers"]) (o:yk P w K mg base cv) (B:wV P w K mg base cv) (b:uR P w K mg base cv) (a:yH P w K mg base cv):ua P w K mg base cv:=
 qJ (k:=3) (own':=[]) (fb:=zf) T sc_roots_of λcdv f A outer s H E h=>(ql (qG (i:=3) sc_roots_of.nd rfl (ci rfl) (qm o h (by decide) qK rfl (qc (vr 0) qg)))
  (ql (qG (i:=4) sc_roots_of.nd rfl (ci rfl) (qm b h (by decide) qK rfl (qc (qm B h (by decide) qK rfl (qc (vr 0) (qc (vr 3) qg))) qg)))
  (ql (xm (N:=["letter", "ways"]) (nt:=1) (cap:=[3]) sc_roots_of.nd (i:=5) rfl (aw rfl) rfl (vN (names:=(qf kl).names) rfl (by decide +kernel)) (jV (names:=(qf kl).names) (N:=wF) rfl rfl (by decide +kernel)) (qW rfl (qH (Jk rfl) rfl Z.z_sorted uJ (vr 3))) (λfp L s1 H1=>(qy (i:=0) (show aU (["letter", "ways"]:List Str) from by decide +kernel) rfl (aw rfl))) (λfp L s1 H1=>(JI (qP (wN rfl h.units) (ji rfl h.units (ji rfl h.units (vr 1) (vr 0) (λ_ _=>rfl)) qt (λ_ _=>rfl)) (vr 0)))) (λfp L s1 H1=>(vr 0)))
  (kP [5] (qo (qr (jQ (N:=["root", "room", "numbers", "first"]) (nt:=1) (cap:=[1,2,4]) rfl (vN (names:=(qf kl).names) rfl (by decide +kernel)) (jV (names:=(qf kl).names) (N:=wF) rfl rfl (by decide +kernel)) (qW rfl (vr 5)) (λfp L s1 H1=>(qy (i:=0) (show aU (["root", "room", "numbers", "first"]:List Str) from by decide +kernel) rfl (aw rfl))) (λfp L s1 H1=>jm) (λfp L s1 H1=>(jX (qc (vr 0) (qc (qm a h (by decide) yA rfl (qc (qeT h.units (vr 3) (vr 0) (jO qg)) (qc (vr 1) (qc (vr 2) qg)))) qg)))))))))))
abbrev vt:Stmt:=top 55
abbrev ub:List Str:=["seen", "room", "numbers", "starts", "ways", "found", "letter", "start"]
theorem sc_worths_from:FnScope ub ["seen", "room", "numbers", "starts"] (qf vt):=fsc
noncomputable def uc:Sl->Out (Fl×Sl):=(qT (jz 4 (qv [.vl] wE (qd (qe 0) qE)))
  (qT (jz 5 (yz qE))
  (qT (QK (jZ (d1 kz (qe 4))) (gNm 6)
  (qT (jz 7 (d2 ixD (qe 3) (d2 ixD (d2 ixD (qe 4) (qe 6)) (dC (.int 0)))))
  (kD (gN 5 JK (vM (qd (qe 6) (qd (d2 wq (qv [.vl,.vl,.vl] vy (qd (d2 ixD (d2 ixD (qe 4) (qe 6)) (dC (.int 1))) (qd (qe 2) (qd (qe 7) qE)))) (qe 1)) qE)))))))
  (jM (d1 wx (qe 5))))))
noncomputable abbrev ud:List D->Out (D×List D):=ki ub [.val,.val,.val,.val] (uc)
abbrev yI P w K mg base cv:=DefOk P w K mg base cv 4 "worths_from" ["seen", "room", "numbers", "starts"] [.val,.val,.val,.val] .sh (ud)
theorem QS (Z:Zt K mg cv ca) (T:qY K mg "worths_from" vt ["seen", "room", "numbers", "starts"]) (y:wZ P w K mg base cv) (o:yk P w K mg base cv):yI P w K mg base cv:=
 qJ (k:=3) (own':=[]) (fb:=uc) T sc_worths_from λcdv f A outer s H E h=>(ql (qG (i:=4) sc_worths_from.nd rfl (aw rfl) (qm o h (by decide) qK rfl (qc (vr 0) qg)))
  (ql (ka (i:=5) sc_worths_from.nd rfl (aw rfl) (jO qg))
  (ql (kf aR rfl (qW rfl (qH (Jk rfl) rfl Z.z_sorted uJ (vr 4))) (qy (i:=6) sc_worths_from.nd rfl (aw rfl))
  (ql (qG (i:=7) sc_worths_from.nd rfl (aw rfl) (ji rfl h.units (vr 3) (ji rfl h.units (ji rfl h.units (vr 4) (vr 6) (λ_ _=>rfl)) qt (λ_ _=>rfl)) (λ_ _=>rfl)))
  (qo (jl (ww (i:=5) rfl rfl (aw rfl) (by decide) (jX (qc (vr 6) (qc (qR kE (qm y h (by decide) qK rfl (qc (ji rfl h.units (ji rfl h.units (vr 4) (vr 6) (λ_ _=>rfl)) qt (λ_ _=>rfl)) (qc (vr 2) (qc (vr 7) qg)))) (vr 1)) qg))))))))
  (qo (qr (jx (yi rfl) rfl Z.z_tuple kA (vd (i:=5) rfl (aw rfl) (by decide))))))))
abbrev vZ:Stmt:=top 31
abbrev zH:List Str:=["thing"]
theorem Kf:FnScope zH ["thing"] (qf vZ):=fsc
noncomputable def uS:Sl->Out (Fl×Sl):=(sIf (QG (xT (qv [.vl,.vl,.vl] jr (qd (qe 0) (qd (dC (.int 1)) (qd (dC (.int 99)) qE)))))) (kJ "NoRoom" (qd (dC (.str "a room is a whole number from 1 to 99")) qE)) jJ)
noncomputable abbrev wa:List D->Out (D×List D):=ki zH [.val] (uS)
abbrev ue P w K mg base cv:=DefOk P w K mg base cv 2 "check_room" ["thing"] [.val] .sh (wa)
theorem Kg (Z:Zt K mg cv ca) (T:qY K mg "check_room" vZ ["thing"]) (o:jT P w K mg base cv):ue P w K mg base cv:=
 qJ (k:=1) (own':=[]) (fb:=uS) T Kf λcdv f A outer s H E h=>(qo (jo (jB (jn rfl (qm o h (by decide) qK rfl (qc (vr 0) (qc qt (qc (xq Z.c_MOST_ROOM rfl) qg)))) (λ_=>rfl))) (qo (kU rfl (zA rfl) rfl rfl (Z.mref "NoRoom" (by decide +kernel)) (Z.xs.val "NoRoom" (by decide +kernel)) (Z.xin "NoRoom" (by decide +kernel)) (qc vg qg))) qV))
abbrev km:Stmt:=top 28
abbrev uT:List Str:=["thing", "count", "room"]
theorem Kh:FnScope uT ["thing", "count", "room"] (qf km):=fsc
noncomputable def uU:Sl->Out (Fl×Sl):=(qT (sIf (dOr (QG (xT (d1 (gh "tuple") (qe 0)))) (jb (d2 neD (d1 jD (qe 0)) (qe 1)))) (jM (dC (.bl iw))) jJ)
  (jM (d1 GM (jw [] 1 [2] (jZ (qe 0)) (gNm 0) ftT (qv [.vl,.vl,.vl] jr (qd (qe 0) (qd (dC (.int 0)) (qd (d2 JB (qe 1) (dC (.int 1))) qE))))))))
noncomputable abbrev uV:List D->Out (D×List D):=ki uT [.val,.val,.val] (uU)
abbrev xJ P w K mg base cv:=DefOk P w K mg base cv 2 "is_numbers" ["thing", "count", "room"] [.val,.val,.val] .sh (uV)
theorem Ki (Z:Zt K mg cv ca) (T:qY K mg "is_numbers" km ["thing", "count", "room"]) (o:jT P w K mg base cv):xJ P w K mg base cv:=
 qJ (k:=1) (own':=[]) (fb:=uU) T Kh λcdv f A outer s H E h=>(ql (jo (PW.pt (uC (jB (jn rfl (xu rfl rfl Z.z_isinstance qA rfl Z.z_tuple kA (vr 0)) (λ_=>rfl))) (kr (qP (JC rfl h.units) (qH (jv rfl) rfl Z.z_len jq (vr 0)) (vr 1))))) (qo (qr gJ)) qV)
  (qo (qr (qH (Jf rfl rfl) rfl Z.z_all Jl (jQ (N:=["number", "room"]) (nt:=1) (cap:=[2]) rfl (vN (names:=(qf km).names) rfl (by decide +kernel)) (jV (names:=(qf km).names) (N:=uT) rfl rfl (by decide +kernel)) (qW rfl (vr 0)) (λfp L s1 H1=>(qy (i:=0) (show aU (["number", "room"]:List Str) from by decide +kernel) rfl (aw rfl))) (λfp L s1 H1=>jm) (λfp L s1 H1=>(qm o h (by decide) yA rfl (qc (vr 0) (qc qt (qc (qR zy (vr 1) qt) qg))))))))))
abbrev kC:Stmt:=top 33
abbrev uW:List Str:=["thing", "count", "room"]
theorem zV:FnScope uW ["thing", "count", "room"] (qf kC):=fsc
noncomputable def vH:Sl->Out (Fl×Sl):=(sIf (QG (xT (qv [.vl,.vl,.vl] uV (qd (qe 0) (qd (qe 1) (qd (qe 2) qE)))))) (kJ "NoNumbers" (qd (dC (.str "numbers are a tuple of a number within the room for each word")) qE)) jJ)
noncomputable abbrev vI:List D->Out (D×List D):=ki uW [.val,.val,.val] (vH)
abbrev uw P w K mg base cv:=DefOk P w K mg base cv 3 "check_numbers" ["thing", "count", "room"] [.val,.val,.val] .sh (vI)
theorem zW (Z:Zt K mg cv ca) (T:qY K mg "check_numbers" kC ["thing", "count", "room"]) (o:xJ P w K mg base cv):uw P w K mg base cv:=
 qJ (k:=2) (own':=[]) (fb:=vH) T zV λcdv f A outer s H E h=>(qo (jo (jB (jn rfl (qm o h (by decide) qK rfl (qc (vr 0) (qc (vr 1) (qc (vr 2) qg)))) (λ_=>rfl))) (qo (kU rfl (zA rfl) rfl rfl (Z.mref "NoNumbers" (by decide +kernel)) (Z.xs.val "NoNumbers" (by decide +kernel)) (Z.xin "NoNumbers" (by decide +kernel)) (qc vg qg))) qV))
abbrev wb:Stmt:=top 41
abbrev zI:List Str:=["words", "look", "room", "numbers", "seen"]
theorem sc_told_pairs:FnScope zI ["words", "look", "room", "numbers"] (qf wb):=fsc
noncomputable def uX:Sl->Out (Fl×Sl):=(qT (jz 4 (qv [.vl,.vl] wU (qd (qe 0) (qd (qe 1) qE))))
  (qT (kD (qv [.vl] wa (qd (qe 2) qE)))
  (qT (kD (qv [.vl,.vl,.vl] vI (qd (qe 3) (qd (d1 jD (qe 0)) (qd (qe 2) qE)))))
  (jM (qe 4)))))
noncomputable abbrev wc:List D->Out (D×List D):=ki zI [.val,.val,.val,.val] (uX)
abbrev uf P w K mg base cv:=DefOk P w K mg base cv 6 "told_pairs" ["words", "look", "room", "numbers"] [.val,.val,.val,.val] .sh (wc)
theorem Kj (Z:Zt K mg cv ca) (T:qY K mg "told_pairs" wb ["words", "look", "room", "numbers"]) (C:ue P w K mg base cv) (M:uw P w K mg base cv) (o:yj P w K mg base cv):uf P w K mg base cv:=
 qJ (k:=5) (own':=[]) (fb:=uX) T sc_told_pairs λcdv f A outer s H E h=>(ql (qG (i:=4) sc_told_pairs.nd rfl (aw rfl) (qm o h (by decide) qK rfl (qc (vr 0) (qc (vr 1) qg))))
  (ql (jl (qm C h (by decide) qK rfl (qc (vr 2) qg)))
  (ql (jl (qm M h (by decide) qK rfl (qc (vr 3) (qc (qH (jv rfl) rfl Z.z_len jq (vr 0)) (qc (vr 2) qg)))))
  (qo (qr (vr 4))))))
abbrev Xe:Stmt:=top 45
abbrev qdv:List Str:=["walk", "room", "numbers", "total"]
theorem sc_bars:FnScope qdv ["walk", "room", "numbers"] (qf Xe):=fsc
noncomputable def Xf:Sl->Out (Fl×Sl):=(qT (jz 3 (qv [.vl,.vl,.vl] vy (qd (qe 0) (qd (qe 2) (qd (dC (.int 0)) qE)))))
  (qT (sIf (xT (qv [.vl] wW (qd (qe 0) qE))) (jM (Vt (d2 eqD (d2 wq (qe 1) (dC (.int 2))) (dC (.int 0))) (d2 eqD (d2 wq (qe 3) (dC (.int 2))) (dC (.int 1))))) jJ)
  (jM (d2 neD (d2 wq (qe 3) (qe 1)) (dC (.int 0))))))
noncomputable abbrev Xg:List D->Out (D×List D):=ki qdv [.val,.val,.val] (Xf)
abbrev qax P w K mg base cv:=DefOk P w K mg base cv 2 "bars" ["walk", "room", "numbers"] [.val,.val,.val] .sh (Xg)
theorem qeX (Z:Zt K mg cv ca) (T:qY K mg "bars" Xe ["walk", "room", "numbers"]) (o:wZ P w K mg base cv) (a:xH P w K mg base cv):qax P w K mg base cv:=
 qJ (k:=1) (own':=[]) (fb:=Xf) T sc_bars λcdv f A outer s H E h=>(ql (qG (i:=3) sc_bars.nd rfl (aw rfl) (qm o h (by decide) qK rfl (qc (vr 0) (qc (vr 2) (qc qt qg)))))
  (ql (jo (jn rfl (qm a h (by decide) qK rfl (qc (vr 0) qg)) (λ_=>rfl)) (qo (qr (Vu (yD (wN rfl h.units) (qR kE (vr 1) qt) qt) (Yp (yD (wN rfl h.units) (qR kE (vr 3) qt) qt))))) qV)
  (qo (qr (yD (JC rfl h.units) (qR kE (vr 3) (vr 1)) qt)))))
abbrev ym:Stmt:=top 50
abbrev gq:List Str:=["seen", "room", "numbers", "circles", "first", "joined", "root", "walk"]
theorem sc_bar_of:FnScope gq ["seen", "room", "numbers"] (qf ym):=fsc
noncomputable def Kk:Sl->Out (Fl×Sl):=(qT (jz 3 (qv [.vl,.vl] vY (qd (qe 0) (qd (qv [.vl] wE (qd (qe 0) qE)) qE))))
  (qT (jz 4 (qv [.vl] wY (qd (qe 3) qE)))
  (qT (jz 5 (jw [] 2 [4] (jZ (qe 3)) (jL 2 (qD (gNm 0) (qD (gNm 1) jK))) (xT (qv [.vl] wW (qd (qe 1) qE))) (vM (qd (qe 0) (qd (d2 kb (d2 ixD (qe 2) (qe 0)) (qe 1)) qE)))))
  (qT (QK (jZ (d2 kb (qe 3) (qe 5))) (jL 2 (qD (gNm 6) (qD (gNm 7) jK)))
  (sIf (xT (qv [.vl,.vl,.vl] Xg (qd (qe 7) (qd (qe 1) (qd (qe 2) qE))))) (jM (vM (qd (qe 6) (qd (qe 7) qE)))) jJ))
  (jM (dC .non))))))
noncomputable abbrev Kl:List D->Out (D×List D):=ki gq [.val,.val,.val] (Kk)
abbrev Wb P w K mg base cv:=DefOk P w K mg base cv 4 "bar_of" ["seen", "room", "numbers"] [.val,.val,.val] .sh (Kl)
theorem qay (Z:Zt K mg cv ca) (T:qY K mg "bar_of" ym ["seen", "room", "numbers"]) (a:xH P w K mg base cv) (O:qax P w K mg base cv) (o:yk P w K mg base cv) (B:wV P w K mg base cv) (b:uR P w K mg base cv):Wb P w K mg base cv:=
 qJ (k:=3) (own':=[]) (fb:=Kk) T sc_bar_of λcdv f A outer s H E h=>(ql (qG (i:=3) sc_bar_of.nd rfl (aw rfl) (qm B h (by decide) qK rfl (qc (vr 0) (qc (qm o h (by decide) qK rfl (qc (vr 0) qg)) qg))))
  (ql (qG (i:=4) sc_bar_of.nd rfl (ci rfl) (qm b h (by decide) qK rfl (qc (vr 3) qg)))
  (ql (xm (N:=["root", "walk", "first"]) (nt:=2) (cap:=[4]) sc_bar_of.nd (i:=5) rfl (aw rfl) rfl (vN (names:=(qf ym).names) rfl (by decide +kernel)) (jV (names:=(qf ym).names) (N:=gq) rfl rfl (by decide +kernel)) (qW rfl (vr 3)) (λfp L s1 H1=>(vB rfl rfl (qL (qy (i:=0) (show aU (["root", "walk", "first"]:List Str) from by decide +kernel) rfl (aw rfl)) (qL (qy (i:=1) (show aU (["root", "walk", "first"]:List Str) from by decide +kernel) rfl (aw rfl)) kw)))) (λfp L s1 H1=>(JI (jn rfl (qm a h (by decide) yA rfl (qc (vr 1) qg)) (λ_=>rfl)))) (λfp L s1 H1=>(jX (qc (vr 0) (qc (qR (jI rfl) (ji rfl h.units (vr 2) (vr 0) (λ_ _=>rfl)) (vr 1)) qg)))))
  (ql (kf aR rfl (qW rfl (qR (jI rfl) (vr 3) (vd (i:=5) rfl (aw rfl) (by decide)))) (vB rfl rfl (qL (qy (i:=6) sc_bar_of.nd rfl (aw rfl)) (qL (qy (i:=7) sc_bar_of.nd rfl (aw rfl)) kw)))
  (qo (jo (jn rfl (qm O h (by decide) qK rfl (qc (vr 7) (qc (vr 1) (qc (vr 2) qg)))) (λ_=>rfl)) (qo (qr (jX (qc (vr 6) (qc (vr 7) qg))))) qV)))
  (qo (qr Vq))))))
abbrev qcD:Stmt:=top 51
abbrev qg1:List Str:=["words", "look", "room", "numbers"]
theorem qg2:FnScope qg1 ["words", "look", "room", "numbers"] (qf qcD):=fsc
noncomputable def qeY:Sl->Out (Fl×Sl):=(jM (qv [.vl,.vl,.vl] Kl (qd (qv [.vl,.vl,.vl,.vl] wc (qd (qe 0) (qd (qe 1) (qd (qe 2) (qd (qe 3) qE))))) (qd (qe 2) (qd (qe 3) qE)))))
noncomputable abbrev qeZ:List D->Out (D×List D):=ki qg1 [.val,.val,.val,.val] (qeY)
abbrev qdw P w K mg base cv:=DefOk P w K mg base cv 7 "bar" ["words", "look", "room", "numbers"] [.val,.val,.val,.val] .sh (qeZ)
theorem qg3 (Z:Zt K mg cv ca) (T:qY K mg "bar" qcD ["words", "look", "room", "numbers"]) (o:uf P w K mg base cv) (O:Wb P w K mg base cv):qdw P w K mg base cv:=
 qJ (k:=6) (own':=[]) (fb:=qeY) T qg2 λcdv f A outer s H E h=>(qo (qr (qm O h (by decide) qK rfl (qc (qm o h (by decide) qK rfl (qc (vr 0) (qc (vr 1) (qc (vr 2) (qc (vr 3) qg))))) (qc (vr 2) (qc (vr 3) qg))))))
abbrev yn:Stmt:=top 58
abbrev zg:List Str:=["words", "look", "room", "numbers", "count", "root", "choices"]
theorem sc_how_many:FnScope zg ["words", "look", "room", "numbers"] (qf yn):=fsc
noncomputable def yo:Sl->Out (Fl×Sl):=(qT (sIf (jb (d2 qbU (qv [.vl,.vl,.vl,.vl] qeZ (qd (qe 0) (qd (qe 1) (qd (qe 2) (qd (qe 3) qE))))) (dC .non))) (jM (dC (.int 0))) jJ)
  (qT (jz 4 (dC (.int 1)))
  (qT (QK (jZ (qv [.vl,.vl,.vl] kM (qd (qv [.vl,.vl] wU (qd (qe 0) (qd (qe 1) qE))) (qd (qe 2) (qd (qe 3) qE))))) (jL 2 (qD (gNm 5) (qD (gNm 6) jK)))
  (jz 4 (d2 WQ (qe 4) (d1 jD (qe 6)))))
  (jM (qe 4)))))
noncomputable abbrev zh:List D->Out (D×List D):=ki zg [.val,.val,.val,.val] (yo)
abbrev Qo P w K mg base cv:=DefOk P w K mg base cv 8 "how_many" ["words", "look", "room", "numbers"] [.val,.val,.val,.val] .sh (zh)
theorem Us (Z:Zt K mg cv ca) (T:qY K mg "how_many" yn ["words", "look", "room", "numbers"]) (m:yj P w K mg base cv) (O:qdw P w K mg base cv) (o:ua P w K mg base cv):Qo P w K mg base cv:=
 qJ (k:=7) (own':=[]) (fb:=yo) T sc_how_many λcdv f A outer s H E h=>(ql (jo (qP qel (qm O h (by decide) qK rfl (qc (vr 0) (qc (vr 1) (qc (vr 2) (qc (vr 3) qg))))) Vq) (qo (qr qt)) qV)
  (ql (qG (i:=4) sc_how_many.nd rfl (aw rfl) qt)
  (ql (kf aR rfl (qW rfl (qm o h (by decide) qK rfl (qc (qm m h (by decide) qK rfl (qc (vr 0) (qc (vr 1) qg))) (qc (vr 2) (qc (vr 3) qg))))) (vB rfl rfl (qL (qy (i:=5) sc_how_many.nd rfl (aw rfl)) (qL (qy (i:=6) sc_how_many.nd rfl (aw rfl)) kw)))
  (qo (qG (i:=4) sc_how_many.nd rfl (aw rfl) (qR QY (vr 4) (qH (jv rfl) rfl Z.z_len jq (vr 6))))))
  (qo (qr (vr 4))))))
abbrev ug:Stmt:=top 59
abbrev yT:List Str:=["roots", "at", "starts", "rest", "root", "choices"]
theorem sc_starts_at:FnScope yT ["roots", "at"] (qf ug):=fsc
noncomputable def yU:Sl->Out (Fl×Sl):=(qT (jz 2 (dC (.dct [])))
  (qT (jz 3 (qe 1))
  (qT (QK (qiS (qe 0)) (jL 2 (qD (gNm 4) (qD (gNm 5) jK)))
  (qT (zU 2 (d2 ixD (qe 5) (d2 wq (qe 3) (d1 jD (qe 5)))) (qe 4))
  (jz 3 (d2 xS (qe 3) (d1 jD (qe 5))))))
  (jM (qe 2)))))
noncomputable abbrev yV:List D->Out (D×List D):=ki yT [.val,.val] (yU)
abbrev zJ P w K mg base cv:=DefOk P w K mg base cv 1 "starts_at" ["roots", "at"] [.val,.val] .sh (yV)
theorem Wc (Z:Zt K mg cv ca) (T:qY K mg "starts_at" ug ["roots", "at"]):zJ P w K mg base cv:=
 qJ (k:=0) (own':=[]) (fb:=yU) T sc_starts_at λcdv f A outer s H E h=>(ql (ka (i:=2) sc_starts_at.nd rfl (aw rfl) JD)
  (ql (qG (i:=3) sc_starts_at.nd rfl (aw rfl) (vr 1))
  (ql (kf aR rfl (qeU rfl rfl Z.z_reversed (vr 0)) (vB rfl rfl (qL (qy (i:=4) sc_starts_at.nd rfl (aw rfl)) (qL (qy (i:=5) sc_starts_at.nd rfl (aw rfl)) kw)))
  (ql (gk (n:=2) h.units rfl (aw rfl) (by decide) (ji rfl h.units (vr 5) (qR kE (vr 3) (qH (jv rfl) rfl Z.z_len jq (vr 5))) (λ_ _=>rfl)) (vr 4))
  (qo (qG (i:=3) sc_starts_at.nd rfl (aw rfl) (qR gK (vr 3) (qH (jv rfl) rfl Z.z_len jq (vr 5)))))))
  (kP [2] (qo (qr (vr 2)))))))
abbrev uh:Stmt:=top 60
abbrev Qp:List Str:=["words", "look", "room", "numbers", "at", "count", "seen"]
theorem sc_worths_at:FnScope Qp ["words", "look", "room", "numbers", "at"] (qf uh):=fsc
noncomputable def yW:Sl->Out (Fl×Sl):=(qT (jz 5 (qv [.vl,.vl,.vl,.vl] zh (qd (qe 0) (qd (qe 1) (qd (qe 2) (qd (qe 3) qE))))))
  (qT (sIf (QG (xT (qv [.vl,.vl,.vl] jr (qd (qe 4) (qd (dC (.int 0)) (qd (d2 JB (qe 5) (dC (.int 1))) qE)))))) (kJ "NoPlace" (qd (dC (.str "there are no worths of this number")) qE)) jJ)
  (qT (jz 6 (qv [.vl,.vl] wU (qd (qe 0) (qd (qe 1) qE))))
  (jM (qv [.vl,.vl,.vl,.vl] ud (qd (qe 6) (qd (qe 2) (qd (qe 3) (qd (qv [.vl,.vl] yV (qd (qv [.vl,.vl,.vl] kM (qd (qe 6) (qd (qe 2) (qd (qe 3) qE)))) (qd (qe 4) qE))) qE)))))))))
noncomputable abbrev ui:List D->Out (D×List D):=ki Qp [.val,.val,.val,.val,.val] (yW)
abbrev zK P w K mg base cv:=DefOk P w K mg base cv 9 "worths_at" ["words", "look", "room", "numbers", "at"] [.val,.val,.val,.val,.val] .sh (ui)
theorem We (Z:Zt K mg cv ca) (T:qY K mg "worths_at" uh ["words", "look", "room", "numbers", "at"]) (a:jT P w K mg base cv) (m:yj P w K mg base cv) (o:ua P w K mg base cv) (Q:yI P w K mg base cv) (b:Qo P w K mg base cv) (X:zJ P w K mg base cv):zK P w K mg base cv:=
 qJ (k:=8) (own':=[]) (fb:=yW) T sc_worths_at λcdv f A outer s H E h=>(ql (qG (i:=5) sc_worths_at.nd rfl (aw rfl) (qm b h (by decide) qK rfl (qc (vr 0) (qc (vr 1) (qc (vr 2) (qc (vr 3) qg))))))
  (ql (jo (jB (jn rfl (qm a h (by decide) qK rfl (qc (vr 4) (qc qt (qc (qR zy (vr 5) qt) qg)))) (λ_=>rfl))) (qo (kU rfl (zA rfl) rfl rfl (Z.mref "NoPlace" (by decide +kernel)) (Z.xs.val "NoPlace" (by decide +kernel)) (Z.xin "NoPlace" (by decide +kernel)) (qc vg qg))) qV)
  (ql (qG (i:=6) sc_worths_at.nd rfl (aw rfl) (qm m h (by decide) qK rfl (qc (vr 0) (qc (vr 1) qg))))
  (qo (qr (qm Q h (by decide) qK rfl (qc (vr 6) (qc (vr 2) (qc (vr 3) (qc (qm X h (by decide) qK rfl (qc (qm o h (by decide) qK rfl (qc (vr 6) (qc (vr 2) (qc (vr 3) qg)))) (qc (vr 4) qg))) qg))))))))))
abbrev yp:Stmt:=top 63
abbrev Jo:List Str:=["_law_script", "_law_k"]
theorem Ut:FnScope Jo ["_law_script", "_law_k"] (qf yp):=fsc
noncomputable def wG:Sl->Out (Fl×Sl):=(qT (sIf (jb (d2 ltD (qe 1) (d1 jD (qe 0)))) (jM (d2 ixD (qe 0) (qe 1))) jJ)
  (qT (sIf (jb (d2 eqD (qe 0) (yz qE))) (jM (dC (.int 0))) jJ)
  (jM (d2 kb (d2 WQ (d2 ixD (qe 0) (d2 wq (qe 1) (d1 jD (qe 0)))) (dC (.int 31))) (qe 1)))))
noncomputable abbrev zi:List D->Out (D×List D):=ki Jo [.val,.val] (wG)
abbrev Qq P w K mg base cv:=DefOk P w K mg base cv 1 "_law_cell_at" ["_law_script", "_law_k"] [.val,.val] .sh (zi)
theorem Uu (Z:Zt K mg cv ca) (T:qY K mg "_law_cell_at" yp ["_law_script", "_law_k"]):Qq P w K mg base cv:=
 qJ (k:=0) (own':=[]) (fb:=wG) T Ut λcdv f A outer s H E h=>(ql (jo (qP qiu (vr 1) (qH (jv rfl) rfl Z.z_len jq (vr 0))) (qo (qr (ji rfl h.units (vr 0) (vr 1) (λ_ _=>rfl)))) qV)
  (ql (jo (qP (wN rfl h.units) (vr 0) (jO qg)) (qo (qr qt)) qV)
  (qo (qr (qR (jI rfl) (qR QY (ji rfl h.units (vr 0) (qR kE (vr 1) (qH (jv rfl) rfl Z.z_len jq (vr 0))) (λ_ _=>rfl)) qt) (vr 1))))))
abbrev gt:Stmt:=top 64
abbrev Xh:List Str:=["_law_script", "_law_k", "_law_many", "_law_drawn"]
theorem sc_Lmixed:FnScope Xh ["_law_script", "_law_k", "_law_many"] (qf gt):=fsc
noncomputable def Km:Sl->Out (Fl×Sl):=(qT (jz 3 (d2 wq (d2 kb (d2 kb (d2 WQ (qv [.vl,.vl] zi (qd (qe 0) (qd (qe 1) qE))) (dC (.int 1103515245))) (d2 WQ (dC (.int 7919)) (qe 1))) (dC (.int 12345))) (dC (.int 2147483647))))
  (jM (d2 wq (d2 wq (d2 wq (d2 qiR (qe 3) (dC (.int 5))) (dC (.int 2147483647))) (dC (.int 999983))) (qe 2))))
noncomputable abbrev Kn:List D->Out (D×List D):=ki Xh [.val,.val,.val] (Km)
abbrev Wf P w K mg base cv:=DefOk P w K mg base cv 2 "_law_mixed" ["_law_script", "_law_k", "_law_many"] [.val,.val,.val] .sh (Kn)
theorem qaz (Z:Zt K mg cv ca) (T:qY K mg "_law_mixed" gt ["_law_script", "_law_k", "_law_many"]) (o:Qq P w K mg base cv):Wf P w K mg base cv:=
 qJ (k:=1) (own':=[]) (fb:=Km) T sc_Lmixed λcdv f A outer s H E h=>(ql (qG (i:=3) sc_Lmixed.nd rfl (aw rfl) (qR kE (qR (jI rfl) (qR (jI rfl) (qR QY (qm o h (by decide) qK rfl (qc (vr 0) (qc (vr 1) qg))) qt) (qR QY qt (vr 1))) qt) qt))
  (qo (qr (qR kE (qR kE (qR kE (qR qgR (vr 3) qt) qt) qt) (vr 2)))))
abbrev Ko:Stmt:=top 65
abbrev qaA:List Str:=["_law_script", "_law_town", "_law_many"]
theorem qcE:FnScope qaA ["_law_script", "_law_town", "_law_many"] (qf Ko):=fsc
noncomputable def Uv:Sl->Out (Fl×Sl):=(qT (kD (gN 1 JK (dC (.int 0))))
  (jM (qv [.vl,.vl,.vl] Kn (qd (qe 0) (qd (d1 jD (qe 1)) (qd (qe 2) qE))))))
noncomputable abbrev jF:List D->Out (D×List D):=ki qaA [.val,.io,.val] (Uv)
abbrev uj P w K mg base cv:=DefOk P w K mg base cv 3 "_law_draw" ["_law_script", "_law_town", "_law_many"] [.val,.io,.val] .sh (jF)
theorem qcF (Z:Zt K mg cv ca) (T:qY K mg "_law_draw" Ko ["_law_script", "_law_town", "_law_many"]) (O:Wf P w K mg base cv):uj P w K mg base cv:=
 qJ (k:=2) (own':=[1]) (fb:=Uv) T qcE λcdv f A outer s H E h=>(ql (jl (ww (i:=1) rfl rfl (aw rfl) (by decide) qt))
  (qo (qr (qm O h (by decide) qK rfl (qc (vr 0) (qc (qH (jv rfl) rfl Z.z_len jq (vd (i:=1) rfl (aw rfl) (by decide))) (qc (vr 2) qg)))))))
abbrev Kp:Stmt:=top 66
abbrev qaB:List Str:=["_law_script", "_law_town", "_law_some"]
theorem qcG:FnScope qaB ["_law_script", "_law_town", "_law_some"] (qf Kp):=fsc
noncomputable def Uw:Sl->Out (Fl×Sl):=(jM (d2 ixD (qe 2) (qv [.vl,.sl 1,.vl] jF (qd (qe 0) (kt (qd (d1 jD (qe 2)) qE))))))
noncomputable abbrev zj:List D->Out (D×List D):=ki qaB [.val,.io,.val] (Uw)
abbrev gu P w K mg base cv:=DefOk P w K mg base cv 4 "_law_pick" ["_law_script", "_law_town", "_law_some"] [.val,.io,.val] .sh (zj)
theorem qcH (Z:Zt K mg cv ca) (T:qY K mg "_law_pick" Kp ["_law_script", "_law_town", "_law_some"]) (o:uj P w K mg base cv):gu P w K mg base cv:=
 qJ (k:=3) (own':=[1]) (fb:=Uw) T qcG λcdv f A outer s H E h=>(qo (qr (ji rfl h.units (vr 2) (qm o h (by decide) qK rfl (qc (vr 0) (je (i:=1) rfl (aw rfl) (by decide) (qc (qH (jv rfl) rfl Z.z_len jq (vr 2)) qg)))) (λ_ _=>rfl))))
abbrev ZA:Stmt:=top 70
abbrev qe0:List Str:=["_law_word_here", "_law_place", "_law_spots"]
theorem sc_Lat:FnScope qe0 ["_law_word_here", "_law_place"] (qf ZA):=fsc
noncomputable def qg4:Sl->Out (Fl×Sl):=(qT (jz 2 (jw [] 1 [1,0] (ke (d1 jD (qe 0))) (gNm 0) (dOr (jb (d2 eqD (qe 0) (qe 1))) (jb (d2 eqD (qe 0) (d2 kb (qe 1) (d1 jD (qe 2)))))) (qe 0)))
  (qT (sIf (jb (d2 neD (qe 2) (yz qE))) (jM (d2 ixD (qe 0) (d2 ixD (qe 2) (dC (.int 0))))) jJ)
  (jM (dIf (jb (d2 geD (qe 1) (dC (.int 0)))) (d2 ixD (qe 0) (d1 qfD (dC (.int 1)))) (d2 ixD (qe 0) (dC (.int 0)))))))
noncomputable abbrev qaC:List D->Out (D×List D):=ki qe0 [.val,.val] (qg4)
abbrev qdx P w K mg base cv:=DefOk P w K mg base cv 1 "_law_at" ["_law_word_here", "_law_place"] [.val,.val] .sh (qaC)
theorem qg5 (Z:Zt K mg cv ca) (T:qY K mg "_law_at" ZA ["_law_word_here", "_law_place"]):qdx P w K mg base cv:=
 qJ (k:=0) (own':=[]) (fb:=qg4) T sc_Lat λcdv f A outer s H E h=>(ql (xm (N:=["_law_at_here", "_law_place", "_law_word_here"]) (nt:=1) (cap:=[1,0]) sc_Lat.nd (i:=2) rfl (aw rfl) rfl (vN (names:=(qf ZA).names) rfl (by decide +kernel)) (jV (names:=(qf ZA).names) (N:=qe0) rfl rfl (by decide +kernel)) (wv rfl Z.z_range (qH (jv rfl) rfl Z.z_len jq (vr 0))) (λfp L s1 H1=>(qy (i:=0) (show aU (["_law_at_here", "_law_place", "_law_word_here"]:List Str) from by decide +kernel) rfl (aw rfl))) (λfp L s1 H1=>(JI (PW.pt (uC (qP (wN rfl h.units) (vr 0) (vr 1)) (kr (qP (wN rfl h.units) (vr 0) (qR (jI rfl) (vr 1) (qH (jv rfl) rfl Z.z_len jq (vr 2))))))))) (λfp L s1 H1=>(vr 0)))
  (kP [2] (ql (jo (qP (JC rfl h.units) (vr 2) (jO qg)) (qo (qr (ji rfl h.units (vr 0) (ji rfl h.units (vr 2) qt (λ_ _=>rfl)) (λ_ _=>rfl)))) qV)
  (qo (qr (Vv (qP qek (vr 1) qt) (ji rfl h.units (vr 0) (qbP Yy qt) (λ_ _=>rfl)) (ji rfl h.units (vr 0) qt (λ_ _=>rfl))))))))
abbrev zk:Stmt:=top 71
abbrev Kq:List Str:=["_law_words_here", "_law_look_here"]
theorem qcI:FnScope Kq ["_law_words_here", "_law_look_here"] (qf zk):=fsc
noncomputable def Ux:Sl->Out (Fl×Sl):=(jM (jw [] 1 [1] (jZ (qe 0)) (gNm 0) ftT (vM (qd (qv [.vl,.vl] qaC (qd (qe 0) (qd (d2 ixD (qe 1) (dC (.int 0))) qE))) (qd (qv [.vl,.vl] qaC (qd (qe 0) (qd (d2 ixD (qe 1) (dC (.int 1))) qE))) qE)))))
noncomputable abbrev Qr:List D->Out (D×List D):=ki Kq [.val,.val] (Ux)
abbrev Kr P w K mg base cv:=DefOk P w K mg base cv 2 "_law_seen" ["_law_words_here", "_law_look_here"] [.val,.val] .sh (Qr)
theorem qcJ (Z:Zt K mg cv ca) (T:qY K mg "_law_seen" zk ["_law_words_here", "_law_look_here"]) (O:qdx P w K mg base cv):Kr P w K mg base cv:=
 qJ (k:=1) (own':=[]) (fb:=Ux) T qcI λcdv f A outer s H E h=>(qo (qr (jQ (N:=["_law_word_here", "_law_look_here"]) (nt:=1) (cap:=[1]) rfl (vN (names:=(qf zk).names) rfl (by decide +kernel)) (jV (names:=(qf zk).names) (N:=Kq) rfl rfl (by decide +kernel)) (qW rfl (vr 0)) (λfp L s1 H1=>(qy (i:=0) (show aU (["_law_word_here", "_law_look_here"]:List Str) from by decide +kernel) rfl (aw rfl))) (λfp L s1 H1=>jm) (λfp L s1 H1=>(jX (qc (qm O h (by decide) yA rfl (qc (vr 0) (qc (ji rfl h.units (vr 1) qt (λ_ _=>rfl)) qg))) (qc (qm O h (by decide) yA rfl (qc (vr 0) (qc (ji rfl h.units (vr 1) qt (λ_ _=>rfl)) qg))) qg)))))))
abbrev ZB:Stmt:=top 73
abbrev qcK:List Str:=["_law_words_here", "_law_look_here", "_law_room", "_law_book"]
theorem qg6:FnScope qcK ["_law_words_here", "_law_look_here", "_law_room", "_law_book"] (qf ZB):=fsc
noncomputable def qe1:Sl->Out (Fl×Sl):=(jM (d1 wx (jw [] 2 [2,3] (jZ (qv [.vl,.vl] Qr (qd (qe 0) (qd (qe 1) qE)))) (jL 2 (qD (gNm 0) (qD (gNm 1) jK))) ftT (d2 wq (d2 kb (d2 ixD (qe 3) (qe 0)) (d2 ixD (qe 3) (qe 1))) (qe 2)))))
noncomputable abbrev qaD:List D->Out (D×List D):=ki qcK [.val,.val,.val,.val] (qe1)
abbrev qaE P w K mg base cv:=DefOk P w K mg base cv 3 "_law_by" ["_law_words_here", "_law_look_here", "_law_room", "_law_book"] [.val,.val,.val,.val] .sh (qaD)
theorem qg7 (Z:Zt K mg cv ca) (T:qY K mg "_law_by" ZB ["_law_words_here", "_law_look_here", "_law_room", "_law_book"]) (o:Kr P w K mg base cv):qaE P w K mg base cv:=
 qJ (k:=2) (own':=[]) (fb:=qe1) T qg6 λcdv f A outer s H E h=>(qo (qr (jx (yi rfl) rfl Z.z_tuple kA (jQ (N:=["_law_one", "_law_other", "_law_room", "_law_book"]) (nt:=2) (cap:=[2,3]) rfl (vN (names:=(qf ZB).names) rfl (by decide +kernel)) (jV (names:=(qf ZB).names) (N:=qcK) rfl rfl (by decide +kernel)) (qW rfl (qm o h (by decide) qK rfl (qc (vr 0) (qc (vr 1) qg)))) (λfp L s1 H1=>(vB rfl rfl (qL (qy (i:=0) (show aU (["_law_one", "_law_other", "_law_room", "_law_book"]:List Str) from by decide +kernel) rfl (aw rfl)) (qL (qy (i:=1) (show aU (["_law_one", "_law_other", "_law_room", "_law_book"]:List Str) from by decide +kernel) rfl (aw rfl)) kw)))) (λfp L s1 H1=>jm) (λfp L s1 H1=>(qR kE (qR (jI rfl) (ji rfl h.units (vr 3) (vr 0) (λ_ _=>rfl)) (ji rfl h.units (vr 3) (vr 1) (λ_ _=>rfl))) (vr 2)))))))
abbrev zl:Stmt:=top 67
abbrev Uy:List Str:=["_law_script", "_law_town", "_law_letters_here", "_law_most"]
theorem qcL:FnScope Uy ["_law_script", "_law_town", "_law_letters_here", "_law_most"] (qf zl):=fsc
noncomputable def Uz:Sl->Out (Fl×Sl):=(jM (d1 (qae "") (jw [1] 1 [0,1,2] (ke (d2 kb (dC (.int 1)) (qv [.vl,.sl 1,.vl] jF (qd (qe 0) (kt (qd (qe 3) qE)))))) (gNm 0) ftT (qv [.vl,.sl 2,.vl] zj (qd (qe 1) (kt (qd (qe 3) qE)))))))
noncomputable abbrev Ks:List D->Out (D×List D):=ki Uy [.val,.io,.val,.val] (Uz)
abbrev Xi P w K mg base cv:=DefOk P w K mg base cv 5 "_law_word" ["_law_script", "_law_town", "_law_letters_here", "_law_most"] [.val,.io,.val,.val] .sh (Ks)
theorem qcM (Z:Zt K mg cv ca) (T:qY K mg "_law_word" zl ["_law_script", "_law_town", "_law_letters_here", "_law_most"]) (o:uj P w K mg base cv) (G:gu P w K mg base cv):Xi P w K mg base cv:=
 qJ (k:=4) (own':=[1]) (fb:=Uz) T qcL λcdv f A outer s H E h=>(qo (qr (qeM rfl (jQ (N:=["_law_k", "_law_script", "_law_town", "_law_letters_here"]) (nt:=1) (cap:=[0,1,2]) rfl (vN (names:=(qf zl).names) rfl (by decide +kernel)) (jV (names:=(qf zl).names) (N:=Uy) rfl rfl (by decide +kernel)) (wv rfl Z.z_range (qR (jI rfl) qt (qm o h (by decide) qK rfl (qc (vr 0) (je (i:=1) rfl (ci (aw rfl)) (by decide) (qc (vr 3) qg)))))) (λfp L s1 H1=>(qy (i:=0) (show aU (["_law_k", "_law_script", "_law_town", "_law_letters_here"]:List Str) from by decide +kernel) rfl (aw rfl))) (λfp L s1 H1=>jm) (λfp L s1 H1=>(qm G h (by decide) yA rfl (qc (vr 1) (je (i:=2) rfl (by first | exact ci (ci rfl) | exact ci (aw rfl)) (by decide) (qc (vr 3) qg)))))))))
abbrev gx:Stmt:=top 68
abbrev Xj:List Str:=["_law_script", "_law_town", "_law_most", "_law_letters_here", "_law_made", "_law_k", "_law_word_here"]
theorem sc_Lwords:FnScope Xj ["_law_script", "_law_town", "_law_most"] (qf gx):=fsc
noncomputable def Kt:Sl->Out (Fl×Sl):=(qT (jz 3 (qv [.vl,.sl 1,.vl] zj (qd (qe 0) (kt (qd (yz λρ=>.ok ([(.lst [(.str "a"),(.str "b")]),(.lst [(.str "a"),(.str "b"),(.str "c")]),(.lst [(.str "a"),(.str "b"),(.str "c"),(.str "d")]),(.lst [(.str "k"),(.str "m"),(.str "z"),(.str "a"),(.str "e")])],ρ)) qE)))))
  (qT (jz 4 (yz qE))
  (qT (QK (ke (d2 kb (dC (.int 1)) (qv [.vl,.sl 1,.vl] jF (qd (qe 0) (kt (qd (qe 2) qE)))))) (gNm 5)
  (qT (jz 6 (qv [.vl,.sl 1,.vl,.vl] Ks (qd (qe 0) (kt (qd (qe 3) (qd (dC (.int 6)) qE))))))
  (sIf (jb (d2 JO (qe 6) (qe 4))) (kD (gN 4 JK (qe 6))) jJ)))
  (jM (d1 wx (qe 4))))))
noncomputable abbrev Ku:List D->Out (D×List D):=ki Xj [.val,.io,.val] (Kt)
abbrev Wg P w K mg base cv:=DefOk P w K mg base cv 6 "_law_words" ["_law_script", "_law_town", "_law_most"] [.val,.io,.val] .sh (Ku)
theorem qaF (Z:Zt K mg cv ca) (T:qY K mg "_law_words" gx ["_law_script", "_law_town", "_law_most"]) (o:uj P w K mg base cv) (G:gu P w K mg base cv) (O:Xi P w K mg base cv):Wg P w K mg base cv:=
 qJ (k:=5) (own':=[1]) (fb:=Kt) T sc_Lwords λcdv f A outer s H E h=>(ql (qG (i:=3) sc_Lwords.nd rfl (aw rfl) (qm G h (by decide) qK rfl (qc (vr 0) (je (i:=1) rfl (aw rfl) (by decide) (qc (qam 16 rfl) qg)))))
  (ql (ka (i:=4) sc_Lwords.nd rfl (aw rfl) (jO qg))
  (ql (kf aR rfl (wv rfl Z.z_range (qR (jI rfl) qt (qm o h (by decide) qK rfl (qc (vr 0) (je (i:=1) rfl (aw rfl) (by decide) (qc (vr 2) qg)))))) (qy (i:=5) sc_Lwords.nd rfl (aw rfl))
  (ql (qG (i:=6) sc_Lwords.nd rfl (aw rfl) (qm O h (by decide) qK rfl (qc (vr 0) (je (i:=1) rfl (aw rfl) (by decide) (qc (vr 3) (qc qt qg))))))
  (qo (jo (qP (xw rfl h.units) (vr 6) (vd (i:=4) rfl (aw rfl) (by decide))) (qo (jl (ww (i:=4) rfl rfl (aw rfl) (by decide) (vr 6)))) qV))))
  (qo (qr (jx (yi rfl) rfl Z.z_tuple kA (vd (i:=4) rfl (aw rfl) (by decide))))))))
abbrev Kv:Stmt:=top 69
abbrev qaG:List Str:=["_law_script", "_law_town"]
theorem qcN:FnScope qaG ["_law_script", "_law_town"] (qf Kv):=fsc
noncomputable def UA:Sl->Out (Fl×Sl):=(jM (vM (qd (d2 JB (qv [.vl,.sl 1,.vl] jF (qd (qe 0) (kt (qd (dC (.int 6)) qE)))) (dC (.int 3))) (qd (d2 JB (qv [.vl,.sl 1,.vl] jF (qd (qe 0) (kt (qd (dC (.int 6)) qE)))) (dC (.int 3))) qE))))
noncomputable abbrev UB:List D->Out (D×List D):=ki qaG [.val,.io] (UA)
abbrev Xk P w K mg base cv:=DefOk P w K mg base cv 4 "_law_look" ["_law_script", "_law_town"] [.val,.io] .sh (UB)
theorem qcO (Z:Zt K mg cv ca) (T:qY K mg "_law_look" Kv ["_law_script", "_law_town"]) (o:uj P w K mg base cv):Xk P w K mg base cv:=
 qJ (k:=3) (own':=[1]) (fb:=UA) T qcN λcdv f A outer s H E h=>(qo (qr (jX (qc (qR zy (qm o h (by decide) qK rfl (qc (vr 0) (je (i:=1) rfl (aw rfl) (by decide) (qc qt qg)))) qt) (qc (qR zy (qm o h (by decide) qK rfl (qc (vr 0) (je (i:=1) rfl (aw rfl) (by decide) (qc qt qg)))) qt) qg)))))
abbrev yq:Stmt:=top 72
abbrev Jp:List Str:=["_law_words_here", "_law_look_here", "_law_made", "_law_pair"]
theorem sc_Lletters:FnScope Jp ["_law_words_here", "_law_look_here"] (qf yq):=fsc
noncomputable def zm:Sl->Out (Fl×Sl):=(qT (jz 2 (yz qE))
  (qT (QK (jZ (qv [.vl,.vl] Qr (qd (qe 0) (qd (qe 1) qE)))) (gNm 3)
  (kD (gN 2 GK (d1 VH (qe 3)))))
  (jM (d1 vR (qe 2)))))
noncomputable abbrev vz:List D->Out (D×List D):=ki Jp [.val,.val] (zm)
abbrev yX P w K mg base cv:=DefOk P w K mg base cv 3 "_law_letters" ["_law_words_here", "_law_look_here"] [.val,.val] .sh (vz)
theorem UC (Z:Zt K mg cv ca) (T:qY K mg "_law_letters" yq ["_law_words_here", "_law_look_here"]) (o:Kr P w K mg base cv):yX P w K mg base cv:=
 qJ (k:=2) (own':=[]) (fb:=zm) T sc_Lletters λcdv f A outer s H E h=>(ql (ka (i:=2) sc_Lletters.nd rfl (aw rfl) (jO qg))
  (ql (kf aR rfl (qW rfl (qm o h (by decide) qK rfl (qc (vr 0) (qc (vr 1) qg)))) (qy (i:=3) sc_Lletters.nd rfl (aw rfl))
  (qo (jl (xp (i:=2) rfl (aw rfl) (by decide) (jx (WW rfl) rfl Z.z_list Qb (vr 3))))))
  (qo (qr (xY rfl rfl rfl Z.z_sorted uJ rfl Z.z_set Xb (vd (i:=2) rfl (aw rfl) (by decide)))))))
abbrev zn:Stmt:=top 74
abbrev Kw:List Str:=["_law_script", "_law_town", "_law_most", "_law_wide", "_law_spoil", "_law_room", "_law_look_here", "_law_names", "_law_book", "_law_numbers", "_law_k"]
theorem sc_Ltold:FnScope Kw ["_law_script", "_law_town", "_law_most", "_law_wide"] (qf zn):=fsc
noncomputable def UD:Sl->Out (Fl×Sl):=(qT (jz 4 (qv [.vl,.sl 1,.vl] jF (qd (qe 0) (kt (qd (dC (.int 4)) qE)))))
  (qT (jz 5 (d2 kb (dC (.int 1)) (qv [.vl,.sl 1,.vl] jF (qd (qe 0) (kt (qd (qe 3) qE))))))
  (qT (jz 6 (qv [.vl,.sl 1] UB (qd (qe 0) (kt qE))))
  (qT (jz 7 (qv [.vl,.sl 1,.vl] Ku (qd (qe 0) (kt (qd (qe 2) qE)))))
  (qT (jz 8 (d1 Xa (jw [1] 1 [0,1,5] (jZ (qv [.vl,.vl] vz (qd (qe 7) (qd (qe 6) qE)))) (gNm 0) ftT (vM (qd (qe 0) (qd (qv [.vl,.sl 2,.vl] jF (qd (qe 1) (kt (qd (qe 3) qE)))) qE))))))
  (qT (jz 9 (d1 VH (qv [.vl,.vl,.vl,.vl] qaD (qd (qe 7) (qd (qe 6) (qd (qe 5) (qd (qe 8) qE)))))))
  (qT (QK (ke (d2 WQ (d2 xS (qe 4) (dC (.int 2))) (d2 kb (dC (.int 1)) (d2 wq (qe 4) (dC (.int 2)))))) (gNm 10)
  (YY 9 (qv [.vl,.sl 1,.vl] jF (qd (qe 0) (kt (qd (qe 5) qE)))) (qv [.vl,.sl 1,.vl] jF (qd (qe 0) (kt (qd (d1 jD (qe 9)) qE))))))
  (jM (vM (qd (qe 7) (qd (qe 6) (qd (qe 5) (qd (d1 wx (qe 9)) qE)))))))))))))
noncomputable abbrev UE:List D->Out (D×List D):=ki Kw [.val,.io,.val,.val] (UD)
abbrev Xl P w K mg base cv:=DefOk P w K mg base cv 7 "_law_told" ["_law_script", "_law_town", "_law_most", "_law_wide"] [.val,.io,.val,.val] .sh (UE)
theorem qcP (Z:Zt K mg cv ca) (T:qY K mg "_law_told" zn ["_law_script", "_law_town", "_law_most", "_law_wide"]) (o:uj P w K mg base cv) (b:Wg P w K mg base cv) (O:Xk P w K mg base cv) (a:yX P w K mg base cv) (Y:qaE P w K mg base cv):Xl P w K mg base cv:=
 qJ (k:=6) (own':=[1]) (fb:=UD) T sc_Ltold λcdv f A outer s H E h=>(ql (qG (i:=4) sc_Ltold.nd rfl (aw rfl) (qm o h (by decide) qK rfl (qc (vr 0) (je (i:=1) rfl (ci (aw rfl)) (by decide) (qc qt qg)))))
  (ql (qG (i:=5) sc_Ltold.nd rfl (ci rfl) (qR (jI rfl) qt (qm o h (by decide) qK rfl (qc (vr 0) (je (i:=1) rfl (ci (aw rfl)) (by decide) (qc (vr 3) qg))))))
  (ql (qG (i:=6) sc_Ltold.nd rfl (aw rfl) (qm O h (by decide) qK rfl (qc (vr 0) (je (i:=1) rfl (ci (aw rfl)) (by decide) qg))))
  (ql (qG (i:=7) sc_Ltold.nd rfl (aw rfl) (qm b h (by decide) qK rfl (qc (vr 0) (je (i:=1) rfl (ci (aw rfl)) (by decide) (qc (vr 2) qg)))))
  (ql (qG (i:=8) sc_Ltold.nd rfl (aw rfl) (jx (qcx rfl rfl) rfl Z.z_dict JU (jQ (N:=["_law_letter", "_law_script", "_law_town", "_law_room"]) (nt:=1) (cap:=[0,1,5]) rfl (vN (names:=(qf zn).names) rfl (by decide +kernel)) (jV (names:=(qf zn).names) (N:=Kw) rfl rfl (by decide +kernel)) (qW rfl (qm a h (by decide) qK rfl (qc (vr 7) (qc (vr 6) qg)))) (λfp L s1 H1=>(qy (i:=0) (show aU (["_law_letter", "_law_script", "_law_town", "_law_room"]:List Str) from by decide +kernel) rfl (aw rfl))) (λfp L s1 H1=>jm) (λfp L s1 H1=>(jX (qc (vr 0) (qc (qm o h (by decide) yA rfl (qc (vr 1) (je (i:=2) rfl (by first | exact ci (ci rfl) | exact ci (aw rfl)) (by decide) (qc (vr 3) qg)))) qg)))))))
  (ql (ka (i:=9) sc_Ltold.nd rfl (aw rfl) (jx (WW rfl) rfl Z.z_list Qb (qm Y h (by decide) qK rfl (qc (vr 7) (qc (vr 6) (qc (vr 5) (qc (vr 8) qg)))))))
  (ql (kf aR rfl (wv rfl Z.z_range (qR QY (qR gK (vr 4) qt) (qR (jI rfl) qt (qR kE (vr 4) qt)))) (qy (i:=10) sc_Ltold.nd rfl (aw rfl))
  (qo (qan (n:=9) rfl (aw rfl) (by decide) (qm o h (by decide) qK rfl (qc (vr 0) (je (i:=1) rfl (ci (aw rfl)) (by decide) (qc (vr 5) qg)))) (qm o h (by decide) qK rfl (qc (vr 0) (je (i:=1) rfl (ci (aw rfl)) (by decide) (qc (qH (jv rfl) rfl Z.z_len jq (vd (i:=9) rfl (aw rfl) (by decide))) qg)))))))
  (qo (qr (jX (qc (vr 7) (qc (vr 6) (qc (vr 5) (qc (jx (yi rfl) rfl Z.z_tuple kA (vd (i:=9) rfl (aw rfl) (by decide))) qg))))))))))))))
abbrev yr:Stmt:=top 75
abbrev gy:List Str:=["_law_words_here", "_law_look_here", "_law_room", "_law_rows", "_law_letter", "_law_longer", "_law_line"]
theorem sc_Levery:FnScope gy ["_law_words_here", "_law_look_here", "_law_room"] (qf yr):=fsc
noncomputable def Ky:Sl->Out (Fl×Sl):=(qT (jz 3 (yz λρ=>.ok ([(.tup [])],ρ)))
  (qT (QK (jZ (qv [.vl,.vl] vz (qd (qe 0) (qd (qe 1) qE)))) (gNm 4)
  (qT (jz 5 (yz qE))
  (qT (QK (jZ (qe 3)) (gNm 6)
  (kD (gN 5 GK (jw [5] 1 [6,4] (ke (qe 2)) (gNm 0) ftT (d2 kb (qe 1) (vM (qd (vM (qd (qe 2) (qd (qe 0) qE))) qE)))))))
  (jz 3 (qe 5)))))
  (jM (qe 3))))
noncomputable abbrev Kz:List D->Out (D×List D):=ki gy [.val,.val,.val] (Ky)
abbrev Wh P w K mg base cv:=DefOk P w K mg base cv 4 "_law_every" ["_law_words_here", "_law_look_here", "_law_room"] [.val,.val,.val] .sh (Kz)
theorem qaH (Z:Zt K mg cv ca) (T:qY K mg "_law_every" yr ["_law_words_here", "_law_look_here", "_law_room"]) (a:yX P w K mg base cv):Wh P w K mg base cv:=
 qJ (k:=3) (own':=[]) (fb:=Ky) T sc_Levery λcdv f A outer s H E h=>(ql (qG (i:=3) sc_Levery.nd rfl (aw rfl) (qam 7 rfl))
  (ql (kf aR rfl (qW rfl (qm a h (by decide) qK rfl (qc (vr 0) (qc (vr 1) qg)))) (qy (i:=4) sc_Levery.nd rfl (ci rfl))
  (ql (ka (i:=5) sc_Levery.nd rfl (aw rfl) (jO qg))
  (ql (kf aR rfl (qW rfl (vr 3)) (qy (i:=6) sc_Levery.nd rfl (ci rfl))
  (qo (jl (xp (i:=5) rfl (aw rfl) (by decide) (jQ (N:=["_law_worth", "_law_line", "_law_letter"]) (nt:=1) (cap:=[6,4]) rfl (vN (names:=(qf yr).names) rfl (by decide +kernel)) (jV (names:=(qf yr).names) (N:=gy) rfl rfl (by decide +kernel)) (wv rfl Z.z_range (vr 2)) (λfp L s1 H1=>(qy (i:=0) (show aU (["_law_worth", "_law_line", "_law_letter"]:List Str) from by decide +kernel) rfl (aw rfl))) (λfp L s1 H1=>jm) (λfp L s1 H1=>(qR (jI rfl) (vr 1) (jX (qc (jX (qc (vr 2) (qc (vr 0) qg))) qg)))))))))
  (kP [5] (qo (qG (i:=3) sc_Levery.nd rfl (aw rfl) (vr 5)))))))
  (qo (qr (vr 3)))))
abbrev yt:Stmt:=top 26
abbrev Jq:List Str:=["thing", "room"]
theorem UF:FnScope Jq ["thing", "room"] (qf yt):=fsc
noncomputable def kN:Sl->Out (Fl×Sl):=(qT (sIf (dOr (QG (xT (d1 (gh "tuple") (qe 0)))) (jb (d2 neD (d1 jD (qe 0)) (dC (.int 2))))) (jM (dC (.bl iw))) jJ)
  (jM (Vt (qv [.vl] vF (qd (d2 ixD (qe 0) (dC (.int 0))) qE)) (qv [.vl,.vl,.vl] jr (qd (d2 ixD (qe 0) (dC (.int 1))) (qd (dC (.int 0)) (qd (d2 JB (qe 1) (dC (.int 1))) qE)))))))
noncomputable abbrev yu:List D->Out (D×List D):=ki Jq [.val,.val] (kN)
abbrev Qs P w K mg base cv:=DefOk P w K mg base cv 2 "is_worth" ["thing", "room"] [.val,.val] .sh (yu)
theorem UG (Z:Zt K mg cv ca) (T:qY K mg "is_worth" yt ["thing", "room"]) (o:jT P w K mg base cv) (F:uK P w K mg base cv):Qs P w K mg base cv:=
 qJ (k:=1) (own':=[]) (fb:=kN) T UF λcdv f A outer s H E h=>(ql (jo (PW.pt (uC (jB (jn rfl (xu rfl rfl Z.z_isinstance qA rfl Z.z_tuple kA (vr 0)) (λ_=>rfl))) (kr (qP (JC rfl h.units) (qH (jv rfl) rfl Z.z_len jq (vr 0)) qt)))) (qo (qr gJ)) qV)
  (qo (qr (Vu (qm F h (by decide) qK rfl (qc (ji rfl h.units (vr 0) qt (λ_ _=>rfl)) qg)) (Yp (qm o h (by decide) qK rfl (qc (ji rfl h.units (vr 0) qt (λ_ _=>rfl)) (qc qt (qc (qR zy (vr 1) qt) qg)))))))))
abbrev jR:Stmt:=top 27
abbrev ul:List Str:=["thing", "room", "letters"]
theorem sc_is_worths:FnScope ul ["thing", "room"] (qf jR):=fsc
noncomputable def vJ:Sl->Out (Fl×Sl):=(qT (sIf (dOr (QG (xT (d1 (gh "tuple") (qe 0)))) (QG (xT (d1 GM (jw [] 1 [1] (jZ (qe 0)) (gNm 0) ftT (qv [.vl,.vl] yu (qd (qe 0) (qd (qe 1) qE)))))))) (jM (dC (.bl iw))) jJ)
  (qT (jz 2 (jw [] 1 [] (jZ (qe 0)) (gNm 0) ftT (d2 ixD (qe 0) (dC (.int 0)))))
  (jM (d2 eqD (qe 2) (d1 vR (qe 2))))))
noncomputable abbrev jS:List D->Out (D×List D):=ki ul [.val,.val] (vJ)
abbrev zL P w K mg base cv:=DefOk P w K mg base cv 3 "is_worths" ["thing", "room"] [.val,.val] .sh (jS)
theorem Wi (Z:Zt K mg cv ca) (T:qY K mg "is_worths" jR ["thing", "room"]) (o:Qs P w K mg base cv):zL P w K mg base cv:=
 qJ (k:=2) (own':=[]) (fb:=vJ) T sc_is_worths λcdv f A outer s H E h=>(ql (jo (PW.pt (uC (jB (jn rfl (xu rfl rfl Z.z_isinstance qA rfl Z.z_tuple kA (vr 0)) (λ_=>rfl))) (kr (jB (jn rfl (qH (Jf rfl rfl) rfl Z.z_all Jl (jQ (N:=["part", "room"]) (nt:=1) (cap:=[1]) rfl (vN (names:=(qf jR).names) rfl (by decide +kernel)) (jV (names:=(qf jR).names) (N:=ul) rfl rfl (by decide +kernel)) (qW rfl (vr 0)) (λfp L s1 H1=>(qy (i:=0) (show aU (["part", "room"]:List Str) from by decide +kernel) rfl (aw rfl))) (λfp L s1 H1=>jm) (λfp L s1 H1=>(qm o h (by decide) yA rfl (qc (vr 0) (qc (vr 1) qg)))))) (λ_=>rfl)))))) (qo (qr gJ)) qV)
  (ql (xm (N:=["part"]) (nt:=1) (cap:=[]) sc_is_worths.nd (i:=2) rfl (aw rfl) rfl (vN (names:=(qf jR).names) rfl (by decide +kernel)) (jV (names:=(qf jR).names) (N:=ul) rfl rfl (by decide +kernel)) (qW rfl (vr 0)) (λfp L s1 H1=>(qy (i:=0) (show aU (["part"]:List Str) from by decide +kernel) rfl (aw rfl))) (λfp L s1 H1=>jm) (λfp L s1 H1=>(ji rfl h.units (vr 0) qt (λ_ _=>rfl))))
  (kP [2] (qo (qr (yD (wN rfl h.units) (vr 2) (xY rfl rfl rfl Z.z_sorted uJ rfl Z.z_set Xb (vr 2))))))))
abbrev kT:Stmt:=top 32
abbrev yJ:List Str:=["thing", "room"]
theorem Qt:FnScope yJ ["thing", "room"] (qf kT):=fsc
noncomputable def wn:Sl->Out (Fl×Sl):=(sIf (QG (xT (qv [.vl,.vl] jS (qd (qe 0) (qd (qe 1) qE))))) (kJ "NoWorths" (qd (dC (.str "worths are a rising tuple of unlike letters, each with a number within the room")) qE)) jJ)
noncomputable abbrev wo:List D->Out (D×List D):=ki yJ [.val,.val] (wn)
abbrev uY P w K mg base cv:=DefOk P w K mg base cv 4 "check_worths" ["thing", "room"] [.val,.val] .sh (wo)
theorem Qu (Z:Zt K mg cv ca) (T:qY K mg "check_worths" kT ["thing", "room"]) (o:zL P w K mg base cv):uY P w K mg base cv:=
 qJ (k:=3) (own':=[]) (fb:=wn) T Qt λcdv f A outer s H E h=>(qo (jo (jB (jn rfl (qm o h (by decide) qK rfl (qc (vr 0) (qc (vr 1) qg))) (λ_=>rfl))) (qo (kU rfl (zA rfl) rfl rfl (Z.mref "NoWorths" (by decide +kernel)) (Z.xs.val "NoWorths" (by decide +kernel)) (Z.xin "NoWorths" (by decide +kernel)) (qc vg qg))) qV))
abbrev gz:Stmt:=top 38
abbrev Xm:List Str:=["total", "room"]
theorem qaI:FnScope Xm ["total", "room"] (qf gz):=fsc
noncomputable def KA:Sl->Out (Fl×Sl):=(jM (dIf (jb (d2 geD (qe 0) (qe 1))) (d2 JB (qe 0) (qe 1)) (qe 0)))
noncomputable abbrev gA:List D->Out (D×List D):=ki Xm [.val,.val] (KA)
abbrev Wj P w K mg base cv:=DefOk P w K mg base cv 1 "within" ["total", "room"] [.val,.val] .sh (gA)
theorem qaJ (Z:Zt K mg cv ca) (T:qY K mg "within" gz ["total", "room"]):Wj P w K mg base cv:=
 qJ (k:=0) (own':=[]) (fb:=KA) T qaI λcdv f A outer s H E h=>(qo (qr (Vv (qP qek (vr 0) (vr 1)) (qR zy (vr 0) (vr 1)) (vr 0))))
abbrev kn:Stmt:=top 39
abbrev yv:List Str:=["words", "look", "room", "worths", "seen", "worth_of"]
theorem sc_numbered:FnScope yv ["words", "look", "room", "worths"] (qf kn):=fsc
noncomputable def wH:Sl->Out (Fl×Sl):=(qT (jz 4 (qv [.vl,.vl] wU (qd (qe 0) (qd (qe 1) qE))))
  (qT (kD (qv [.vl] wa (qd (qe 2) qE)))
  (qT (kD (qv [.vl,.vl] wo (qd (qe 3) (qd (qe 2) qE))))
  (qT (jz 5 (d1 WX (qe 3)))
  (qT (sIf (QG (xT (d1 GM (jw [] 1 [5] (jZ (qv [.vl] js (qd (qe 4) qE))) (gNm 0) ftT (d2 inA (qe 0) (qe 1)))))) (kJ "NoWorths" (qd (dC (.str "a letter that is seen has no worth")) qE)) jJ)
  (jM (d1 wx (jw [] 1 [2,5] (jZ (qe 4)) (gNm 0) ftT (qv [.vl,.vl] gA (qd (d2 kb (d2 ixD (qe 2) (d2 ixD (qe 0) (dC (.int 0)))) (d2 ixD (qe 2) (d2 ixD (qe 0) (dC (.int 1))))) (qd (qe 1) qE)))))))))))
noncomputable abbrev jE:List D->Out (D×List D):=ki yv [.val,.val,.val,.val] (wH)
abbrev Qv P w K mg base cv:=DefOk P w K mg base cv 6 "numbered" ["words", "look", "room", "worths"] [.val,.val,.val,.val] .sh (jE)
theorem UH (Z:Zt K mg cv ca) (T:qY K mg "numbered" kn ["words", "look", "room", "worths"]) (C:ue P w K mg base cv) (O:uY P w K mg base cv) (m:yj P w K mg base cv) (o:vn P w K mg base cv) (d:Wj P w K mg base cv):Qv P w K mg base cv:=
 qJ (k:=5) (own':=[]) (fb:=wH) T sc_numbered λcdv f A outer s H E h=>(ql (qG (i:=4) sc_numbered.nd rfl (aw rfl) (qm m h (by decide) qK rfl (qc (vr 0) (qc (vr 1) qg))))
  (ql (jl (qm C h (by decide) qK rfl (qc (vr 2) qg)))
  (ql (jl (qm O h (by decide) qK rfl (qc (vr 3) (qc (vr 2) qg))))
  (ql (qG (i:=5) sc_numbered.nd rfl (ci rfl) (jx (WY rfl rfl) rfl Z.z_dict JU (vr 3)))
  (ql (jo (jB (jn rfl (qH (Jf rfl rfl) rfl Z.z_all Jl (jQ (N:=["letter", "worth_of"]) (nt:=1) (cap:=[5]) rfl (vN (names:=(qf kn).names) rfl (by decide +kernel)) (jV (names:=(qf kn).names) (N:=yv) rfl rfl (by decide +kernel)) (qW rfl (qm o h (by decide) qK rfl (qc (vr 4) qg))) (λfp L s1 H1=>(qy (i:=0) (show aU (["letter", "worth_of"]:List Str) from by decide +kernel) rfl (aw rfl))) (λfp L s1 H1=>jm) (λfp L s1 H1=>(yD (YO rfl h.units) (vr 0) (vr 1))))) (λ_=>rfl))) (qo (kU rfl (zA rfl) rfl rfl (Z.mref "NoWorths" (by decide +kernel)) (Z.xs.val "NoWorths" (by decide +kernel)) (Z.xin "NoWorths" (by decide +kernel)) (qc vg qg))) qV)
  (qo (qr (jx (yi rfl) rfl Z.z_tuple kA (jQ (N:=["pair", "room", "worth_of"]) (nt:=1) (cap:=[2,5]) rfl (vN (names:=(qf kn).names) rfl (by decide +kernel)) (jV (names:=(qf kn).names) (N:=yv) rfl rfl (by decide +kernel)) (qW rfl (vr 4)) (λfp L s1 H1=>(qy (i:=0) (show aU (["pair", "room", "worth_of"]:List Str) from by decide +kernel) rfl (aw rfl))) (λfp L s1 H1=>jm) (λfp L s1 H1=>(qm d h (by decide) yA rfl (qc (qR (jI rfl) (ji rfl h.units (vr 2) (ji rfl h.units (vr 0) qt (λ_ _=>rfl)) (λ_ _=>rfl)) (ji rfl h.units (vr 2) (ji rfl h.units (vr 0) qt (λ_ _=>rfl)) (λ_ _=>rfl))) (qc (vr 1) qg)))))))))))))
abbrev we:Stmt:=top 56
abbrev zM:List Str:=["words", "look", "room", "numbers", "thing", "given"]
theorem sc_is_telling:FnScope zM ["words", "look", "room", "numbers", "thing"] (qf we):=fsc
noncomputable def wf (ca:Str->Addr):Sl->Out (Fl×Sl):=(qT (kD (qv [.vl,.vl,.vl,.vl] wc (qd (qe 0) (qd (qe 1) (qd (qe 2) (qd (qe 3) qE))))))
  (qT (ZK 6 iq (qbu ca ["NoWorths"]) (jz 5 (qv [.vl,.vl,.vl,.vl] jE (qd (qe 0) (qd (qe 1) (qd (qe 2) (qd (qe 4) qE)))))) (jM (dC (.bl iw))))
  (jM (d2 eqD (qe 5) (qe 3)))))
noncomputable abbrev kY (ca:Str->Addr):List D->Out (D×List D):=ki zM [.val,.val,.val,.val,.val] (wf ca)
abbrev xK (ca:Str->Addr) P w K mg base cv:=DefOk P w K mg base cv 7 "is_telling" ["words", "look", "room", "numbers", "thing"] [.val,.val,.val,.val,.val] .sh (kY ca)
theorem KB (Z:Zt K mg cv ca) (T:qY K mg "is_telling" we ["words", "look", "room", "numbers", "thing"]) (a:Qv P w K mg base cv) (o:uf P w K mg base cv):xK ca P w K mg base cv:=
 qJ (k:=6) (own':=[]) (fb:=wf ca) T sc_is_telling λcdv f A outer s H E h=>(ql (jl (qm o h (by decide) qK rfl (qc (vr 0) (qc (vr 1) (qc (vr 2) (qc (vr 3) qg))))))
  (ql (qb1 (own2:=[]) (n:=6) rfl rfl rfl rfl (Z.mref "NoWorths" (by decide +kernel)) (qjZ (Z.xs.val "NoWorths" (by decide +kernel)) Z.s_NoWorths) rfl (λpn xe E hx=>(qo (qG (i:=5) sc_is_telling.nd rfl (aw rfl) (qm a h (by decide) hx rfl (qc (vr 0) (qc (vr 1) (qc (vr 2) (qc (vr 4) qg)))))))) (λe=>(qo (qr gJ))))
  (qo (qr (yD (wN rfl h.units) (vr 5) (vr 3))))))
abbrev yw:Stmt:=top 61
abbrev zo:List Str:=["words", "look", "room", "numbers", "thing", "is_one", "seen", "worth_of", "place", "root", "choices"]
theorem sc_place_of:FnScope zo ["words", "look", "room", "numbers", "thing"] (qf yw):=fsc
noncomputable def yx (ca:Str->Addr):Sl->Out (Fl×Sl):=(qT (jz 5 (qv [.vl,.vl,.vl,.vl,.vl] (kY ca) (qd (qe 0) (qd (qe 1) (qd (qe 2) (qd (qe 3) (qd (qe 4) qE)))))))
  (qT (jz 6 (qv [.vl,.vl] wU (qd (qe 0) (qd (qe 1) qE))))
  (qT (sIf (dOr (QG (xT (qe 5))) (jb (d2 neD (d1 jD (qe 4)) (d1 jD (qv [.vl] js (qd (qe 6) qE)))))) (kJ "NoWorths" (qd (dC (.str "these are no worths of just the letters that are seen, by which words have these numbers")) qE)) jJ)
  (qT (jz 7 (d1 WX (qe 4)))
  (qT (jz 8 (dC (.int 0)))
  (qT (QK (jZ (qv [.vl,.vl,.vl] kM (qd (qe 6) (qd (qe 2) (qd (qe 3) qE))))) (jL 2 (qD (gNm 9) (qD (gNm 10) jK)))
  (jz 8 (d2 kb (d2 WQ (qe 8) (d1 jD (qe 10))) (dM qfG uI (qe 10) (d2 ixD (qe 7) (qe 9))))))
  (jM (qe 8))))))))
noncomputable abbrev kO (ca:Str->Addr):List D->Out (D×List D):=ki zo [.val,.val,.val,.val,.val] (yx ca)
abbrev Qw (ca:Str->Addr) P w K mg base cv:=DefOk P w K mg base cv 8 "place_of" ["words", "look", "room", "numbers", "thing"] [.val,.val,.val,.val,.val] .sh (kO ca)
theorem UI (Z:Zt K mg cv ca) (T:qY K mg "place_of" yw ["words", "look", "room", "numbers", "thing"]) (m:yj P w K mg base cv) (a:vn P w K mg base cv) (o:ua P w K mg base cv) (S:xK ca P w K mg base cv):Qw ca P w K mg base cv:=
 qJ (k:=7) (own':=[]) (fb:=yx ca) T sc_place_of λcdv f A outer s H E h=>(ql (qG (i:=5) sc_place_of.nd rfl (aw rfl) (qm S h (by decide) qK rfl (qc (vr 0) (qc (vr 1) (qc (vr 2) (qc (vr 3) (qc (vr 4) qg)))))))
  (ql (qG (i:=6) sc_place_of.nd rfl (aw rfl) (qm m h (by decide) qK rfl (qc (vr 0) (qc (vr 1) qg))))
  (ql (jo (PW.pt (uC (jB (jn rfl (vr 5) (λ_=>rfl))) (kr (qP (JC rfl h.units) (qH (jv rfl) rfl Z.z_len jq (vr 4)) (qH (jv rfl) rfl Z.z_len jq (qm a h (by decide) qK rfl (qc (vr 6) qg))))))) (qo (kU rfl (zA rfl) rfl rfl (Z.mref "NoWorths" (by decide +kernel)) (Z.xs.val "NoWorths" (by decide +kernel)) (Z.xin "NoWorths" (by decide +kernel)) (qc vg qg))) qV)
  (ql (qG (i:=7) sc_place_of.nd rfl (aw rfl) (jx (WY rfl rfl) rfl Z.z_dict JU (vr 4)))
  (ql (qG (i:=8) sc_place_of.nd rfl (aw rfl) qt)
  (ql (kf aR rfl (qW rfl (qm o h (by decide) qK rfl (qc (vr 6) (qc (vr 2) (qc (vr 3) qg))))) (vB rfl rfl (qL (qy (i:=9) sc_place_of.nd rfl (aw rfl)) (qL (qy (i:=10) sc_place_of.nd rfl (aw rfl)) kw)))
  (qo (qG (i:=8) sc_place_of.nd rfl (aw rfl) (qR (jI rfl) (qR QY (vr 8) (qH (jv rfl) rfl Z.z_len jq (vr 10))) (YT cE d6 (YU rfl h.units) rfl (vr 10) (ji rfl h.units (vr 7) (vr 9) (λ_ _=>rfl)))))))
  (qo (qr (vr 8)))))))))
abbrev gB:Stmt:=top 76
abbrev Xn:List Str:=["_law_e", "_law_own"]
theorem sc_Lwhich:FnScope Xn ["_law_e"] (qf gB):=fsc
noncomputable def KC (ca:Str->Addr):Sl->Out (Fl×Sl):=(qT (jz 1 (yz (qd (d1 (QM (VM ca CS "NoWords")) (qe 0)) (qd (d1 (QM (VM ca CS "NoLook")) (qe 0)) (qd (d1 (QM (VM ca CS "NoNumbers")) (qe 0)) (qd (d1 (QM (VM ca CS "NoRoom")) (qe 0)) qE))))))
  (qT (kD (gN 1 GK (yz (qd (d1 (QM (VM ca CS "NoWord")) (qe 0)) (qd (d1 (QM (VM ca CS "NoWorths")) (qe 0)) (qd (d1 (QM (VM ca CS "Never")) (qe 0)) (qd (d1 (QM (VM ca CS "Full")) (qe 0)) qE)))))))
  (qT (kD (gN 1 GK (yz (qd (d1 (QM (VM ca CS "Known")) (qe 0)) (qd (d1 (QM (VM ca CS "NoPlace")) (qe 0)) (qd (d1 (QM (VM ca CS "NoLetters")) (qe 0)) (qd (d1 (QM (VM ca CS "NoText")) (qe 0)) qE)))))))
  (qT (kD (gN 1 JK (d1 (QM (VM ca CS "Nothing")) (qe 0))))
  (qT (sIf (dOr (jb (d2 neD (d1 (YF iA) (qe 1)) (dC (.int 1)))) (QG (xT (d1 (QM (qgG ca CS)) (qe 0))))) (jM (vM (qd (dC (.str "refused")) (qd (d1 qfD (dC (.int 1))) qE)))) jJ)
  (jM (vM (qd (dC (.str "refused")) (qd (d1 (YG iA) (qe 1)) qE)))))))))
noncomputable abbrev KG (ca:Str->Addr):List D->Out (D×List D):=ki Xn [.val] (KC ca)
abbrev Wl (ca:Str->Addr) P w K mg base cv:=qiz P w K mg base cv 1 "_law_which" ["_law_e"] [.val] .sh (KG ca)
theorem qaK (Z:Zt K mg cv ca) (T:qY K mg "_law_which" gB ["_law_e"]):Wl ca P w K mg base cv:=
 qiA (k:=0) (own':=[]) (fb:=KC ca) T sc_Lwhich λcdv f A outer s H E h=>(ql (ka (i:=1) sc_Lwhich.nd rfl (aw rfl) (jO (qc (wA rfl Z.z_isinstance qA rfl (Z.mref "NoWords" (by decide +kernel)) (Z.xs.ans (by decide +kernel)) (vr 0)) (qc (wA rfl Z.z_isinstance qA rfl (Z.mref "NoLook" (by decide +kernel)) (Z.xs.ans (by decide +kernel)) (vr 0)) (qc (wA rfl Z.z_isinstance qA rfl (Z.mref "NoNumbers" (by decide +kernel)) (Z.xs.ans (by decide +kernel)) (vr 0)) (qc (wA rfl Z.z_isinstance qA rfl (Z.mref "NoRoom" (by decide +kernel)) (Z.xs.ans (by decide +kernel)) (vr 0)) qg))))))
  (ql (jl (xp (i:=1) rfl (aw rfl) (by decide) (jO (qc (wA rfl Z.z_isinstance qA rfl (Z.mref "NoWord" (by decide +kernel)) (Z.xs.ans (by decide +kernel)) (vr 0)) (qc (wA rfl Z.z_isinstance qA rfl (Z.mref "NoWorths" (by decide +kernel)) (Z.xs.ans (by decide +kernel)) (vr 0)) (qc (wA rfl Z.z_isinstance qA rfl (Z.mref "Never" (by decide +kernel)) (Z.xs.ans (by decide +kernel)) (vr 0)) (qc (wA rfl Z.z_isinstance qA rfl (Z.mref "Full" (by decide +kernel)) (Z.xs.ans (by decide +kernel)) (vr 0)) qg)))))))
  (ql (jl (xp (i:=1) rfl (aw rfl) (by decide) (jO (qc (wA rfl Z.z_isinstance qA rfl (Z.mref "Known" (by decide +kernel)) (Z.xs.ans (by decide +kernel)) (vr 0)) (qc (wA rfl Z.z_isinstance qA rfl (Z.mref "NoPlace" (by decide +kernel)) (Z.xs.ans (by decide +kernel)) (vr 0)) (qc (wA rfl Z.z_isinstance qA rfl (Z.mref "NoLetters" (by decide +kernel)) (Z.xs.ans (by decide +kernel)) (vr 0)) (qc (wA rfl Z.z_isinstance qA rfl (Z.mref "NoText" (by decide +kernel)) (Z.xs.ans (by decide +kernel)) (vr 0)) qg)))))))
  (ql (jl (ww (i:=1) rfl rfl (aw rfl) (by decide) (wA rfl Z.z_isinstance qA rfl (Z.mref "Nothing" (by decide +kernel)) (Z.xs.ans (by decide +kernel)) (vr 0))))
  (kP [1] (ql (jo (PW.pt (uC (qP (JC rfl h.units) (qca rfl (vr 1)) qt) (kr (jB (jn rfl (qeC rfl Z.z_isinstance qA rfl Z.z_ValueError JT Z.xs.ansV (vr 0)) (λ_=>rfl)))))) (qo (qr (jX (qc vg (qc (qbP Yy qt) qg))))) qV)
  (qo (qr (jX (qc vg (qc (qcb rfl (vr 1)) qg)))))))))))
abbrev Xo:Stmt:=top 77
abbrev qdy:List Str:=["_law_names", "_law_look_here", "_law_room", "_law_numbers", "_law_thing", "_law_e"]
theorem sc_Lask:FnScope qdy ["_law_names", "_law_look_here", "_law_room", "_law_numbers", "_law_thing"] (qf Xo):=fsc
noncomputable def Xp (ca:Str->Addr):Sl->Out (Fl×Sl):=(ZK 6 (ip 5) (qbu ca CS) (jM (qv [.vl,.vl,.vl,.vl,.vl] (kO ca) (qd (qe 0) (qd (qe 1) (qd (qe 2) (qd (qe 3) (qd (qe 4) qE))))))) (jM (qv [.vl] (KG ca) (qd (qe 5) qE))))
noncomputable abbrev Jr (ca:Str->Addr):List D->Out (D×List D):=ki qdy [.val,.val,.val,.val,.val] (Xp ca)
abbrev qaL (ca:Str->Addr) P w K mg base cv:=DefOk P w K mg base cv 9 "_law_ask" ["_law_names", "_law_look_here", "_law_room", "_law_numbers", "_law_thing"] [.val,.val,.val,.val,.val] .sh (Jr ca)
theorem qe2 (Z:Zt K mg cv ca) (T:qY K mg "_law_ask" Xo ["_law_names", "_law_look_here", "_law_room", "_law_numbers", "_law_thing"]) (o:Qw ca P w K mg base cv) (O:Wl ca P w K mg base cv):qaL ca P w K mg base cv:=
 qJ (k:=8) (own':=[]) (fb:=Xp ca) T sc_Lask λcdv f A outer s H E h=>(qo (qex (own2:=[]) (n:=6) (j:=5) rfl rfl rfl rfl Z.m_WordError Z.xs.hit sc_Lask.nd rfl rfl rfl (λpn xe E hx=>(qo (qr (qm o h (by decide) hx rfl (qc (vr 0) (qc (vr 1) (qc (vr 2) (qc (vr 3) (qc (vr 4) qg))))))))) (λe=>(qo (qr (GJ O ((h.quiet.mono (by decide)).mark _) yA rfl (qc (vr 5) qg)))))))
abbrev KH:Stmt:=top 78
abbrev qaM:List Str:=["_law_script", "_law_town", "_law_choice", "_law_way", "_law_every_here", "_law_due", "_law_thing", "_law_told_here", "_law_odd", "_law_wrong", "_law_names", "_law_look_here", "_law_room", "_law_numbers"]
theorem sc_law:FnScope qaM ["_law_script"] (qf KH):=fsc
noncomputable def qe3 (ca:Str->Addr):Sl->Out (Fl×Sl):=(qT (jz 1 (yz qE))
  (qT (jz 2 (qv [.vl,.sl 1,.vl] jF (qd (qe 0) (kt (qd (dC (.int 9973)) qE)))))
  (qT (jz 3 (qv [.vl,.sl 1,.vl] jF (qd (qe 0) (kt (qd (dC (.int 4)) qE)))))
  (qT (qix (qv [.vl,.sl 1,.vl,.vl] UE (qd (qe 0) (kt (qd (dC (.int 5)) (qd (dC (.int 4)) qE))))) (jL 4 (qD (gNm 10) (qD (gNm 11) (qD (gNm 12) (qD (gNm 13) jK))))))
  (qT (jz 4 (qv [.vl,.vl,.vl] Kz (qd (qe 10) (qd (qe 11) (qd (qe 12) qE)))))
  (qT (jz 5 (jw [1] 1 [13,10,11,12] (jZ (qe 4)) (gNm 0) (jb (d2 eqD (qv [.vl,.vl,.vl,.vl] qaD (qd (qe 2) (qd (qe 3) (qd (qe 4) (qd (d1 WX (qe 0)) qE))))) (qe 1))) (qe 0)))
  (qT (jz 6 (dIf (dOr (jb (d2 eqD (qe 3) (dC (.int 0)))) (jb (d2 eqD (qe 5) (yz qE)))) (d2 ixD (qe 4) (d2 wq (qe 2) (d1 jD (qe 4)))) (d2 ixD (qe 5) (d2 wq (qe 2) (d1 jD (qe 5))))))
  (qT (jz 7 (qv [.vl,.vl,.vl,.vl,.vl] (Jr ca) (qd (qe 10) (qd (qe 11) (qd (qe 12) (qd (qe 13) (qd (qe 6) qE)))))))
  (qT (sIf (jb (d2 neD (qe 7) (dIf (jb (d2 inA (qe 6) (qe 5))) (dM qfG uI (qe 5) (qe 6)) (vM (qd (dC (.str "refused")) (qd (dC (.int 5)) qE)))))) (jM (dC (.bl iw))) jJ)
  (qT (sIf (qdk (jb (d2 inA (qe 6) (qe 5))) (jb (d2 neD (qv [.vl,.vl,.vl,.vl,.vl] ui (qd (qe 10) (qd (qe 11) (qd (qe 12) (qd (qe 13) (qd (qe 7) qE)))))) (qe 6)))) (jM (dC (.bl iw))) jJ)
  (qT (jz 8 (yz (qd (dC .non) (qd (dC (.int 5)) (qd (vM qE) (qd (d1 VH (qe 6)) (qd (d2 kb (qe 6) (dC (.tup [(.tup [(.str "zz"),(.int 0)])]))) (qd (YB (qe 6) (ip (dC (.int 1))) iq iq) (qd (d2 kb (YB (qe 6) iq iq (ip (d1 qfD (dC (.int 1))))) (qe 6)) (qd (dC (.tup [(.tup [(.str "a")])])) (qd (dC (.tup [(.tup [(.int 1),(.int 2)])])) (qd (dC (.str "a0")) qE))))))))))))
  (qT (jz 9 (qv [.vl,.sl 1,.vl] zj (qd (qe 0) (kt (qd (d2 kb (qe 8) (yz (qd (d1 wx (jw [1] 2 [] (jZ (qe 6)) (jL 2 (qD (gNm 0) (qD (gNm 1) jK))) ftT (vM (qd (qe 0) (qd (dC .non) qE))))) qE))) qE)))))
  (jM (d2 eqD (qv [.vl,.vl,.vl,.vl,.vl] (Jr ca) (qd (qe 10) (qd (qe 11) (qd (qe 12) (qd (qe 13) (qd (qe 9) qE)))))) (vM (qd (dC (.str "refused")) (qd (dC (.int 5)) qE)))))))))))))))))
noncomputable abbrev qcQ (ca:Str->Addr):List D->Out (D×List D):=ki qaM [.val] (qe3 ca)
theorem qg8 {f:Addr} {fd:iZ} (Z:Zt K mg cv ca) (F:Fun K "law" "law" KH f fd) (W:zK P w K mg base cv) (o:uj P w K mg base cv) (G:gu P w K mg base cv) (Y:qaE P w K mg base cv) (n:Xl P w K mg base cv) (j:Wh P w K mg base cv) (O:qaL ca P w K mg base cv):FnOk P w K mg base (CXk P w) 10 f fd ["_law_script"] (spD K cv [.val] .sh (qcQ ca)):=
 qji (k:=9) (own':=[]) (fb:=qe3 ca) F sc_law rfl (ut rfl) (.inl rfl) (λcdv A outer s H E h=>(ql (ka (i:=1) sc_law.nd rfl (aw rfl) (jO qg))
  (ql (qG (i:=2) sc_law.nd rfl (aw rfl) (qm o h (by decide) qK rfl (qc (vr 0) (je (i:=1) rfl (aw rfl) (by decide) (qc qt qg)))))
  (ql (qG (i:=3) sc_law.nd rfl (aw rfl) (qm o h (by decide) qK rfl (qc (vr 0) (je (i:=1) rfl (aw rfl) (by decide) (qc qt qg)))))
  (ql (qes (qm n h (by decide) qK rfl (qc (vr 0) (je (i:=1) rfl (aw rfl) (by decide) (qc qt (qc qt qg))))) (vB rfl rfl (qL (qy (i:=10) sc_law.nd rfl (ci rfl)) (qL (qy (i:=11) sc_law.nd rfl (ci rfl)) (qL (qy (i:=12) sc_law.nd rfl (ci rfl)) (qL (qy (i:=13) sc_law.nd rfl (ci rfl)) kw))))))
  (ql (qG (i:=4) sc_law.nd rfl (aw rfl) (qm j h (by decide) qK rfl (qc (vr 10) (qc (vr 11) (qc (vr 12) qg)))))
  (ql (xm (N:=["_law_line", "_law_numbers", "_law_names", "_law_look_here", "_law_room"]) (nt:=1) (cap:=[13,10,11,12]) sc_law.nd (i:=5) rfl (aw rfl) rfl (vN (names:=(qf KH).names) rfl (by decide +kernel)) (jV (names:=(qf KH).names) (N:=qaM) rfl rfl (by decide +kernel)) (qW rfl (vr 4)) (λfp L s1 H1=>(qy (i:=0) (show aU (["_law_line", "_law_numbers", "_law_names", "_law_look_here", "_law_room"]:List Str) from by decide +kernel) rfl (aw rfl))) (λfp L s1 H1=>(JI (qP (wN rfl h.units) (qm Y h (by decide) yA rfl (qc (vr 2) (qc (vr 3) (qc (vr 4) (qc (jx (WY rfl rfl) rfl Z.z_dict JU (vr 0)) qg))))) (vr 1)))) (λfp L s1 H1=>(vr 0)))
  (kP [5] (ql (qG (i:=6) sc_law.nd rfl (aw rfl) (Vv (PW.pt (uC (qP (wN rfl h.units) (vr 3) qt) (kr (qP (wN rfl h.units) (vr 5) (jO qg))))) (ji rfl h.units (vr 4) (qR kE (vr 2) (qH (jv rfl) rfl Z.z_len jq (vr 4))) (λ_ _=>rfl)) (ji rfl h.units (vr 5) (qR kE (vr 2) (qH (jv rfl) rfl Z.z_len jq (vr 5))) (λ_ _=>rfl))))
  (ql (qG (i:=7) sc_law.nd rfl (aw rfl) (qm O h (by decide) qK rfl (qc (vr 10) (qc (vr 11) (qc (vr 12) (qc (vr 13) (qc (vr 6) qg)))))))
  (ql (jo (qP (JC rfl h.units) (vr 7) (Vv (qP (YO rfl h.units) (vr 6) (vr 5)) (YT cE d6 (YU rfl h.units) rfl (vr 5) (vr 6)) (jX (qc vg (qc qt qg))))) (qo (qr gJ)) qV)
  (ql (jo (PW.pt (WR (qP (YO rfl h.units) (vr 6) (vr 5)) (kr (qP (JC rfl h.units) (qm W h (by decide) qK rfl (qc (vr 10) (qc (vr 11) (qc (vr 12) (qc (vr 13) (qc (vr 7) qg)))))) (vr 6))))) (qo (qr gJ)) qV)
  (ql (qG (i:=8) sc_law.nd rfl (aw rfl) (jO (qc Vq (qc qt (qc (jX qg) (qc (jx (WW rfl) rfl Z.z_list Qb (vr 6)) (qc (qR (jI rfl) (vr 6) (YX 10 rfl)) (qc (YD rfl (vr 6) (YC qt) gj gj) (qc (qR (jI rfl) (YD rfl (vr 6) gj gj (YC (qbP Yy qt))) (vr 6)) (qc (YX 9 rfl) (qc (YX 10 rfl) (qc vg qg))))))))))))
  (ql (qG (i:=9) sc_law.nd rfl (aw rfl) (qm G h (by decide) qK rfl (qc (vr 0) (je (i:=1) rfl (aw rfl) (by decide) (qc (qR (jI rfl) (vr 8) (jO (qc (jx (yi rfl) rfl Z.z_tuple kA (jQ (N:=["_law_letter", "_law_worth"]) (nt:=2) (cap:=[]) rfl (vN (names:=(qf KH).names) rfl (by decide +kernel)) (jV (names:=(qf KH).names) (N:=qaM) rfl rfl (by decide +kernel)) (qW rfl (vr 6)) (λfp L s1 H1=>(vB rfl rfl (qL (qy (i:=0) (show aU (["_law_letter", "_law_worth"]:List Str) from by decide +kernel) rfl (aw rfl)) (qL (qy (i:=1) (show aU (["_law_letter", "_law_worth"]:List Str) from by decide +kernel) rfl (aw rfl)) kw)))) (λfp L s1 H1=>jm) (λfp L s1 H1=>(jX (qc (vr 0) (qc Vq qg)))))) qg))) qg)))))
  (qo (qr (yD (wN rfl h.units) (qm O h (by decide) qK rfl (qc (vr 10) (qc (vr 11) (qc (vr 12) (qc (vr 13) (qc (vr 9) qg)))))) (jX (qc vg (qc qt qg)))))))))))))))))))) λ_=>.inr rfl
end
end Kx
namespace Kx
open PySem PySem.Spec L2 L2.D2
variable {α:Type}
theorem wk (xs:List α) (k:Nat):atI xs (k:Int)=xs[k]?:=by
 unfold atI ixN;rw [if_pos (by omega)];by_cases h:k < xs.length;·rw [if_pos (by omega)];simp
 ·rw [if_neg (by omega),cz (by omega)];rfl
variable {i:Int}
theorem qg9 {xs:List α} (a:0<=i) (h1:i < xs.length):∃ d,atI xs i=ip d/\d∈xs:=by
 obtain ⟨k,rfl⟩:=db a;have h:k < xs.length:=by omega
 exact ⟨xs[k],by rw [wk,aC h],bY h⟩
theorem big:2000<=sizeLine:=by rw [iI]; decide
abbrev scr (ns:List Int):D:=.lst (ns.map .int)
theorem qe4 (ns:List Int) (k:Nat):∃ i,zi [scr ns,.int k]=.ok (.int i,[.non,.non]):=by
 by_cases h:k < ns.length;·refine ⟨ns[k],?_⟩;refine runD_ap.trans ?_;simp [wG,qw,jD,ltD,ixD,qx,h,wk]
 ·by_cases a:ns=[]
  ·subst a;have b:¬((k:Int) < 0):=by omega
   exact ⟨0,by refine runD_ap.trans ?_; simp [wG,qw,jD,ltD,ixD,qx,eqD,eqN,vh,b]⟩
  ·have hp:0 < ns.length:=cr.mpr a;have c:k % ns.length < ns.length:=fW _ hp;have e:atI (ns.map D.int) ((k:Int) % (ns.length:Int))=ip (.int ns[k % ns.length]):=by rw [show ((k:Int) % (ns.length:Int))=((k % ns.length:Nat):Int) by simp,wk,aG,aC c];rfl
   refine ⟨ns[k % ns.length] * 31+k,?_⟩;refine runD_ap.trans ?_;simp [wG,qw,jD,ltD,ixD,qx,eqD,eqN,h,a,wq,WQ,kb,uu,hp,e,CMul]
variable {many:Int}
theorem qcR (ns:List Int) (k:Nat) (h:0 < many):∃ r,0<=r/\r < many/\Kn [scr ns,.int k,.int many]=.ok (.int r,[.non,.non,.non]):=by
 obtain ⟨c,a⟩:=qe4 ns k;have h1:=cI (c * 1103515245+7919 * k+12345) (show (2147483647:Int)≠0 by decide);have h2:=bV (c * 1103515245+7919 * k+12345) (show (0:Int) < 2147483647 by decide);generalize hd:(c * 1103515245+7919 * (k:Int)+12345) % 2147483647=d at h1 h2;have b:L2.D2.qfA d 5:=⟨⟨by omega,by omega⟩,by omega,by omega⟩
 refine ⟨d ^ 5 % 2147483647 % 999983 % many,cI _ (by omega),bV _ h,?_⟩;refine runD_ap.trans ?_;simp [Km,qw,qx,qC,jf,a,WQ,wq,kb,qiR,uu,h,hd,b,show ∀ j,CMul 7919 j from λj=>.inl ⟨by omega,by omega⟩,show ∀ i,CMul i 1103515245 from λi=>.inr ⟨by omega,by omega⟩]
theorem vf (ns:List Int) (t:List D) (c:0 < many) (l:t.length < 1000):∃ r,0<=r/\r < many/\jF [scr ns,.lst t,.int many]=.ok (.int r,[.non,.lst (t++[.int 0]),.non]):=by obtain ⟨r,a,h1,h⟩:=qcR ns (t.length+1) c;have hl:t.length < sizeLine:=aI (eJ l (by decide)) big;refine ⟨r,a,h1,?_⟩;simp at h;refine runD_ap.trans ?_;simp [Uv,qw,qx,qC,jf,yP,JK,jD,hl,h]
theorem UJ (ns:List Int) (t xs:List D) (hx:xs≠[]) (l:t.length < 1000):∃ d,d∈xs/\zj [scr ns,.lst t,.lst xs]=.ok (d,[.non,.lst (t++[.int 0]),.non]):=by have hp:0 < xs.length:=cr.mpr hx;obtain ⟨r,a,h1,h⟩:=vf ns t (many:=(xs.length:Int)) (by omega) l;obtain ⟨d,e,hd⟩:=qg9 (xs:=xs) a h1;refine ⟨d,hd,?_⟩;refine runD_ap.trans ?_;simp [Uw,qw,qx,qC,jf,jD,h,ixD,e]
def az (c:Nat):Prop:=97<=c/\c<=122
def qcS (w:Str):Prop:=1<=w.length/\w.length<=6/\∀ c∈w.cps.toList,az c
theorem Qx (x:Str):x.length=x.cps.size:=rfl
theorem qaN (x y:Str):(x++y).cps=x.cps++y.cps:=rfl
def qh0 (ls:List Str):Prop:=ls≠[]/\∀ x∈ls,∃ c,az c/\x=⟨#[c]⟩
theorem qaO:∀ cs:List Nat,fR (be "") (cs.map λc=>(⟨#[c]⟩:Str))=⟨cs.toArray⟩:=by
 intro cs;have e:∀ cs:List Nat,Str.join (be "") (cs.map λc=>(⟨#[c]⟩:Str))=⟨cs.toArray⟩:=by
  intro cs
  induction cs with
  | nil=>rfl
  | cons c cs j=>
   cases cs with
   | nil=>rfl
   | cons d ds=>
    show (⟨#[c]⟩:Str)++be ""++Str.join (be "") ((d::ds).map λc=>(⟨#[c]⟩:Str))=_;rw [j];have:((⟨#[c]⟩:Str)++be ""++(⟨(d::ds).toArray⟩:Str)).cps=(c::d::ds).toArray:=by
     rw [qaN,qaN];have:(be "").cps=#[]:=by decide +kernel
     rw [this];simp
    generalize h:(⟨#[c]⟩:Str)++be ""++(⟨(d::ds).toArray⟩:Str)=x at this;obtain ⟨y⟩:=x;simp only at this;rw [this]
 unfold fR;rw [StrLaws.glued_eq_join];exact e cs
theorem Xq:∀ cs:List Nat,((cs.map λc=>(⟨#[c]⟩:Str)).map (·.length)).sum=cs.length
 | []=>rfl
 | c::cs=>by have j:=Xq cs;rw [aE,aE,List.sum_cons,j,ap];show 1 + _=_;omega
theorem wI:∀ ws:List Str,zT (ws.map D.str)=ip ws
 | []=>rfl
 | w::ws=>by simp [zT,wI ws]
variable {ls:List Str}
theorem Wm (ns:List Int) (hl:qh0 ls):∀ (ds:List D) (t:List D) (k:Option D),t.length+ds.length < 1000 ->∃ (cs:List Nat) (a:List D) (k':Option D),a.length=t.length+ds.length/\cs.length=ds.length/\(∀ c∈cs,az c) /\
   jP (gNm 0) ftT (qv [.vl,.sl 2,.vl] zj (qd (qe 1) (kt (qd (qe 3) qE)))) ds [k,ip (scr ns),ip (.lst t),ip (.lst (ls.map D.str))]
    = .ok ((cs.map λc=>(⟨#[c]⟩:Str)).map D.str,[k',ip (scr ns),ip (.lst a),ip (.lst (ls.map D.str))])
 | [],t,k,_=>⟨[],t,k,by simp,rfl,by simp,rfl⟩
 | d::ds,t,k,ht=>by
  rw [ap] at ht;obtain ⟨e,i,hp⟩:=UJ ns t (ls.map D.str) (by simpa using hl.1) (by omega);obtain ⟨x,hx,rfl⟩:=af.mp i;obtain ⟨c,b,rfl⟩:=hl.2 x hx;obtain ⟨cs,a,k',p,o,z,f⟩:=Wm ns hl ds (t++[.int 0]) (ip d) (by rw [ah]; simp; omega);refine ⟨c::cs,a,k',?_,by simp [o],?_,?_⟩;·rw [p,ah,ap];simp;omega
  ·intro y h;rcases ac.mp h with rfl | h;·exact b
   ·exact z y h
  ·simp [jP,xW,qC,jf,hp,f]
theorem qe5 (ns:List Int) (t:List D) (hl:qh0 ls) (l:t.length < 900):∃ w a,qcS w/\a.length<=t.length+8/\Ks [scr ns,.lst t,.lst (ls.map D.str),.int 6]=.ok (.str w,[.non,.lst a,.non,.non]):=by
 obtain ⟨r,r0,r1,f⟩:=vf ns t (many:=6) (by omega) (by omega);have n:(QJ 0 (1+r).toNat).length=(1+r).toNat:=by simp [QJ]
 obtain ⟨cs,a,k',p,o,b,y⟩:=Wm ns hl (QJ 0 (1+r).toNat) (t++[.int 0]) iq (by rw [n,ah]; simp; omega);rw [n] at p o;rw [ah] at p;simp at p;refine ⟨⟨cs.toArray⟩,a,⟨?_,?_,?_⟩,by omega,?_⟩;·show 1<=cs.toArray.size;simp; omega
 ·show cs.toArray.size<=6;simp; omega
 ·simpa using b
 ·refine runD_ap.trans ?_;have k:-(2 ^ 62:Int)<=1+r/\1+r < 2 ^ 62:=by omega
  have e:=big;have z:(QJ 0 (1+r).toNat).length<=sizeLine:=by rw [n]; omega
  have d:h7 (be "")=0:=by decide +kernel
  have h:=Xq cs;have G:qae (be "") (.lst ((cs.map λc=>(⟨#[c]⟩:Str)).map D.str))=.ok (.str ⟨cs.toArray⟩):=by unfold qae;simp only [wI,qaO,h];rw [if_pos ⟨by simp [d]; omega,by show cs.toArray.size<=_; simp; omega⟩]
  simp only [Uz,qw,gZ,Zo,jw];simp [-aV,qC,jf,f,ke,kb,-Int.reducePow,k,z,vi,y,jY,G,qx]
theorem xL (w:Str):∀ ws:List Str,gb 7 (.str w) (ws.map D.str)=ip (decide (w∈ws))
 | []=>by simp [gb]
 | a::ws=>by
  have j:=xL w ws;simp only [aE,gb,j];simp [eqN,eqS];by_cases h:a=w;·simp [h]
  ·simp [h,bh h]
def jy (ws:List Str):Prop:=1<=ws.length/\ws.length<=6/\ws.Nodup/\∀ w∈ws,qcS w
abbrev qaP:Sl->Out (Fl×Sl):=(qT (jz 6 (qv [.vl,.sl 1,.vl,.vl] Ks (qd (qe 0) (kt (qd (qe 3) (qd (dC (.int 6)) qE))))))
  (sIf (jb (d2 JO (qe 6) (qe 4))) (kD (gN 4 JK (qe 6))) jJ))
theorem zp (ns:List Int) (m:D) (h:qh0 ls):∀ (ds:List D) (n:List D) (ws:List Str) (k u:Option D),n.length+8 * ds.length < 900->ws.length+ds.length<=100->ws.Nodup->(∀ w∈ws,qcS w) ->∃ (t:List D) (c:List Str) (k' W:Option D),t.length<=n.length+8 * ds.length/\c.length<=ws.length+ds.length/\ws.length<=c.length/\(ds≠[]->1<=c.length)/\c.Nodup/\(∀ w∈c,qcS w) /\
   vC (gNm 5) qaP ds [ip (scr ns),ip (.lst n),ip m,ip (.lst (ls.map D.str)),ip (.lst (ws.map D.str)),k,u]=.ok (.nx,[ip (scr ns),ip (.lst t),ip m,ip (.lst (ls.map D.str)),ip (.lst (c.map D.str)),k',W])
 | [],n,ws,k,u,_,_,hn,hw=>⟨n,ws,k,u,by simp,by simp,by simp,by simp,hn,hw,rfl⟩
 | d::ds,n,ws,k,u,ht,hl,hn,hw=>by
  rw [ap] at ht hl;obtain ⟨w,i,s,y,hg⟩:=qe5 ns n h (by omega);have j:=big;have p:ws.length < sizeLine:=by omega
  by_cases e:w∈ws
  ·obtain ⟨t,c,k',W,A,o,f,v,q,l,g⟩:=zp ns m h ds i ws (ip d) (ip (.str w)) (by omega) (by omega) hn hw;refine ⟨t,c,k',W,by rw [ap]; omega,by rw [ap]; omega,f,λ_=>?_,q,l,?_⟩;·have:0 < ws.length:=cm e;omega
   ·rw [<-g];simp [vC,qaP,qC,jf,hg,JO,XY,inD,xL,e]
  ·obtain ⟨t,c,k',W,A,o,f,v,q,l,g⟩:=zp ns m h ds i (ws++[w]) (ip d) (ip (.str w)) (by omega) (by rw [ah]; simp; omega) (bQ.mpr ⟨hn,by simp,λa r b j=>by
    rw [ao.mp j];exact λz=>e (z ▸ r)⟩) (λx hx=>by
    rcases aj.mp hx with hx | hx;·exact hw x hx
    ·rw [ao.mp hx];exact s)
   rw [ah] at o f;simp at o f;refine ⟨t,c,k',W,by rw [ap]; omega,by rw [ap]; omega,by omega,λ_=>by omega,q,l,?_⟩;rw [<-g];simp [vC,qaP,qC,jf,hg,JO,XY,inD,xL,e,yP,JK,p]
noncomputable def LETS:List (List Str):=[["a", "b"],["a", "b", "c"],["a", "b", "c", "d"],["k", "m", "z", "a", "e"]]
theorem qe6:∀ ls∈LETS,qh0 ls:=by
 have h1:∀ ls∈LETS,∀ x∈ls,x∈(["a", "b", "c", "d", "k", "m", "z", "e"]:List Str):=by decide +kernel
 have h2:∀ ls∈LETS,ls≠[]:=by decide +kernel
 intro ls h;refine ⟨h2 ls h,λx hx=>?_⟩;have j:=h1 ls h x hx;simp only [ac,bv,or_false] at j;rcases j with rfl | rfl | rfl | rfl | rfl | rfl | rfl | rfl;·exact ⟨97,by unfold az; decide,by decide +kernel⟩
 ·exact ⟨98,by unfold az; decide,by decide +kernel⟩
 ·exact ⟨99,by unfold az; decide,by decide +kernel⟩
 ·exact ⟨100,by unfold az; decide,by decide +kernel⟩
 ·exact ⟨107,by unfold az; decide,by decide +kernel⟩
 ·exact ⟨109,by unfold az; decide,by decide +kernel⟩
 ·exact ⟨122,by unfold az; decide,by decide +kernel⟩
 ·exact ⟨101,by unfold az; decide,by decide +kernel⟩
theorem qcT (ns:List Int) (t:List D) (j:t.length < 700):∃ ws a,jy ws/\ws.length<=5/\a.length<=t.length+50/\Ku [scr ns,.lst t,.int 5]=.ok (.tup (ws.map D.str),[.non,.lst a,.non]):=by
 obtain ⟨d,hd,hp⟩:=UJ ns t (LETS.map λl=>.lst (l.map D.str)) (by simp [LETS]) (by omega);obtain ⟨ls,h,rfl⟩:=af.mp hd;have hl:=qe6 ls h;obtain ⟨r,r0,r1,f⟩:=vf ns (t++[.int 0]) (many:=5) (by omega) (by rw [ah]; simp; omega);have n:(QJ 0 (1+r).toNat).length=(1+r).toNat:=by simp [QJ]
 obtain ⟨a,c,k',W,p,o,s,y,q,i,k⟩:=zp ns (.int 5) hl (QJ 0 (1+r).toNat) (t++[.int 0]++[.int 0]) [] iq iq (by rw [n,ah,ah]; simp; omega) (by rw [n]; simp; omega) cP (by simp);have e:QJ 0 (1+r).toNat≠[]:=λz=>by rw [z] at n;simp at n;omega
 refine ⟨c,a,⟨y e,?_,q,i⟩,?_,?_,?_⟩;·rw [n] at o;simp at o;omega
 ·rw [n] at o;simp at o;omega
 ·rw [n,ah,ah] at p;simp at p;omega
 ·refine runD_ap.trans ?_;have g:-(2 ^ 62:Int)<=1+r/\1+r < 2 ^ 62:=by omega
  have m:=big;have b:4<=sizeLine:=by omega
  simp only [aS,fS,cx,cg] at k f;simp only [LETS,aE,cg] at hp;simp [Kt,qw,qx,qC,jf,hp,f,ke,kb,-Int.reducePow,g,b,k,wx]
def Vb (p q:Int):Prop:=(-3<=p/\p<=2)/\-3<=q/\q<=2
theorem qe7 (ns:List Int) (t:List D) (l:t.length < 900):∃ p q a,Vb p q/\a.length=t.length+2/\UB [scr ns,.lst t]=.ok (.tup [.int p,.int q],[.non,.lst a]):=by
 obtain ⟨r,r0,r1,h⟩:=vf ns t (many:=6) (by omega) (by omega);obtain ⟨u,b,j,f⟩:=vf ns (t++[.int 0]) (many:=6) (by omega) (by rw [ah]; simp; omega);have d:=big;have z:2<=sizeLine:=by omega
 refine ⟨r - 3,u - 3,t++[.int 0,.int 0],⟨⟨by omega,by omega⟩,by omega,by omega⟩,by simp,?_⟩;refine runD_ap.trans ?_;simp only [aS,fS,cx] at f;simp [UA,qw,qx,qC,jf,h,f,JB,uu,z]
noncomputable def xM (n:Nat) (p:Int):Nat:=(max 0 (min (if 0<=p then p else (n:Int)+p) ((n:Int) - 1))).toNat
noncomputable def ZL (w:Str) (p:Int):Str:=⟨#[(w.cps.toList[xM w.length p]?).getD 0]⟩
variable {w:Str}
theorem zN (h:qcS w) (p:Int):vG [.str w,.int p]=.ok (.str (ZL w p),[.non,.non]):=by
 have h1:=h.1;have a:(w.cps.toList.length:Int)=w.length:=by simp [Qx]
 have key:∀ q:Int,q=(if 0<=p then p else (w.length:Int)+p)->atI w.cps.toList (if 0 < (if (w.length:Int) - 1 < q then (w.length:Int) - 1 else q) then (if (w.length:Int) - 1 < q then (w.length:Int) - 1 else q) else 0)=ip ((w.cps.toList[xM w.length p]?).getD 0):=by
  intro q hq;have e:(if 0 < (if (w.length:Int) - 1 < q then (w.length:Int) - 1 else q) then (if (w.length:Int) - 1 < q then (w.length:Int) - 1 else q) else 0)=(xM w.length p:Int):=by
   unfold xM;rw [<-hq];have:1<=(w.length:Int):=by omega
   generalize (w.length:Int)=n at *;split <;> split <;> omega
  have hl:xM w.length p < w.cps.toList.length:=by
   have F:w.cps.toList.length=w.length:=by simp [Qx]
   rw [F];unfold xM;omega
  rw [e,wk,aC hl];rfl
 refine runD_ap.trans ?_;by_cases hp:0<=p;·have k:=key p (by rw [if_pos hp]);simp [wT,qw,qx,geD,uu,hp,qhO,qhP,JB,jD,ixD,k,ZL]
 ·have k:=key (w.length+p) (by rw [if_neg hp]);simp [wT,qw,qx,geD,uu,hp,qhO,qhP,JB,kb,jD,ixD,k,ZL]
theorem qaQ (h:qcS w):(∃ a,w=⟨#[a]⟩)\/(∃ a b,w=⟨#[a,b]⟩)\/(∃ a b c,w=⟨#[a,b,c]⟩)\/(∃ a b c d,w=⟨#[a,b,c,d]⟩)\/(∃ a b c d e,w=⟨#[a,b,c,d,e]⟩)\/∃ a b c d e f,w=⟨#[a,b,c,d,e,f]⟩:=by
 obtain ⟨⟨l⟩⟩:=w;have h1:1<=l.length:=h.1;have h2:l.length<=6:=h.2.1
 match l,h1,h2 with
 | [a],_,_=>exact .inl ⟨a,rfl⟩
 | [a,b],_,_=>exact .inr (.inl ⟨a,b,rfl⟩)
 | [a,b,c],_,_=>exact .inr (.inr (.inl ⟨a,b,c,rfl⟩))
 | [a,b,c,d],_,_=>exact .inr (.inr (.inr (.inl ⟨a,b,c,d,rfl⟩)))
 | [a,b,c,d,e],_,_=>exact .inr (.inr (.inr (.inr (.inl ⟨a,b,c,d,e,rfl⟩))))
 | [a,b,c,d,e,f],_,_=>exact .inr (.inr (.inr (.inr (.inr ⟨a,b,c,d,e,f,rfl⟩))))
variable {p:Int}
theorem Wn (h:qcS w) (g:-3<=p) (h1:p<=2):qaC [.str w,.int p]=.ok (.str (ZL w p),[.non,.non]):=by
 have hp:p=-3\/p=-2\/p=-1\/p=0\/p=1\/p=2:=by omega
 rcases qaQ h with ⟨a,rfl⟩ | ⟨a,b,rfl⟩ | ⟨a,b,c,rfl⟩ | ⟨a,b,c,d,rfl⟩ | ⟨a,b,c,d,e,rfl⟩ | ⟨a,b,c,d,e,f,rfl⟩ <;> rcases hp with rfl | rfl | rfl | rfl | rfl | rfl <;> kernel_rfl
variable {own:List Nat}
theorem zq (ρc:Sl):∀ (cap:List Nat) (n:Nat) (ρ:Sl),(∀ k∈cap,k∉own)->jY own ρc n cap ρ=ρ
 | [],n,ρ,_=>rfl
 | k::cap,n,ρ,h=>by unfold jY;rw [if_neg (h k (ai ..))];exact zq ρc cap (n+1) ρ λx hx=>h x (aa _ hx)
variable {fe:Sl->Out (D×Sl)} {ft:Sl->Out (Bool×Sl)} {caps:Sl}
theorem qha {P:D->Bool} {F:D->D}:∀ (ds:List D) (x:Option D),(∀ d∈ds,ft (ip d::caps)=.ok (P d,ip d::caps))->(∀ d∈ds,P d=iA->fe (ip d::caps)=.ok (F d,ip d::caps))->∃ n,jP (gNm 0) ft fe ds (x::caps)=.ok ((ds.filter P).map F,n::caps)
 | [],x,_,_=>⟨x,rfl⟩
 | d::ds,x,h,h'=>by
  obtain ⟨n,e⟩:=qha ds (ip d) (λd' hd=>h d' (aa _ hd)) λd' hd=>h' d' (aa _ hd);refine ⟨n,?_⟩;have h1:=h d (ai ..);have h2:=h' d (ai ..);cases q:P d with
  | true=>simp [jP,xW,h1,q,h2 q,e]
  | false=>simp [jP,xW,h1,q,e]
variable {cap:List Nat} {fi:Sl->Out (List D×Sl)} {ρ ρ1:Sl} {ds:List D}
theorem qdz {fe:Sl->Out (D×Sl)} {ft:Sl->Out (Bool×Sl)} (P:D->Bool) (F:D->D) (m:∀ k∈cap,k∉own) (h:fi ρ=.ok (ds,ρ1)) (hl:ds.length<=sizeLine)
  (l:∀ d∈ds,ft (ip d::cap.map λk=>(ρ1[k]?).getD iq)=.ok (P d,ip d::cap.map λk=>(ρ1[k]?).getD iq)) (i:∀ d∈ds,P d=iA->fe (ip d::cap.map λk=>(ρ1[k]?).getD iq)=.ok (F d,ip d::cap.map λk=>(ρ1[k]?).getD iq)) :
  jw own 1 cap fi (gNm 0) ft fe ρ=.ok (.lst ((ds.filter P).map F),ρ1):=by
 obtain ⟨n,e⟩:=qha ds iq l i;unfold jw;rw [h];simp only [kX];rw [if_pos hl,show vi 1 cap ρ1=iq::cap.map λk=>(ρ1[k]?).getD iq from rfl,e];simp only [kX,zq _ _ _ _ m]
theorem qaR (F:D->D) (m:∀ k∈cap,k∉own) (h:fi ρ=.ok (ds,ρ1)) (hl:ds.length<=sizeLine) (l:∀ d∈ds,fe (ip d::cap.map λk=>(ρ1[k]?).getD iq)=.ok (F d,ip d::cap.map λk=>(ρ1[k]?).getD iq)):jw own 1 cap fi (gNm 0) ftT fe ρ=.ok (.lst (ds.map F),ρ1):=by have e:=qdz (ft:=ftT) (λ_=>iA) F m h hl (λ_ _=>rfl) λd hd _=>l d hd;rw [dO.mpr λ_ _=>rfl] at e;exact e
theorem ux (F:D->D) (h:fi ρ=.ok (ds,ρ1)) (hl:ds.length<=sizeLine) (l:∀ d∈ds,fe (ip d::cap.map λk=>(ρ1[k]?).getD iq)=.ok (F d,ip d::cap.map λk=>(ρ1[k]?).getD iq)):jw [] 1 cap fi (gNm 0) ftT fe ρ=.ok (.lst (ds.map F),ρ1):=qaR F (λ_ _=>by simp) h hl l
theorem qdA {P:D×D->Bool} {F:D×D->D}:∀ (ps:List (D×D)) (x y:Option D),(∀ p∈ps,ft (ip p.1::ip p.2::caps)=.ok (P p,ip p.1::ip p.2::caps))->(∀ p∈ps,P p=iA->fe (ip p.1::ip p.2::caps)=.ok (F p,ip p.1::ip p.2::caps)) ->∃ n s,jP (jL 2 (qD (gNm 0) (qD (gNm 1) jK))) ft fe (ps.map λp=>.tup [p.1,p.2]) (x::y::caps)=.ok ((ps.filter P).map F,n::s::caps)
 | [],x,y,_,_=>⟨x,y,rfl⟩
 | p::ps,x,y,h,h'=>by
  obtain ⟨n,s,e⟩:=qdA ps (ip p.1) (ip p.2) (λd' hd=>h d' (aa _ hd)) λd' hd=>h' d' (aa _ hd);refine ⟨n,s,?_⟩;have h1:=h p (ai ..);have h2:=h' p (ai ..);cases q:P p with
  | true=>simp [jP,xW,jL,qD,jK,h1,q,h2 q,e]
  | false=>simp [jP,xW,jL,qD,jK,h1,q,e]
theorem qaS {fe:Sl->Out (D×Sl)} {ft:Sl->Out (Bool×Sl)} {ps:List (D×D)} (P:D×D->Bool) (F:D×D->D) (m:∀ k∈cap,k∉own) (h:fi ρ=.ok (ps.map λp=>.tup [p.1,p.2],ρ1)) (hl:ps.length<=sizeLine)
  (l:∀ p∈ps,ft (ip p.1::ip p.2::cap.map λk=>(ρ1[k]?).getD iq)=.ok (P p,ip p.1::ip p.2::cap.map λk=>(ρ1[k]?).getD iq))
  (i:∀ p∈ps,P p=iA->fe (ip p.1::ip p.2::cap.map λk=>(ρ1[k]?).getD iq)=.ok (F p,ip p.1::ip p.2::cap.map λk=>(ρ1[k]?).getD iq)) :
  jw own 2 cap fi (jL 2 (qD (gNm 0) (qD (gNm 1) jK))) ft fe ρ=.ok (.lst ((ps.filter P).map F),ρ1):=by
 obtain ⟨n,s,e⟩:=qdA ps iq iq l i;unfold jw;rw [h];simp only [kX];rw [if_pos (by rw [ay]; exact hl),show vi 2 cap ρ1=iq::iq::cap.map λk=>(ρ1[k]?).getD iq from rfl,e];simp only [kX,zq _ _ _ _ m]
noncomputable def qp (ws:List Str) (p q:Int):List (Str×Str):=ws.map λw=>(ZL w p,ZL w q)
noncomputable def jG (l:List (Str×Str)):List D:=l.map λx=>.tup [.str x.1,.str x.2]
variable {n:Nat}
theorem jg (h:n<=2000):n<=sizeLine:=bg h big
abbrev Wd (ws:List Str):D:=.tup (ws.map D.str)
abbrev Ld (p q:Int):D:=.tup [.int p,.int q]
variable {ws:List Str} {q:Int}
theorem Js {G:List D->Out (D×List D)} (h:jy ws) (a:∀ w∈ws,G [.str w,.int p]=.ok (.str (ZL w p),[.non,.non])/\G [.str w,.int q]=.ok (.str (ZL w q),[.non,.non])):jw [] 1 [1] (jZ (qe 0)) (gNm 0) ftT (vM (qd (qv [.vl,.vl] G (qd (qe 0) (qd (d2 ixD (qe 1) (dC (.int 0))) qE))) (qd (qv [.vl,.vl] G (qd (qe 0) (qd (d2 ixD (qe 1) (dC (.int 1))) qE))) qE))) [ip (Wd ws),ip (Ld p q)]
   = .ok (.lst (jG (qp ws p q)),[ip (Wd ws),ip (Ld p q)]):=by
 have e:=ux (cap:=[1]) (fi:=jZ (qe 0)) (ρ:=[ip (Wd ws),ip (Ld p q)]) (ρ1:=[ip (Wd ws),ip (Ld p q)]) (ds:=ws.map D.str)
  (fe:=(vM (qd (qv [.vl,.vl] G (qd (qe 0) (qd (d2 ixD (qe 1) (dC (.int 0))) qE))) (qd (qv [.vl,.vl] G (qd (qe 0) (qd (d2 ixD (qe 1) (dC (.int 1))) qE))) qE))))
  (λd=>match d with | .str w=>.tup [.str (ZL w p),.str (ZL w q)] | d=>d) (by simp [jC]) (by rw [ay]; exact jg (by have:=h.2.1; omega)) (λd hd=>by obtain ⟨w,c,rfl⟩:=af.mp hd;obtain ⟨h1,h2⟩:=a w c;have z:2<=sizeLine:=jg (by omega);simp [qC,jf,ixD,atI,ixN,h1,h2,z])
 rw [e];simp [jG,qp]
theorem Qy (h:jy ws) (hl:Vb p q):Qr [Wd ws,Ld p q]=.ok (.lst (jG (qp ws p q)),[.non,.non]):=by
 refine runD_ap.trans ?_;have e:=Js (G:=qaC) h (p:=p) (q:=q) λw c=>⟨Wn (h.2.2.2 w c) hl.1.1 hl.1.2,Wn (h.2.2.2 w c) hl.2.1 hl.2.2⟩
 unfold Ux;rw [gZ,show qw Kq [Wd ws,Ld p q]=[ip (Wd ws),ip (Ld p q)] from rfl,e];rfl
def Pl:D->Prop
 | .raw _=>False
 | .xcp _=>False
 | .ins _ _=>False
 | .dct _=>False
 | .at_ _ _=>False
 | _=>True
@[simp] theorem kk1:kK "NoneType" "int"=ip false:=by decide +kernel
@[simp] theorem kk2:kK "bool" "int"=ip true:=by decide +kernel
@[simp] theorem kk3:kK "int" "int"=ip true:=by decide +kernel
@[simp] theorem kk4:kK "str" "int"=ip false:=by decide +kernel
@[simp] theorem kk5:kK "tuple" "int"=ip false:=by decide +kernel
@[simp] theorem kk6:kK "list" "int"=ip false:=by decide +kernel
@[simp] theorem kb1:kK "NoneType" "bool"=ip false:=by decide +kernel
@[simp] theorem kb2:kK "bool" "bool"=ip true:=by decide +kernel
@[simp] theorem kb3:kK "int" "bool"=ip false:=by decide +kernel
@[simp] theorem kb4:kK "str" "bool"=ip false:=by decide +kernel
@[simp] theorem kb5:kK "tuple" "bool"=ip false:=by decide +kernel
@[simp] theorem kb6:kK "list" "bool"=ip false:=by decide +kernel
@[simp] theorem ks1:kK "NoneType" "str"=ip false:=by decide +kernel
@[simp] theorem ks2:kK "bool" "str"=ip false:=by decide +kernel
@[simp] theorem ks3:kK "int" "str"=ip false:=by decide +kernel
@[simp] theorem ks4:kK "str" "str"=ip true:=by decide +kernel
@[simp] theorem ks5:kK "tuple" "str"=ip false:=by decide +kernel
@[simp] theorem ks6:kK "list" "str"=ip false:=by decide +kernel
@[simp] theorem kt1:kK "NoneType" "tuple"=ip false:=by decide +kernel
@[simp] theorem kt2:kK "bool" "tuple"=ip false:=by decide +kernel
@[simp] theorem kt3:kK "int" "tuple"=ip false:=by decide +kernel
@[simp] theorem kt4:kK "str" "tuple"=ip false:=by decide +kernel
@[simp] theorem kt5:kK "tuple" "tuple"=ip true:=by decide +kernel
@[simp] theorem kt6:kK "list" "tuple"=ip false:=by decide +kernel
noncomputable def Qz:D->Bool
 | .tup _=>iA
 | _=>iw
noncomputable def isInt:D->Bool
 | .int _=>iA
 | .bl _=>iA
 | _=>iw
variable {d:D}
theorem Xr (h:Pl d):gh "tuple" d=.ok (.bl (Qz d)):=by cases d <;> first | exact h.elim | simp [gh,tyN,Qz]
noncomputable def ZC:D->Bool
 | .str x=>decide (x.length=1)&&(!vL x "a"&&!vL "z" x)
 | _=>iw
noncomputable def zO (lo hi:Int):D->Bool
 | .int i=>decide (lo<=i)&&decide (i<=hi)
 | _=>iw
theorem zQ (h:Pl d):vF [d]=.ok (.bl (ZC d),[.non]):=by
 refine runD_ap.trans ?_;cases d <;> first
  | exact h.elim
  | (simp [vE,qw,qx,gh,tyN,ZC]; done)
  | skip
 rename_i x;by_cases h1:x.length=1
 ·have c:(x.length:Int)=1:=by omega
  cases h2:vL x "a" <;> simp [vE,qw,gh,tyN,jD,eqD,eqN,eqS,leD,qx,ZC,h1,c,h2]
 ·have c:¬(x.length:Int)=1:=by omega
  simp [vE,qw,gh,tyN,jD,eqD,eqN,eqS,leD,qx,ZC,h1,c]
theorem jU (h:Pl d) (lo hi:Int):jr [d,.int lo,.int hi]=.ok (.bl (zO lo hi d),[.non,.non,.non]):=by
 refine runD_ap.trans ?_;cases d <;> first
  | exact h.elim
  | (simp [vU,qw,qx,gh,tyN,zO,wu]; done)
  | skip
 rename_i i;by_cases h1:lo<=i <;> simp [vU,qw,gh,tyN,leD,qx,zO,wu,h1]
theorem qdB {c:Nat} (h:az c):ZC (.str ⟨#[c]⟩)=true:=by
 have g:(be "a").cps.toList=[97]:=by decide +kernel
 have z:(be "z").cps.toList=[122]:=by decide +kernel
 obtain ⟨h1,h2⟩:=h;have i:¬([c]:List Nat) < [97]:=by rw [List.cons_lt_cons_iff];simp;omega
 have l:¬([122]:List Nat) < [c]:=by rw [List.cons_lt_cons_iff];simp;omega
 have e1:vL ⟨#[c]⟩ (be "a")=false:=by unfold vL;rw [g];exact decide_eq_false i
 have e:vL (be "z") ⟨#[c]⟩=false:=by unfold vL;rw [z];exact decide_eq_false l
 simp [ZC,Qx,e1,e]
theorem Jt (f:α->Bool):∀ l:List α,wz (l.map λx=>.bl (f x))=ip (l.map f)
 | []=>rfl
 | a::l=>by have j:=Jt f l;simp [wz,j]
theorem xN (f:α->Bool) (l:List α):GM (.lst (l.map λx=>.bl (f x)))=.ok (.bl (l.all f)):=by simp only [GM,Jt];simp [List.all_map,Function.comp_def]
theorem qaT (h:qcS w) (p:Int):∃ c,az c/\ZL w p=⟨#[c]⟩:=by
 have n:w.cps.toList.length=w.length:=by simp [Qx]
 have hl:xM w.length p < w.cps.toList.length:=by have:=h.1;rw [n];unfold xM;omega
 refine ⟨w.cps.toList[xM w.length p],h.2.2 _ (bY hl),?_⟩;unfold ZL;rw [aC hl];rfl
theorem ZD (h:qcS w):xD [.str w]=.ok (.bl iA,[.non]):=by
 refine runD_ap.trans ?_;have e:=ux (cap:=[]) (fi:=jZ (qe 0)) (ρ:=[ip (.str w)]) (ρ1:=[ip (.str w)]) (ds:=VJ w) (fe:=qv [.vl] vF (qd (qe 0) qE)) (λd=>.bl (ZC d)) (by simp [jC]) (by
   have:=h.2.1;simp [VJ,<-Qx];exact jg (by omega)) (λd hd=>by
   obtain ⟨c,a,rfl⟩:=af.mp hd;have h1:=zQ (d:=.str ⟨#[c]⟩) trivial;simp [qC,jf,h1])
 have g:(VJ w).all ZC=true:=by rw [aM];intro d hd;obtain ⟨c,a,rfl⟩:=af.mp hd;exact qdB (h.2.2 c a)
 have h1:(1:Int)<=w.length:=by have:=h.1; omega
 have b:(w.length:Int)<=6:=by have:=h.2.1; omega
 simp only [Qe,qw,aE,cg,ap,bf,Nat.reduceAdd,fy,c8,bi];simp [gh,tyN,wu,jD,leD,h1,b,e,xN,g,qx]
theorem yY:∀ (ws ks:List Str),ws.Nodup->(∀ x∈ws,x∉ks)->ws.foldl xx ks=ks++ws
 | [],ks,_,_=>by simp
 | w::ws,ks,hn,hd=>by
  have h1:=aL.mp hn;rw [cu,show xx ks w=ks++[w] from if_neg (hd w (ai ..)),yY ws (ks++[w]) h1.2 ?_];·simp
  ·intro x hx z;rcases aj.mp z with z | z;·exact hd x (aa _ hx) z
   ·rw [ao.mp z] at hx;exact h1.1 hx
theorem uZ (ws:List Str):∀ ks:List Str,ks.Nodup->(ws.foldl xx ks).Nodup/\∀ x,x∈ws.foldl xx ks↔x∈ks\/x∈ws:=by
 induction ws with
 | nil=>intro ks n; exact ⟨n,λx=>by simp⟩
 | cons w ws j=>
  intro ks n;have r:(xx ks w).Nodup:=by
   unfold xx;split;·exact n
   ·rename_i h;exact bQ.mpr ⟨n,by simp,λa g b d=>by rw [ao.mp d];exact λz=>h (z ▸ g)⟩
  obtain ⟨a,b⟩:=j (xx ks w) r;refine ⟨a,λx=>?_⟩;rw [cu,b x];unfold xx;split
  ·rename_i h;constructor
   ·rintro (q | q);·exact .inl q
    ·exact .inr (aa _ q)
   ·rintro (q | q);·exact .inl q
    ·rcases ac.mp q with rfl | q;·exact .inl h
     ·exact .inr q
  ·simp [aj,or_assoc]
theorem UK (h:jy ws):zb [.tup (ws.map D.str)]=.ok (.bl iA,[.non]):=by
 refine runD_ap.trans ?_;have e:=ux (cap:=[]) (fi:=jZ (qe 0)) (ρ:=[ip (.tup (ws.map D.str))]) (ρ1:=[ip (.tup (ws.map D.str))]) (ds:=ws.map D.str) (fe:=qv [.vl] xD (qd (qe 0) qE)) (λd=>.bl iA) (by simp [jC]) (by
   rw [ay];exact jg (by have:=h.2.1; omega)) (λd hd=>by
   obtain ⟨w,c,rfl⟩:=af.mp hd;have h1:=ZD (h.2.2.2 w c);simp [qC,jf,h1])
 have h1:(1:Int)<=ws.length:=by have:=h.1; omega
 have b:(ws.length:Int)<=6:=by have:=h.2.1; omega
 have f:ws.foldl xx []=ws:=by rw [yY ws [] h.2.2.1 (by simp)]; simp
 have a:ws.length < 4000:=by omega
 have g:=xN (λ_:D=>iA) (ws.map D.str);simp only [za,qw,aE,cg,ap,bf,Nat.reduceAdd,fy,c8,bi];simp [-aV,gh,tyN,wu,jD,leD,h1,b,e,g,qx,gY,yE,wI,f,a,eqD,eqN,eqS]
theorem QT (w:jy ws):wR [.tup (ws.map D.str)]=.ok (.non,[.non]):=by refine runD_ap.trans ?_;have h:=UK w;simp [wQ,qw,qx,qC,jf,h,wu]
theorem ZE (hl:Vb p q):Qi [.tup [.int p,.int q]]=.ok (.bl iA,[.non]):=by
 refine runD_ap.trans ?_;have e:=ux (cap:=[]) (fi:=jZ (qe 0)) (ρ:=[ip (.tup [.int p,.int q])]) (ρ1:=[ip (.tup [.int p,.int q])]) (ds:=[.int p,.int q]) (fe:=qv [.vl,.vl,.vl] jr (qd (qe 0) (qd (dC (.int (-3))) (qd (dC (.int 2)) qE)))) (λd=>.bl (zO (-3) 2 d)) (by simp [jC]) (jg (by simp)) (λd hd=>by
   have hd:d=.int p\/d=.int q:=by simpa using hd
   have h1:=jU (d:=.int p) trivial (-3) 2;have h2:=jU (d:=.int q) trivial (-3) 2;rcases hd with rfl | rfl;·simp [qC,jf,h1]
   ·simp [qC,jf,h2])
 have A:zO (-3) 2 (.int p)=true:=by simp [zO]; exact hl.1
 have z:zO (-3) 2 (.int q)=true:=by simp [zO]; exact hl.2
 simp only [Qh,qw,aE,cg,ap,bf,Nat.reduceAdd,fy,c8,bi];simp [gh,tyN,wu,jD,neD,eqN,eqS,e,GM,wz,A,z,qx]
theorem KI (hl:Vb p q):uM [.tup [.int p,.int q]]=.ok (.non,[.non]):=by refine runD_ap.trans ?_;have h:=ZE hl;simp [uL,qw,qx,qC,jf,h,wu]
theorem KJ (h:jy ws) (hl:Vb p q):wU [Wd ws,Ld p q]=.ok (.lst (jG (qp ws p q)),[.non,.non]):=by
 refine runD_ap.trans ?_;have e:=Js (G:=vG) h (p:=p) (q:=q) λw c=>⟨zN (h.2.2.2 w c) p,zN (h.2.2.2 w c) q⟩
 have k:=QT h;have c2:=KI hl;simp only [Up,qw,aE,cg,ap,bf,Nat.reduceAdd,fy,c8,bi];simp [qC,jf,k,c2,e,qx]
theorem Wo {a b:List Str} (g:a.Nodup) (d:b.Nodup) (h:∀ x,x∈a↔x∈b):a.Perm b:=(List.perm_ext_iff_of_nodup g d).mpr h
theorem qaU {a b:List Str} (h:∀ x,x∈a↔x∈b):jW (a.foldl xx [])=jW (b.foldl xx []):=by
 obtain ⟨n1,m1⟩:=uZ a [] cP;obtain ⟨n2,B⟩:=uZ b [] cP;have p:=Wo n1 n2 λx=>by rw [m1,B,h]
 exact uH ((qN _).trans (p.trans (qN _).symm)) (qX _) (qX _)
noncomputable def LS (l:List (Str×Str)):List Str:=jW ((l.map (·.1)++l.map (·.2)).foldl xx [])
variable {x:Str}
theorem mem_LS {l:List (Str×Str)}:x∈LS l↔∃ p∈l,x=p.1\/x=p.2:=by
 unfold LS;rw [(qN _).mem_iff,(uZ _ [] cP).2];simp only [bv,false_or,aj,af];constructor
 ·rintro (⟨p,hp,rfl⟩ | ⟨p,hp,rfl⟩);·exact ⟨p,hp,.inl rfl⟩
  ·exact ⟨p,hp,.inr rfl⟩
 ·rintro ⟨p,hp,rfl | rfl⟩;·exact .inl ⟨p,hp,rfl⟩
  ·exact .inr ⟨p,hp,rfl⟩
theorem um {l:List (Str×Str)} (hl:l.length<=20):js [.lst (jG l)]=.ok (.lst ((LS l).map D.str),[.non]):=by
 refine runD_ap.trans ?_;have z:(jG l).length<=sizeLine:=by unfold jG;rw [ay];exact jg (by omega)
 have e1:=ux (cap:=[]) (fi:=jZ (qe 0)) (ρ:=[ip (.lst (jG l))]) (ρ1:=[ip (.lst (jG l))]) (ds:=jG l) (fe:=d2 ixD (qe 0) (dC (.int 0))) (λd=>match d with | .tup [a,b]=>a | d=>d) (by simp [jC]) z (λd hd=>by obtain ⟨x,hx,rfl⟩:=af.mp hd;simp [ixD,atI,ixN]);have i:=ux (cap:=[]) (fi:=jZ (qe 0)) (ρ:=[ip (.lst (jG l))]) (ρ1:=[ip (.lst (jG l))]) (ds:=jG l) (fe:=d2 ixD (qe 0) (dC (.int 1))) (λd=>match d with | .tup [a,b]=>b | d=>d) (by simp [jC]) z (λd hd=>by obtain ⟨x,hx,rfl⟩:=af.mp hd;simp [ixD,atI,ixN]);have f1:(jG l).map (λd=>match d with | .tup [a,b]=>a | d=>d)=(l.map (·.1)).map D.str:=by simp [jG]
 have f2:(jG l).map (λd=>match d with | .tup [a,b]=>b | d=>d)=(l.map (·.2)).map D.str:=by simp [jG]
 rw [f1] at e1;rw [f2] at i;have c:l.length+l.length<=sizeLine:=jg (by omega);have j:l.length+l.length < 64:=by omega
 simp only [uN,qw,aE,cg,ap,bf,Nat.reduceAdd,fy,c8,bi,gZ,Zo,qiH,e1,i,kX];simp only [kb,ay,if_pos c,qiD,kX,<-cw,vR,yE,wI,ah,if_pos j];simp [qx,LS]
theorem Xu:∀ l:List (Str×Str),(l.flatMap λp=>[p.1,p.2]).length=2 * l.length
 | []=>rfl
 | a::l=>by rw [dF,ah,Xu l,ap];simp;omega
theorem at0 {a:D} {l:List D}:atI (a::l) 0=ip a:=by have:=wk (a::l) 0;simpa using this
theorem at1 {a b:D} {l:List D}:atI (a::b::l) 1=ip b:=by have:=wk (a::b::l) 1;simpa using this
noncomputable def prL (l:List (Str×Int)):List D:=l.map λx=>.tup [.str x.1,.int x.2]
noncomputable def qI (l:List (Str×Int)):List Str:=l.map (·.1)
noncomputable def bk (l:List (Str×Int)):List (Key×D):=l.map λx=>(.inr x.1,.int x.2)
theorem QA:∀ l:List (Str×Int),uF (prL l)=ip (bk l)
 | []=>rfl
 | x::l=>by have j:=QA l;unfold prL at j ⊢;rw [aE];simp [uF,qcg,Jh,j,bk]
theorem UL:∀ (l:List (Str×Int)) (a:List (Key×D)),(qI l).Nodup->(∀ x∈l,∀ p∈a,p.1≠.inr x.1)->(bk l).foldl (λa p=>Ji a p.1 p.2) a=a++bk l
 | [],a,_,_=>by simp [bk]
 | x::l,a,hn,hd=>by
  have h1:=aL.mp (show (x.1::qI l).Nodup from hn);have hp:Ji a (.inr x.1) (.int x.2)=a++[(.inr x.1,.int x.2)]:=by unfold Ji;rw [if_neg];simp only [List.any_eq_true,decide_eq_true_eq,not_exists,not_and];exact λp hp=>hd x (ai ..) p hp
  have j:=UL l (a++[(.inr x.1,.int x.2)]) h1.2 (λy h p hp=>by
   rcases aj.mp hp with hp | hp;·exact hd y (aa _ h) p hp
   ·rw [ao.mp hp];intro z;have z:x.1=y.1:=bp.inj z;exact h1.1 (z ▸ af.mpr ⟨y,h,rfl⟩))
  show ((bk l).foldl (λa p=>Ji a p.1 p.2) (Ji a (.inr x.1) (.int x.2)))=a++(.inr x.1,.int x.2)::bk l;rw [hp,j];simp
variable {l:List (Str×Int)}
theorem UM (h:(qI l).Nodup):WX (.tup (prL l))=.ok (.dct (bk l)):=by have e:=UL l [] h (λ_ _ p hp=>by cases hp);simp at e;simp [WX,QA,e]
noncomputable def jh (l:List (Str×Int)) (x:Str):Int:=((l.find? λy=>decide (y.1=x)).map (·.2)).getD 0
theorem kh:∀ {l:List (Str×Int)} {x:Str},x∈qI l->(x,jh l x)∈l/\(bk l).find? (λkv=>decide (kv.1=bp x))=ip (.inr x,.int (jh l x))
 | [],x,h=>by cases h
 | a::l,x,h=>by
  by_cases e:a.1=x
  ·have c:jh (a::l) x=a.2:=by simp [jh,e]
   rw [c];refine ⟨?_,?_⟩;·rw [<-e];exact ai ..
   ·simp [bk,e]
  ·have hx:x∈qI l:=by
    rcases ac.mp (show x∈a.1::qI l from h) with z | z;·exact absurd z.symm e
    ·exact z
   obtain ⟨h1,h2⟩:=kh hx;have c:jh (a::l) x=jh l x:=by simp [jh,e]
   rw [c];refine ⟨aa _ h1,?_⟩;rw [<-h2];simp [bk,e]
theorem ZF (h:x∈qI l):ixD (.dct (bk l)) (.str x)=.ok (.int (jh l x)):=by simp [ixD,(kh h).2]
abbrev nn4:Sl:=[ip .non,ip .non,ip .non,ip .non]
theorem uo (h:Pl d):wa [d]=if zO 1 99 d=iA then .ok (.non,[.non]) else .exc "NoRoom" [ip .non]:=by refine runD_ap.trans ?_;have h1:=jU h 1 99;have z:1<=sizeLine:=jg (by omega);cases e:zO 1 99 d <;> simp [uS,qw,qx,qC,jf,h1,e,wu,kJ]
noncomputable def qbv (l:List (Str×Int)) (s:List (Str×Str)) (r:Int):List D:=s.map λx=>.int ((jh l x.1+jh l x.2) % r)
theorem qB {ms:List PM} {f g:Sl->Out (Fl×Sl)} (h:f ρ=.ok (.nx,ρ1)):qad ms (qT f g ρ)=qad ms (g ρ1):=by rw [Uh,h];rfl
abbrev qhb:Sl->Out (Fl×Sl):=(kD (gN 2 GK (d1 VH (qe 3))))
theorem Wp (a b:Option D):∀ (l:List (Str×Str)) (made:List Str) (x:Option D),made.length+2 * l.length<=1000->∃ n,vC (gNm 3) qhb (jG l) [a,b,ip (.lst (made.map D.str)),x]=.ok (.nx,[a,b,ip (.lst ((made++l.flatMap λp=>[p.1,p.2]).map D.str)),n])
 | [],made,x,_=>⟨x,by simp [jG,vC]⟩
 | p::l,made,x,h=>by rw [ap] at h;obtain ⟨n,e⟩:=Wp a b l (made++[p.1,p.2]) (ip (.tup [.str p.1,.str p.2])) (by rw [ah]; simp; omega);refine ⟨n,?_⟩;have z:2<=sizeLine:=jg (by omega);have c:made.length+2<=sizeLine:=jg (by omega);rw [show (made++(p::l).flatMap λp=>[p.1,p.2])=(made++[p.1,p.2])++l.flatMap λp=>[p.1,p.2] by simp,<-e];simp [jG,vC,qhb,yP,GK,VH,z,c]
theorem yK (w:jy ws) (hl:Vb p q):vz [Wd ws,Ld p q]=.ok (.lst ((LS (qp ws p q)).map D.str),[.non,.non]):=by
 refine runD_ap.trans ?_;have h1:=Qy w hl;have a:(qp ws p q).length<=6:=by simp [qp]; exact w.2.1
 obtain ⟨n,e⟩:=Wp (ip (Wd ws)) (ip (Ld p q)) (qp ws p q) [] iq (by simp; omega);have h:((qp ws p q).flatMap λp=>[p.1,p.2]).length < 64:=by rw [Xu];omega
 have c:jW (((qp ws p q).flatMap λp=>[p.1,p.2]).foldl xx [])=LS (qp ws p q):=qaU λx=>by
  simp only [fg,aj,af,ac,bv,or_false];constructor
  ·rintro ⟨p,hp,rfl | rfl⟩;·exact .inl ⟨p,hp,rfl⟩
   ·exact .inr ⟨p,hp,rfl⟩
  ·rintro (⟨p,hp,rfl⟩ | ⟨p,hp,rfl⟩);·exact ⟨p,hp,.inl rfl⟩
   ·exact ⟨p,hp,.inr rfl⟩
 simp only [cg,cx] at e;simp [zm,qw,qx,qC,jf,h1,jC];rw [e];simp only [kX,Zo,Ug,d9,eh,vR,yE,wI,if_pos h,c];simp [qx]
variable {r:Int}
theorem Wq (w:jy ws) (hl:Vb p q) (h:0 < r) (k:∀ x∈LS (qp ws p q),x∈qI l):qaD [Wd ws,Ld p q,.int r,.dct (bk l)]=.ok (.tup (qbv l (qp ws p q) r),[.non,.non,.non,.non]):=by
 refine runD_ap.trans ?_;have h1:=Qy w hl;have n:(qp ws p q).length<=6:=by simp [qp]; exact w.2.1
 have e:=qaS (own:=[]) (cap:=[2,3]) (fi:=jZ (qv [.vl,.vl] Qr (qd (qe 0) (qd (qe 1) qE)))) (ft:=ftT) (fe:=d2 wq (d2 kb (d2 ixD (qe 3) (qe 0)) (d2 ixD (qe 3) (qe 1))) (qe 2))
  (ρ:=[ip (Wd ws),ip (Ld p q),ip (.int r),ip (.dct (bk l))]) (ρ1:=[ip (Wd ws),ip (Ld p q),ip (.int r),ip (.dct (bk l))]) (ps:=(qp ws p q).map λx=>(.str x.1,.str x.2)) (λ_=>iA) (λd=>match d with | (.str a,.str b)=>.int ((jh l a+jh l b) % r) | _=>.non) (by simp)
  (by simp [qC,jf,h1,jC,jG]) (by rw [ay]; exact jg (by omega)) (λ_ _=>rfl) (λd hd _=>by obtain ⟨x,hx,rfl⟩:=af.mp hd;have c:=ZF (k x.1 (mem_LS.mpr ⟨x,hx,.inl rfl⟩));have j:=ZF (k x.2 (mem_LS.mpr ⟨x,hx,.inr rfl⟩));simp [c,j,kb,wq,uu,h])
 rw [dO.mpr (λ_ _=>rfl)] at e;have f:((qp ws p q).map λx=>(D.str x.1,D.str x.2)).map (λd=>match d with | (.str a,.str b)=>.int ((jh l a+jh l b) % r) | _=>.non)=qbv l (qp ws p q) r:=by simp [qbv]
 rw [f] at e;unfold qe1;rw [gZ,Zo,show qw qcK [Wd ws,Ld p q,.int r,.dct (bk l)]=[ip (Wd ws),ip (Ld p q),ip (.int r),ip (.dct (bk l))] from rfl,e];simp [wx,qx]
variable {room:Int}
theorem Ju (ns:List Int) (f:0 < room):∀ (L:List Str) (t:List D) (x:Option D),t.length+L.length < 1000 ->∃ (es:List (Str×Int)) (b:List D) (n:Option D),qI es=L/\(∀ e∈es,0<=e.2/\e.2 < room)/\b.length=t.length+L.length /\
   jP (gNm 0) ftT (vM (qd (qe 0) (qd (qv [.vl,.sl 2,.vl] jF (qd (qe 1) (kt (qd (qe 3) qE)))) qE))) (L.map D.str) [x,ip (scr ns),ip (.lst t),ip (.int room)]=.ok (prL es,[n,ip (scr ns),ip (.lst b),ip (.int room)])
 | [],t,x,_=>⟨[],t,x,rfl,by simp,by simp,rfl⟩
 | a::L,t,x,h=>by
  rw [ap] at h;obtain ⟨r,r0,r1,hd⟩:=vf ns t (many:=room) f (by omega);obtain ⟨es,b,n,p,B,o,z⟩:=Ju ns f L (t++[.int 0]) (ip (.str a)) (by rw [ah]; simp; omega);have N:2<=sizeLine:=jg (by omega);refine ⟨(a,r)::es,b,n,by simp [qI] at p ⊢; exact p,λe i=>?_,by rw [o,ah]; simp; omega,?_⟩
  ·rcases ac.mp i with rfl | i;·exact ⟨r0,r1⟩
   ·exact B e i
  ·simp [jP,xW,qC,jf,hd,N,z,prL]
theorem Xv (w:jy ws) (p q:Int):(LS (qp ws p q)).length<=12:=by
 have c:(qp ws p q).length<=6:=by simp [qp]; exact w.2.1
 unfold LS;rw [(qN _).length_eq];have:=VN ((qp ws p q).map (·.1)++(qp ws p q).map (·.2)) [];simp only [ah,ay,bf] at this;omega
theorem qhc (a:jy ws) (p q:Int):∀ x∈LS (qp ws p q),∃ c,az c/\x=⟨#[c]⟩:=λx hx=>by
 obtain ⟨y,D,h⟩:=mem_LS.mp hx;obtain ⟨w,m,rfl⟩:=af.mp D;rcases h with rfl | rfl;·exact qaT (a.2.2.2 w m) p
 ·exact qaT (a.2.2.2 w m) q
abbrev Pr:=Str×Str
abbrev Wk:=List Nat
noncomputable def inL (l:Wk):List D:=l.map λ(k:Nat)=>.int (k:Nat)
abbrev lD (l:Wk):D:=.lst (inL l)
abbrev nD (ns:List Int):D:=.tup (ns.map D.int)
abbrev pD (p:Pr):D:=.tup [.str p.1,.str p.2]
noncomputable def nI (ns:List Int) (k:Nat):Int:=(ns[k]?).getD 0
variable {ns:List Int}
theorem qhd {k:Nat} (h:k < ns.length):ixD (nD ns) (.int (k:Nat))=.ok (.int (nI ns k)):=by unfold ixD nI;simp only [];rw [wk,aG,aC h];rfl
noncomputable def qQ (ns:List Int) (t:Int) (l:Wk):Int:=l.foldl (λa k=>nI ns k - a) t
def qe8 (nd:D) (ns:List Int):Prop:=∀ k:Nat,k < ns.length->ixD nd (.int (k:Nat))=.ok (.int (nI ns k))
theorem qaV (ns:List Int):qe8 (nD ns) ns:=λ_ h=>qhd h
theorem qhe (ns:List Int):qe8 (.lst (ns.map D.int)) ns:=λk h=>by unfold ixD nI;simp only [];rw [wk,aG,aC h];rfl
theorem Jv {nd:D} {ns:List Int} (d:qe8 nd ns) {a s:Option D}:∀ (l:Wk) (t:Int) (x:Option D),(∀ k∈l,k < ns.length)->∃ n,vC (gNm 4) (jz 3 (d2 JB (d2 ixD (qe 1) (qe 4)) (qe 3))) (inL l) [a,ip nd,s,ip (.int t),x]=.ok (.nx,[a,ip nd,s,ip (.int (qQ ns t l)),n])
 | [],t,x,_=>⟨x,rfl⟩
 | k::l,t,x,h=>by have b:=d k (h k (ai ..));obtain ⟨n,e⟩:=Jv d (a:=a) (s:=s) l (nI ns k - t) (ip (.int (k:Nat))) λj G=>h j (aa _ G);refine ⟨n,?_⟩;have c:qQ ns t (k::l)=qQ ns (nI ns k - t) l:=rfl;rw [c,<-e];simp [inL,vC,b,JB,uu]
variable {nd:D}
theorem yZ (d:qe8 nd ns) {l:Wk} (h:∀ k∈l,k < ns.length) (t:Int):vy [lD l,nd,.int t]=.ok (.int (qQ ns t l),[.non,.non,.non]):=by obtain ⟨n,e⟩:=Jv d (a:=ip (lD l)) (s:=ip (.int t)) l t iq h;refine runD_ap.trans ?_;unfold ze;rw [show qw zd [lD l,nd,.int t]=[ip (lD l),ip nd,ip (.int t),iq,iq] from rfl];refine (qB (ρ1:=[ip (lD l),ip nd,ip (.int t),ip (.int t),iq]) (by simp)).trans ?_;refine (qB (ρ1:=[ip (lD l),ip nd,ip (.int t),ip (.int (qQ ns t l)),n]) (by rw [kL]; exact e)).trans ?_;simp [qx]
noncomputable def odd (l:Wk):Bool:=decide (l.length % 2=1)
theorem QB (l:Wk):wW [lD l]=.ok (.bl (odd l),[.non]):=by
 refine runD_ap.trans ?_;have h:((inL l).length:Int) % 2=((l.length % 2:Nat):Int):=by simp [inL]
 by_cases q:l.length % 2=1;·simp [gp,qw,jD,wq,uu,eqD,eqN,eqS,qx,h,odd,q]
 ·have g:¬((l.length % 2:Nat):Int)=1:=by omega
  simp [gp,qw,jD,wq,uu,eqD,eqN,eqS,qx,h,odd,q,g];omega
noncomputable def ZG (l:Wk) (r:Int) (ns:List Int):Bool:=if odd l=iA then decide (r % 2=0)&&decide (qQ ns 0 l % 2=1) else !decide (qQ ns 0 l % r=0)
theorem qe9 (d:qe8 nd ns) {l:Wk} (h:∀ k∈l,k < ns.length) (f:1<=r):Xg [lD l,.int r,nd]=.ok (.bl (ZG l r ns),[.non,.non,.non]):=by
 have h1:=yZ d h 0;have h2:=QB l;have a:0 < r:=by omega
 refine runD_ap.trans ?_;unfold ZG;generalize qQ ns 0 l=t at h1;cases q:odd l with
 | true=>rw [q] at h2;by_cases e1:r % 2=0 <;> simp [Xf,qw,qC,jf,h1,h2,wu,wq,uu,eqD,eqN,eqS,qx,e1] <;> rfl
 | false=>rw [q] at h2;simp [Xf,qw,qC,jf,h1,h2,wu,wq,uu,neD,eqN,eqS,qx,a];rfl
abbrev Wy:=List (Str×Str×Wk)
noncomputable def wD (W:Wy):List (Key×D):=W.map λe=>(.inr e.1,.tup [.str e.2.1,lD e.2.2])
noncomputable def kW (W:Wy):List Str:=W.map (·.1)
theorem qdC (W:Wy) (x:Str):GR (wD W) (.inr x)=decide (x∈kW W):=by
 unfold GR wD kW
 induction W with
 | nil=>rfl
 | cons e W j=>
  rw [aE,cM,j];by_cases h:e.1=x;·subst h; simp
  ·have h2:¬(bp e.1:Key)=bp x:=λz=>h (bp.inj z);have a:¬x=e.1:=λz=>h z.symm;simp [h2,a]
variable {W:Wy}
theorem qdD {r:Str} {l:Wk} (h:x∉kW W):Ji (wD W) (.inr x) (.tup [.str r,lD l])=wD (W++[(x,r,l)]):=by
 unfold Ji;have h1:((wD W).any λp=>decide (p.1=(bp x:Key)))=false:=by have:=qdC W x;unfold GR at this;rw [this];exact decide_eq_false h
 rw [h1,if_neg bz];unfold wD;rw [cw];rfl
theorem qfa:∀ {W:Wy} {e:Str×Str×Wk},(kW W).Nodup->e∈W->ixD (.dct (wD W)) (.str e.1)=.ok (.tup [.str e.2.1,lD e.2.2])
 | [],e,_,h=>by cases h
 | a::W,e,hn,h=>by
  have r:=aL.mp (show (a.1::kW W).Nodup from hn);rcases ac.mp h with rfl | h;·simp [ixD,wD]
  ·have b:a.1≠e.1:=λz=>r.1 (by rw [z]; exact af.mpr ⟨e,h,rfl⟩);have j:=qfa r.2 h;unfold ixD at j ⊢;simp only [wD,aE] at j ⊢;have h2:¬(bp a.1:Key)=bp e.1:=λz=>b (bp.inj z);rw [bA (by simpa using h2)];exact j
inductive Path (seen:List Pr) (r:Str):Wk->Str->Prop
 | nil:Path seen r [] r
 | snoc {l:Wk} {x y:Str} {k:Nat} {p:Pr}:Path seen r l x->seen[k]?=ip p->(p=(x,y)\/p=(y,x))->Path seen r (l++[k]) y
variable {seen:List Pr}
theorem Path.lt {r:Str} {l:Wk} (h:Path seen r l x):∀ k∈l,k < seen.length:=by
 induction h with
 | nil=>simp
 | snoc _ e _ j=>
  intro k a;rcases aj.mp a with a | a;·exact j k a
  ·rw [ao.mp a];exact (aB.mp e).1
structure WI (seen:List Pr) (W:Wy):Prop where
 nd:(kW W).Nodup
 sub:∀ x∈kW W,x∈LS seen
 path:∀ e∈W,Path seen e.2.1 e.2.2 e.1
 len:∀ e∈W,e.2.2.length < W.length
theorem kZ (W V:Wy):kW (W++V)=kW W++kW V:=by simp [kW]
theorem WI.add (h:WI seen W) {r:Str} {l:Wk} (hx:x∉kW W) (c:x∈LS seen) (hp:Path seen r l x) (hl:l.length<=W.length):WI seen (W++[(x,r,l)]) where
 nd:=by rw [kZ];refine bQ.mpr ⟨h.nd,by simp [kW],λa g b d=>?_⟩;rw [show kW [(x,r,l)]=[x] from rfl] at d;rw [ao.mp d];exact λz=>hx (z ▸ g)
 sub:=λy D=>by
  rw [kZ] at D;rcases aj.mp D with D | D;·exact h.sub y D
  ·rw [show y=x from ao.mp D]; exact c
 path:=λe i=>by
  rcases aj.mp i with i | i;·exact h.path e i
  ·rw [ao.mp i]; exact hp
 len:=λe i=>by
  rw [ah];rcases aj.mp i with i | i;·have:=h.len e i; simp; omega
  ·rw [ao.mp i]; simp; omega
theorem UN:∀ {a b:List Str},a.Nodup->(∀ x∈a,x∈b)->a.length<=b.length
 | [],b,_,_=>bE _
 | x::a,b,hn,h=>by have r:=aL.mp hn;have hx:=h x (ai ..);have j:=UN (b:=b.erase x) r.2 λy D=>(List.mem_erase_of_ne (λz=>r.1 (by rw [<-z]; exact D))).mpr (h y (aa _ D));rw [List.length_erase_of_mem hx] at j;have:=cm hx;rw [ap];omega
theorem WI.le (h:WI seen W):W.length<=(LS seen).length:=by have:=UN h.nd h.sub;simpa [kW] using this
noncomputable def oth (p:Pr) (x:Str):Str:=if x=p.1 then p.2 else p.1
theorem qcU (p:Pr) (x:Str):kS [pD p,.str x]=.ok (.str (oth p x),[.non,.non]):=by refine runD_ap.trans ?_;unfold oth;by_cases h:x=p.1 <;> simp [wm,qw,qx,ixD,at0,at1,eqD,eqN,eqS,h]
theorem qfb (p:Pr) (x:Str):inA (.str x) (pD p)=.ok (.bl (decide (x=p.1\/x=p.2))):=by have h:=xL x [p.1,p.2];simp only [aE,cg] at h;show (inD (.str x) (pD p)).bind (λb=>Out.ok (D.bl b))=_;unfold inD;simp only [h];simp
theorem Xw (W:Wy) (x:Str):JO (.str x) (.dct (wD W))=.ok (.bl (!decide (x∈kW W))):=by unfold JO;simp only [Jh];rw [qdC]
theorem qhf {p:Pr} (hp:p∈seen) (x:Str):oth p x∈LS seen:=by
 rw [mem_LS];refine ⟨p,hp,?_⟩;unfold oth;split;·exact .inr rfl
 ·exact .inl rfl
abbrev spB:Sl->Out (Fl×Sl):=(qT (jz 7 (qv [.vl,.vl] kS (qd (qe 6) (qd (qe 4) qE))))
  (sIf (qdk (jb (d2 inA (qe 4) (qe 6))) (jb (d2 JO (qe 7) (qe 2)))) (qT (zU 2 (vM (qd (qe 1) (qd (d2 kb (d2 ixD (d2O 2 ixD (qe 4)) (dC (.int 1))) (yz (qd (qe 5) qE))) qE))) (qe 7))
  (kD (gN 3 JK (qe 7)))) jJ))
theorem qcV {f g:Sl->Out (Fl×Sl)} (h:f ρ=.ok (.nx,ρ1)):qT f g ρ=g ρ1:=by rw [Uh,h];rfl
variable {g:D->Sl->Out Sl} {fb:Sl->Out (Fl×Sl)} {ρ2:Sl}
theorem wJ (h1:g d ρ=.ok ρ1) (h2:fb ρ1=.ok (.nx,ρ2)):vC g fb (d::ds) ρ=vC g fb ds ρ2:=by rw [vC,h1];simp only [Out.plain,kX];rw [h2];rfl
theorem qhg {v:D} (h1:g d ρ=.ok ρ1) (h2:fb ρ1=.ok (.rt v,ρ2)):vC g fb (d::ds) ρ=.ok (.rt v,ρ2):=by rw [vC,h1];simp only [Out.plain,kX];rw [h2];rfl
variable {root y:Str} {ly:Wk}
theorem qfc (E:(LS seen).length<=20) (a:WI seen W) (i:(y,root,ly)∈W) {k:Nat} {p:Pr} (v:seen[k]?=ip p) (Q:List Str) (G:Q.length<=1000) (s V:Option D):∃ (M:Wy) (f:Option D),WI seen (W++M)/\(∀ e∈M,e.2.1=root)/\M.length<=1/\((y=p.1\/y=p.2)->oth p y∈kW (W++M)) /\
   spB [s,ip (.str root),ip (.dct (wD W)),ip (.lst (Q.map D.str)),ip (.str y),ip (.int (k:Nat)),ip (pD p),V]=.ok (.nx,[s,ip (.str root),ip (.dct (wD (W++M))),ip (.lst ((Q++kW M).map D.str)),ip (.str y),ip (.int (k:Nat)),ip (pD p),f]):=by
 have h1:=qcU p y;have h2:=qfb p y;have j:=Xw W (oth p y);have S:=a.le;have C:=big;have b:=a.len _ i;have o:p∈seen:=aY v;by_cases q:(y=p.1\/y=p.2)/\oth p y∉kW W
 ·refine ⟨[(oth p y,root,ly++[k])],ip (.str (oth p y)),a.add q.2 (qhf o y) (.snoc (a.path _ i) v ?_) (by rw [ah]; simp; simp at b; omega),by simp,by simp,λ_=>by rw [kZ]; exact aj.mpr (.inr (by simp [kW])),?_⟩
  ·obtain ⟨p1,p2⟩:=p;unfold oth;rcases q.1 with e | e;·have e:y=p1:=e;subst e;simp
   ·have e:y=p2:=e;subst e;by_cases z:y=p1;·subst z; simp
    ·simp [z]
  ·unfold spB;rw [qcV (ρ1:=[s,ip (.str root),ip (.dct (wD W)),ip (.lst (Q.map D.str)),ip (.str y),ip (.int (k:Nat)),ip (pD p),ip (.str (oth p y))]) (by simp [qC,jf,h1])];have h:decide (y=p.1\/y=p.2)=true:=decide_eq_true q.1;have g:(!decide (oth p y∈kW W))=true:=by rw [decide_eq_false q.2]; rfl
   rw [h] at h2;rw [g] at j;have d:=qfa a.nd i;simp only [] at d;have c:ixD (.tup [.str root,lD ly]) (.int 1)=.ok (lD ly):=by simp [ixD,at1]
   have t:=qdD (W:=W) (x:=oth p y) (r:=root) (l:=ly++[k]) q.2;have hl:(inL ly).length+1<=sizeLine:=by simp [inL]; simp at b; omega
   have A:1<=sizeLine:=by omega
   have N:2<=sizeLine:=by omega
   have m:(wD W).length < sizeLine:=by simp [wD]; omega
   have n:Q.length < sizeLine:=by omega
   have u:inL ly++[.int (k:Nat)]=inL (ly++[k]):=by simp [inL]
   rw [qgQ,show qdk (jb (d2 inA (qe 4) (qe 6))) (jb (d2 JO (qe 7) (qe 2))) [s,ip (.str root),ip (.dct (wD W)),ip (.lst (Q.map D.str)),ip (.str y),ip (.int (k:Nat)),ip (pD p),ip (.str (oth p y))]=.ok (iA,[s,ip (.str root),ip (.dct (wD W)),ip (.lst (Q.map D.str)),ip (.str y),ip (.int (k:Nat)),ip (pD p),ip (.str (oth p y))]) by simp [h2,j]];simp only [kX,if_true];rw [qcV (ρ1:=[s,ip (.str root),ip (.dct (wD (W++[(oth p y,root,ly++[k])]))),ip (.lst (Q.map D.str)),ip (.str y),ip (.int (k:Nat)),ip (pD p),ip (.str (oth p y))]) (by simp [zU,d2O,d,c,kb,A,N,hl,u,Jh,m,t])];simp [yP,JK,n,kW]
 ·refine ⟨[],ip (.str (oth p y)),by simpa using a,by simp,by simp,λz=>?_,?_⟩;·rw [bi];exact bK λw=>q ⟨z,w⟩
  ·unfold spB;rw [qcV (ρ1:=[s,ip (.str root),ip (.dct (wD W)),ip (.lst (Q.map D.str)),ip (.str y),ip (.int (k:Nat)),ip (pD p),ip (.str (oth p y))]) (by simp [qC,jf,h1])];by_cases z:y=p.1\/y=p.2
   ·have h:decide (y=p.1\/y=p.2)=true:=decide_eq_true z;have B:oth p y∈kW W:=bK λw=>q ⟨z,w⟩;have g:(!decide (oth p y∈kW W))=false:=by rw [decide_eq_true B]; rfl
    rw [h] at h2;rw [g] at j;simp [h2,j,kW]
   ·have h:decide (y=p.1\/y=p.2)=false:=decide_eq_false z;rw [h] at h2;simp [h2,kW]
noncomputable def en (k0:Nat) (rest:List Pr):List D:=(rest.zipIdx k0).map λp=>.tup [.int (p.2:Nat),pD p.1]
theorem qhh (seen:List Pr):JR (jG seen)=en 0 seen:=by unfold JR en jG;rw [List.zipIdx_map,aV];rfl
theorem qdE (d:(LS seen).length<=20) (s:Option D):∀ (rest:List Pr) (k0:Nat) (W:Wy) (Q:List Str) (a x V:Option D),seen.drop k0=rest->WI seen W->(y,root,ly)∈W->Q.length+rest.length<=500 ->∃ (M:Wy) (U c b:Option D),WI seen (W++M)/\(∀ e∈M,e.2.1=root)/\(∀ p∈rest,(y=p.1\/y=p.2)->oth p y∈kW (W++M))/\M.length<=rest.length /\
   vC (jL 2 (qD (gNm 5) (qD (gNm 6) jK))) spB (en k0 rest) [s,ip (.str root),ip (.dct (wD W)),ip (.lst (Q.map D.str)),ip (.str y),a,x,V]=.ok (.nx,[s,ip (.str root),ip (.dct (wD (W++M))),ip (.lst ((Q++kW M).map D.str)),ip (.str y),U,c,b])
 | [],k0,W,Q,a,x,V,_,hW,_,_=>⟨[],a,x,V,by simpa using hW,by simp,by simp,by simp,by simp [en,vC,kW]⟩
 | p::rest,k0,W,Q,a,x,V,hd,hW,hy,hQ=>by
  rw [ap] at hQ;have k:seen[k0]?=ip p:=by have:=congrArg List.head? hd;rw [List.head?_drop] at this;simpa using this
  have hd2:seen.drop (k0+1)=rest:=by have:=congrArg List.tail hd;rw [List.tail_drop] at this;simpa using this
  obtain ⟨M1,r1,t,r,o,n,q⟩:=qfc d hW hy k Q (by omega) s V;have f:(kW M1).length<=1:=by simpa [kW] using o
  obtain ⟨M2,U,c,b,A,m,l,w,j⟩:=qdE d s rest (k0+1) (W++M1) (Q++kW M1) (ip (.int (k0:Nat))) (ip (pD p)) r1 hd2 t (aj.mpr (.inl hy)) (by rw [ah]; omega);refine ⟨M1++M2,U,c,b,by rw [<-aS]; exact A,λe i=>?_,λF h z=>?_,by rw [ah,ap]; omega,?_⟩
  ·rcases aj.mp i with i | i;·exact r e i
   ·exact m e i
  ·rw [<-aS,kZ];rcases ac.mp h with rfl | h;·exact aj.mpr (.inl (n z))
   ·have:=l F h z;rw [kZ] at this;exact this
  ·rw [kZ,<-aS,<-aS];refine bT ?_ j;have g:en k0 (p::rest)=.tup [.int (k0:Nat),pD p]::en (k0+1) rest:=by simp [en,fU]
   rw [g];exact wJ rfl q
theorem qcW (h1:ft ρ=.ok (iA,ρ1)) (h2:fb ρ1=.ok (.nx,ρ2)):kG ft fb (n+1) ρ=kG ft fb n ρ2:=by rw [kG,h1];simp only [kX,if_true];rw [h2];rfl
theorem qaW (h1:ft ρ=.ok (iw,ρ1)):kG ft fb (n+1) ρ=.ok (.nx,ρ1):=by rw [kG,h1];rfl
abbrev spC:Sl->Out (Bool×Sl):=jb (d2 gtD (d1 jD (qe 3)) (dC (.int 0)))
abbrev spW:Sl->Out (Fl×Sl):=(qT (jz 4 (qao 3)) (QK (Zq (qe 0)) (jL 2 (qD (gNm 5) (qD (gNm 6) jK))) spB))
abbrev sD (seen:List Pr):D:=.lst (jG seen)
theorem Xx (v:seen.length<=10) (s:(LS seen).length<=20) (root:Str):∀ (n:Nat) (W:Wy) (Q:List Str) (c b a V:Option D),n<=100->WI seen W->(∀ x∈Q,∃ l,(x,root,l)∈W)->Q.length+((LS seen).length - W.length) < n ->∃ (M:Wy) (t U f d:Option D),WI seen (W++M)/\(∀ e∈M,e.2.1=root)/\(∀ x,x∈Q\/x∈kW M->∀ p∈seen,(x=p.1\/x=p.2)->oth p x∈kW (W++M)) /\
   kG spC spW n [ip (sD seen),ip (.str root),ip (.dct (wD W)),ip (.lst (Q.map D.str)),c,b,a,V]=.ok (.nx,[ip (sD seen),ip (.str root),ip (.dct (wD (W++M))),ip (.lst []),t,U,f,d])
 | 0,W,Q,c,b,a,V,_,_,_,h=>absurd h (Nat.not_lt_zero _)
 | n+1,W,[],c,b,a,V,_,hW,_,_=>⟨[],c,b,a,V,by simpa using hW,by simp,by simp [kW],by rw [bi];exact qaW (by simp [jD,gtD,uu])⟩
 | n+1,W,y::Q,c,b,a,V,h100,hW,hQ,hm=>by
  obtain ⟨ly,u⟩:=hQ y (ai ..);rw [ap] at hm;obtain ⟨M1,U,f,d,g,o,G,H,E⟩:=qdE s (ip (sD seen)) seen 0 W Q b a V (by simp) hW u (by omega);have S:=g.le;rw [ah] at S;obtain ⟨M2,r,m,k,j,C,B,A,w⟩:=Xx v s root n (W++M1) (Q++kW M1) (ip (.str y)) U f d (by omega) g (λx hx=>by
   rcases aj.mp hx with hx | hx;·obtain ⟨l,hl⟩:=hQ x (aa _ hx);exact ⟨l,aj.mpr (.inl hl)⟩
   ·obtain ⟨e,i,rfl⟩:=af.mp hx;refine ⟨e.2.2,aj.mpr (.inr ?_)⟩;rw [<-o e i];exact i) (by
   rw [ah,ah,show (kW M1).length=M1.length by simp [kW]];omega)
  refine ⟨M1++M2,r,m,k,j,by rw [<-aS]; exact C,λe i=>?_,λx hx p hp z=>?_,?_⟩
  ·rcases aj.mp i with i | i;·exact o e i
   ·exact B e i
  ·rw [<-aS];by_cases q:x=y;·subst q;rw [kZ];exact aj.mpr (.inl (G p hp z))
   ·refine A x ?_ p hp z;rcases hx with hx | hx
    ·rcases ac.mp hx with e | hx;·exact absurd e q
     ·exact .inl (aj.mpr (.inl hx))
    ·rw [kZ] at hx;rcases aj.mp hx with hx | hx;·exact .inl (aj.mpr (.inr hx))
     ·exact .inr hx
  ·rw [<-aS];refine bT ?_ w;refine qcW (ρ1:=[ip (sD seen),ip (.str root),ip (.dct (wD W)),ip (.lst ((y::Q).map D.str)),c,b,a,V]) (by
    have:(0:Int) < (Q.length:Int)+1:=by omega
    simp [jD,gtD,uu,this]) ?_
   unfold spW;rw [qcV (ρ1:=[ip (sD seen),ip (.str root),ip (.dct (wD W)),ip (.lst (Q.map D.str)),ip (.str y),b,a,V]) (by simp [qao])];rw [kL,show Zq (qe 0) [ip (sD seen),ip (.str root),ip (.dct (wD W)),ip (.lst (Q.map D.str)),ip (.str y),b,a,V]=.ok (JR (jG seen),[ip (sD seen),ip (.str root),ip (.dct (wD W)),ip (.lst (Q.map D.str)),ip (.str y),b,a,V]) from rfl,kX,qhh];exact E
theorem qaX (q:seen.length<=6) (n:(LS seen).length<=12) (s:WI seen W) (f:root∉kW W) (m:root∈LS seen):∃ M:Wy,WI seen (W++M)/\(∀ e∈M,e.2.1=root)/\(root,root,[])∈M/\(∀ x∈kW M,∀ p∈seen,(x=p.1\/x=p.2)->oth p x∈kW (W++M))/\gm [sD seen,.str root,.dct (wD W)]=.ok (.non,[.non,.non,.dct (wD (W++M))]):=by
 have h:=s.add f m (r:=root) (l:=[]) .nil (bE _);have S:=h.le;have b:=s.le;have C:=big;obtain ⟨M,k,U,j,g,c,o,z,y⟩:=Xx (by omega) (by omega) root 20 (W++[(root,root,[])]) [root] iq iq iq iq (by omega) h (λx hx=>⟨[],by rw [ao.mp hx]; exact aj.mpr (.inr (ao.mpr rfl))⟩) (by simp; omega);rw [aS] at c z y;refine ⟨[(root,root,[])]++M,c,λe i=>?_,aj.mpr (.inl (ao.mpr rfl)),λx hx p hp d=>z x ?_ p hp d,?_⟩
 ·rcases aj.mp i with i | i;·rw [ao.mp i]
  ·exact o e i
 ·rw [kZ] at hx;rcases aj.mp hx with hx | hx;·exact .inl hx
  ·exact .inr hx
 ·refine runD_ap.trans ?_;unfold Kc;rw [show qw Kb [sD seen,.str root,.dct (wD W)]=[ip (sD seen),ip (.str root),ip (.dct (wD W)),iq,iq,iq,iq,iq] from rfl];have t:=qdD (W:=W) (x:=root) (r:=root) (l:=[]) f;rw [show lD []=.lst [] from rfl] at t;have N:2<=sizeLine:=by omega
  have A:1<=sizeLine:=by omega
  have a:(wD W).length < sizeLine:=by simp [wD]; omega
  refine (qB (ρ1:=[ip (sD seen),ip (.str root),ip (.dct (wD (W++[(root,root,[])]))),iq,iq,iq,iq,iq]) (by simp [zU,N,Jh,a,t])).trans ?_;refine (qB (ρ1:=[ip (sD seen),ip (.str root),ip (.dct (wD (W++[(root,root,[])]))),ip (.lst [.str root]),iq,iq,iq,iq]) (by simp [A])).trans ?_;exact (congrArg (qad [.val,.val,.io]) y).trans rfl
def CI (seen:List Pr) (W:Wy):Prop:=∀ e∈W,∀ p∈seen,(e.1=p.1\/e.1=p.2)->∃ a∈W,a.1=oth p e.1/\a.2.1=e.2.1
def RI (W:Wy):Prop:=∀ e∈W,(e.2.1,e.2.1,[])∈W
theorem qfd {p:Pr} (h:x=p.1\/x=p.2):oth p (oth p x)=x/\(oth p x=p.1\/oth p x=p.2):=by
 obtain ⟨a,b⟩:=p;unfold oth;simp only [];by_cases q:x=a
 ·subst q;simp only [if_true];by_cases d:b=x;·subst d; simp
  ·simp [d]
 ·have:x=b:=by rcases h with h | h; exact absurd h q; exact h
  subst this;simp [q]
theorem gC:∀ {W:Wy},(kW W).Nodup->∀ {e b:Str×Str×Wk},e∈W->b∈W->e.1=b.1->e=b
 | [],_,e,b,h,_,_=>by cases h
 | a::W,hn,e,b,h,h',q=>by
  have r:=aL.mp (show (a.1::kW W).Nodup from hn);rcases ac.mp h with h1 | h1
  ·rcases ac.mp h' with h2 | h2;·rw [h1,h2]
   ·exact absurd (show a.1∈kW W from af.mpr ⟨b,h2,by rw [<-q,h1]⟩) r.1
  ·rcases ac.mp h' with h2 | h2;·exact absurd (show a.1∈kW W from af.mpr ⟨e,h1,by rw [q,h2]⟩) r.1
   ·exact gC r.2 h1 h2 q
abbrev woB:Sl->Out (Fl×Sl):=(sIf (jb (d2 JO (qe 2) (qe 1))) (kD (qv [.vl,.vl,.sl 1] gm (qd (qe 0) (qd (qe 2) (kt qE))))) jJ)
def MI (W:Wy):Prop:=∀ e∈W,leS e.2.1 e.1
theorem qcX (x:Str):leS x x:=(VT x x).elim id id
theorem QC (v:seen.length<=6) (u:(LS seen).length<=12):∀ (xs:List Str) (W:Wy) (x:Option D),(∀ x∈xs,x∈LS seen)->xs.Pairwise leS->(∀ z∈LS seen,z∈kW W\/z∈xs)->WI seen W->CI seen W->RI W->MI W ->∃ (M:Wy) (n:Option D),WI seen (W++M)/\CI seen (W++M)/\RI (W++M)/\MI (W++M)/\(∀ x∈xs,x∈kW (W++M))/\vC (gNm 2) woB (xs.map D.str) [ip (sD seen),ip (.dct (wD W)),x]=.ok (.nx,[ip (sD seen),ip (.dct (wD (W++M))),n])
 | [],W,x,_,_,_,hW,hC,hR,hM=>⟨[],x,by simpa using hW,by simpa using hC,by simpa using hR,by simpa using hM,by simp,by simp [vC]⟩
 | y::xs,W,x,hx,hso,hal,hW,hC,hR,hM=>by
  have b:=aP.mp hso;have j:=Xw W y;by_cases q:y∈kW W
  ·obtain ⟨M,n,t,s,r,m,o,l⟩:=QC v u xs W (ip (.str y)) (λz a=>hx z (aa _ a)) b.2 (λz a=>by
    rcases hal z a with h | h;·exact .inl h
    ·rcases ac.mp h with rfl | h;·exact .inl q
     ·exact .inr h) hW hC hR hM
   refine ⟨M,n,t,s,r,m,λz a=>?_,?_⟩
   ·rcases ac.mp a with rfl | a;·rw [kZ]; exact aj.mpr (.inl q)
    ·exact o z a
   ·refine bT (wJ (ρ1:=[ip (sD seen),ip (.dct (wD W)),ip (.str y)]) rfl ?_) l;rw [decide_eq_true q] at j;simp [j]
  ·obtain ⟨M1,A,k,H,N,L⟩:=qaX v u hW q (hx y (ai ..));have C:RI (W++M1):=λe i=>by
    rcases aj.mp i with i | i;·exact aj.mpr (.inl (hR e i))
    ·rw [k e i];exact aj.mpr (.inr H)
   have G:CI seen (W++M1):=λe i p hp a=>by
    rcases aj.mp i with i | i;·obtain ⟨f,h1,h2⟩:=hC e i p hp a;exact ⟨f,aj.mpr (.inl h1),h2⟩
    ·have K:=N e.1 (af.mpr ⟨e,i,rfl⟩) p hp a;obtain ⟨f,h1,h2⟩:=af.mp K;refine ⟨f,h1,h2,?_⟩;rcases aj.mp h1 with c | c
     ·exfalso;obtain ⟨o1,o2⟩:=qfd a;rw [<-h2] at o1 o2;obtain ⟨g,J,I,_⟩:=hC f c p hp o2;rw [o1] at I;have:=gC A.nd (aj.mpr (.inl J)) (aj.mpr (.inr i)) I;subst this;have d:=A.nd;rw [kZ] at d;exact (bQ.mp d).2.2 g.1 (af.mpr ⟨g,J,rfl⟩) g.1 (af.mpr ⟨g,i,rfl⟩) rfl
     ·rw [k f c,k e i]
   have E:MI (W++M1):=λe i=>by
    rcases aj.mp i with i | i;·exact hM e i
    ·rw [k e i];have d:=A.nd;rw [kZ] at d;have w:e.1∉kW W:=λz=>(bQ.mp d).2.2 e.1 z e.1 (af.mpr ⟨e,i,rfl⟩) rfl;have B:=A.sub e.1 (by rw [kZ]; exact aj.mpr (.inr (af.mpr ⟨e,i,rfl⟩)));rcases hal e.1 B with h | h;·exact absurd h w
     ·rcases ac.mp h with h | h;·rw [h]; exact qcX _
      ·exact b.1 e.1 h
   obtain ⟨M2,n,t,s,r,m,o,l⟩:=QC v u xs (W++M1) (ip (.str y)) (λz a=>hx z (aa _ a)) b.2 (λz a=>by
    rcases hal z a with h | h;·exact .inl (by rw [kZ]; exact aj.mpr (.inl h))
    ·rcases ac.mp h with rfl | h;·exact .inl (by rw [kZ]; exact aj.mpr (.inr (af.mpr ⟨_,H,rfl⟩)))
     ·exact .inr h) A G C E
   rw [aS] at t s r m o l;refine ⟨M1++M2,n,t,s,r,m,λz a=>?_,?_⟩
   ·rcases ac.mp a with rfl | a;·rw [kZ,kZ];exact aj.mpr (.inr (aj.mpr (.inl (af.mpr ⟨_,H,rfl⟩))))
    ·exact o z a
   ·refine bT (wJ (ρ1:=[ip (sD seen),ip (.dct (wD W)),ip (.str y)]) rfl ?_) l;rw [decide_eq_false q] at j;simp [j,qC,jf,L]
theorem ZH (d:seen.length<=6) (c:(LS seen).length<=12):∃ W:Wy,WI seen W/\CI seen W/\RI W/\MI W/\(∀ x∈LS seen,x∈kW W)/\wE [sD seen]=.ok (.dct (wD W),[.non]):=by obtain ⟨W,n,p,o,a,m,y,q⟩:=QC d c (LS seen) [] iq (λ_ h=>h) (by unfold LS; exact qX _) (λz b=>.inr b) ⟨by simp [kW],by simp [kW],by simp,by simp⟩ (λe i=>by cases i) (λe i=>by cases i) (λe i=>by cases i);rw [cx] at p o a m y q;refine ⟨W,p,o,a,m,y,?_⟩;have u:=um (l:=seen) (by omega);refine runD_ap.trans ?_;unfold Qn;rw [show qw Qm [sD seen]=[ip (sD seen),iq,iq] from rfl];refine (qB (ρ1:=[ip (sD seen),ip (.dct []),iq]) (by simp)).trans ?_;refine (qB (ρ1:=[ip (sD seen),ip (.dct (wD W)),n]) (by rw [kL,show jZ (qv [.vl] js (qd (qe 0) qE)) [ip (sD seen),ip (.dct []),iq]=.ok ((LS seen).map D.str,[ip (sD seen),ip (.dct []),iq]) by simp [qC,jf,u,jC],kX];exact q)).trans ?_;simp [qx]
noncomputable def qO (W:Wy) (x:Str):Str×Wk:=((W.find? λe=>decide (e.1=x)).map (·.2)).getD (⟨#[]⟩,[])
theorem jt (h:x∈kW W):(x,qO W x)∈W:=by
 unfold qO;cases q:W.find? λe=>decide (e.1=x) with
 | none=>obtain ⟨e,i,rfl⟩:=af.mp h;have:=dZ.mp q e i;simp at this
 | some e=>
  have h1:=bM q;have h2:e.1=x:=by simpa using fZ q
  rw [<-h2];exact h1
theorem KK (n:(kW W).Nodup) (h:x∈kW W):ixD (.dct (wD W)) (.str x)=.ok (.tup [.str (qO W x).1,lD (qO W x).2]):=qfa n (jt h)
theorem qiT {a b:D}:ixD (.tup [a,b]) (.int 0)=.ok a:=by simp [ixD,at0]
theorem qiU {a b:D}:ixD (.tup [a,b]) (.int 1)=.ok b:=by simp [ixD,at1]
theorem qfe (a b:Wk):inL a++inL b=inL (a++b):=by simp [inL]
theorem qaY (a:Wk):(inL a).length=a.length:=by simp [inL]
theorem qhi (l:Wk):xC (lD l)=.ok (lD l.reverse):=by simp [xC,inL]
theorem qaZ {a b:Wk} (h:a.length+b.length<=2000):kb (lD a) (lD b)=.ok (lD (a++b)):=by
 have z:(inL a).length+(inL b).length<=sizeLine:=by rw [qaY,qaY]; exact jg h
 show (if (inL a).length+(inL b).length<=sizeLine then Out.ok (D.lst (inL a++inL b)) else .bad)=_;rw [if_pos z,qfe]
abbrev Ci:=Str×Wk
noncomputable def cd (c:Ci):D:=.tup [.str c.1,lD c.2]
noncomputable def cD (C:List Ci):List D:=C.map cd
noncomputable def UO (W:Wy) (p:Pr) (k:Nat):Ci:=((qO W p.1).1,(qO W p.1).2++[k]++(qO W p.2).2.reverse)
noncomputable def CL (W:Wy) (k0:Nat) (rest:List Pr):List Ci:=(rest.zipIdx k0).map λp=>UO W p.1 p.2
abbrev ciB:Sl->Out (Fl×Sl):=(qT (jz 5 (d1 xC (d2 ixD (d2 ixD (qe 1) (d2 ixD (qe 4) (dC (.int 1)))) (dC (.int 1)))))
  (kD (gN 2 JK (vM (qd (d2 ixD (d2 ixD (qe 1) (d2 ixD (qe 4) (dC (.int 0)))) (dC (.int 0))) (qd (d2 kb (d2 kb (d2 ixD (d2 ixD (qe 1) (d2 ixD (qe 4) (dC (.int 0)))) (dC (.int 1))) (yz (qd (qe 3) qE))) (qe 5)) qE))))))
theorem qff (e:(LS seen).length<=20) (s:WI seen W) {p:Pr} (h1:p.1∈kW W) (h2:p.2∈kW W) {k:Nat} {acc:List D} (g:acc.length < 1000) (d x:Option D):∃ U,ciB [d,ip (.dct (wD W)),ip (.lst acc),ip (.int (k:Nat)),ip (pD p),x]=.ok (.nx,[d,ip (.dct (wD W)),ip (.lst (acc++[cd (UO W p k)])),ip (.int (k:Nat)),ip (pD p),U]):=by
 have i1:=KK s.nd h1;have i2:=KK s.nd h2;have i:=s.len _ (jt h1);have l:=s.len _ (jt h2);have S:=s.le;have C:=big;simp only [] at i l;have A:1<=sizeLine:=by omega
 have N:2<=sizeLine:=by omega
 have h:acc.length < sizeLine:=by omega
 have c:=qaZ (a:=(qO W p.1).2) (b:=[k]) (by simp; omega);have o:=qaZ (a:=(qO W p.1).2++[k]) (b:=(qO W p.2).2.reverse) (by simp; omega);have c:kb (lD (qO W p.1).2) (.lst [.int (k:Nat)])=.ok (lD ((qO W p.1).2++[k])):=c;have r2:=qhi (qO W p.2).2;refine ⟨ip (lD (qO W p.2).2.reverse),?_⟩;unfold ciB UO cd;rw [qcV (ρ1:=[d,ip (.dct (wD W)),ip (.lst acc),ip (.int (k:Nat)),ip (pD p),ip (lD (qO W p.2).2.reverse)]) (by simp [qiU,i2,r2])];simp [yP,qiT,qiU,i1,c,o,A,N,JK,h]
theorem qa0 (b:(LS seen).length<=20) (d:WI seen W) (s:Option D):∀ (rest:List Pr) (k0:Nat) (acc:List Ci) (x c a:Option D),(∀ p∈rest,p.1∈kW W/\p.2∈kW W)->acc.length+rest.length<=500 ->∃ y t U,vC (jL 2 (qD (gNm 3) (qD (gNm 4) jK))) ciB (en k0 rest) [s,ip (.dct (wD W)),ip (.lst (cD acc)),x,c,a]=.ok (.nx,[s,ip (.dct (wD W)),ip (.lst (cD (acc++CL W k0 rest))),y,t,U])
 | [],k0,acc,x,c,a,_,_=>⟨x,c,a,by simp [en,CL,vC]⟩
 | p::rest,k0,acc,x,c,a,h,hl=>by
  rw [ap] at hl;obtain ⟨h1,h2⟩:=h p (ai ..);obtain ⟨r5,e⟩:=qff b d h1 h2 (k:=k0) (acc:=cD acc) (by simp [cD]; omega) s a;obtain ⟨y,t,U,j⟩:=qa0 b d s rest (k0+1) (acc++[UO W p k0]) (ip (.int (k0:Nat))) (ip (pD p)) r5 (λq hq=>h q (aa _ hq)) (by rw [ah]; simp; omega);refine ⟨y,t,U,?_⟩;have f:en k0 (p::rest)=.tup [.int (k0:Nat),pD p]::en (k0+1) rest:=by simp [en,fU]
  have e1:acc++CL W k0 (p::rest)=(acc++[UO W p k0])++CL W (k0+1) rest:=by simp [CL,fU]
  rw [f,e1];refine bT (wJ rfl e) ?_;rw [show cD acc++[cd (UO W p k0)]=cD (acc++[UO W p k0]) by simp [cD]];exact j
theorem vK (g:∀ x∈LS seen,x∈kW W):∀ p∈seen,p.1∈kW W/\p.2∈kW W:=λp hp=>⟨g _ (mem_LS.mpr ⟨p,hp,.inl rfl⟩),g _ (mem_LS.mpr ⟨p,hp,.inr rfl⟩)⟩
theorem Jw (n:seen.length<=6) (c:(LS seen).length<=20) (s:WI seen W) (g:∀ x∈LS seen,x∈kW W):vY [sD seen,.dct (wD W)]=.ok (.lst (cD (CL W 0 seen)),[.non,.non]):=by obtain ⟨y,t,U,e⟩:=qa0 c s (ip (sD seen)) seen 0 [] iq iq iq (vK g) (by simp; omega);rw [cx] at e;refine runD_ap.trans ?_;unfold uQ;rw [show qw uP [sD seen,.dct (wD W)]=[ip (sD seen),ip (.dct (wD W)),iq,iq,iq,iq] from rfl];refine (qB (ρ1:=[ip (sD seen),ip (.dct (wD W)),ip (.lst []),iq,iq,iq]) (by simp)).trans ?_;refine (qB (ρ1:=[ip (sD seen),ip (.dct (wD W)),ip (.lst (cD (CL W 0 seen))),y,t,U]) (by rw [kL,show Zq (qe 0) [ip (sD seen),ip (.dct (wD W)),ip (.lst []),iq,iq,iq]=.ok (JR (jG seen),[ip (sD seen),ip (.dct (wD W)),ip (.lst []),iq,iq,iq]) from rfl,kX,qhh];exact e)).trans ?_;simp [qx]
theorem qhj (s:WI seen W) (g:∀ x∈LS seen,x∈kW W):∀ c∈CL W 0 seen,∀ k∈c.2,k < seen.length:=by
 intro c d k h;obtain ⟨q,hq,rfl⟩:=af.mp d;obtain ⟨p,j⟩:=q;have G:=List.mem_zipIdx hq;have hp:p∈seen:=by rw [G.2.2]; exact bY _
 obtain ⟨h1,h2⟩:=vK g p hp;unfold UO at h;simp only [aj,dJ,ao] at h;rcases h with (h | h) | h;·exact (s.path _ (jt h1)).lt k h
 ·have:=G.2.1;omega
 ·exact (s.path _ (jt h2)).lt k h
noncomputable def fD (F:List Ci):List (Key×D):=F.map λc=>(.inr c.1,lD c.2)
noncomputable def kF (F:List Ci):List Str:=F.map (·.1)
theorem qdF (F:List Ci) (x:Str):GR (fD F) (.inr x)=decide (x∈kF F):=by
 unfold GR fD kF
 induction F with
 | nil=>rfl
 | cons e F j=>
  rw [aE,cM,j];by_cases h:e.1=x;·subst h; simp
  ·have h2:¬(bp e.1:Key)=bp x:=λz=>h (bp.inj z);have a:¬x=e.1:=λz=>h z.symm;simp [h2,a]
variable {F:List Ci}
theorem qhk {l:Wk} (h:x∉kF F):Ji (fD F) (.inr x) (lD l)=fD (F++[(x,l)]):=by
 unfold Ji;have h1:((fD F).any λp=>decide (p.1=(bp x:Key)))=false:=by have:=qdF F x;unfold GR at this;rw [this];exact decide_eq_false h
 rw [h1,if_neg bz];unfold fD;rw [cw];rfl
noncomputable def yB (F:List Ci) (x:Str):Wk:=((F.find? λc=>decide (c.1=x)).map (·.2)).getD []
theorem UP:∀ (F:List Ci) (x:Str),(fD F).find? (λkv=>decide (kv.1=(bp x:Key)))=(F.find? λc=>decide (c.1=x)).map λc=>(bp c.1,lD c.2)
 | [],x=>rfl
 | c::F,x=>by
  have j:=UP F x;unfold fD at j ⊢;rw [aE];by_cases h:c.1=x;·rw [bI (by simp [h]),bI (by simp [h])];rfl
  ·have h2:¬(bp c.1:Key)=bp x:=λz=>h (bp.inj z);rw [bA (by simpa using h2),bA (by simpa using h),j]
theorem qiV (h:x∈kF F):ixD (.dct (fD F)) (.str x)=.ok (lD (yB F x)):=by
 unfold ixD yB;simp only [UP];cases q:F.find? λc=>decide (c.1=x) with
 | none=>obtain ⟨e,i,rfl⟩:=af.mp h;have:=dZ.mp q e i;simp at this
 | some c=>rfl
theorem qhl (F:List Ci) (x:Str):qhZ (fD F) (.inr x) (.lst [])=lD (yB F x):=by unfold qhZ yB;rw [UP];cases F.find? λc=>decide (c.1=x) <;> rfl
noncomputable def FO:List Ci->List Ci->List Ci
 | F,[]=>F
 | F,c::C=>FO (if odd c.2=iA/\c.1∉kF F then F++[c] else F) C
theorem QD:∀ (C F:List Ci),(∀ c∈FO F C,c∈F\/c∈C)/\(∀ x∈kF F,x∈kF (FO F C))/\(∀ c∈C,odd c.2=iA->c.1∈kF (FO F C))/\(FO F C).length<=F.length+C.length
 | [],F=>⟨λc h=>.inl h,λx h=>h,by simp,by simp [FO]⟩
 | c::C,F=>by
  unfold FO;by_cases q:odd c.2=iA/\c.1∉kF F
  ·rw [if_pos q];obtain ⟨a,b,d,e⟩:=QD C (F++[c]);refine ⟨λy D=>?_,λx hx=>b x (by simp [kF] at hx ⊢; exact .inl hx),λy D m=>?_,by rw [ah] at e; simp at e ⊢; omega⟩
   ·rcases a y D with h | h
    ·rcases aj.mp h with h | h;·exact .inl h
     ·exact .inr (by rw [ao.mp h]; exact ai ..)
    ·exact .inr (aa _ h)
   ·rcases ac.mp D with rfl | D;·exact b _ (by simp [kF])
    ·exact d y D m
  ·rw [if_neg q];obtain ⟨a,b,d,e⟩:=QD C F;refine ⟨λy D=>?_,b,λy D m=>?_,by simp at e ⊢; omega⟩
   ·rcases a y D with h | h;·exact .inl h
    ·exact .inr (aa _ h)
   ·rcases ac.mp D with rfl | D;·exact b _ (bK λw=>q ⟨m,w⟩)
    ·exact d y D m
abbrev foB:Sl->Out (Fl×Sl):=(sIf (qdk (xT (qv [.vl] wW (qd (qe 3) qE))) (jb (d2 JO (qe 2) (qe 1)))) (zU 1 (qe 3) (qe 2)) jJ)
theorem qhm (F:List Ci) (x:Str):JO (.str x) (.dct (fD F))=.ok (.bl (!decide (x∈kF F))):=by unfold JO;simp only [Jh];rw [qdF]
theorem UQ (a:Option D):∀ (C F:List Ci) (f e:Option D),F.length+C.length<=500->∃ b y,vC (jL 2 (qD (gNm 2) (qD (gNm 3) jK))) foB (cD C) [a,ip (.dct (fD F)),f,e]=.ok (.nx,[a,ip (.dct (fD (FO F C))),b,y])
 | [],F,f,e,_=>⟨f,e,rfl⟩
 | c::C,F,f,e,hl=>by
  rw [ap] at hl;have h1:=QB c.2;have h2:=qhm F c.1;have i:(fD F).length < sizeLine:=aI (by simp [fD]; omega) big;unfold FO;by_cases q:odd c.2=iA/\c.1∉kF F;·rw [if_pos q];obtain ⟨b,y,j⟩:=UQ a C (F++[c]) (ip (.str c.1)) (ip (lD c.2)) (by rw [ah]; simp; omega);refine ⟨b,y,bT (wJ (d:=cd c) (ρ1:=[a,ip (.dct (fD F)),ip (.str c.1),ip (lD c.2)]) rfl ?_) j⟩;rw [q.1] at h1;rw [decide_eq_false q.2] at h2;have hp:=qhk (F:=F) (x:=c.1) (l:=c.2) q.2;simp [qC,jf,h1,wu,h2,zU,Jh,i,hp]
  ·rw [if_neg q];obtain ⟨b,y,j⟩:=UQ a C F (ip (.str c.1)) (ip (lD c.2)) (by omega);refine ⟨b,y,bT (wJ (d:=cd c) (ρ1:=[a,ip (.dct (fD F)),ip (.str c.1),ip (lD c.2)]) rfl ?_) j⟩;cases g:odd c.2 with
   | false=>rw [g] at h1;simp [qC,jf,h1,wu]
   | true=>rw [g] at h1;have:c.1∈kF F:=bK λw=>q ⟨g,w⟩;rw [decide_eq_true this] at h2;simp [qC,jf,h1,wu,h2]
theorem Xy (C:List Ci) (hl:C.length<=400):wY [.lst (cD C)]=.ok (.dct (fD (FO [] C)),[.non]):=by obtain ⟨b,y,e⟩:=UQ (ip (.lst (cD C))) C [] iq iq (by simp; omega);refine runD_ap.trans ?_;unfold yS;rw [show qw yR [.lst (cD C)]=[ip (.lst (cD C)),iq,iq,iq] from rfl];refine (qB (ρ1:=[ip (.lst (cD C)),ip (.dct []),iq,iq]) (by simp)).trans ?_;refine (qB (ρ1:=[ip (.lst (cD C)),ip (.dct (fD (FO [] C))),b,y]) (by rw [kL,show jZ (qe 0) [ip (.lst (cD C)),ip (.dct []),iq,iq]=.ok (cD C,[ip (.lst (cD C)),ip (.dct []),iq,iq]) from rfl,kX];exact e)).trans ?_;simp [qx]
noncomputable def JN (F C:List Ci):List Ci:=(C.filter λc=>odd c.2).map λc=>(c.1,yB F c.1++c.2)
abbrev joT:Sl->Out (Bool×Sl):=xT (qv [.vl] wW (qd (qe 1) qE))
abbrev joE:Sl->Out (D×Sl):=vM (qd (qe 0) (qd (d2 kb (d2 ixD (qe 2) (qe 0)) (qe 1)) qE))
theorem qa1 (E:∀ c∈F,c.2.length<=100):∀ (C:List Ci) (x y:Option D),(∀ c∈C,c.2.length<=100)->(∀ c∈C,odd c.2=iA->c.1∈kF F) ->∃ n s,jP (jL 2 (qD (gNm 0) (qD (gNm 1) jK))) joT joE (cD C) [x,y,ip (.dct (fD F))]=.ok (cD (JN F C),[n,s,ip (.dct (fD F))])
 | [],x,y,_,_=>⟨x,y,rfl⟩
 | c::C,x,y,hl,hk=>by
  obtain ⟨n,s,j⟩:=qa1 E C (ip (.str c.1)) (ip (lD c.2)) (λd hd=>hl d (aa _ hd)) λd hd=>hk d (aa _ hd);refine ⟨n,s,?_⟩;have h1:=QB c.2;have N:2<=sizeLine:=jg (by omega);have e:cD (c::C)=.tup [.str c.1,lD c.2]::cD C:=rfl;cases q:odd c.2 with
  | false=>
   rw [q] at h1;have e1:JN F (c::C)=JN F C:=by simp [JN,q]
   rw [e,e1];simp [jP,xW,jL,qD,jK,qC,jf,h1,wu,j]
  | true=>
   rw [q] at h1;have e1:JN F (c::C)=(c.1,yB F c.1++c.2)::JN F C:=by simp [JN,q]
   have h:=hk c (ai ..) q;have i1:=qiV h;have hg:(yB F c.1).length<=100:=by
    unfold yB;cases w:F.find? λd=>decide (d.1=c.1) with
    | none=>simp
    | some d=>exact E d (bM w)
   have l:=hl c (ai ..);have p:=qaZ (a:=yB F c.1) (b:=c.2) (by omega);rw [e,e1];simp [jP,xW,jL,qD,jK,qC,jf,h1,wu,i1,p,N,j];simp [cD,cd]
variable {es:List D}
theorem KL {nt:Nat} (h:fi ρ=.ok (ds,ρ1)) (hl:ds.length<=sizeLine) (d:jP g ft fe ds (vi nt cap ρ1)=.ok (es,ρ2)):jw own nt cap fi g ft fe ρ=.ok (.lst es,jY own ρ2 nt cap ρ1):=by unfold jw;rw [h];simp only [kX];rw [if_pos hl,d];rfl
abbrev baB:Sl->Out (Fl×Sl):=(sIf (xT (qv [.vl,.vl,.vl] Xg (qd (qe 7) (qd (qe 1) (qd (qe 2) qE))))) (jM (vM (qd (qe 6) (qd (qe 7) qE)))) jJ)
theorem qa2 (e:qe8 nd ns) (f:1<=r) (a b c d:Option D):∀ (L:List Ci) (x y:Option D),(∀ w∈L,∀ k∈w.2,k < ns.length)->∃ ρ,vC (jL 2 (qD (gNm 6) (qD (gNm 7) jK))) baB (cD L) [a,ip (.int r),ip nd,b,c,d,x,y]=.ok (match L.find? λw=>ZG w.2 r ns with | some w=>.rt (cd w) | none=>.nx,ρ)
 | [],x,y,_=>⟨_,rfl⟩
 | w::L,x,y,h=>by
  have h1:=qe9 e (h w (ai ..)) f;have N:2<=sizeLine:=jg (by omega);cases q:ZG w.2 r ns with
  | true=>rw [q] at h1;refine ⟨[a,ip (.int r),ip nd,b,c,d,ip (.str w.1),ip (lD w.2)],?_⟩;rw [bI (by simpa using q)];exact qhg (d:=cd w) (ρ1:=[a,ip (.int r),ip nd,b,c,d,ip (.str w.1),ip (lD w.2)]) rfl (by simp [qC,jf,h1,wu,N,cd])
  | false=>rw [q] at h1;obtain ⟨ρ,j⟩:=qa2 e f a b c d L (ip (.str w.1)) (ip (lD w.2)) λv g=>h v (aa _ g);refine ⟨ρ,?_⟩;rw [bA (by simpa using q)];exact bT (wJ (d:=cd w) (ρ1:=[a,ip (.int r),ip nd,b,c,d,ip (.str w.1),ip (lD w.2)]) rfl (by simp [qC,jf,h1,wu])) j
noncomputable def BO (W:Wy) (seen:List Pr) (r:Int) (ns:List Int):Option Ci:=(CL W 0 seen++JN (FO [] (CL W 0 seen)) (CL W 0 seen)).find? λw=>ZG w.2 r ns
theorem qhn (h:(LS seen).length<=20) (s:WI seen W) (g:∀ x∈LS seen,x∈kW W):∀ c∈CL W 0 seen,c.2.length<=100:=by
 intro c d;obtain ⟨q,hq,rfl⟩:=af.mp d;obtain ⟨p,j⟩:=q;have G:=List.mem_zipIdx hq;have hp:p∈seen:=by rw [G.2.2]; exact bY _
 obtain ⟨h1,h2⟩:=vK g p hp;have i:=s.len _ (jt h1);have l:=s.len _ (jt h2);have S:=s.le;simp only [] at i l;unfold UO;simp;omega
theorem qa3 (W:Wy) (k0:Nat) (seen:List Pr):(CL W k0 seen).length=seen.length:=by simp [CL]
structure Sn (seen:List Pr) (W:Wy):Prop where
 n:seen.length<=6
 s:(LS seen).length<=12
 w:WI seen W
 C:CI seen W
 R:RI W
 a:∀ x∈LS seen,x∈kW W
 e:wE [sD seen]=.ok (.dct (wD W),[.non])
 z:∀ x∈LS seen,x.length<=2000
 m:MI W
theorem qa4 (S:Sn seen W) (m:qe8 nd ns) (A:ns.length=seen.length) (B:1<=r):Kl [sD seen,.int r,nd]=.ok (match BO W seen r ns with | some w=>cd w | none=>.non,[.non,.non,.non]):=by
 have u:(LS seen).length<=20:=by have:=S.s; omega
 have h1:=Jw S.n u S.w S.a;have o:=qa3 W 0 seen;have J:=S.n;have h2:=Xy (CL W 0 seen) (by omega);have b:=qhn u S.w S.a;have t:=qhj S.w S.a;obtain ⟨f1,_,p,f4⟩:=QD (CL W 0 seen) [];have E:∀ c∈FO [] (CL W 0 seen),c∈CL W 0 seen:=λc i=>by
  rcases f1 c i with h | h;·cases h
  ·exact h
 unfold BO;generalize hC:CL W 0 seen=C at h1 h2 o b t p E;generalize G:FO [] C=F at h2 p E;obtain ⟨I,H,y⟩:=qa1 (F:=F) (λc i=>b c (E c i)) C iq iq b p;refine runD_ap.trans ?_;unfold Kk;rw [show qw gq [sD seen,.int r,nd]=[ip (sD seen),ip (.int r),ip (nd),iq,iq,iq,iq,iq] from rfl];have j:=S.e;refine (qB (ρ1:=[ip (sD seen),ip (.int r),ip (nd),ip (.lst (cD C)),iq,iq,iq,iq]) (by simp [qC,jf,j,h1])).trans ?_;refine (qB (ρ1:=[ip (sD seen),ip (.int r),ip (nd),ip (.lst (cD C)),ip (.dct (fD F)),iq,iq,iq]) (by simp [qC,jf,h2])).trans ?_;have x:=KL (own:=[]) (cap:=[4]) (nt:=2) (fi:=jZ (qe 3)) (g:=jL 2 (qD (gNm 0) (qD (gNm 1) jK))) (ft:=joT) (fe:=joE) (ρ:=[ip (sD seen),ip (.int r),ip (nd),ip (.lst (cD C)),ip (.dct (fD F)),iq,iq,iq]) (ρ1:=[ip (sD seen),ip (.int r),ip (nd),ip (.lst (cD C)),ip (.dct (fD F)),iq,iq,iq]) (ds:=cD C) rfl (by simp [cD]; exact jg (by omega)) y;refine (qB (ρ1:=[ip (sD seen),ip (.int r),ip (nd),ip (.lst (cD C)),ip (.dct (fD F)),ip (.lst (cD (JN F C))),iq,iq]) (by rw [Qa,x]; rfl)).trans ?_;have D:(JN F C).length<=6:=by unfold JN;rw [ay];have:=dw (λc:Ci=>odd c.2) C;omega
 have z:(cD C).length+(cD (JN F C)).length<=sizeLine:=by simp [cD]; exact jg (by omega)
 have l:∀ w∈C++JN F C,∀ k∈w.2,k < ns.length:=λw j k v=>by
  rw [A];rcases aj.mp j with h | h;·exact t w h k v
  ·obtain ⟨c,i,rfl⟩:=af.mp h;have i:=(br.mp i).1;rcases aj.mp v with h | h
   ·unfold yB at h;cases w:F.find? λd=>decide (d.1=c.1) with
    | none=>rw [w] at h; cases h
    | some d=>rw [w] at h;exact t d (E d (bM w)) k h
   ·exact t c i k h
 obtain ⟨ρ,e⟩:=qa2 m B (ip (sD seen)) (ip (.lst (cD C))) (ip (.dct (fD F))) (ip (.lst (cD (JN F C)))) (C++JN F C) iq iq l;have f:QK (jZ (d2 kb (qe 3) (qe 5))) (jL 2 (qD (gNm 6) (qD (gNm 7) jK))) baB [ip (sD seen),ip (.int r),ip (nd),ip (.lst (cD C)),ip (.dct (fD F)),ip (.lst (cD (JN F C))),iq,iq]=vC (jL 2 (qD (gNm 6) (qD (gNm 7) jK))) baB (cD (C++JN F C)) [ip (sD seen),ip (.int r),ip (nd),ip (.lst (cD C)),ip (.dct (fD F)),ip (.lst (cD (JN F C))),iq,iq]:=by rw [kL,show jZ (d2 kb (qe 3) (qe 5)) [ip (sD seen),ip (.int r),ip (nd),ip (.lst (cD C)),ip (.dct (fD F)),ip (.lst (cD (JN F C))),iq,iq]=.ok (cD (C++JN F C),[ip (sD seen),ip (.int r),ip (nd),ip (.lst (cD C)),ip (.dct (fD F)),ip (.lst (cD (JN F C))),iq,iq]) by simp [kb,z,jC];simp [cD]];rfl
 cases q:(C++JN F C).find? λw=>ZG w.2 r ns with
 | some w=>rw [q] at e;rw [Uh,f.trans e];rfl
 | none=>rw [q] at e;refine (qB (f.trans e)).trans ?_;rfl
theorem xO (w:jy ws) (hl:Vb p q):wU [Wd ws,Ld p q]=.ok (sD (qp ws p q),[.non,.non]):=KJ w hl
def kI (n:Nat) (r:Int) (ns:List Int):Prop:=ns.length=n/\∀ i∈ns,0<=i/\i < r
theorem KM (h:kI n r ns) (b:n<=50):uV [nD ns,.int (n:Nat),.int r]=.ok (.bl iA,[.non,.non,.non]):=by
 have l:=Xr (d:=nD ns) trivial;have e:=ux (cap:=[2]) (fi:=jZ (qe 0)) (ρ:=[ip (nD ns),ip (.int (n:Nat)),ip (.int r)]) (ρ1:=[ip (nD ns),ip (.int (n:Nat)),ip (.int r)]) (ds:=ns.map D.int) (fe:=qv [.vl,.vl,.vl] jr (qd (qe 0) (qd (dC (.int 0)) (qd (d2 JB (qe 1) (dC (.int 1))) qE)))) (λd=>.bl (zO 0 (r - 1) d)) (by simp [jC]) (by rw [ay,h.1]; exact jg (by omega)) (λd hd=>by obtain ⟨i,hi,rfl⟩:=af.mp hd;have h1:=jU (d:=.int i) trivial 0 (r - 1);simp [qC,jf,JB,uu,h1]);have g:=xN (zO 0 (r - 1)) (ns.map D.int);have c:(ns.map D.int).all (zO 0 (r - 1))=true:=by rw [aM];intro d hd;obtain ⟨i,hi,rfl⟩:=af.mp hd;have:=h.2 i hi;simp [zO];omega
 rw [c] at g;have a:(ns.map D.int).length=n:=by rw [ay,h.1]
 refine runD_ap.trans ?_;simp [-aV,uU,qw,qx,l,Qz,wu,jD,neD,eqN,eqS,h.1,e,g]
theorem zX (h:kI n r ns) (a:n<=50):vI [nD ns,.int (n:Nat),.int r]=.ok (.non,[.non,.non,.non]):=by have h1:=KM h a;refine runD_ap.trans ?_;simp [vH,qw,qx,qC,jf,h1,wu]
theorem UR (w:jy ws) (hl:Vb p q) (a:1<=r) (h1:r<=99) (n:kI ws.length r ns):wc [Wd ws,Ld p q,.int r,nD ns]=.ok (sD (qp ws p q),[.non,.non,.non,.non]):=by have e1:=xO w hl;have i:=uo (d:=.int r) trivial;rw [if_pos (by simp [zO]; exact ⟨a,h1⟩)] at i;have E:=zX n (by have:=w.2.1; omega);refine runD_ap.trans ?_;simp [uX,qw,qx,qC,jf,e1,i,jD,E]
theorem qiW (w:jy ws) (p q:Int):∃ W,Sn (qp ws p q) W:=by
 have h1:(qp ws p q).length<=6:=by simp [qp]; exact w.2.1
 have h2:=Xv w p q;obtain ⟨W,a,b,c,m,d,e⟩:=ZH h1 h2;exact ⟨W,h1,h2,a,b,c,d,e,λx hx=>by obtain ⟨k,_,rfl⟩:=qhc w p q x hx;show 1<=2000;omega,m⟩
theorem qho (h:jy ws) (hl:Vb p q) (a:1<=r) (h1:r<=99) (n:kI ws.length r ns) (S:Sn (qp ws p q) W):qeZ [Wd ws,Ld p q,.int r,nD ns]=.ok (match BO W (qp ws p q) r ns with | some w=>cd w | none=>.non,[.non,.non,.non,.non]):=by have e1:=UR h hl a h1 n;have i:=qa4 S (qaV ns) (by rw [n.1]; simp [qp]) a;refine runD_ap.trans ?_;simp [qeY,qw,qx,qC,jf,e1,i]
noncomputable def xP (t r:Int):Int:=if t % r % 2=0 then t % r / 2 else (t % r+r) / 2
theorem qfg (t:Int) (f:1<=r):qav [.int t,.int r]=.ok (.int (xP t r),[.non,.non]):=by
 have a:0 < r:=by omega
 have d:∀ i,qd2 i 2:=λi=>⟨by omega,by omega⟩
 unfold xP;refine runD_ap.trans ?_;by_cases q:t % r % 2=0 <;> simp [qau,qw,qx,wq,uu,a,eqD,eqN,eqS,xS,d,kb,q]
noncomputable def rW (l:Wk) (r:Int) (ns:List Int):List Int:=if l=[] then (aK r.toNat).map λ(j:Nat)=>(j:Int) else if r % 2=0 then [xP (qQ ns 0 l) r,xP (qQ ns 0 l) r+r / 2] else [xP (qQ ns 0 l) r]
abbrev iD (xs:List Int):D:=.lst (xs.map D.int)
theorem QU {l:Wk} (h:∀ k∈l,k < ns.length) (f:1<=r) (g:r<=99):vp [lD l,.int r,nD ns]=.ok (iD (rW l r ns),[.non,.non,.non]):=by
 have N:2<=sizeLine:=jg (by omega);have A:1<=sizeLine:=jg (by omega);have d:∀ i,qd2 i 2:=λi=>⟨by omega,by omega⟩
 refine runD_ap.trans ?_;unfold rW;cases l with
 | nil=>
  have c:qgS 0 r/\r - 0<=1000000:=⟨⟨⟨by omega,by omega⟩,by omega,by omega⟩,by omega⟩
  have e:xB (.int r)=.ok (.lst ((aK r.toNat).map λ(j:Nat)=>.int (j:Int))):=by unfold xB;dsimp only;rw [if_pos c,Int.sub_zero];simp [QJ]
  rw [if_pos rfl,show iD ((aK r.toNat).map λ(j:Nat)=>(j:Int))=.lst ((aK r.toNat).map λ(j:Nat)=>.int (j:Int)) by simp [iD]];simp [kB,qw,qx,jD,inL,eqD,eqN,eqS,e]
 | cons a l=>
  have h1:=yZ (qaV ns) h 0;have h2:=qfg (qQ ns 0 (a::l)) f;have n:¬inL (a::l)=[]:=by simp [inL]
  rw [if_neg (by simp)];generalize hx:qQ ns 0 (a::l)=t at h1 h2;generalize D:xP t r=w at h2;generalize z:lD (a::l)=ld at h1;have b:jD ld=.ok (.int ((inL (a::l)).length:Int)):=by rw [<-z]; rfl
  by_cases q:r % 2=0;·rw [if_pos q];simp [kB,qw,qx,b,eqD,eqN,eqS,n,qC,jf,h1,h2,wq,uu,q,xS,d,kb,N]
  ·rw [if_neg q];simp [kB,qw,qx,b,eqD,eqN,eqS,n,qC,jf,h1,h2,wq,uu,q,A]
noncomputable def RT (W:Wy):List Str:=(jW (kW W)).filter λx=>decide ((qO W x).1=x)
abbrev Rt:=Str×List Int
noncomputable def rd (x:Rt):D:=.tup [.str x.1,iD x.2]
noncomputable def RO (W:Wy) (seen:List Pr) (r:Int) (ns:List Int):List Rt:=(RT W).map λx=>(x,rW (yB (FO [] (CL W 0 seen)) x) r ns)
theorem US:∀ W:Wy,Ui (wD W)=ip (kW W)
 | []=>rfl
 | e::W=>by have j:=US W;show (Ui (wD W)).map (e.1::·)=_;rw [j];rfl
theorem xa (S:Sn seen W) (A:ns.length=seen.length) (H:1<=r) (M:r<=99):kM [sD seen,.int r,nD ns]=.ok (.lst ((RO W seen r ns).map rd),[.non,.non,.non]):=by
 have G:(LS seen).length<=20:=by have:=S.s; omega
 have h1:=Jw S.n G S.w S.a;have i:=qa3 W 0 seen;have Q:=S.n;have h2:=Xy (CL W 0 seen) (by omega);have t:=qhj S.w S.a;obtain ⟨f1,_,p,f4⟩:=QD (CL W 0 seen) [];have E:∀ c∈FO [] (CL W 0 seen),c∈CL W 0 seen:=λc J=>by
  rcases f1 c J with h | h;·cases h
  ·exact h
 unfold RO;generalize hC:CL W 0 seen=C at h1 h2 i t p E;generalize L:FO [] C=F at h2 p E;have I:=S.w.le;have j:=S.s;have b:(kW W).length < 64:=by simp [kW]; omega
 have g:((kW W).all λy=>decide (y.length<=sizeLine))=true:=by rw [aM];intro y u;exact decide_eq_true (jg (S.z y (S.w.sub y u)))
 have o:kz (.dct (wD W))=.ok (.lst ((jW (kW W)).map D.str)):=by unfold kz;simp only [US];rw [if_pos ⟨b,g⟩]
 have m:∀ x∈jW (kW W),x∈kW W:=λx hx=>(qN _).mem_iff.mp hx;have B:(jW (kW W)).length<=12:=by rw [(qN _).length_eq]; simp [kW]; omega
 refine runD_ap.trans ?_;unfold zf;rw [show qw wF [sD seen,.int r,nD ns]=[ip (sD seen),ip (.int r),ip (nD ns),iq,iq,iq] from rfl];have v:=S.e;refine (qB (ρ1:=[ip (sD seen),ip (.int r),ip (nD ns),ip (.dct (wD W)),iq,iq]) (by simp [qC,jf,v])).trans ?_;refine (qB (ρ1:=[ip (sD seen),ip (.int r),ip (nD ns),ip (.dct (wD W)),ip (.dct (fD F)),iq]) (by simp [qC,jf,h1,h2])).trans ?_;have q:=qdz (own:=[]) (cap:=[3]) (fi:=jZ (d1 kz (qe 3))) (ft:=jb (d2 eqD (d2 ixD (d2 ixD (qe 1) (qe 0)) (dC (.int 0))) (qe 0))) (fe:=qe 0) (ρ:=[ip (sD seen),ip (.int r),ip (nD ns),ip (.dct (wD W)),ip (.dct (fD F)),iq]) (ρ1:=[ip (sD seen),ip (.int r),ip (nD ns),ip (.dct (wD W)),ip (.dct (fD F)),iq]) (ds:=(jW (kW W)).map D.str) (λd=>match d with | .str x=>decide ((qO W x).1=x) | _=>iw) (λd=>d) (by simp) (by simp [o,jC]) (by rw [ay]; exact jg (by omega)) (λd hd=>by obtain ⟨x,hx,rfl⟩:=af.mp hd;have i1:=KK S.w.nd (m x hx);simp [i1,qiT,eqD,eqN,eqS];rfl) (λd hd _=>by simp);have e1:(((jW (kW W)).map D.str).filter λd=>match d with | .str x=>decide ((qO W x).1=x) | _=>iw).map (λd=>d)=(RT W).map D.str:=by rw [List.map_id',List.filter_map];rfl
 rw [e1] at q;refine (qB (ρ1:=[ip (sD seen),ip (.int r),ip (nD ns),ip (.dct (wD W)),ip (.dct (fD F)),ip (.lst ((RT W).map D.str))]) (by rw [Qa,q]; rfl)).trans ?_;have K:(RT W).length<=12:=by have:=dw (λx=>decide ((qO W x).1=x)) (jW (kW W));unfold RT;omega
 have N:2<=sizeLine:=jg (by omega);have c2:=ux (cap:=[1,2,4]) (fi:=jZ (qe 5)) (fe:=vM (qd (qe 0) (qd (qv [.vl,.vl,.vl] vp (qd (qct (qe 3) (qe 0) (yz qE)) (qd (qe 1) (qd (qe 2) qE)))) qE))) (ρ:=[ip (sD seen),ip (.int r),ip (nD ns),ip (.dct (wD W)),ip (.dct (fD F)),ip (.lst ((RT W).map D.str))]) (ρ1:=[ip (sD seen),ip (.int r),ip (nD ns),ip (.dct (wD W)),ip (.dct (fD F)),ip (.lst ((RT W).map D.str))]) (ds:=(RT W).map D.str) (λd=>match d with | .str x=>rd (x,rW (yB F x) r ns) | d=>d) (by simp [jC]) (by rw [ay]; exact jg (by omega)) (λd hd=>by
  obtain ⟨x,hx,rfl⟩:=af.mp hd;have g1:=qhl F x;have l:∀ k∈yB F x,k < ns.length:=λk f=>by
   unfold yB at f;cases w:F.find? λd=>decide (d.1=x) with
   | none=>rw [w] at f; cases f
   | some d=>rw [w] at f;rw [A];exact t d (E d (bM w)) k f
  have O:=QU l H M;simp [qct,Jh,g1,qC,jf,O,N,rd])
 have P:((RT W).map D.str).map (λd=>match d with | .str x=>rd (x,rW (yB F x) r ns) | d=>d)=((RT W).map λx=>(x,rW (yB F x) r ns)).map rd:=by rw [aV,aV];rfl
 rw [P] at c2;rw [gZ,c2];rfl
noncomputable def HM (W:Wy) (seen:List Pr) (r:Int) (ns:List Int):Int:=match BO W seen r ns with
 | some _=>0
 | none=>(RO W seen r ns).foldl (λa x=>a * (x.2.length:Int)) 1
theorem qa5 (l:Wk) (f:1<=r) (g:r<=99) (ns:List Int):(rW l r ns).length<=99:=by
 unfold rW;split;·simp; omega
 ·split <;> simp
theorem qa6 (a b c d:Option D):∀ (L:List Rt) (t:Int) (x y:Option D),(∀ w∈L,w.2.length<=99)->∃ n s,vC (jL 2 (qD (gNm 5) (qD (gNm 6) jK))) (jz 4 (d2 WQ (qe 4) (d1 jD (qe 6)))) (L.map rd) [a,b,c,d,ip (.int t),x,y]=.ok (.nx,[a,b,c,d,ip (.int (L.foldl (λa x=>a * (x.2.length:Int)) t)),n,s])
 | [],t,x,y,_=>⟨x,y,rfl⟩
 | w::L,t,x,y,h=>by have g:=h w (ai ..);obtain ⟨n,s,j⟩:=qa6 a b c d L (t * (w.2.length:Int)) (ip (.str w.1)) (ip (iD w.2)) λv e=>h v (aa _ e);have f:CMul t (w.2.length:Int):=.inr ⟨by omega,by omega⟩;refine ⟨n,s,bT (wJ (d:=rd w) (ρ1:=[a,b,c,d,ip (.int t),ip (.str w.1),ip (iD w.2)]) rfl ?_) j⟩;simp [jD,WQ,uu,f]
theorem UT (h:jy ws) (hl:Vb p q) (b:1<=r) (g:r<=99) (n:kI ws.length r ns) (S:Sn (qp ws p q) W):zh [Wd ws,Ld p q,.int r,nD ns]=.ok (.int (HM W (qp ws p q) r ns),[.non,.non,.non,.non]):=by
 have e1:=qho h hl b g n S;have i:=xO h hl;have E:=xa S (ns:=ns) (by rw [n.1]; simp [qp]) b g;refine runD_ap.trans ?_;unfold HM;cases d:BO W (qp ws p q) r ns with
 | some c=>rw [d] at e1;simp [yo,qw,qx,qC,jf,e1,qbU,cd]
 | none=>rw [d] at e1;obtain ⟨e,s,f⟩:=qa6 (ip (Wd ws)) (ip (Ld p q)) (ip (.int r)) (ip (nD ns)) (RO W (qp ws p q) r ns) 1 iq iq (λw h=>by obtain ⟨x,_,rfl⟩:=af.mp h;exact qa5 _ b g _);unfold yo;rw [show qw zg [Wd ws,Ld p q,.int r,nD ns]=[ip (Wd ws),ip (Ld p q),ip (.int r),ip (nD ns),iq,iq,iq] from rfl];refine (qB (ρ1:=[ip (Wd ws),ip (Ld p q),ip (.int r),ip (nD ns),iq,iq,iq]) (by simp [qC,jf,e1,qbU])).trans ?_;refine (qB (ρ1:=[ip (Wd ws),ip (Ld p q),ip (.int r),ip (nD ns),ip (.int 1),iq,iq]) (by simp)).trans ?_;refine (qB (ρ1:=[ip (Wd ws),ip (Ld p q),ip (.int r),ip (nD ns),ip (.int ((RO W (qp ws p q) r ns).foldl (λa x=>a * (x.2.length:Int)) 1)),e,s]) (by rw [kL,show jZ (qv [.vl,.vl,.vl] kM (qd (qv [.vl,.vl] wU (qd (qe 0) (qd (qe 1) qE))) (qd (qe 2) (qd (qe 3) qE)))) [ip (Wd ws),ip (Ld p q),ip (.int r),ip (nD ns),ip (.int 1),iq,iq]=.ok ((RO W (qp ws p q) r ns).map rd,[ip (Wd ws),ip (Ld p q),ip (.int r),ip (nD ns),ip (.int 1),iq,iq]) by simp [qC,jf,i,E,jC],kX];exact f)).trans ?_;simp [qx]
theorem KN (l:List Pr):(LS l).Nodup:=(qN _).nodup_iff.mpr (uZ _ [] cP).1
theorem qcY (h:(qI l).Nodup):Xa (.lst (prL l))=.ok (.dct (bk l)):=by have:=UL l [] h (by simp);unfold Xa;simp only [QA];rw [this];rfl
noncomputable def va (l:List (Str×Int)) (s:List Pr) (r:Int):List Int:=s.map λx=>(jh l x.1+jh l x.2) % r
theorem Xz (l:List (Str×Int)) (s:List Pr) (r:Int):qbv l s r=(va l s r).map D.int:=by unfold qbv va;rw [aV];rfl
variable {f:Sl->Out (D×Sl)}
theorem iR0 {k:Int} (a:0<=k) (h1:k<=2000) (h:f ρ=.ok (.int k,ρ1)):ke f ρ=.ok (QJ 0 k.toNat,ρ1):=by
 have c:-(2 ^ 62:Int)<=k/\k < 2 ^ 62:=by omega
 simp [ke,h,-Int.reducePow,c]
abbrev stB:Sl->Out (Fl×Sl):=YY 9 (qv [.vl,.sl 1,.vl] jF (qd (qe 0) (kt (qd (qe 5) qE)))) (qv [.vl,.sl 1,.vl] jF (qd (qe 0) (kt (qd (d1 jD (qe 9)) qE))))
theorem qa7 (l:List Int) (B:1<=n) (A:1<=r) (a b c d e f:Option D):∀ (ks:List D) (t:List D) (ns:List Int) (x:Option D),t.length+2 * ks.length < 900->kI n r ns ->∃ (g:List D) (m:List Int) (q:Option D),g.length=t.length+2 * ks.length/\kI n r m/\vC (gNm 10) stB ks [ip (scr l),ip (.lst t),a,b,c,ip (.int r),d,e,f,ip (iD ns),x]=.ok (.nx,[ip (scr l),ip (.lst g),a,b,c,ip (.int r),d,e,f,ip (iD m),q])
 | [],t,ns,x,_,h=>⟨t,ns,x,by simp,h,rfl⟩
 | k::ks,t,ns,x,ht,h=>by
  rw [ap] at ht;obtain ⟨v,w,u,g1⟩:=vf l t (many:=r) (by omega) (by omega);obtain ⟨i,z,i1,Y⟩:=vf l (t++[.int 0]) (many:=(ns.length:Int)) (by rw [h.1]; omega) (by rw [ah]; simp; omega);obtain ⟨j,rfl⟩:=db z;have H:j < ns.length:=by omega
  have h':kI n r (ns.set j v):=⟨by rw [dm]; exact h.1,λy s=>by
   rcases List.mem_or_eq_of_mem_set s with s | rfl;·exact h.2 y s
   ·exact ⟨w,u⟩⟩
  obtain ⟨g,m,q,G,E,C⟩:=qa7 l B A a b c d e f ks (t++[.int 0]++[.int 0]) (ns.set j v) (ip k) (by rw [ah,ah]; simp; omega) h';refine ⟨g,m,q,by rw [G,ah,ah,ap]; simp; omega,E,bT (wJ (ρ1:=[ip (scr l),ip (.lst t),a,b,c,ip (.int r),d,e,f,ip (iD ns),ip k]) rfl ?_) C⟩;have W:ixN (ns.map D.int).length (j:Int)=ip j:=by unfold ixN;rw [ay,if_pos (by omega),if_pos (by omega),Int.toNat_natCast]
  have o:(ns.map D.int).set j (.int v)=(ns.set j v).map D.int:=by rw [List.map_set]
  have p:jD (iD ns)=.ok (.int (ns.length:Int)):=by simp [jD]
  simp only [stB,YY];simp only [qcr,qco,qcp,qeJ,Ug,Zo,d9,eh,kX];simp [qC,jf,g1,p,Y];simp at W o;simp [W,o]
structure Told (ws:List Str) (p q r:Int) (ns:List Int):Prop where
 w:jy ws
 w5:ws.length<=5
 l:Vb p q
 r0:1<=r
 r9:r<=4
 n:kI ws.length r ns
theorem UU (a:List Int) (t:List D) (V:t.length < 300):∃ ws p q r ns b,Told ws p q r ns/\b.length<=t.length+200 /\
  UE [scr a,.lst t,.int 5,.int 4]=.ok (.tup [Wd ws,Ld p q,.int r,nD ns],[.non,.lst b,.non,.non]):=by
 obtain ⟨sp,s0,s1,g1⟩:=vf a t (many:=4) (by omega) (by omega);obtain ⟨r',r0,r1,Y⟩:=vf a (t++[.int 0]) (many:=4) (by omega) (by rw [ah]; simp; omega);obtain ⟨p,q,H,hl,d,W⟩:=qe7 a (t++[.int 0]++[.int 0]) (by rw [ah,ah]; simp; omega);rw [ah,ah] at d;simp at d;obtain ⟨ws,j,w,P,M,Q⟩:=qcT a H (by omega);have O:=Xv w p q;obtain ⟨es,c,U,k5,X,L,T⟩:=Ju a (room:=1+r') (by omega) (LS (qp ws p q)) j iq (by omega);have u:(qI es).Nodup:=by rw [k5]; exact KN _
 have hd:=qcY u;have z:=yK w hl;have i:=Wq w hl (r:=1+r') (by omega) (l:=es) (by rw [k5]; exact λx hx=>hx);rw [Xz] at i;have B:(qp ws p q).length=ws.length:=by simp [qp]
 have v:kI ws.length (1+r') (va es (qp ws p q) (1+r')):=⟨by unfold va; rw [ay,B],λy K=>by obtain ⟨x,_,rfl⟩:=af.mp K;exact ⟨cI _ (by omega),bV _ (by omega)⟩⟩
 have h:0<=sp / 2 * (1+sp % 2)/\sp / 2 * (1+sp % 2)<=2:=by
  have:sp=0\/sp=1\/sp=2\/sp=3:=by omega
  rcases this with rfl | rfl | rfl | rfl <;> decide
 generalize N:sp / 2 * (1+sp % 2)=m at h;have e:(QJ 0 m.toNat).length=m.toNat:=by simp [QJ]
 obtain ⟨G,ns,J,o,A,R⟩:=qa7 a (n:=ws.length) (w.1) (r:=1+r') (by omega) (ip (.int 5)) (ip (.int 4)) (ip (.int sp)) (ip (Ld p q)) (ip (Wd ws)) (ip (.dct (bk es))) (QJ 0 m.toNat) c _ iq (by rw [e]; omega) v;rw [e] at o;refine ⟨ws,p,q,1+r',ns,G,⟨w,P,hl,by omega,by omega,A⟩,by omega,?_⟩;refine runD_ap.trans ?_;unfold UD;rw [show qw Kw [scr a,.lst t,.int 5,.int 4]=[ip (scr a),ip (.lst t),ip (.int 5),ip (.int 4),iq,iq,iq,iq,iq,iq,iq] from rfl];refine (qB (ρ1:=[ip (scr a),ip (.lst (t++[.int 0])),ip (.int 5),ip (.int 4),ip (.int sp),iq,iq,iq,iq,iq,iq]) (by simp [qC,jf,g1])).trans ?_;refine (qB (ρ1:=[ip (scr a),ip (.lst (t++[.int 0]++[.int 0])),ip (.int 5),ip (.int 4),ip (.int sp),ip (.int (1+r')),iq,iq,iq,iq,iq]) (by simp [qC,jf,Y,kb])).trans ?_;refine (qB (ρ1:=[ip (scr a),ip (.lst H),ip (.int 5),ip (.int 4),ip (.int sp),ip (.int (1+r')),ip (Ld p q),iq,iq,iq,iq]) (by simp only [aS,fS,cx] at W ⊢;simp [qC,jf,W])).trans ?_;refine (qB (ρ1:=[ip (scr a),ip (.lst j),ip (.int 5),ip (.int 4),ip (.int sp),ip (.int (1+r')),ip (Ld p q),ip (Wd ws),iq,iq,iq]) (by simp [qC,jf,Q])).trans ?_;have S:=KL (own:=[1]) (cap:=[0,1,5]) (nt:=1) (fi:=jZ (qv [.vl,.vl] vz (qd (qe 7) (qd (qe 6) qE)))) (g:=gNm 0) (ft:=ftT) (fe:=vM (qd (qe 0) (qd (qv [.vl,.sl 2,.vl] jF (qd (qe 1) (kt (qd (qe 3) qE)))) qE))) (ρ:=[ip (scr a),ip (.lst j),ip (.int 5),ip (.int 4),ip (.int sp),ip (.int (1+r')),ip (Ld p q),ip (Wd ws),iq,iq,iq]) (ρ1:=[ip (scr a),ip (.lst j),ip (.int 5),ip (.int 4),ip (.int sp),ip (.int (1+r')),ip (Ld p q),ip (Wd ws),iq,iq,iq]) (ds:=(LS (qp ws p q)).map D.str) (by simp [qC,jf,z,jC]) (by rw [ay]; exact jg (by omega)) T;refine (qB (ρ1:=[ip (scr a),ip (.lst c),ip (.int 5),ip (.int 4),ip (.int sp),ip (.int (1+r')),ip (Ld p q),ip (Wd ws),ip (.dct (bk es)),iq,iq]) (by rw [Qa,Zo,S,kX];simp only [];rw [hd];rfl)).trans ?_;refine (qB (ρ1:=[ip (scr a),ip (.lst c),ip (.int 5),ip (.int 4),ip (.int sp),ip (.int (1+r')),ip (Ld p q),ip (Wd ws),ip (.dct (bk es)),ip (iD (va es (qp ws p q) (1+r'))),iq]) (by simp [qC,jf,i,VH])).trans ?_;have E:qd2 sp 2:=⟨by omega,by omega⟩
 have C:CMul (sp / 2) (1+sp % 2):=.inr ⟨by omega,by omega⟩;have s:=iR0 (f:=d2 WQ (d2 xS (qe 4) (dC (.int 2))) (d2 kb (dC (.int 1)) (d2 wq (qe 4) (dC (.int 2))))) (ρ:=[ip (scr a),ip (.lst c),ip (.int 5),ip (.int 4),ip (.int sp),ip (.int (1+r')),ip (Ld p q),ip (Wd ws),ip (.dct (bk es)),ip (iD (va es (qp ws p q) (1+r'))),iq]) (ρ1:=[ip (scr a),ip (.lst c),ip (.int 5),ip (.int 4),ip (.int sp),ip (.int (1+r')),ip (Ld p q),ip (Wd ws),ip (.dct (bk es)),ip (iD (va es (qp ws p q) (1+r'))),iq]) (k:=m) h.1 (by omega) (by simp [xS,wq,WQ,uu,kb,E,C,N]);refine (qB (ρ1:=[ip (scr a),ip (.lst G),ip (.int 5),ip (.int 4),ip (.int sp),ip (.int (1+r')),ip (Ld p q),ip (Wd ws),ip (.dct (bk es)),ip (iD ns),J]) (by rw [kL,s,kX]; exact R)).trans ?_;have I:4<=sizeLine:=jg (by omega);simp [wx,I,qx]
noncomputable def sg (l:Wk):Int:=if odd l=iA then -1 else 1
theorem qcZ (k:Nat) (l:Wk):odd (k::l)=!odd l:=by
 unfold odd;rw [ap];by_cases h:l.length % 2=1;·rw [decide_eq_true h,decide_eq_false (by omega)]; rfl
 ·rw [decide_eq_false h,decide_eq_true (by omega)]; rfl
theorem qfh (k:Nat) (l:Wk):sg (k::l)=- sg l:=by unfold sg;rw [qcZ];cases odd l <;> rfl
theorem ya (ns:List Int) (t:Int) (a b:Wk):qQ ns t (a++b)=qQ ns (qQ ns t a) b:=fG ..
theorem zr (ns:List Int) (t:Int) (k:Nat) (l:Wk):qQ ns t (k::l)=qQ ns (nI ns k - t) l:=rfl
theorem uq (ns:List Int):∀ (l:Wk) (t:Int),qQ ns t l=qQ ns 0 l+sg l * t
 | [],t=>by simp [qQ,sg,odd]
 | k::l,t=>by have h1:=uq ns l (nI ns k - t);have h2:=uq ns l (nI ns k - 0);rw [zr,zr,h1,h2,qfh,ig,ig,Int.neg_mul];simp;omega
theorem Wr (ns:List Int):∀ (l:Wk) (s:Int),qQ ns (qQ ns s l) l.reverse=s
 | [],s=>rfl
 | k::l,s=>by have h:=Wr ns l (nI ns k - s);rw [zr,cC,ya,h];show nI ns k - (nI ns k - s)=s;omega
theorem qc0 (l:Wk):sg l=1\/sg l=-1:=by
 unfold sg;split;·exact .inr rfl
 ·exact .inl rfl
theorem qhp {a:Int} (l:Wk):r ∣ sg l * a↔r ∣ a:=by
 rcases qc0 l with h | h;·rw [h,g5]
 ·rw [h,Int.neg_one_mul,Int.dvd_neg]
theorem mod_iff {a b:Int}:a % r=b % r↔r ∣ a - b:=by rw [Int.emod_eq_emod_iff_emod_sub_eq_zero,Int.dvd_iff_emod_eq_zero]
theorem qc1 {a b:Int} (h:r ∣ a - b) (B:0<=a) (p:a < r) (c:0<=b) (A:b < r):a=b:=by have:=mod_iff.mpr h;rwa [aZ B p,aZ c A] at this
def Sol (seen:List Pr) (r:Int) (ns:List Int) (v:Str->Int):Prop:=∀ (k:Nat) (p:Pr),seen[k]?=ip p->r ∣ v p.1+v p.2 - nI ns k
variable {v:Str->Int}
theorem Path.val (T:Sol seen r ns v) {ρ:Str} {l:Wk} (h:Path seen ρ l x):r ∣ v x - qQ ns (v ρ) l:=by
 induction h with
 | nil=>show r ∣ v ρ - v ρ;rw [Int.sub_self];exact ⟨0,by simp⟩
 | snoc hp e hq j=>
  rename_i l x y k p;have a:=T k p e;have m:r ∣ v x+v y - nI ns k:=by
   rcases hq with rfl | rfl;·exact a
   ·rw [Int.add_comm (v x)]; exact a
  rw [ya];show r ∣ v y - (nI ns k - qQ ns (v ρ) l);have e1:v y - (nI ns k - qQ ns (v ρ) l)=(v x+v y - nI ns k) - (v x - qQ ns (v ρ) l):=by omega
  rw [e1];exact dI m j
def okS (r:Int) (ns:List Int) (c:Wk) (s:Int):Prop:=r ∣ qQ ns s c - s
theorem KO {c:Wk} (h:odd c=iw) (s:Int):okS r ns c s↔r ∣ qQ ns 0 c:=by unfold okS;rw [uq,show sg c=1 by unfold sg; rw [h]; rfl,g5,Int.add_sub_cancel]
theorem KQ {c:Wk} (h:odd c=iA) (s:Int):okS r ns c s↔r ∣ qQ ns 0 c - 2 * s:=by unfold okS;rw [uq,show sg c=-1 by unfold sg; rw [h]; rfl,show qQ ns 0 c + -1 * s - s=qQ ns 0 c - 2 * s by omega]
theorem qa8 (W:Wy) (p:Pr) (k:Nat) (r:Int) (ns:List Int) (s:Int):okS r ns (UO W p k).2 s↔r ∣ qQ ns s (qO W p.1).2+qQ ns s (qO W p.2).2 - nI ns k:=by
 unfold okS UO;simp only [];rw [ya,ya];have h1:=Wr ns (qO W p.2).2 s;generalize qQ ns s (qO W p.1).2=A;generalize qQ ns s (qO W p.2).2=B at h1;generalize (qO W p.2).2.reverse=L at h1;show r ∣ qQ ns (nI ns k - A) L - s↔_;have e:qQ ns (nI ns k - A) L - s=sg L * (nI ns k - A - B):=by have h2:=uq ns L (nI ns k - A);have j:=uq ns L B;rw [h1] at j;rw [h2,ig (sg L) (nI ns k - A) B];omega
 rw [e,qhp,show nI ns k - A - B=-(A+B - nI ns k) by omega,Int.dvd_neg]
theorem qhq {k:Nat} {p:Pr} (h:seen[k]?=ip p):UO W p k∈CL W 0 seen:=af.mpr ⟨(p,k),List.mem_zipIdx_iff_getElem?.mpr h,rfl⟩
theorem qfi {c:Ci} (h:c∈CL W 0 seen):∃ (k:Nat) (p:Pr),seen[k]?=ip p/\c=UO W p k:=by obtain ⟨q,hq,rfl⟩:=af.mp h;obtain ⟨p,k⟩:=q;exact ⟨k,p,List.mem_zipIdx_iff_getElem?.mp hq,rfl⟩
theorem qfj (p:Pr):oth p p.1=p.2:=by unfold oth; rw [if_pos rfl]
theorem Ws (S:Sn seen W) {p:Pr} (hp:p∈seen):(qO W p.1).1=(qO W p.2).1:=by obtain ⟨h1,h2⟩:=vK S.a p hp;obtain ⟨e,h,e1,i⟩:=S.C _ (jt h1) p hp (.inl rfl);simp only [] at e1 i;rw [qfj] at e1;have:=gC S.w.nd h (jt h2) e1;rw [this] at i;exact i.symm
theorem qdG (S:Sn seen W) (T:Sol seen r ns v):∀ c∈CL W 0 seen,okS r ns c.2 (v c.1):=by
 intro c d;obtain ⟨k,p,h,rfl⟩:=qfi d;have hp:=aY h;obtain ⟨h1,h2⟩:=vK S.a p hp;have j:=(S.w.path _ (jt h1)).val T;have b:=(S.w.path _ (jt h2)).val T;simp only [] at j b;rw [<-Ws S hp] at b;show okS r ns (UO W p k).2 (v (qO W p.1).1);rw [qa8];have s:=T k p h;generalize qQ ns (v (qO W p.1).1) (qO W p.1).2=A at j;generalize qQ ns (v (qO W p.1).1) (qO W p.2).2=B at b;have e:A+B - nI ns k=(v p.1+v p.2 - nI ns k) - (v p.1 - A) - (v p.2 - B):=by omega
 rw [e];exact dI (dI s j) b
noncomputable def vO (W:Wy) (r:Int) (ns:List Int) (σ:Str->Int) (x:Str):Int:=qQ ns (σ (qO W x).1) (qO W x).2 % r
theorem qdH (S:Sn seen W) {σ:Str->Int} (h:∀ c∈CL W 0 seen,okS r ns c.2 (σ c.1)):Sol seen r ns (vO W r ns σ):=by
 intro k p a;have hp:=aY a;have h1:=h _ (qhq a);have h1:okS r ns (UO W p k).2 (σ (qO W p.1).1):=h1;rw [qa8] at h1;unfold vO;rw [<-Ws S hp];generalize qQ ns (σ (qO W p.1).1) (qO W p.1).2=A at h1;generalize qQ ns (σ (qO W p.1).1) (qO W p.2).2=B at h1;have d1:r ∣ A - A % r:=dA;have d2:r ∣ B - B % r:=dA;have e:A % r+B % r - nI ns k=(A+B - nI ns k) - (A - A % r) - (B - B % r):=by omega
 rw [e];exact dI (dI h1 d1) d2
theorem qa9:∀ (C F:List Ci),∀ c∈FO F C,c∈F\/(c∈C/\odd c.2=iA)
 | [],F,c,h=>.inl h
 | d::C,F,c,h=>by
  unfold FO at h;by_cases q:odd d.2=iA/\d.1∉kF F
  ·rw [if_pos q] at h;rcases qa9 C _ c h with h | h
   ·rcases aj.mp h with h | h;·exact .inl h
    ·rw [ao.mp h];exact .inr ⟨ai ..,q.1⟩
   ·exact .inr ⟨aa _ h.1,h.2⟩
  ·rw [if_neg q] at h;rcases qa9 C _ c h with h | h;·exact .inl h
   ·exact .inr ⟨aa _ h.1,h.2⟩
theorem KR (h:x∈kF F):(x,yB F x)∈F:=by
 unfold yB;cases q:F.find? λc=>decide (c.1=x) with
 | none=>obtain ⟨e,i,rfl⟩:=af.mp h;have:=dZ.mp q e i;simp at this
 | some c=>
  have h1:=bM q;have h2:c.1=x:=by simpa using fZ q
  rw [<-h2];exact h1
theorem qc2 (h:x∉kF F):yB F x=[]:=by
 unfold yB;cases q:F.find? λc=>decide (c.1=x) with
 | none=>rfl
 | some c=>
  have h1:=bM q;have h2:c.1=x:=by simpa using fZ q
  exact absurd (af.mpr ⟨c,h1,h2⟩) h
theorem qba (a b:Wk):odd (a++b)=(odd a != odd b):=by
 unfold odd;rw [ah];by_cases h1:a.length % 2=1 <;> by_cases h2:b.length % 2=1;·rw [decide_eq_true h1,decide_eq_true h2,decide_eq_false (by omega)]; rfl
 ·rw [decide_eq_true h1,decide_eq_false h2,decide_eq_true (by omega)]; rfl
 ·rw [decide_eq_false h1,decide_eq_true h2,decide_eq_true (by omega)]; rfl
 ·rw [decide_eq_false h1,decide_eq_false h2,decide_eq_false (by omega)]; rfl
theorem gD {c:Wk} (h:odd c=iw):ZG c r ns=iw↔r ∣ qQ ns 0 c:=by unfold ZG;rw [h,if_neg bz,Int.dvd_iff_emod_eq_zero];simp
theorem qbb {c:Wk} (h:odd c=iA):ZG c r ns=iw↔¬(r % 2=0/\qQ ns 0 c % 2=1):=by unfold ZG;rw [h,if_pos rfl];simp
theorem qdI (ns:List Int) (f c:Wk) (h:odd c=iA):qQ ns 0 (f++c)=qQ ns 0 c - qQ ns 0 f:=by rw [ya,uq,show sg c=-1 by unfold sg; rw [h]; rfl];omega
section
abbrev FF (W:Wy) (seen:List Pr):List Ci:=FO [] (CL W 0 seen)
theorem qbc {c:Ci} (h:c∈FF W seen):c∈CL W 0 seen/\odd c.2=true:=by
 rcases qa9 _ _ c h with h | h;·cases h
 ·exact h
theorem bo_none:BO W seen r ns=iq↔∀ c∈CL W 0 seen,(odd c.2=iw->r ∣ qQ ns 0 c.2)/\(odd c.2=iA->¬(r % 2=0/\qQ ns 0 c.2 % 2=1)/\r ∣ qQ ns 0 c.2 - qQ ns 0 (yB (FF W seen) c.1)):=by
 unfold BO;rw [dZ];have k:∀ c∈CL W 0 seen,odd c.2=iA->odd (yB (FF W seen) c.1)=true:=λc d m=>(qbc (KR ((QD _ _).2.2.1 c d m))).2;constructor
 ·intro h c d;have h1:ZG c.2 r ns=false:=by simpa using h c (aj.mpr (.inl d))
  refine ⟨λm=>(gD m).mp h1,λm=>⟨(qbb m).mp h1,?_⟩⟩;have h2:ZG (yB (FF W seen) c.1++c.2) r ns=false:=by have:=h (c.1,yB (FF W seen) c.1++c.2) (aj.mpr (.inr (af.mpr ⟨c,br.mpr ⟨d,by simpa using m⟩,rfl⟩)));simpa using this
  rw [gD (by rw [qba,k c d m,m]; rfl),qdI _ _ _ m] at h2;exact h2
 ·intro h w a;rcases aj.mp a with a | a
  ·cases m:odd w.2 with
   | false=>simpa using (gD m).mpr ((h w a).1 m)
   | true=>simpa using (qbb m).mpr ((h w a).2 m).1
  ·obtain ⟨c,d,rfl⟩:=af.mp a;obtain ⟨d,m⟩:=br.mp d;have m:odd c.2=true:=by simpa using m
   have:ZG (yB (FF W seen) c.1++c.2) r ns=false:=by rw [gD (by rw [qba,k c d m,m]; rfl),qdI _ _ _ m];exact ((h c d).2 m).2
   simpa using this
theorem qfk (S:Sn seen W) (T:Sol seen r ns v):BO W seen r ns=none:=by
 have hok:=qdG S T;rw [bo_none];intro c d;refine ⟨λh=>(KO h _).mp (hok c d),λh=>?_⟩;have h1:=(KQ h _).mp (hok c d);have a:=KR ((QD (CL W 0 seen) []).2.2.1 c d h);obtain ⟨f1,f2⟩:=qbc a;have h2:=(KQ f2 _).mp (hok _ f1);refine ⟨λ⟨e1,i⟩=>?_,?_⟩;·obtain ⟨m,a⟩:=h1;obtain ⟨j,G⟩:=ei e1;rw [G,fN] at a;omega
 ·simp only [] at h2;have e:qQ ns 0 c.2 - qQ ns 0 (yB (FF W seen) c.1)=(qQ ns 0 c.2 - 2 * v c.1) - (qQ ns 0 (yB (FF W seen) c.1) - 2 * v c.1):=by omega
  rw [e];exact dI h1 h2
end
theorem qbd {t s:Int} (l:1<=r) (s0:0<=s) (s1:s < r) (hp:¬(r % 2=0/\t % 2=1)):r ∣ t - 2 * s↔s∈(if r % 2=0 then [xP t r,xP t r+r / 2] else [xP t r]):=by
 have g:0 < r:=by omega
 have k:=cI t (show r≠0 by omega);have i:=bV t g;have hd:r ∣ t - t % r:=dA;have a:r % 2=0->t % r % 2=0:=λe=>by
  obtain ⟨m,c⟩:=hd;obtain ⟨j,G⟩:=ei e;have:t % 2=0:=by
   have:=Int.emod_two_eq t;rcases this with h | h;·exact h
   ·exact absurd ⟨e,h⟩ hp
  have n:r * m=2 * (j * m):=by rw [G,fN]
  generalize t % r=u at c ⊢;omega
 have key:r ∣ t - 2 * s↔(t % r - 2 * s=0\/t % r - 2 * s=-r):=by
  constructor
  ·intro h;have h2:r ∣ t % r - 2 * s:=by
    have e:t % r - 2 * s=(t - 2 * s) - (t - t % r):=by omega
    rw [e];exact dI h hd
   generalize t % r=u at *;by_cases q:2 * s<=u;·refine .inl ?_;have:=et h2;rwa [aZ (by omega) (by omega)] at this
   ·by_cases d:2 * s<=u+r;·refine .inr ?_;have b:r ∣ u - 2 * s+r:=fH h2 ⟨1,by simp⟩;have:=et b;rw [aZ (by omega) (by omega)] at this;omega
    ·exfalso;have b:r ∣ u - 2 * s+r+r:=fH (fH h2 ⟨1,by simp⟩) ⟨1,by simp⟩;have:=et b;rw [aZ (by omega) (by omega)] at this;omega
  ·intro h;have e:t - 2 * s=(t - t % r)+(t % r - 2 * s):=by omega
   rw [e];refine fH hd ?_;rcases h with h | h;·rw [h]; exact ⟨0,by simp⟩
   ·rw [h]; exact ⟨-1,by simp⟩
 rw [key];unfold xP;by_cases q:r % 2=0
 ·have f:=a q;rw [if_pos q,if_pos f];generalize t % r=u at *;simp only [ac,bv,or_false];constructor
  ·rintro (h | h);·exact .inl (by omega)
   ·exact .inr (by omega)
  ·rintro (h | h);·exact .inl (by omega)
   ·exact .inr (by omega)
 ·rw [if_neg q];generalize t % r=u at *;rw [ao];by_cases d:u % 2=0
  ·rw [if_pos d];constructor;·rintro (h | h) <;> omega
   ·intro h; exact .inl (by omega)
  ·rw [if_neg d];constructor;·rintro (h | h) <;> omega
   ·intro h; exact .inr (by omega)
theorem qfl {t:Int} (f:1<=r):0<=xP t r/\xP t r < r/\(r % 2=0->t % r % 2=0->xP t r+r / 2 < r):=by have k:=cI t (show r≠0 by omega);have c:=bV t (show 0 < r by omega);unfold xP;generalize t % r=u at *;split <;> refine ⟨by omega,by omega,λh h2=>by omega⟩
section
abbrev ch (W:Wy) (seen:List Pr) (r:Int) (ns:List Int) (x:Str):List Int:=rW (yB (FF W seen) x) r ns
theorem qbe (k:1<=r) (v:BO W seen r ns=iq) (x:Str) (s:Int):s∈ch W seen r ns x↔(0<=s/\s < r)/\∀ c∈CL W 0 seen,c.1=x->okS r ns c.2 s:=by
 have a:=bo_none.mp v;unfold ch rW;by_cases q:x∈kF (FF W seen)
 ·have n:=KR q;obtain ⟨f1,f2⟩:=qbc n;simp only [] at f2;have l:yB (FF W seen) x≠[]:=λz=>by rw [z] at f2; exact absurd f2 (by decide)
  have f:=(a _ f1).2 f2;simp only [] at f;rw [if_neg l];have hT:∀ s,(∀ c∈CL W 0 seen,c.1=x->okS r ns c.2 s)↔r ∣ qQ ns 0 (yB (FF W seen) x) - 2 * s:=λs=>by
   constructor;·intro h;exact (KQ f2 s).mp (h _ f1 rfl)
   ·intro h c g p;cases o:odd c.2 with
    | false=>exact (KO o s).mpr ((a c g).1 o)
    | true=>
     have h1:=((a c g).2 o).2;rw [p] at h1;rw [KQ o];have e:qQ ns 0 c.2 - 2 * s=(qQ ns 0 c.2 - qQ ns 0 (yB (FF W seen) x))+(qQ ns 0 (yB (FF W seen) x) - 2 * s):=by omega
     rw [e];exact fH h1 h
  rw [hT s];generalize qQ ns 0 (yB (FF W seen) x)=t at f;have y:=qfl (t:=t) k;have d:r % 2=0->t % r % 2=0:=λe=>by
   obtain ⟨m,n⟩:r ∣ t - t % r:=dA;obtain ⟨j,G⟩:=ei e;have:t % 2=0:=by
    rcases Int.emod_two_eq t with h | h;·exact h
    ·exact absurd ⟨e,h⟩ f.1
   have w:r * m=2 * (j * m):=by rw [G,fN]
   generalize t % r=u at n ⊢;omega
  constructor
  ·intro h;have b:0<=s/\s < r:=by
    by_cases i:r % 2=0
    ·rw [if_pos i] at h;simp only [ac,bv,or_false] at h;have:=y.2.2 i (d i);rcases h with rfl | rfl;·exact ⟨y.1,y.2.1⟩
     ·exact ⟨by omega,this⟩
    ·rw [if_neg i] at h;rw [ao.mp h];exact ⟨y.1,y.2.1⟩
   exact ⟨b,(qbd k b.1 b.2 f.1).mpr h⟩
  ·rintro ⟨b,h⟩;exact (qbd k b.1 b.2 f.1).mp h
 ·rw [qc2 q,if_pos rfl];constructor
  ·intro h;obtain ⟨j,G,rfl⟩:=af.mp h;have:=bD.mp G;refine ⟨⟨by omega,by omega⟩,λc g p=>?_⟩;cases o:odd c.2 with
   | false=>exact (KO o _).mpr ((a c g).1 o)
   | true=>exact absurd (by rw [<-p]; exact (QD (CL W 0 seen) []).2.2.1 c g o) q
  ·rintro ⟨⟨s0,s1⟩,_⟩;exact af.mpr ⟨s.toNat,bD.mpr (by omega),by omega⟩
theorem qiX (f:1<=r) (x:Str):(ch W seen r ns x).Nodup:=by
 unfold ch rW;split;·have:(aK r.toNat).Nodup:=List.nodup_range;exact fI _ (λa b h=>by omega) this
 ·split;·refine aL.mpr ⟨λh=>?_,by simp⟩;have:=ao.mp h;omega
  ·simp
end
abbrev Ln:=List (Str×Int)
noncomputable def evS (r:Int) (x:Str) (rows:List Ln):List Ln:=rows.flatMap λl=>(aK r.toNat).map λ(j:Nat)=>l++[(x,(j:Int))]
noncomputable def EV (r:Int) (rows:List Ln):List Str->List Ln
 | []=>rows
 | x::L=>EV r (evS r x rows) L
variable {rows:List Ln}
theorem KS (f:1<=r) {l:Ln}:l∈evS r x rows↔∃ a∈rows,∃ i:Int,0<=i/\i < r/\l=a++[(x,i)]:=by
 unfold evS;rw [fg];constructor;·rintro ⟨a,b,h⟩;obtain ⟨j,G,rfl⟩:=af.mp h;have:=bD.mp G;exact ⟨a,b,j,by omega,by omega,rfl⟩
 ·rintro ⟨a,b,i,z,i1,rfl⟩;exact ⟨a,b,af.mpr ⟨i.toNat,bD.mpr (by omega),by rw [Int.toNat_of_nonneg z]⟩⟩
theorem qdJ (g:1<=r):∀ (L:List Str) (rows:List Ln) (l:Ln),l∈EV r rows L↔∃ b∈rows,∃ m:Ln,l=b++m/\qI m=L/\∀ e∈m,0<=e.2/\e.2 < r
 | [],rows,l=>by
  constructor;·intro h;exact ⟨l,h,[],by simp,rfl,by simp⟩
  ·rintro ⟨b,d,m,rfl,k,_⟩;have:m=[]:=by cases m with
    | nil=>rfl
    | cons a m=>cases k
   subst this;rw [bi];exact d
 | x::L,rows,l=>by
  show l∈EV r (evS r x rows) L↔_;rw [qdJ g L];constructor
  ·rintro ⟨j,h1,m,rfl,k,f⟩;obtain ⟨b,d,i,z,i1,rfl⟩:=(KS g).mp h1;refine ⟨b,d,(x,i)::m,by simp,by simp [qI] at k ⊢; exact k,λe c=>?_⟩;rcases ac.mp c with rfl | c;·exact ⟨z,i1⟩
   ·exact f e c
  ·rintro ⟨b,d,m,rfl,k,f⟩;cases m with
   | nil=>cases k
   | cons a m=>obtain ⟨y,i⟩:=a;have k:y::qI m=x::L:=k;injection k with h1 h2;subst h1;have:=f (y,i) (ai ..);exact ⟨b++[(y,i)],(KS g).mpr ⟨b,d,i,this.1,this.2,rfl⟩,m,by simp,h2,λe c=>f e (aa _ c)⟩
theorem qhr (h:rows.Nodup):(evS r x rows).Nodup:=by
 unfold evS;unfold aU;rw [dB];constructor;·intro l hl;have:(aK r.toNat).Nodup:=List.nodup_range;exact fI _ (λa b h=>λz=>by have:=List.append_cancel_left z;simp at this;exact h (by omega)) this
 ·refine cU (λ{a b} c=>?_) h;intro y D z d e;obtain ⟨i,_,rfl⟩:=af.mp D;obtain ⟨j,_,rfl⟩:=af.mp d;exact c (List.append_inj_left' e rfl)
theorem qfm:∀ (L:List Str) (rows:List Ln),rows.Nodup->(EV r rows L).Nodup
 | [],rows,h=>h
 | x::L,rows,h=>qfm L _ (qhr h)
abbrev EV0 (r:Int) (L:List Str):List Ln:=EV r [[]] L
theorem zt (f:1<=r) {L:List Str} {l:Ln}:l∈EV0 r L↔qI l=L/\∀ e∈l,0<=e.2/\e.2 < r:=by
 rw [qdJ f];constructor;·rintro ⟨b,a,m,rfl,h⟩;rw [ao.mp a,cx];exact h
 ·intro h;exact ⟨[],ao.mpr rfl,l,rfl,h⟩
theorem wp (f:Str->Int):∀ {L:List Str} {x:Str},x∈L->jh (L.map λx=>(x,f x)) x=f x
 | [],x,h=>by cases h
 | y::L,x,h=>by
  unfold jh;rw [aE];by_cases q:y=x;·subst q;rw [bI (by simp)];rfl
  ·rw [bA (by simpa using q)];rcases ac.mp h with h | h;·exact absurd h.symm q
   ·exact wp f h
theorem zu:∀ {l:Ln},(qI l).Nodup->l=(qI l).map λx=>(x,jh l x)
 | [],_=>rfl
 | (y,i)::l,h=>by
  have n:=aL.mp (show (y::qI l).Nodup from h);have j:=zu n.2;show (y,i)::l=(y,jh ((y,i)::l) y)::(qI l).map λx=>(x,jh ((y,i)::l) x)
  have e1:jh ((y,i)::l) y=i:=by unfold jh; rw [bI (by simp)]; rfl
  have e:((qI l).map λx=>(x,jh ((y,i)::l) x))=(qI l).map λx=>(x,jh l x):=by refine bP λx hx=>?_;have:y≠x:=λz=>n.1 (z ▸ hx);show (x,jh ((y,i)::l) x)=_;unfold jh;rw [bA (by simpa using this)]
  rw [e1,e,<-j]
theorem gE (f:Str->Int) (L:List Str):qI (L.map λx=>(x,f x))=L:=by unfold qI;rw [aV];exact List.map_id' L
theorem KU {α:Type} [DecidableEq α]:∀ {a b:List α},a.Nodup->(∀ x∈a,x∈b)->a.length<=b.length
 | [],b,_,_=>bE _
 | x::a,b,hn,h=>by have r:=aL.mp hn;have hx:=h x (ai ..);have j:=KU (b:=b.erase x) r.2 λy D=>(List.mem_erase_of_ne (λz=>r.1 (by rw [<-z]; exact D))).mpr (h y (aa _ D));rw [List.length_erase_of_mem hx] at j;have:=cm hx;rw [ap];omega
variable {β:Type}
theorem qbf [DecidableEq β] {A:List α} {B:List β} (f:α->β) (hA:A.Nodup) (d:∀ a∈A,f a∈B) (hi:∀ a∈A,∀ b∈A,f a=f b->a=b):A.length<=B.length:=by
 have h:(A.map f).Nodup:=by unfold aU;rw [dG];refine dW (λ{a b} g e c=>λz=>c (hi a g b e z)) hA
 have:=KU h (b:=B) λx hx=>by obtain ⟨a,g,rfl⟩:=af.mp hx;exact d a g
 rwa [ay] at this
noncomputable def PV (c:Str->List Int):List Str->List Ln
 | []=>[[]]
 | x::R=>(c x).flatMap λs=>(PV c R).map λl=>(x,s)::l
theorem Wt {γ:Type} (P:List β) (g:α->β->γ):∀ c:List α,(c.flatMap λs=>P.map (g s)).length=c.length * P.length
 | []=>by simp
 | a::c=>by rw [dF,ah,Wt P g c,ay,ap,fX];omega
theorem qbg (c:Str->List Int):∀ (R:List Str) (t:Int),(R.map λx=>((x,c x):Rt)).foldl (λa x=>a * (x.2.length:Int)) t=t * ((PV c R).length:Int)
 | [],t=>by simp [PV]
 | x::R,t=>by rw [aE,cu,qbg c R,show PV c (x::R)=(c x).flatMap λs=>(PV c R).map λl=>(x,s)::l from rfl,Wt,Int.natCast_mul,fN]
theorem wK (c:Str->List Int):∀ {R:List Str} {l:Ln},l∈PV c R↔qI l=R/\∀ e∈l,e.2∈c e.1
 | [],l=>by
  constructor;·intro h;rw [ao.mp h];exact ⟨rfl,by simp⟩
  ·rintro ⟨h,_⟩;cases l with
   | nil=>exact ao.mpr rfl
   | cons a l=>cases h
 | x::R,l=>by
  unfold PV;rw [fg];constructor
  ·rintro ⟨s,d,h⟩;obtain ⟨b,hl,rfl⟩:=af.mp h;obtain ⟨h1,h2⟩:=(wK c).mp hl;refine ⟨by show x::qI b=_; rw [h1],λe i=>?_⟩;rcases ac.mp i with rfl | i;·exact d
   ·exact h2 e i
  ·rintro ⟨h1,h2⟩;cases l with
   | nil=>cases h1
   | cons a l=>obtain ⟨y,s⟩:=a;have h1:y::qI l=x::R:=h1;injection h1 with h3 h4;subst h3;exact ⟨s,h2 _ (ai ..),af.mpr ⟨l,(wK c).mpr ⟨h4,λe i=>h2 e (aa _ i)⟩,rfl⟩⟩
theorem qhs (c:Str->List Int) (f:∀ x,(c x).Nodup):∀ R:List Str,(PV c R).Nodup
 | []=>by simp [PV]
 | x::R=>by
  unfold PV;unfold aU;rw [dB];constructor;·intro s i;exact fI _ (λa b h=>λz=>by injection z with _ z; exact h z) (qhs c f R)
  ·refine cU (λ{a b} d=>?_) (f x);intro y D z g e;obtain ⟨l,_,rfl⟩:=af.mp D;obtain ⟨m,_,rfl⟩:=af.mp g;injection e with e _;injection e with _ e;exact d e
section
theorem XA (n:kI seen.length r ns) (l:Ln):va l seen r=ns↔Sol seen r ns (jh l):=by
 have a:∀ k p,seen[k]?=ip p->∃ i,ns[k]?=ip i/\nI ns k=i/\0<=i/\i < r:=λk p h=>by
  have t:k < ns.length:=by rw [n.1]; exact (aB.mp h).1
  refine ⟨ns[k],aC t,by unfold nI; rw [aC t]; rfl,n.2 _ (bY t)⟩
 constructor
 ·intro h k p hp;obtain ⟨i,e1,e,z,i1⟩:=a k p hp;rw [<-h] at e1;unfold va at e1;rw [aG,hp] at e1;have e1:(jh l p.1+jh l p.2) % r=i:=by simpa using e1
  rw [e];apply mod_iff.mp;rw [e1,aZ z i1]
 ·intro h;apply eU;intro k;unfold va;rw [aG];cases hp:seen[k]? with
  | none=>
   have:ns[k]?=none:=by rw [bJ] at hp ⊢;rw [n.1];exact hp
   rw [this];rfl
  | some p=>obtain ⟨i,e1,e,z,i1⟩:=a k p hp;have:=mod_iff.mpr (h k p hp);rw [e,aZ z i1] at this;rw [e1,<-this];rfl
theorem yb (S:Sn seen W) (D:y∈kW W):(qO W y).1∈kW W/\qO W (qO W y).1=((qO W y).1,[]):=by have h1:=S.R _ (jt D);have h2:(qO W y).1∈kW W:=af.mpr ⟨_,h1,rfl⟩;have:=gC S.w.nd (jt h2) h1 rfl;refine ⟨h2,?_⟩;injection this
theorem mem_RT:x∈RT W↔x∈kW W/\(qO W x).1=x:=by unfold RT;rw [br,(qN _).mem_iff];simp
theorem UV (S:Sn seen W):(RT W).Nodup:=((qN _).nodup_iff.mpr S.w.nd).filter _
theorem qfn (S:Sn seen W) (O:1<=r) (hn:kI seen.length r ns):HM W seen r ns=(((EV0 r (LS seen)).filter λl=>decide (va l seen r=ns)).length:Int)/\(BO W seen r ns=iq↔0 < ((EV0 r (LS seen)).filter λl=>decide (va l seen r=ns)).length):=by
 have hA:∀ l,l∈(EV0 r (LS seen)).filter (λl=>decide (va l seen r=ns))↔(qI l=LS seen/\∀ e∈l,0<=e.2/\e.2 < r)/\Sol seen r ns (jh l):=λl=>by rw [br,zt O,decide_eq_true_eq,XA hn]
 have B:((EV0 r (LS seen)).filter λl=>decide (va l seen r=ns)).Nodup:=(qfm _ _ (by simp)).filter _;generalize (EV0 r (LS seen)).filter (λl=>decide (va l seen r=ns))=A at hA B;have h:∀ l∈A,∀ x∈LS seen,0<=jh l x/\jh l x < r:=λl hl x hx=>by obtain ⟨⟨h1,h2⟩,_⟩:=(hA l).mp hl;exact h2 _ (kh (by rw [h1]; exact hx)).1
 unfold HM;cases U:BO W seen r ns with
 | some c=>
  have:A=[]:=by
   cases A with
   | nil=>rfl
   | cons l A=>have:=qfk S ((hA l).mp (ai ..)).2;rw [U] at this;cases this
  rw [this];simp
 | none=>
  have f:=qbe O U;have L:∀ x∈RT W,x∈LS seen:=λx hx=>S.w.sub x (mem_RT.mp hx).1;have R:∀ c∈CL W 0 seen,c.1∈RT W:=λc i=>by obtain ⟨k,p,E,rfl⟩:=qfi i;have hp:=(vK S.a p (aY E)).1;obtain ⟨h1,h2⟩:=yb S hp;exact mem_RT.mpr ⟨h1,by show (qO W (qO W p.1).1).1=_; rw [h2]; rfl⟩
  have K:A.length<=(PV (ch W seen r ns) (RT W)).length:=by
   refine qbf (λl=>(RT W).map λx=>(x,jh l x)) B (λl hl=>?_) (λa G b g e=>?_);·refine (wK _).mpr ⟨gE _ _,λe u=>?_⟩;obtain ⟨x,hx,rfl⟩:=af.mp u;refine (f x _).mpr ⟨h l hl x (L x hx),λc i Q=>?_⟩;have:=qdG S ((hA l).mp hl).2 c i;rw [Q] at this;exact this
   ·obtain ⟨⟨q,Y⟩,a3⟩:=(hA a).mp G;obtain ⟨⟨o,X⟩,b3⟩:=(hA b).mp g;have t:∀ x∈RT W,jh a x=jh b x:=λx hx=>by have h1:=wp (jh a) hx;have h2:=wp (jh b) hx;rw [<-h1,<-h2];exact congrArg (λl=>jh l x) e
    have v:∀ y∈LS seen,jh a y=jh b y:=λy D=>by
     have j:=S.a y D;obtain ⟨r1,r2⟩:=yb S j;have N:(qO W y).1∈RT W:=mem_RT.mpr ⟨r1,by rw [r2]⟩;have H:=(S.w.path _ (jt j)).val a3;have T:=(S.w.path _ (jt j)).val b3;simp only [] at H T;rw [t _ N] at H;have h1:=h a G y D;have h2:=h b g y D;refine qc1 ?_ h1.1 h1.2 h2.1 h2.2;have e1:jh a y - jh b y=(jh a y - qQ ns (jh b (qO W y).1) (qO W y).2) - (jh b y - qQ ns (jh b (qO W y).1) (qO W y).2):=by omega
     rw [e1];exact dI H T
    have n:(qI a).Nodup:=by rw [q]; exact KN _
    have d:(qI b).Nodup:=by rw [o]; exact KN _
    rw [zu n,zu d,q,o];exact bP λy D=>by rw [v y D]
  have I:(PV (ch W seen r ns) (RT W)).length<=A.length:=by
   refine qbf (λl=>(LS seen).map λx=>(x,vO W r ns (jh l) x)) (qhs _ (λx=>qiX O x) _) (λl hl=>?_) (λa G b g e=>?_)
   ·obtain ⟨l1,F⟩:=(wK _).mp hl;have hok:∀ c∈CL W 0 seen,okS r ns c.2 (jh l c.1):=λc i=>by have:=F _ (kh (by rw [l1]; exact R c i)).1;exact ((f _ _).mp this).2 c i rfl
    have hs:=qdH S hok;refine (hA _).mpr ⟨⟨gE _ _,λe u=>?_⟩,λk p E=>?_⟩;·obtain ⟨x,_,rfl⟩:=af.mp u;exact ⟨cI _ (by omega),bV _ (by omega)⟩
    ·have hp:=aY E;have m1:p.1∈LS seen:=mem_LS.mpr ⟨p,hp,.inl rfl⟩;have Z:p.2∈LS seen:=mem_LS.mpr ⟨p,hp,.inr rfl⟩;rw [wp (vO W r ns (jh l)) m1,wp (vO W r ns (jh l)) Z];exact hs k p E
   ·obtain ⟨q,Y⟩:=(wK _).mp G;obtain ⟨o,X⟩:=(wK _).mp g;have M:∀ x∈RT W,jh a x=jh b x:=λx hx=>by
     have m:=L x hx;have h1:=wp (vO W r ns (jh a)) m;have h2:=wp (vO W r ns (jh b)) m;have C:vO W r ns (jh a) x=vO W r ns (jh b) x:=by rw [<-h1,<-h2];exact congrArg (λl=>jh l x) e
     obtain ⟨k1,k2⟩:=mem_RT.mp hx;obtain ⟨_,r2⟩:=yb S k1;rw [k2] at r2;unfold vO at C;rw [r2] at C;have C:jh a x % r=jh b x % r:=C;have V:=((f x _).mp (Y _ (kh (by rw [q]; exact hx)).1)).1;have c2:=((f x _).mp (X _ (kh (by rw [o]; exact hx)).1)).1;rwa [aZ V.1 V.2,aZ c2.1 c2.2] at C
    have n:(qI a).Nodup:=by rw [q]; exact UV S
    have d:(qI b).Nodup:=by rw [o]; exact UV S
    rw [zu n,zu d,q,o];exact bP λy D=>by rw [M y D]
  have s:A.length=(PV (ch W seen r ns) (RT W)).length:=Nat.le_antisymm K I;have J:0 < (PV (ch W seen r ns) (RT W)).length:=by
   have hl:((RT W).map λx=>(x,((ch W seen r ns x).head?).getD 0))∈PV (ch W seen r ns) (RT W):=(wK _).mpr ⟨gE _ _,λe u=>by
    obtain ⟨x,_,rfl⟩:=af.mp u;show ((ch W seen r ns x).head?).getD 0∈ch W seen r ns x;have P:ch W seen r ns x≠[]:=by
     unfold ch rW;split;·intro z;have:=congrArg fB z;simp at this;omega
     ·split <;> simp
    cases i:ch W seen r ns x with
    | nil=>exact absurd i P
    | cons a l=>exact ai ..⟩
   exact cm hl
  refine ⟨?_,λ_=>by rw [s]; exact J,λ_=>rfl⟩;have:=qbg (ch W seen r ns) (RT W) 1;rw [g5,<-s] at this;exact this
end
noncomputable def rD (rows:List Ln):List D:=rows.map λl=>.tup (prL l)
theorem Wu:(1100000:Nat)<=sizeLine:=by rw [iI]; decide
theorem iR1 (h:f ρ=.ok (.int n,ρ1)) (a:n<=2000):ke f ρ=.ok ((aK n).map λ(j:Nat)=>.int j,ρ1):=by rw [iR0 (by omega) (by omega) h,Int.toNat_natCast];simp [QJ]
theorem qfo (h:1<=r) (g:r<=99) (l:Ln) (hl:l.length<=50) (x:Str) (a b c d e:Option D):jw [5] 1 [6,4] (ke (qe 2)) (gNm 0) ftT (d2 kb (qe 1) (vM (qd (vM (qd (qe 2) (qd (qe 0) qE))) qE))) [a,b,ip (.int r),c,ip (.str x),d,ip (.tup (prL l))]=.ok (.lst (rD ((aK r.toNat).map λ(j:Nat)=>l++[(x,(j:Int))])),[a,b,ip (.int r),c,ip (.str x),d,ip (.tup (prL l))]):=by
 obtain ⟨n,rfl⟩:=db (by omega:0<=r);have s:=iR1 (f:=qe 2) (ρ:=[a,b,ip (.int (n:Nat)),c,ip (.str x),d,ip (.tup (prL l))]) (ρ1:=[a,b,ip (.int (n:Nat)),c,ip (.str x),d,ip (.tup (prL l))]) (n:=n) rfl (by omega);have A:1<=sizeLine:=jg (by omega);have N:2<=sizeLine:=jg (by omega);have z:(prL l).length+1<=sizeLine:=by simp [prL]; exact jg (by omega)
 have:=qaR (own:=[5]) (cap:=[6,4]) (fi:=ke (qe 2)) (fe:=d2 kb (qe 1) (vM (qd (vM (qd (qe 2) (qd (qe 0) qE))) qE))) (λd=>match d with | .int j=>.tup (prL (l++[(x,j)])) | d=>d) (by decide) s (by simp; exact jg (by omega)) (λd hd=>by obtain ⟨j,G,rfl⟩:=af.mp hd;simp [kb,A,N,z];simp [prL]);rw [this,aV];unfold rD;rw [aV];rfl
abbrev evB:Sl->Out (Fl×Sl):=(kD (gN 5 GK (jw [5] 1 [6,4] (ke (qe 2)) (gNm 0) ftT (d2 kb (qe 1) (vM (qd (vM (qd (qe 2) (qd (qe 0) qE))) qE))))))
theorem qht (f:1<=r) (g:r<=99) (x:Str) (a b c:Option D):∀ (rows acc:List Ln) (y:Option D),(∀ l∈rows,l.length<=50)->acc.length+rows.length * r.toNat<=1100000 ->∃ s,vC (gNm 6) evB (rD rows) [a,b,ip (.int r),c,ip (.str x),ip (.lst (rD acc)),y]=.ok (.nx,[a,b,ip (.int r),c,ip (.str x),ip (.lst (rD (acc++evS r x rows))),s])
 | [],acc,y,_,_=>⟨y,by simp [rD,evS,vC]⟩
 | l::rows,acc,y,hl,hz=>by
  rw [ap,fX] at hz;have n:((aK r.toNat).map λ(j:Nat)=>l++[(x,(j:Int))]).length=r.toNat:=by simp
  obtain ⟨s,i⟩:=qht f g x a b c rows (acc++(aK r.toNat).map λ(j:Nat)=>l++[(x,(j:Int))]) (ip (.tup (prL l))) (λm e=>hl m (aa _ e)) (by rw [ah,n]; omega);have p:=qfo f g l (hl l (ai ..)) x a b c (ip (.lst (rD acc))) iq;have h:(rD acc).length+(rD ((aK r.toNat).map λ(j:Nat)=>l++[(x,(j:Int))])).length<=sizeLine:=by unfold rD;rw [ay,ay,n];exact bg (by omega) Wu
  refine ⟨s,bT (wJ (d:=.tup (prL l)) (ρ1:=[a,b,ip (.int r),c,ip (.str x),ip (.lst (rD acc)),ip (.tup (prL l))]) rfl ?_) (bT i ?_)⟩
  ·generalize k:rD ((aK r.toNat).map λ(j:Nat)=>l++[(x,(j:Int))])=G at p h;have hA:rD (acc++(aK r.toNat).map λ(j:Nat)=>l++[(x,(j:Int))])=rD acc++G:=by rw [<-k]; simp [rD]
   rw [hA];unfold evB;have hi:yP ([a,b,ip (.int r),c,ip (.str x),ip (.lst (rD acc)),ip (.tup (prL l))]:Sl)[5]?=true:=rfl;rw [qcq,qeK,if_pos hi,p,kX];simp only [d9,eh];simp [GK,h]
  ·rw [show evS r x (l::rows)=((aK r.toNat).map λ(j:Nat)=>l++[(x,(j:Int))])++evS r x rows from dF,aS]
theorem qbh (r:Int) (x:Str) (rows:List Ln):(evS r x rows).length=rows.length * r.toNat:=by unfold evS;have:=Wt (aK r.toNat) (λ(l:Ln) (j:Nat)=>l++[(x,(j:Int))]) rows;rw [ck] at this;exact this
abbrev evO:Sl->Out (Fl×Sl):=(qT (jz 5 (yz qE))
  (qT (QK (jZ (qe 3)) (gNm 6)
  (kD (gN 5 GK (jw [5] 1 [6,4] (ke (qe 2)) (gNm 0) ftT (d2 kb (qe 1) (vM (qd (vM (qd (qe 2) (qd (qe 0) qE))) qE)))))))
  (jz 3 (qe 5))))
theorem qdK (k:1<=r) (o:r<=99) (a b:Option D):∀ (L:List Str) (rows:List Ln) (y g c:Option D) (n:Nat),(∀ l∈rows,l.length<=n)->n+L.length<=50->rows.length * r.toNat ^ L.length<=1100000 ->∃ s e d,vC (gNm 4) evO (L.map D.str) [a,b,ip (.int r),ip (.lst (rD rows)),y,g,c]=.ok (.nx,[a,b,ip (.int r),ip (.lst (rD (EV r rows L))),s,e,d])
 | [],rows,y,g,c,n,_,_,_=>⟨y,g,c,rfl⟩
 | x::L,rows,y,g,c,n,hl,hn,hz=>by
  rw [ap] at hn hz;have hp:1<=r.toNat:=by omega
  have w:1<=r.toNat ^ L.length:=Nat.one_le_pow _ _ (by omega);have h:rows.length * r.toNat * r.toNat ^ L.length<=1100000:=by rw [hZ,<-Nat.pow_succ']; exact hz
  have j:rows.length * r.toNat<=1100000:=bg (Nat.le_mul_of_pos_right _ w) h;obtain ⟨m,e1⟩:=qht k o x a b (ip (.lst (rD rows))) rows [] c (λl f=>by have:=hl l f; omega) (by simpa using j);obtain ⟨s,e,d,q⟩:=qdK k o a b L (evS r x rows) (ip (.str x)) (ip (.lst (rD (evS r x rows)))) m (n+1) (λl f=>by obtain ⟨p,t,i,_,_,rfl⟩:=(KS k).mp f;have:=hl p t;rw [ah];simp;omega) (by omega) (by rw [qbh]; exact h);refine ⟨s,e,d,bT (wJ (ρ1:=[a,b,ip (.int r),ip (.lst (rD rows)),ip (.str x),g,c]) rfl ?_) q⟩;unfold evO;rw [qcV (ρ1:=[a,b,ip (.int r),ip (.lst (rD rows)),ip (.str x),ip (.lst []),c]) (by simp)];rw [qcV (ρ1:=[a,b,ip (.int r),ip (.lst (rD rows)),ip (.str x),ip (.lst (rD (evS r x rows))),m]) (by rw [kL,show jZ (qe 3) [a,b,ip (.int r),ip (.lst (rD rows)),ip (.str x),ip (.lst []),c]=.ok (rD rows,[a,b,ip (.int r),ip (.lst (rD rows)),ip (.str x),ip (.lst []),c]) from rfl,kX];exact e1)];simp
theorem qc3 (w:jy ws) (hl:Vb p q) (f:1<=r) (g:r<=99) (z:r.toNat ^ (LS (qp ws p q)).length<=1100000):Kz [Wd ws,Ld p q,.int r]=.ok (.lst (rD (EV0 r (LS (qp ws p q)))),[.non,.non,.non]):=by have h1:=yK w hl;have h:=Xv w p q;obtain ⟨s,a,x,e⟩:=qdK f g (ip (Wd ws)) (ip (Ld p q)) (LS (qp ws p q)) [[]] iq iq iq 0 (by simp) (by omega) (by simpa using z);have A:1<=sizeLine:=jg (by omega);refine runD_ap.trans ?_;unfold Ky;rw [show qw gy [Wd ws,Ld p q,.int r]=[ip (Wd ws),ip (Ld p q),ip (.int r),iq,iq,iq,iq] from rfl];refine (qB (ρ1:=[ip (Wd ws),ip (Ld p q),ip (.int r),ip (.lst (rD [[]])),iq,iq,iq]) (by simp [A,rD,prL])).trans ?_;refine (qB (ρ1:=[ip (Wd ws),ip (Ld p q),ip (.int r),ip (.lst (rD (EV0 r (LS (qp ws p q))))),s,a,x]) (by rw [kL,show jZ (qv [.vl,.vl] vz (qd (qe 0) (qd (qe 1) qE))) [ip (Wd ws),ip (Ld p q),ip (.int r),ip (.lst (rD [[]])),iq,iq,iq]=.ok ((LS (qp ws p q)).map D.str,[ip (Wd ws),ip (Ld p q),ip (.int r),ip (.lst (rD [[]])),iq,iq,iq]) by simp [qC,jf,h1,jC],kX];exact e)).trans ?_;simp [qx]
theorem QE:∀ (a b:List Int),vh (eqN 7) (a.map D.int) (b.map D.int)=ip (decide (a.take (min a.length b.length)=b.take (min a.length b.length)))
 | [],b=>by simp [vh]
 | a::l,[]=>by simp [vh]
 | a::l,b::m=>by have j:=QE l m;simp only [aE,vh,j,eqN,eqS,ap,Nat.succ_eq_add_one,show min (l.length+1) (m.length+1)=min l.length m.length+1 by omega,dP];by_cases h:a=b <;> simp [h]
theorem XB (a b:List Int):eqD (nD a) (nD b)=.ok (.bl (decide (a=b))):=by
 by_cases h:a.length=b.length;·have e:=QE a b;rw [h,ia,df,<-h,df] at e;simp [eqD,eqN,h,e]
 ·have c:a≠b:=λz=>h (by rw [z]);simp [eqD,eqN,h,c,QE]
abbrev duT:Sl->Out (Bool×Sl):=jb (d2 eqD (qv [.vl,.vl,.vl,.vl] qaD (qd (qe 2) (qd (qe 3) (qd (qe 4) (qd (d1 WX (qe 0)) qE))))) (qe 1))
theorem qbi (w:jy ws) (hl:Vb p q) (f:1<=r) (ns:List Int):∀ (rows:List Ln) (x:Option D),(∀ l∈rows,qI l=LS (qp ws p q)) ->∃ n,jP (gNm 0) duT (qe 0) (rD rows) [x,ip (nD ns),ip (Wd ws),ip (Ld p q),ip (.int r)]=.ok (rD (rows.filter λl=>decide (va l (qp ws p q) r=ns)),[n,ip (nD ns),ip (Wd ws),ip (Ld p q),ip (.int r)])
 | [],x,_=>⟨x,rfl⟩
 | l::rows,x,h=>by
  have k:=h l (ai ..);obtain ⟨n,j⟩:=qbi w hl f ns rows (ip (.tup (prL l))) λm c=>h m (aa _ c);have hd:=UM (l:=l) (by rw [k]; exact KN _);have i:=Wq w hl (r:=r) (by omega) (l:=l) (by rw [k]; exact λx hx=>hx);rw [Xz] at i;have e:=XB (va l (qp ws p q) r) ns;have d:rD (l::rows)=.tup (prL l)::rD rows:=rfl;refine ⟨n,?_⟩;rw [d];by_cases O:va l (qp ws p q) r=ns;·rw [List.filter_cons_of_pos (by simpa using O)];rw [decide_eq_true O] at e;simp [jP,xW,hd,qC,jf,i,e,j];rfl
  ·rw [List.filter_cons_of_neg (by simpa using O)];rw [decide_eq_false O] at e;simp [jP,xW,hd,qC,jf,i,e,j]
theorem qiY (l:List Pr):(LS l).length<=2 * l.length:=by
 have:=UN (a:=LS l) (b:=l.map (·.1)++l.map (·.2)) (KN l) λx hx=>by
  obtain ⟨p,hp,h⟩:=mem_LS.mp hx;rcases h with rfl | rfl;·exact aj.mpr (.inl (af.mpr ⟨p,hp,rfl⟩))
  ·exact aj.mpr (.inr (af.mpr ⟨p,hp,rfl⟩))
 rw [ah,ay,ay] at this;omega
noncomputable def ltL (a b:Ln):Bool:=ltZ (a.map (·.2)) (b.map (·.2))
theorem KW:∀ a b:List Int,ltZ a b=iA->ltZ b a=iw
 | [],[],h=>by simp [ltZ] at h
 | [],_::_,_=>rfl
 | _::_,[],h=>by simp [ltZ] at h
 | x::a,y::b,h=>by
  unfold ltZ at h ⊢;by_cases q:x=y;·rw [if_pos q] at h;rw [if_pos q.symm];exact KW a b h
  ·rw [if_neg q] at h;rw [if_neg λz=>q z.symm];have:=of_decide_eq_true h;exact decide_eq_false (by omega)
theorem qbj:∀ (a b:List Int) (i j:Int),a.length=b.length->ltZ a b=iA->ltZ (a++[i]) (b++[j])=iA
 | [],[],_,_,_,h=>by simp [ltZ] at h
 | [],_::_,_,_,h,_=>by cases h
 | _::_,[],_,_,h,_=>by cases h
 | x::a,y::b,i,j,hl,h=>by
  unfold ltZ at h;show (if x=y then ltZ (a++[i]) (b++[j]) else decide (x < y))=iA;by_cases q:x=y;·rw [if_pos q] at h ⊢;exact qbj a b i j (by simpa using hl) h
  ·rw [if_neg q] at h ⊢;exact h
theorem XC:∀ (a:List Int) (i j:Int),i < j->ltZ (a++[i]) (a++[j])=iA
 | [],i,j,h=>by show (if i=j then _ else decide (i < j))=iA;rw [if_neg (by omega)];exact decide_eq_true h
 | x::a,i,j,h=>by show (if x=x then ltZ (a++[i]) (a++[j]) else _)=iA;rw [if_pos rfl];exact XC a i j h
theorem Wv (f g:Str->Int) (x:Str) (hx:f x < g x) (L2:List Str):∀ L:List Str,(∀ y∈L,f y=g y)->ltZ ((L++x::L2).map f) ((L++x::L2).map g)=iA
 | [],_=>by show (if f x=g x then _ else decide (f x < g x))=iA;rw [if_neg (by omega)];exact decide_eq_true hx
 | y::L,h=>by show (if f y=g y then ltZ ((L++x::L2).map f) ((L++x::L2).map g) else _)=iA;rw [if_pos (h y (ai ..))];exact Wv f g x hx L2 L λz a=>h z (aa _ a)
theorem qdL (f g:Str->Int):∀ R:List Str,ltZ (R.map f) (R.map g)=iA->∃ b x R2,R=b++x::R2/\(∀ y∈b,f y=g y)/\f x < g x
 | [],h=>by simp [ltZ] at h
 | x::R,h=>by
  have h:(if f x=g x then ltZ (R.map f) (R.map g) else decide (f x < g x))=true:=h;by_cases q:f x=g x
  ·rw [if_pos q] at h;obtain ⟨b,y,R2,e,h1,h2⟩:=qdL f g R h;refine ⟨x::b,y,R2,by rw [e]; rfl,λz a=>?_,h2⟩;rcases ac.mp a with rfl | a;·exact q
   ·exact h1 z a
  ·rw [if_neg q] at h;exact ⟨[],x,R,rfl,(λy a=>by cases a),of_decide_eq_true h⟩
theorem qhu (hl:∀ l∈rows,l.length=n) (h:rows.Pairwise λa b=>ltL a b=iA):(evS r x rows).Pairwise λa b=>ltL a b=true:=by
 unfold evS;rw [dB];constructor;·intro l _;refine dG.mpr (cU (λ{i j} e=>?_) List.pairwise_lt_range);unfold ltL;rw [cw,cw];exact XC _ _ _ (by show (i:Int) < (j:Int); omega)
 ·refine dW (λ{a b} g f c=>?_) h;intro y D z d;obtain ⟨i,_,rfl⟩:=af.mp D;obtain ⟨j,_,rfl⟩:=af.mp d;unfold ltL at c ⊢;rw [cw,cw];exact qbj _ _ _ _ (by rw [ay,ay,hl a g,hl b f]) c
theorem qhv (f:1<=r):∀ (L:List Str) (n:Nat) (rows:List Ln),(∀ l∈rows,l.length=n)->(rows.Pairwise λa b=>ltL a b=iA)->(EV r rows L).Pairwise λa b=>ltL a b=iA
 | [],_,_,_,h=>h
 | x::L,n,rows,hl,h=>qhv f L (n+1) (evS r x rows) (λl h'=>by obtain ⟨c,d,i,_,_,rfl⟩:=(KS f).mp h';rw [ah,hl c d];rfl) (qhu hl h)
theorem qhw (c:Str->List Int) (e:∀ x,(c x).Pairwise (· < ·)):∀ R:List Str,(PV c R).Pairwise λa b=>ltL a b=iA
 | []=>by simp [PV]
 | x::R=>by
  have j:=qhw c e R;unfold PV;rw [dB];constructor
  ·intro s _;refine dG.mpr (cU (λ{a b} d=>?_) j);show (if s=s then ltZ (a.map (·.2)) (b.map (·.2)) else _)=iA;rw [if_pos rfl];exact d
  ·refine cU (λ{s t} h=>?_) (e x);intro y D z f;obtain ⟨a,_,rfl⟩:=af.mp D;obtain ⟨b,_,rfl⟩:=af.mp f;show (if s=t then _ else decide (s < t))=iA;rw [if_neg (by omega)];exact decide_eq_true h
theorem qdM:∀ a b:List Ln,(a.Pairwise λx y=>ltL x y=iA)->(b.Pairwise λx y=>ltL x y=iA)->(∀ x∈a,x∈b)->b.length<=a.length->a=b
 | [],b,_,_,_,hl=>(List.eq_nil_of_length_eq_zero (by simpa using hl)).symm
 | x::a,[],_,_,h,_=>by have:=h x (ai ..); cases this
 | x::a,y::b,ha,hb,h,hl=>by
  have i:∀ l:Ln,ltL l l=iA->False:=λl q=>by have:=KW _ _ q;unfold ltL at q;rw [q] at this;cases this
  have n:∀ l m:Ln,ltL l m=iA->ltL m l=iA->False:=λl m q o=>by have:=KW _ _ q;unfold ltL at o;rw [o] at this;cases this
  have D:=aP.mp ha;have g:=aP.mp hb;by_cases q:x=y
  ·subst q;rw [qdM a b D.2 g.2 (λz c=>by
    rcases ac.mp (h z (aa _ c)) with e | e;·exact (i x (by have:=D.1 z c; rw [e] at this; exact this)).elim
    ·exact e) (by simpa using hl)]
  ·have hx:x∈b:=by
    rcases ac.mp (h x (ai ..)) with e | e;·exact absurd e q
    ·exact e
   have f:=g.1 x hx;have j:(x::a).Nodup:=ha.imp λ{s t} d=>λe=>i s (by rw [<-e] at d; exact d);have:=KU j (b:=b) λz c=>by
    rcases ac.mp (h z c) with e | e
    ·rcases ac.mp c with k | k;·exact absurd (k.symm.trans e) q
     ·exact (n x y (by have:=D.1 z k; rw [e] at this; exact this) f).elim
    ·exact e
   rw [ap] at hl this;rw [ap] at hl;omega
noncomputable def bl (W:Wy) (r:Int) (ns:List Int) (L:List Str) (l:Ln):Ln:=L.map λx=>(x,vO W r ns (jh l) x)
section
theorem qiZ (S:Sn seen W) (f:1<=r) (n:kI seen.length r ns) (m:BO W seen r ns=iq) {l:Ln} (hl:l∈PV (ch W seen r ns) (RT W)):bl W r ns (LS seen) l∈(EV0 r (LS seen)).filter λl=>decide (va l seen r=ns):=by
 have b:=qbe f m;have R:∀ c∈CL W 0 seen,c.1∈RT W:=λc d=>by obtain ⟨k,p,h,rfl⟩:=qfi d;have hp:=(vK S.a p (aY h)).1;obtain ⟨h1,h2⟩:=yb S hp;exact mem_RT.mpr ⟨h1,by show (qO W (qO W p.1).1).1=_; rw [h2]; rfl⟩
 obtain ⟨i,g⟩:=(wK _).mp hl;have hok:∀ c∈CL W 0 seen,okS r ns c.2 (jh l c.1):=λc d=>by have:=g _ (kh (by rw [i]; exact R c d)).1;exact ((b _ _).mp this).2 c d rfl
 have s:=qdH S hok;rw [br,zt f,decide_eq_true_eq,XA n];unfold bl;refine ⟨⟨gE _ _,λe j=>?_⟩,λk p h=>?_⟩;·obtain ⟨x,_,rfl⟩:=af.mp j;exact ⟨cI _ (by omega),bV _ (by omega)⟩
 ·have hp:=aY h;have m1:p.1∈LS seen:=mem_LS.mpr ⟨p,hp,.inl rfl⟩;have B:p.2∈LS seen:=mem_LS.mpr ⟨p,hp,.inr rfl⟩;rw [wp (vO W r ns (jh l)) m1,wp (vO W r ns (jh l)) B];exact s k p h
theorem Ww {l:Ln} (h:(qI l).Nodup):l.map (·.2)=(qI l).map (jh l):=by
 have e:=zu h
 conv=>lhs; rw [e]
 rw [aV];rfl
theorem qi0 (S:Sn seen W) (H:1<=r) (J:BO W seen r ns=iq) {l m:Ln} (hl:l∈PV (ch W seen r ns) (RT W)) (I:m∈PV (ch W seen r ns) (RT W)) (h:ltL l m=iA):ltL (bl W r ns (LS seen) l) (bl W r ns (LS seen) m)=true:=by
 have i:=qbe H J;obtain ⟨B,N⟩:=(wK _).mp hl;obtain ⟨A,K⟩:=(wK _).mp I;have t:(qI l).Nodup:=by rw [B]; exact UV S
 have f:(qI m).Nodup:=by rw [A]; exact UV S
 unfold ltL at h ⊢;rw [Ww t,Ww f,B,A] at h;obtain ⟨O,x,R2,E,h1,h2⟩:=qdL (jh l) (jh m) (RT W) h;have b:x∈RT W:=by rw [E]; exact aQ _ (ai ..)
 obtain ⟨k1,k2⟩:=mem_RT.mp b;have p:x∈LS seen:=S.w.sub x k1;obtain ⟨P,L2,v⟩:=List.append_of_mem p;have o:(LS seen).Pairwise leS:=by unfold LS; exact qX _
 have L:(LS seen).Nodup:=KN _;have R:(RT W).Pairwise leS:=(qX _).filter _;have C:∀ (a:Ln),(bl W r ns (LS seen) a).map (·.2)=(LS seen).map (vO W r ns (jh a)):=λa=>by unfold bl;rw [aV];rfl
 rw [C,C,v];refine Wv _ _ x ?_ L2 P λy D=>?_;·obtain ⟨_,r2⟩:=yb S k1;rw [k2] at r2;unfold vO;rw [r2];show jh l x % r < jh m x % r;have G:=((i x _).mp (N _ (kh (by rw [B]; exact b)).1)).1;have c2:=((i x _).mp (K _ (kh (by rw [A]; exact b)).1)).1;rw [aZ G.1 G.2,aZ c2.1 c2.2];exact h2
 ·have k:y∈LS seen:=by rw [v]; exact bW _ D
  rw [v] at o L;have c:leS y x:=(List.pairwise_append.mp o).2.2 y D x (ai ..);have s:y≠x:=(bQ.mp L).2.2 y D x (ai ..);have j:=S.a y k;obtain ⟨r1,r2⟩:=yb S j;have M:(qO W y).1∈RT W:=mem_RT.mpr ⟨r1,by rw [r2]⟩;have d:leS (qO W y).1 y:=S.m _ (jt j);have q:leS (qO W y).1 x:=xz d c;have n:(qO W y).1≠x:=λz=>s (xA c (by rw [<-z]; exact d));have u:(qO W y).1∈O:=by
   have g:=M;rw [E] at g R;rcases aj.mp g with e | e;·exact e
   ·rcases ac.mp e with e | e;·exact absurd e n
    ·exact absurd (xA q ((aP.mp (List.pairwise_append.mp R).2.1).1 _ e)) n
  unfold vO;rw [h1 _ u]
end
section
theorem qi1 (f:1<=r) (x:Str):(ch W seen r ns x).Pairwise (· < ·):=by
 unfold ch rW;split;·exact dG.mpr (cU (λ{a b} h=>by show (a:Int) < (b:Int); omega) List.pairwise_lt_range)
 ·split;·refine aP.mpr ⟨λy D=>?_,by simp⟩;rw [ao.mp D];omega
  ·simp
theorem Wx (S:Sn seen W) (f:1<=r) (n:kI seen.length r ns) (d:BO W seen r ns=iq):(EV0 r (LS seen)).filter (λl=>decide (va l seen r=ns))=(PV (ch W seen r ns) (RT W)).map (bl W r ns (LS seen))/\HM W seen r ns=((PV (ch W seen r ns) (RT W)).length:Int):=by
 have H:HM W seen r ns=((PV (ch W seen r ns) (RT W)).length:Int):=by have:=qbg (ch W seen r ns) (RT W) 1;rw [g5] at this;unfold HM;rw [d];exact this
 obtain ⟨k,_⟩:=qfn S f n;refine ⟨(qdM _ _ ?_ ((qhv f _ 0 [[]] (λl hl=>by rw [ao.mp hl]; rfl) (by simp)).filter _) (λx hx=>?_) ?_).symm,H⟩;·exact dG.mpr (dW (λ{a b} c g h=>qi0 S f d c g h) (qhw _ (λx=>qi1 f x) _))
 ·obtain ⟨l,hl,rfl⟩:=af.mp hx;exact qiZ S f n d hl
 ·rw [ay];have:(((EV0 r (LS seen)).filter λl=>decide (va l seen r=ns)).length:Int)=((PV (ch W seen r ns) (RT W)).length:Int):=by rw [<-k,H]
  exact ez (Int.ofNat.inj this)
end
theorem qfp {γ:Type} (P:List β) (g:α->β->γ):∀ (c:List α) (i j:Nat) (a:α) (b:β),c[i]?=ip a->P[j]?=ip b->(c.flatMap λs=>P.map (g s))[i * P.length+j]?=ip (g a b)
 | [],i,j,a,b,h,_=>by simp at h
 | s::c,0,j,a,b,h,hj=>by
  have h:s=a:=by simpa using h
  subst h;have t:j < P.length:=(aB.mp hj).1;rw [dF,Nat.zero_mul,Nat.zero_add,cy (by rw [ay]; exact t),aG,hj];rfl
 | s::c,i+1,j,a,b,h,hj=>by have d:=qfp P g c i j a b (by simpa using h) hj;rw [dF,bF (by rw [ay,fX]; omega),ay,show (i+1) * P.length+j - P.length=i * P.length+j by rw [fX]; omega];exact d
noncomputable def dig (c:Str->List Int):List Str->Nat->Ln×Nat
 | [],a=>([],a)
 | x::R,a=>((x,((c x)[(dig c R a).2 % (c x).length]?).getD 0)::(dig c R a).1,(dig c R a).2 / (c x).length)
theorem qdN (c:Str->List Int) (a:Nat):∀ R:List Str,(∀ x∈R,c x≠[])->(dig c R a).2=a / (PV c R).length/\(PV c R)[a % (PV c R).length]?=ip (dig c R a).1/\0 < (PV c R).length
 | [],_=>by simp [dig,PV,Nat.mod_one]
 | x::R,h=>by
  obtain ⟨h1,h2,j⟩:=qdN c a R λy D=>h y (aa _ D);have k:0 < (c x).length:=cr.mpr (h x (ai ..));have n:(PV c (x::R)).length=(c x).length * (PV c R).length:=Wt (PV c R) (λs l=>(x,s)::l) (c x);have hi:(dig c R a).2 % (c x).length < (c x).length:=fW _ k;refine ⟨?_,?_,by rw [n]; exact Nat.mul_pos k j⟩;·show (dig c R a).2 / (c x).length=_;rw [n,h1,Nat.div_div_eq_div_mul,ib]
  ·rw [n,ib,Nat.mod_mul,Nat.add_comm,ib,<-h1];have:=qfp (PV c R) (λs l=>(x,s)::l) (c x) ((dig c R a).2 % (c x).length) (a % (PV c R).length) _ _ (aC hi) h2;show ((c x).flatMap λs=>(PV c R).map λl=>(x,s)::l)[_]?=_;rw [this];show ip ((x,(c x)[(dig c R a).2 % (c x).length])::(dig c R a).1)=ip ((x,((c x)[(dig c R a).2 % (c x).length]?).getD 0)::(dig c R a).1);rw [aC hi];rfl
noncomputable def stp (c:Str->List Int) (s:Ln×Nat) (x:Str):Ln×Nat:=(s.1++[(x,nI (c x) (s.2 % (c x).length))],s.2 / (c x).length)
theorem qbk (c:Str->List Int) (a:Nat):∀ R:List Str,R.reverse.foldl (stp c) ([],a)=((dig c R a).1.reverse,(dig c R a).2)
 | []=>rfl
 | x::R=>by rw [cC,fG,qbk c a R];show ((dig c R a).1.reverse++[(x,nI (c x) ((dig c R a).2 % (c x).length))],(dig c R a).2 / (c x).length)=_;show _=(((x,((c x)[(dig c R a).2 % (c x).length]?).getD 0)::(dig c R a).1).reverse,_);rw [cC];rfl
abbrev qi2:Sl->Out (Fl×Sl):=(qT (zU 2 (d2 ixD (qe 5) (d2 wq (qe 3) (d1 jD (qe 5)))) (qe 4)) (jz 3 (d2 xS (qe 3) (d1 jD (qe 5)))))
variable {a:Nat}
theorem qc4 {cs:List Int} (e:cs≠[]) (j:cs.length<=99) (i:a<=100000000) {acc:Ln} (hl:acc.length<=100) (hx:x∉qI acc) (u v:Option D):qi2 [u,v,ip (.dct (bk acc)),ip (.int (a:Nat)),ip (.str x),ip (iD cs)]=.ok (.nx,[u,v,ip (.dct (bk (acc++[(x,nI cs (a % cs.length))]))),ip (.int (a / cs.length:Nat)),ip (.str x),ip (iD cs)]):=by
 have hp:0 < cs.length:=cr.mpr e;have n:jD (iD cs)=.ok (.int (cs.length:Int)):=by simp [jD]
 have h:(0:Int) < (cs.length:Int):=by omega
 have i1:ixD (iD cs) (.int ((a % cs.length:Nat):Int))=.ok (.int (nI cs (a % cs.length))):=qhe cs (a % cs.length) (fW _ hp);have f:(bk acc).length < sizeLine:=aI (by simp [bk]; omega) big;have t:Ji (bk acc) (.inr x) (.int (nI cs (a % cs.length)))=bk (acc++[(x,nI cs (a % cs.length))]):=by
  unfold Ji;have o:((bk acc).any λp=>decide (p.1=bp x))=false:=by rw [List.any_eq_false];intro p hp;obtain ⟨y,g,rfl⟩:=af.mp hp;intro z;have z:=of_decide_eq_true z;exact hx (af.mpr ⟨y,g,bp.inj z⟩)
  rw [o];simp [bk]
 have c:wq (.int (a:Int)) (.int (cs.length:Int))=.ok (.int ((a % cs.length:Nat):Int)):=by simp [wq,uu,h,e]
 have hd:xS (.int (a:Int)) (.int (cs.length:Int))=.ok (.int ((a / cs.length:Nat):Int)):=by
  have b:qd2 (a:Int) (cs.length:Int):=by refine ⟨?_,?_⟩ <;> omega
  simp [xS,uu,b]
 generalize a % cs.length=k at c i1 t ⊢;generalize a / cs.length=d at hd ⊢;generalize iD cs=Y at n i1 ⊢;unfold qi2;rw [qcV (ρ1:=[u,v,ip (.dct (bk (acc++[(x,nI cs k)]))),ip (.int (a:Nat)),ip (.str x),ip Y]) (by simp only [zU];simp [n,c,i1,Jh,f,t])];simp [n,hd]
variable {c:Str->List Int}
theorem XD (u v:Option D):∀ (Q:List Str) (s:Ln×Nat) (y z:Option D),(∀ x∈Q,c x≠[]/\(c x).length<=99)->s.2<=100000000->s.1.length+Q.length<=100->(qI s.1++Q).Nodup ->∃ a p,vC (jL 2 (qD (gNm 4) (qD (gNm 5) jK))) qi2 (Q.map λx=>rd (x,c x)) [u,v,ip (.dct (bk s.1)),ip (.int (s.2:Nat)),y,z]=.ok (.nx,[u,v,ip (.dct (bk (Q.foldl (stp c) s).1)),ip (.int ((Q.foldl (stp c) s).2:Nat)),a,p])
 | [],s,y,z,_,_,_,_=>⟨y,z,rfl⟩
 | x::Q,s,y,z,hc,ha,hl,hn=>by
  rw [ap] at hl;have hx:=hc x (ai ..);have b:x∉qI s.1:=λh=>(bQ.mp hn).2.2 x h x (ai ..) rfl;have t:=qc4 hx.1 hx.2 ha (acc:=s.1) (by omega) b u v;have k:qI (stp c s x).1++Q=qI s.1++(x::Q):=by simp [stp,qI]
  obtain ⟨a,p,j⟩:=XD u v Q (stp c s x) (ip (.str x)) (ip (iD (c x))) (λw e=>hc w (aa _ e)) (bg (Nat.div_le_self _ _) ha) (by simp [stp]; omega) (by rw [k]; exact hn);exact ⟨a,p,bT (wJ (d:=rd (x,c x)) (ρ1:=[u,v,ip (.dct (bk s.1)),ip (.int (s.2:Nat)),ip (.str x),ip (iD (c x))]) rfl t) j⟩
theorem qbl {R:List Str} (d:∀ x∈R,c x≠[]/\(c x).length<=99) (k:R.length<=100) (n:R.Nodup) (g:a<=100000000):yV [.lst (R.map λx=>rd (x,c x)),.int (a:Nat)]=.ok (.dct (bk (dig c R a).1.reverse),[.non,.non]):=by obtain ⟨s,p,e⟩:=XD (ip (.lst (R.map λx=>rd (x,c x)))) (ip (.int (a:Nat))) R.reverse ([],a) iq iq (λx hx=>d x (dJ.mp hx)) g (by rw [fq]; simpa using k) (by show (([]:List Str)++R.reverse).Nodup; rw [cx]; exact (List.reverse_perm R).nodup_iff.mpr n);rw [qbk] at e;refine runD_ap.trans ?_;unfold yU;rw [show qw yT [.lst (R.map λx=>rd (x,c x)),.int (a:Nat)]=[ip (.lst (R.map λx=>rd (x,c x))),ip (.int (a:Nat)),iq,iq,iq,iq] from rfl];refine (qB (ρ1:=[ip (.lst (R.map λx=>rd (x,c x))),ip (.int (a:Nat)),ip (.dct []),iq,iq,iq]) (by simp)).trans ?_;refine (qB (ρ1:=[ip (.lst (R.map λx=>rd (x,c x))),ip (.int (a:Nat)),ip (.dct []),ip (.int (a:Nat)),iq,iq]) (by simp)).trans ?_;refine (qB (ρ1:=[ip (.lst (R.map λx=>rd (x,c x))),ip (.int (a:Nat)),ip (.dct (bk (dig c R a).1.reverse)),ip (.int ((dig c R a).2:Nat)),s,p]) (by rw [kL,show qiS (qe 0) [ip (.lst (R.map λx=>rd (x,c x))),ip (.int (a:Nat)),ip (.dct []),ip (.int (a:Nat)),iq,iq]=.ok ((R.map λx=>rd (x,c x)).reverse,[ip (.lst (R.map λx=>rd (x,c x))),ip (.int (a:Nat)),ip (.dct []),ip (.int (a:Nat)),iq,iq]) from rfl,kX,<-List.map_reverse];exact e)).trans ?_;simp [qx]
theorem UW (S:Sn seen W):jW (kW W)=LS seen:=by refine uH ?_ (qX _) (by unfold LS; exact qX _);exact (qN _).trans (Wo S.w.nd (KN _) λx=>⟨λh=>S.w.sub x h,λh=>S.a x h⟩)
abbrev wfB:Sl->Out (Fl×Sl):=(qT (jz 7 (d2 ixD (qe 3) (d2 ixD (d2 ixD (qe 4) (qe 6)) (dC (.int 0)))))
  (kD (gN 5 JK (vM (qd (qe 6) (qd (d2 wq (qv [.vl,.vl,.vl] vy (qd (d2 ixD (d2 ixD (qe 4) (qe 6)) (dC (.int 1))) (qd (qe 2) (qd (qe 7) qE)))) (qe 1)) qE))))))
variable {st:Ln}
theorem qbm (S:Sn seen W) (l:1<=r) (A:ns.length=seen.length) (c:∀ y∈kW W,(qO W y).1∈qI st) (a:Option D):∀ (L:List Str) (acc:Ln) (x y:Option D),(∀ z∈L,z∈kW W)->acc.length+L.length<=100 ->∃ n s,vC (gNm 6) wfB (L.map D.str) [a,ip (.int r),ip (nD ns),ip (.dct (bk st)),ip (.dct (wD W)),ip (.lst (prL acc)),x,y]=.ok (.nx,[a,ip (.int r),ip (nD ns),ip (.dct (bk st)),ip (.dct (wD W)),ip (.lst (prL (acc++bl W r ns L st))),n,s])
 | [],acc,x,y,_,_=>⟨x,y,by simp [vC,bl]⟩
 | z::L,acc,x,y,hL,hl=>by
  rw [ap] at hl;have b:=hL z (ai ..);have i1:=KK S.w.nd b;have i2:=ZF (c z b);have t:∀ k∈(qO W z).2,k < ns.length:=λk o=>by rw [A];exact (S.w.path _ (jt b)).lt k o
  have i:=yZ (qaV ns) t (jh st (qO W z).1);obtain ⟨n,s,j⟩:=qbm S l A c a L (acc++[(z,vO W r ns (jh st) z)]) (ip (.str z)) (ip (.int (jh st (qO W z).1))) (λw g=>hL w (aa _ g)) (by rw [ah]; simp; omega);have f:0 < r:=by omega
  have N:2<=sizeLine:=jg (by omega);have h:(prL acc).length < sizeLine:=aI (by simp [prL]; omega) big;have e:acc++[(z,vO W r ns (jh st) z)]++bl W r ns L st=acc++bl W r ns (z::L) st:=by simp [bl]
  rw [e] at j;have p:prL (acc++[(z,vO W r ns (jh st) z)])=prL acc++[.tup [.str z,.int (qQ ns (jh st (qO W z).1) (qO W z).2 % r)]]:=by simp [prL,vO]
  refine ⟨n,s,bT (wJ (d:=.str z) (ρ1:=[a,ip (.int r),ip (nD ns),ip (.dct (bk st)),ip (.dct (wD W)),ip (.lst (prL acc)),ip (.str z),y]) rfl ?_) j⟩;rw [p];unfold wfB;rw [qcV (ρ1:=[a,ip (.int r),ip (nD ns),ip (.dct (bk st)),ip (.dct (wD W)),ip (.lst (prL acc)),ip (.str z),ip (.int (jh st (qO W z).1))]) (by generalize D.dct (bk st)=Y at i2 ⊢;generalize D.dct (wD W)=Z at i1 ⊢;simp [i1,qiT,i2])];have hi:yP ([a,ip (.int r),ip (nD ns),ip (.dct (bk st)),ip (.dct (wD W)),ip (.lst (prL acc)),ip (.str z),ip (.int (jh st (qO W z).1))]:Sl)[5]?=true:=rfl;generalize D.dct (bk st)=Y at i2 hi ⊢;generalize D.dct (wD W)=Z at i1 hi ⊢;generalize m:lD (qO W z).2=U at i1 i;simp [i1,qiU,qC,jf,i,wq,uu,f,N,JK,h,yP]
theorem qfq (S:Sn seen W) (k:1<=r) (A:ns.length=seen.length) (c:∀ y∈kW W,(qO W y).1∈qI st):ud [sD seen,.int r,nD ns,.dct (bk st)]=.ok (.tup (prL (bl W r ns (LS seen) st)),[.non,.non,.non,.non]):=by
 have l:=S.w.le;have j:=S.s;have b:(kW W).length < 64:=by simp [kW]; omega
 have g:((kW W).all λy=>decide (y.length<=sizeLine))=true:=by rw [aM];intro y f;exact decide_eq_true (jg (S.z y (S.w.sub y f)))
 have o:kz (.dct (wD W))=.ok (.lst ((LS seen).map D.str)):=by unfold kz;simp only [US];rw [if_pos ⟨b,g⟩,UW S]
 obtain ⟨n,d,e⟩:=qbm S k A c (ip (sD seen)) (LS seen) [] iq iq (λz h=>S.a z h) (by simp; omega);rw [cx] at e;have i:=S.e;refine runD_ap.trans ?_;unfold uc;rw [show qw ub [sD seen,.int r,nD ns,.dct (bk st)]=[ip (sD seen),ip (.int r),ip (nD ns),ip (.dct (bk st)),iq,iq,iq,iq] from rfl];refine (qB (ρ1:=[ip (sD seen),ip (.int r),ip (nD ns),ip (.dct (bk st)),ip (.dct (wD W)),iq,iq,iq]) (by simp [qC,jf,i])).trans ?_;refine (qB (ρ1:=[ip (sD seen),ip (.int r),ip (nD ns),ip (.dct (bk st)),ip (.dct (wD W)),ip (.lst []),iq,iq]) (by simp)).trans ?_;refine (qB (ρ1:=[ip (sD seen),ip (.int r),ip (nD ns),ip (.dct (bk st)),ip (.dct (wD W)),ip (.lst (prL (bl W r ns (LS seen) st))),n,d]) (by rw [kL,show jZ (d1 kz (qe 4)) [ip (sD seen),ip (.int r),ip (nD ns),ip (.dct (bk st)),ip (.dct (wD W)),ip (.lst []),iq,iq]=.ok ((LS seen).map D.str,[ip (sD seen),ip (.int r),ip (nD ns),ip (.dct (bk st)),ip (.dct (wD W)),ip (.lst []),iq,iq]) by simp [o,jC],kX];exact e)).trans ?_;simp [wx,qx]
theorem UX:∀ {l:Ln},(qI l).Nodup->∀ {x:Str} {v w:Int},(x,v)∈l->(x,w)∈l->v=w
 | [],_,x,v,w,h,_=>by cases h
 | e::l,hn,x,v,w,h,h'=>by
  have r:=aL.mp (show (e.1::qI l).Nodup from hn);rcases ac.mp h with h1 | h1
  ·rcases ac.mp h' with h2 | h2;·rw [<-h1] at h2;exact (congrArg Prod.snd h2).symm
   ·exact absurd (show e.1∈qI l from af.mpr ⟨(x,w),h2,by rw [<-h1]⟩) r.1
  ·rcases ac.mp h' with h2 | h2;·exact absurd (show e.1∈qI l from af.mpr ⟨(x,v),h1,by rw [<-h2]⟩) r.1
   ·exact UX r.2 h1 h2
theorem qfr {l:Ln} (n:(qI l).Nodup) (hx:x∈qI l):jh l.reverse x=jh l x:=by
 have h1:=(kh hx).1;have b:x∈qI l.reverse:=by obtain ⟨e,i,q⟩:=af.mp hx;exact af.mpr ⟨e,dJ.mpr i,q⟩
 have h2:=dJ.mp (kh b).1;exact UX n h2 h1
theorem qi3 (A:jy ws) (hl:Vb p q) (h:1<=r) (w:r<=99) (C:kI ws.length r ns) (S:Sn (qp ws p q) W) (v:(a:Int) < HM W (qp ws p q) r ns) (G:a<=100000000):∃ l,((EV0 r (LS (qp ws p q))).filter λl=>decide (va l (qp ws p q) r=ns))[a]?=ip l/\ui [Wd ws,Ld p q,.int r,nD ns,.int (a:Nat)]=.ok (.tup (prL l),[.non,.non,.non,.non,.non]):=by
 have B:(qp ws p q).length=ws.length:=by simp [qp]
 have F:kI (qp ws p q).length r ns:=by rw [B]; exact C
 have h1:=UT A hl h w C S;have h2:=jU (d:=.int (a:Nat)) trivial 0 (HM W (qp ws p q) r ns - 1);have n:zO 0 (HM W (qp ws p q) r ns - 1) (.int (a:Nat))=true:=by simp [zO];omega
 rw [n] at h2;have L:=xO A hl;have E:BO W (qp ws p q) r ns=none:=by
  cases q:BO W (qp ws p q) r ns with
  | none=>rfl
  | some c=>unfold HM at v;rw [q] at v;simp at v;omega
 obtain ⟨M,N⟩:=Wx S h F E;have I:=qbe h E;have g:∀ x∈RT W,ch W (qp ws p q) r ns x≠[]/\(ch W (qp ws p q) r ns x).length<=99:=λx hx=>by
  refine ⟨λz=>?_,qa5 _ h w ns⟩;have J:0 < (PV (ch W (qp ws p q) r ns) (RT W)).length:=by omega
  obtain ⟨l,hl⟩:=bR J;obtain ⟨k1,k2⟩:=(wK _).mp hl;have:=k2 _ (kh (by rw [k1]; exact hx)).1;rw [show ch W (qp ws p q) r ns (x,jh l x).1=[] from z] at this;cases this
 have K:(RT W).length<=100:=by
  have i:=dw (λx=>decide ((qO W x).1=x)) (jW (kW W));have b:(jW (kW W)).length=(LS (qp ws p q)).length:=by rw [UW S]
  have:=S.s;unfold RT;omega
 have j:=xa S F.1 h w;have i:=qbl (c:=ch W (qp ws p q) r ns) (R:=RT W) g K (UV S) G;obtain ⟨_,d2,P⟩:=qdN (ch W (qp ws p q) r ns) a (RT W) λx hx=>(g x hx).1;have u:a < (PV (ch W (qp ws p q) r ns) (RT W)).length:=by omega
 rw [Nat.mod_eq_of_lt u] at d2;have m:(dig (ch W (qp ws p q) r ns) (RT W) a).1∈PV (ch W (qp ws p q) r ns) (RT W):=aY d2;obtain ⟨k1,k2⟩:=(wK _).mp m;have k:(qI (dig (ch W (qp ws p q) r ns) (RT W) a).1).Nodup:=by rw [k1]; exact UV S
 have t:∀ y∈kW W,(qO W y).1∈qI (dig (ch W (qp ws p q) r ns) (RT W) a).1:=λy f=>by rw [k1];obtain ⟨r1,r2⟩:=yb S f;exact mem_RT.mpr ⟨r1,by rw [r2]⟩
 have b:=qfq S h F.1 (st:=(dig (ch W (qp ws p q) r ns) (RT W) a).1.reverse) λy f=>by obtain ⟨e,H,q⟩:=af.mp (t y f);exact af.mpr ⟨e,dJ.mpr H,q⟩
 have o:bl W r ns (LS (qp ws p q)) (dig (ch W (qp ws p q) r ns) (RT W) a).1.reverse=bl W r ns (LS (qp ws p q)) (dig (ch W (qp ws p q) r ns) (RT W) a).1:=by unfold bl;refine bP λy f=>?_;unfold vO;rw [qfr k (t y (S.a y f))]
 rw [o] at b;refine ⟨_,by rw [M,aG,d2]; rfl,?_⟩;have O:(RO W (qp ws p q) r ns).map rd=(RT W).map λx=>rd (x,ch W (qp ws p q) r ns x):=by unfold RO;rw [aV];rfl
 rw [O] at j;refine runD_ap.trans ?_;generalize D.lst ((RT W).map λx=>rd (x,ch W (qp ws p q) r ns x))=Z at j i;generalize D.dct (bk (dig (ch W (qp ws p q) r ns) (RT W) a).1.reverse)=V at i b;generalize D.tup (prL (bl W r ns (LS (qp ws p q)) (dig (ch W (qp ws p q) r ns) (RT W) a).1))=U at b ⊢;generalize nD ns=Y at h1 j b ⊢;simp [yW,qw,qx,qC,jf,h1,JB,uu,h2,wu,L,j,i,b]
def qh1 (d:D):Prop:=Pl d/\∀ xs,d=.tup xs->∀ x∈xs,Pl x
noncomputable def KY (room:Int):D->Bool
 | .tup [a,b]=>ZC a&&zO 0 (room - 1) b
 | _=>iw
theorem UY (h:qh1 d) (room:Int):yu [d,.int room]=.ok (.bl (KY room d),[.non,.non]):=by
 refine runD_ap.trans ?_;have t:=Xr h.1;cases d with
 | tup xs=>
  have hp:=h.2 xs rfl
  match xs,hp with
  | [],_=>simp [kN,qw,qx,t,Qz,wu,jD,neD,eqN,eqS,KY]
  | [a],_=>simp [kN,qw,qx,t,Qz,wu,jD,neD,eqN,eqS,KY]
  | [a,b],hp=>have h1:=zQ (hp a (by simp));have h2:=jU (hp b (by simp)) 0 (room - 1);cases f:ZC a <;> simp [kN,qw,qx,t,Qz,wu,jD,neD,eqN,eqS,KY,ixD,at0,at1,qC,jf,h1,h2,f,JB,uu]
  | a::b::c::l,_=>
   have e:¬((l.length:Int)+1+1+1=2):=by omega
   simp [kN,qw,qx,t,Qz,wu,jD,neD,eqN,eqS,KY,e]
 | _=>first | exact h.1.elim | simp [kN,qw,qx,t,Qz,wu,KY]
def OkW (room:Int) (l:List (Str×Int)):Prop:=∀ x∈l,ZC (.str x.1)=iA/\0<=x.2/\x.2 < room
theorem qfs (h:KY room d=iA):∃ x:Str×Int,d=.tup [.str x.1,.int x.2]/\ZC (.str x.1)=iA/\0<=x.2/\x.2 < room:=by
 unfold KY at h;split at h
 ·rename_i a b;rw [aN] at h;obtain ⟨h1,h2⟩:=h;cases a with
  | str x=>
   cases b with
   | int i=>simp [zO] at h2;exact ⟨(x,i),rfl,h1,h2.1,by simp; omega⟩
   | _=>cases h2
  | _=>cases h1
 ·cases h
theorem qbn:∀ {ds:List D},ds.all (KY room)=iA->∃ l,ds=prL l/\OkW room l
 | [],_=>⟨[],rfl,λx hx=>by cases hx⟩
 | d::ds,h=>by
  rw [fL,aN] at h;obtain ⟨x,rfl,hx⟩:=qfs h.1;obtain ⟨l,rfl,hl⟩:=qbn h.2;refine ⟨x::l,rfl,λy a=>?_⟩;rcases ac.mp a with rfl | a;·exact hx
  ·exact hl y a
theorem UZ (h:OkW room l):(prL l).all (KY room)=true:=by rw [aM];intro d hd;obtain ⟨x,hx,rfl⟩:=af.mp hd;obtain ⟨h1,h2,j⟩:=h x hx;simp [KY,h1,zO,h2];omega
theorem Wz:∀ (a b:List Str),vh (eqN 7) (a.map D.str) (b.map D.str)=ip (decide (a.take (min a.length b.length)=b.take (min a.length b.length)))
 | [],b=>by simp [vh]
 | a::l,[]=>by simp [vh]
 | a::l,b::m=>by have j:=Wz l m;simp only [aE,vh,j,eqN,eqS,ap,Nat.succ_eq_add_one,show min (l.length+1) (m.length+1)=min l.length m.length+1 by omega,dP];by_cases h:a=b <;> simp [h]
theorem qc5 (a b:List Str):eqD (.lst (a.map D.str)) (.lst (b.map D.str))=.ok (.bl (decide (a=b))):=by
 by_cases h:a.length=b.length;·have e:=Wz a b;rw [h,ia,df,<-h,df] at e;simp [eqD,eqN,h,e]
 ·have c:a≠b:=λz=>h (by rw [z]);simp [eqD,eqN,h,c]
noncomputable def KZ (l:List (Str×Int)):Bool:=decide (qI l=jW ((qI l).foldl xx []))
theorem wg (h:Pl d) (n:Qz d=iw) (room:Int):jS [d,.int room]=.ok (.bl iw,[.non,.non]):=by refine runD_ap.trans ?_;have l:=Xr h;simp [vJ,qw,qx,l,n,wu]
theorem yc (h:∀ d∈ds,qh1 d) (hl:ds.length<=50) (room:Int):(ds.all (KY room)=iw->jS [.tup ds,.int room]=.ok (.bl iw,[.non,.non]))/\∀ l,ds=prL l->OkW room l->jS [.tup ds,.int room]=.ok (.bl (KZ l),[.non,.non]):=by
 have z:ds.length<=sizeLine:=jg (by omega);have t:=Xr (d:=.tup ds) trivial;have e1:=ux (cap:=[1]) (fi:=jZ (qe 0)) (ρ:=[ip (.tup ds),ip (.int room),iq]) (ρ1:=[ip (.tup ds),ip (.int room),iq]) (ds:=ds) (fe:=qv [.vl,.vl] yu (qd (qe 0) (qd (qe 1) qE))) (λd=>.bl (KY room d)) (by simp [jC]) z (λd hd=>by have h1:=UY (h d hd) room;simp [qC,jf,h1]);have g:=xN (KY room) ds;constructor;·intro c;refine runD_ap.trans ?_;simp [vJ,qw,qx,t,Qz,wu,e1,g,c]
 ·rintro l rfl w;refine runD_ap.trans ?_;have c:=UZ w;have i:=ux (cap:=[]) (fi:=jZ (qe 0)) (ρ:=[ip (.tup (prL l)),ip (.int room),iq]) (ρ1:=[ip (.tup (prL l)),ip (.int room),iq]) (ds:=prL l) (fe:=d2 ixD (qe 0) (dC (.int 0))) (λd=>match d with | .tup [a,b]=>a | d=>d) (by simp [jC]) z (λd hd=>by obtain ⟨x,hx,rfl⟩:=af.mp hd;simp [ixD,at0]);have f2:(prL l).map (λd=>match d with | .tup [a,b]=>a | d=>d)=(qI l).map D.str:=by simp [prL,qI]
  rw [f2] at i;have j:(qI l).length < 64:=by simp [qI];simp [prL] at hl;omega
  have m:=qc5 (qI l) (jW ((qI l).foldl xx []));simp [vJ,qw,qx,t,Qz,wu,e1,g,c,i,vR,yE,wI,j,m,KZ]
noncomputable def Yb:List Str->Bool
 | x::y::l=>vL x y&&Yb (y::l)
 | _=>iA
theorem qi4 (h:vL x y=iA):leS x y/\x≠y:=by
 unfold vL at h;have h:=of_decide_eq_true h;constructor;·exact List.le_of_lt h
 ·rintro rfl;exact List.lt_irrefl _ h
theorem qi5 (h:leS x y) (n:x≠y):vL x y=true:=by
 cases e:vL x y with
 | true=>rfl
 | false=>exact absurd (xA h (strLt_false.mp e)) n
theorem Yc:∀ (l:List Str),Yb l=iA->l.Pairwise (λx y=>leS x y/\x≠y)
 | [],_=>dD
 | [x],_=>d8 _ _
 | x::y::l,h=>by
  have h:(vL x y&&Yb (y::l))=true:=h;rw [aN] at h;have j:=Yc (y::l) h.2;have b:=qi4 h.1;refine aP.mpr ⟨λz c=>?_,j⟩;rcases ac.mp c with rfl | c;·exact b
  ·have a:=(aP.mp j).1 z c;refine ⟨xz b.1 a.1,λe=>?_⟩;subst e;exact b.2 (xA b.1 a.1)
theorem Yd:∀ (l:List Str),l.Pairwise (λx y=>leS x y/\x≠y)->Yb l=iA
 | [],_=>rfl
 | [x],_=>rfl
 | x::y::l,h=>by have h1:=aP.mp h;have b:=h1.1 y (ai ..);show (vL x y&&Yb (y::l))=iA;rw [qi5 b.1 b.2,Yd (y::l) h1.2];rfl
theorem XE {l:List Str} (h:l.Pairwise (λx y=>leS x y/\x≠y)):l.Nodup:=h.imp λh=>h.2
theorem XF (L:List Str):decide (L=jW (L.foldl xx []))=Yb L:=by
 cases e:Yb L with
 | true=>
  have p:=Yc L e;have n:=XE p;have f:L.foldl xx []=L:=by rw [yY L [] n (by simp)]; simp
  rw [f];exact decide_eq_true (uH (qN L).symm (p.imp λh=>h.1) (qX L))
 | false=>refine decide_eq_false λz=>?_;have n:(jW (L.foldl xx [])).Nodup:=(qN _).nodup_iff.mpr (uZ L [] cP).1;have c:=qX (L.foldl xx []);rw [<-z] at n c;have p:L.Pairwise (λx y=>leS x y/\x≠y):=c.and n;rw [Yd L p] at e;cases e
theorem Jx (h:KZ l=iA):(qI l).Nodup:=by unfold KZ at h;rw [XF] at h;exact XE (Yc _ h)
theorem qhx (l:List (Str×Int)) (x:Str):GR (bk l) (.inr x)=decide (x∈qI l):=by
 unfold GR bk qI;rw [List.any_map]
 induction l with
 | nil=>simp
 | cons a l j=>
  simp only [cM,aE,ac,j];by_cases h:a.1=x;·simp [h]
  ·simp [h,bh h]
theorem qdO (w:OkW room l) (h:x∈qI l):0<=jh l x/\jh l x < room:=(w _ (kh h).1).2
variable {b:Bool}
theorem yd (h:jS [d,.int room]=.ok (.bl b,[.non,.non])):wo [d,.int room]=if b=iA then .ok (.non,[.non,.non]) else .exc "NoWorths" [ip .non,ip .non]:=by refine runD_ap.trans ?_;cases b <;> simp [wn,qw,qx,qC,jf,h,wu,kJ]
theorem qbo (t room:Int):gA [.int t,.int room]=.ok (.int (if room<=t then t - room else t),[.non,.non]):=by refine runD_ap.trans ?_;by_cases h:room<=t <;> simp [KA,qw,qx,geD,uu,JB,h]
theorem qj0 {a b:Int} (g:0<=a/\a < r) (d:0<=b/\b < r):(if r<=a+b then a+b - r else a+b)=(a+b) % r:=by
 split;·rw [<-Int.sub_emod_right,aZ (by omega) (by omega)]
 ·rw [aZ (by omega) (by omega)]
theorem Ye (w:jy ws) (hl:Vb p q) (n:zO 1 99 (.int r)=iA) (m:OkW r l) (s:KZ l=iA) (h:jS [.tup (prL l),.int r]=.ok (.bl iA,[.non,.non])):jE [Wd ws,Ld p q,.int r,.tup (prL l)]=if (LS (qp ws p q)).all (λx=>decide (x∈qI l))=iA then .ok (.tup (qbv l (qp ws p q) r),[.non,.non,.non,.non]) else .exc "NoWorths" nn4:=by
 refine runD_ap.trans ?_;have h1:=KJ w hl;have h2:=uo (d:=.int r) trivial;rw [n] at h2;have j:=yd h;have c:=UM (Jx s);have t:(qp ws p q).length<=6:=by simp [qp]; exact w.2.1
 have o:=um (l:=qp ws p q) (by omega);have O:(LS (qp ws p q)).length<=2000:=by unfold LS;rw [(qN _).length_eq];have:=VN ((qp ws p q).map (·.1)++(qp ws p q).map (·.2)) [];simp only [ah,ay,bf] at this;omega
 have e1:=ux (cap:=[5]) (fi:=jZ (qv [.vl] js (qd (qe 4) qE))) (ρ:=[ip (Wd ws),ip (Ld p q),ip (.int r),ip (.tup (prL l)),ip (.lst (jG (qp ws p q))),ip (.dct (bk l))]) (ρ1:=[ip (Wd ws),ip (Ld p q),ip (.int r),ip (.tup (prL l)),ip (.lst (jG (qp ws p q))),ip (.dct (bk l))]) (ds:=(LS (qp ws p q)).map D.str)
  (fe:=d2 inA (qe 0) (qe 1)) (λd=>match d with | .str x=>.bl (decide (x∈qI l)) | d=>d) (by simp [qC,jf,o,jC]) (by rw [ay]; exact jg O) (λd hd=>by obtain ⟨x,hx,rfl⟩:=af.mp hd;simp [inA,Jh,qhx])
 rw [aV] at e1;have g:=xN (λx=>decide (x∈qI l)) (LS (qp ws p q));have e:jw [] 1 [5] (jZ (qv [.vl] js (qd (qe 4) qE))) (gNm 0) ftT (d2 inA (qe 0) (qe 1)) [ip (Wd ws),ip (Ld p q),ip (.int r),ip (.tup (prL l)),ip (.lst (jG (qp ws p q))),ip (.dct (bk l))]=.ok (.lst ((LS (qp ws p q)).map λx=>.bl (decide (x∈qI l))),[ip (Wd ws),ip (Ld p q),ip (.int r),ip (.tup (prL l)),ip (.lst (jG (qp ws p q))),ip (.dct (bk l))]):=e1;cases hA:(LS (qp ws p q)).all (λx=>decide (x∈qI l)) with
 | false=>rw [hA] at g;simp [wH,qw,qx,qC,jf,h1,h2,j,c,e,g,wu,kJ]
 | true=>
  rw [hA] at g;have y:∀ x∈qp ws p q,x.1∈qI l/\x.2∈qI l:=λx hx=>by rw [aM] at hA;exact ⟨of_decide_eq_true (hA x.1 (mem_LS.mpr ⟨x,hx,.inl rfl⟩)),of_decide_eq_true (hA x.2 (mem_LS.mpr ⟨x,hx,.inr rfl⟩))⟩
  have i:=ux (cap:=[2,5]) (fi:=jZ (qe 4)) (ρ:=[ip (Wd ws),ip (Ld p q),ip (.int r),ip (.tup (prL l)),ip (.lst (jG (qp ws p q))),ip (.dct (bk l))]) (ρ1:=[ip (Wd ws),ip (Ld p q),ip (.int r),ip (.tup (prL l)),ip (.lst (jG (qp ws p q))),ip (.dct (bk l))]) (ds:=jG (qp ws p q))
   (fe:=qv [.vl,.vl] gA (qd (d2 kb (d2 ixD (qe 2) (d2 ixD (qe 0) (dC (.int 0)))) (d2 ixD (qe 2) (d2 ixD (qe 0) (dC (.int 1))))) (qd (qe 1) qE))) (λd=>match d with | .tup [.str a,.str b]=>.int ((jh l a+jh l b) % r) | d=>d) (by simp [jC]) (by simp [jG]; exact jg (by omega)) (λd hd=>by
    obtain ⟨x,hx,rfl⟩:=af.mp hd;obtain ⟨i1,i2⟩:=y x hx;have k:=ZF i1;have f:=ZF i2;have wr:=qj0 (qdO m i1) (qdO m i2);have wi:=qbo (jh l x.1+jh l x.2) r;rw [wr] at wi;have k0:ixD (.tup [.str x.1,.str x.2]) (.int 0)=.ok (.str x.1):=by simp [ixD,at0]
    have k1:ixD (.tup [.str x.1,.str x.2]) (.int 1)=.ok (.str x.2):=by simp [ixD,at1]
    simp [qC,jf,k0,k1,k,f,kb,wi])
  have f2:(jG (qp ws p q)).map (λd=>match d with | .tup [.str a,.str b]=>.int ((jh l a+jh l b) % r) | d=>d)=qbv l (qp ws p q) r:=by simp [jG,qbv]
  rw [f2] at i;simp [wH,qw,qx,qC,jf,h1,h2,j,c,e,g,wu,i,wx]
noncomputable def ixZ (c:List Int) (v:Int):Nat:=c.findIdx λa=>decide (a=v)
theorem XG (v:Int):∀ c:List Int,∃ b,gb 7 (.int v) (c.map D.int)=ip b
 | []=>⟨_,rfl⟩
 | a::c=>by obtain ⟨b,h⟩:=XG v c;exact ⟨(a == v)||b,by rw [aE,gb,h]; simp [eqN,eqS]⟩
theorem qbp {c:List Int} {v:Int} (h:v∈c):uI (iD c) (.int v)=.ok (.int (ixZ c v))/\c[ixZ c v]?=ip v:=by
 obtain ⟨b,e⟩:=XG v c;have m:((c.map D.int).map λd=>eqN 7 d (.int v) == ip iA)=c.map λa=>decide (a=v):=by rw [aV];refine bP λa _=>?_;by_cases z:a=v <;> simp [eqN,eqS,z]
 have i:∃ x,x∈c/\(λa=>decide (a=v)) x=true:=⟨v,h,decide_eq_true rfl⟩
 have f:(c.map λa=>decide (a=v)).findIdx? id=ip (ixZ c v):=by rw [List.findIdx?_map];exact List.findIdx?_eq_some_of_exists i
 refine ⟨by simp only [uI,e,m,f],?_⟩;have t:ixZ c v < c.length:=List.findIdx_lt_length_of_exists i;rw [aC t];have:(λa=>decide (a=v)) c[ixZ c v]=true:=List.findIdx_getElem (w:=t);rw [of_decide_eq_true this]
noncomputable def plc (c:Str->List Int) (v:Str->Int) (R:List Str) (t:Nat):Nat:=R.foldl (λt x=>t * (c x).length+ixZ (c x) (v x)) t
theorem qdP (c:Str->List Int) (v:Str->Int):∀ (R:List Str) (m:Ln) (t:Nat),m∈PV c R->(∀ e∈m,v e.1=e.2)->∃ i,(PV c R)[i]?=ip m/\plc c v R t=t * (PV c R).length+i
 | [],m,t,hm,_=>⟨0,by have:m=[]:=ao.mp hm;rw [this];rfl,by simp [plc,PV]⟩
 | x::R,m,t,hm,hv=>by obtain ⟨s,h,h2⟩:=fg.mp (show m∈(c x).flatMap λs=>(PV c R).map λl=>(x,s)::l from hm);obtain ⟨l,hl,rfl⟩:=af.mp h2;have hx:v x=s:=hv (x,s) (ai ..);obtain ⟨_,f⟩:=qbp h;obtain ⟨j,d,b⟩:=qdP c v R l (t * (c x).length+ixZ (c x) s) hl (λe a=>hv e (aa _ a));refine ⟨ixZ (c x) s * (PV c R).length+j,qfp (PV c R) (λs l=>(x,s)::l) (c x) _ j s l f d,?_⟩;have n:(PV c (x::R)).length=(c x).length * (PV c R).length:=Wt (PV c R) (λs l=>(x,s)::l) (c x);show plc c v R (t * (c x).length+ixZ (c x) (v x))=_;rw [hx,b,n,Nat.add_mul,hZ,Nat.add_assoc]
noncomputable def plZ (c:Str->List Int) (v:Str->Int) (R:List Str) (t:Int):Int:=R.foldl (λt x=>t * ((c x).length:Int)+(ixZ (c x) (v x):Int)) t
theorem XH (c:Str->List Int) (v:Str->Int):∀ (R:List Str) (t:Nat),plZ c v R (t:Int)=(plc c v R t:Int)
 | [],t=>rfl
 | x::R,t=>by have j:=XH c v R (t * (c x).length+ixZ (c x) (v x));rw [Int.natCast_add,Int.natCast_mul] at j;exact j
abbrev plB:Sl->Out (Fl×Sl):=(jz 8 (d2 kb (d2 WQ (qe 8) (d1 jD (qe 10))) (dM qfG uI (qe 10) (d2 ixD (qe 7) (qe 9)))))
theorem qft {a b d e f g h:Option D} {B I:D} {t n v:Int} {z:Str} (h1:jD I=.ok (.int n)) (h2:uI I (.int v)=.ok (.int i)) (j:ixD B (.str z)=.ok (.int v)) (c:qfG I=iA) (l:CMul t n):plB [a,b,d,e,f,g,h,ip B,ip (.int t),ip (.str z),ip I]=.ok (.nx,[a,b,d,e,f,g,h,ip B,ip (.int (t * n+i)),ip (.str z),ip I]):=by simp [dM,c,h1,h2,j,WQ,kb,uu,l]
theorem qi6 {t n:Int} (a:0<=n) (h:n<=99):CMul t n:=.inr ⟨by omega,by omega⟩
theorem qdQ {P:Sl->Out (Fl×Sl)} {S:Int->Option D->Option D->Sl} (T:∀ t x y z I,jL 2 (qD (gNm 9) (qD (gNm 10) jK)) (.tup [.str z,I]) (S t x y)=.ok (S t (ip (.str z)) (ip I))) {Q:Str->Prop} (m:∀ z,Q z->∀ t,P (S t (ip (.str z)) (ip (iD (c z))))=.ok (.nx,S (t * ((c z).length:Int)+(ixZ (c z) (v z):Int)) (ip (.str z)) (ip (iD (c z))))):∀ (R:List Str) (t:Int) (x y:Option D),(∀ z∈R,Q z) ->∃ n s,vC (jL 2 (qD (gNm 9) (qD (gNm 10) jK))) P (R.map λx=>rd (x,c x)) (S t x y)=.ok (.nx,S (plZ c v R t) n s)
 | [],t,x,y,_=>⟨x,y,rfl⟩
 | z::R,t,x,y,hR=>by obtain ⟨n,s,j⟩:=qdQ T m R (t * ((c z).length:Int)+(ixZ (c z) (v z):Int)) (ip (.str z)) (ip (iD (c z))) (λw h=>hR w (aa _ h));refine ⟨n,s,bT ?_ j⟩;have e1:=T t x y z (iD (c z));have i:=m z (hR z (ai ..)) t;rw [aE];show vC _ P (.tup [.str z,iD (c z)]::_) _=_;generalize jL 2 (qD (gNm 9) (qD (gNm 10) jK))=G at *;simp [vC,e1,i]
theorem qfu {l:Ln} (a b d e f g h:Option D) (R:List Str) (t:Nat) (x y:Option D) (k:∀ z∈R,jh l z∈c z/\(c z).length<=99/\z∈qI l):∃ n s,vC (jL 2 (qD (gNm 9) (qD (gNm 10) jK))) plB (R.map λx=>rd (x,c x)) [a,b,d,e,f,g,h,ip (.dct (bk l)),ip (.int (t:Nat)),x,y]=.ok (.nx,[a,b,d,e,f,g,h,ip (.dct (bk l)),ip (.int (plc c (jh l) R t:Nat)),n,s]):=by obtain ⟨n,s,q⟩:=qdQ (P:=plB) (c:=c) (v:=jh l) (S:=λt x y=>[a,b,d,e,f,g,h,ip (.dct (bk l)),ip (.int t),x,y]) (λt x y z I=>rfl) (Q:=λz=>jh l z∈c z/\(c z).length<=99/\z∈qI l) (λz i t=>qft (by simp [jD]) (qbp i.1).1 (ZF i.2.2) rfl (qi6 (by omega) (by omega))) R (t:Int) x y k;rw [XH] at q;exact ⟨n,s,q⟩
variable {ca:Str->Addr}
section
theorem qbq (T:Told ws p q r ns) {ks:List Int} (h:jE [Wd ws,Ld p q,.int r,d]=.ok (nD ks,[.non,.non,.non,.non])):kY ca [Wd ws,Ld p q,.int r,nD ns,d]=.ok (.bl (decide (ks=ns)),[.non,.non,.non,.non,.non]):=by have h1:=UR T.w T.l T.r0 (by have:=T.r9; omega) T.n;have h2:=XB ks ns;refine runD_ap.trans ?_;generalize sD (qp ws p q)=Z at *;generalize Wd ws=W at *;generalize Ld p q=L at *;generalize nD ks=K at *;generalize nD ns=N at *;simp [wf,ZK,qw,qx,qC,jf,h1,h,h2]
theorem qfv (T:Told ws p q r ns) (h:jE [Wd ws,Ld p q,.int r,d]=.exc "NoWorths" nn4):kY ca [Wd ws,Ld p q,.int r,nD ns,d]=.ok (.bl iw,[.non,.non,.non,.non,.non]):=by
 have h1:=UR T.w T.l T.r0 (by have:=T.r9; omega) T.n;have a:qbu ca ["NoWorths"] "NoWorths"=ip (ca "NoWorths"):=by simp [qbu]
 refine runD_ap.trans ?_;generalize sD (qp ws p q)=Z at *;generalize Wd ws=W at *;generalize Ld p q=L at *;generalize nD ns=N at *;simp [wf,ZK,qw,qx,qC,jf,h1,h,a]
theorem XI (T:Told ws p q r ns) (h:kY ca [Wd ws,Ld p q,.int r,nD ns,d]=.ok (.bl iw,[.non,.non,.non,.non,.non])):kO ca [Wd ws,Ld p q,.int r,nD ns,d]=.exc "NoWorths" [ip .non,ip .non,ip .non,ip .non,ip .non]:=by have h1:=xO T.w T.l;have A:1<=sizeLine:=jg (by omega);refine runD_ap.trans ?_;generalize sD (qp ws p q)=Z at *;generalize Wd ws=W at *;generalize Ld p q=L at *;generalize nD ns=N at *;simp [yx,qw,qx,qC,jf,h,h1,wu,kJ,A]
end
theorem XJ (xs:List α):∀ (m a:Nat),a+m=xs.length->kg ((aK m).map λk=>a+k) xs=xs.drop a
 | 0,a,h=>by rw [List.drop_of_length_le (by omega)];rfl
 | m+1,a,h=>by
  have j:=XJ xs m (a+1) (by omega);have g:a < xs.length:=by omega
  rw [dL g,<-j,List.range_succ_eq_map];unfold kg;rw [aE,bb,show xs[a+0]?=ip xs[a] from aC g,aV];simp only [Function.comp_def];congr 2;apply bP;intro k b;omega
theorem qj1 (ds:List D) (h:ds.length<=50):slD (ip 1) iq iq (.tup ds)=.ok (.tup (ds.drop 1)):=by
 have e:zS ds.length (ip 1) iq 1=(aK (ds.length - 1)).map λk=>min 1 ds.length+k:=by
  unfold zS;have hp:bx (aJ (ip 1) iq 1 ds.length).1 (aJ (ip 1) iq 1 ds.length).2 1=ds.length - 1:=by simp [bx,aJ];split <;> omega
  rw [hp];apply bP;intro k a;simp [aJ];omega
 have i:kg (zS ds.length (ip 1) iq 1) ds=ds.drop 1:=by
  rw [e];cases ds with
  | nil=>rfl
  | cons d l=>
   have c:min 1 (d::l).length=1:=by simp
   rw [c];exact XJ (d::l) _ 1 (by simp; omega)
 have z:(ds.drop 1).length<=sizeLine:=jg (by rw [List.length_drop]; omega);simp only [slD,Option.getD_none,i];rw [if_pos ⟨by decide,z⟩]
theorem qc6 {idx:List Nat} {xs:List α} {x:α} (h:x∈kg idx xs):x∈xs:=by unfold kg at h;obtain ⟨k,_,e⟩:=dh.mp h;exact aY e
theorem qfw (h:ds.length<=50) (e:ds≠[]):∃ es,slD iq iq (ip (-1)) (.tup ds)=.ok (.tup es)/\(∀ d∈es,d∈ds)/\es≠[]/\es.length<=ds.length:=by
 have J:0 < ds.length:=cr.mpr e;have hp:bx (aJ iq iq (-1) ds.length).1 (aJ iq iq (-1) ds.length).2 (-1)=ds.length:=by simp [bx,aJ];split <;> omega
 have hi:zS ds.length iq iq (-1)=(aK ds.length).map λ(k:Nat)=>((aJ iq iq (-1) ds.length).1+(k:Int) * (-1)).toNat:=by unfold zS;rw [hp]
 have a:ds.length - 1∈zS ds.length iq iq (-1):=by rw [hi,af];refine ⟨0,bD.mpr J,?_⟩;simp [aJ]
 have hl:(kg (zS ds.length iq iq (-1)) ds).length<=ds.length:=by refine bg (YA ds _) ?_;rw [hi,ay,ck];exact aD _
 refine ⟨_,?_,λd hd=>qc6 hd,λz=>?_,hl⟩;·simp only [slD,fQ];rw [if_pos ⟨by decide,jg (by omega)⟩]
 ·have:ds[ds.length - 1]∈kg (zS ds.length iq iq (-1)) ds:=by unfold kg;exact dh.mpr ⟨ds.length - 1,a,aC (by omega)⟩
  rw [z] at this;cases this
section
theorem ko (T:Told ws p q r ns) {t:D} (h:jS [t,.int r]=.ok (.bl iw,[.non,.non])):jE [Wd ws,Ld p q,.int r,t]=.exc "NoWorths" nn4:=by
 refine runD_ap.trans ?_;have h1:=KJ T.w T.l;have h2:=uo (d:=.int r) trivial;have b:zO 1 99 (.int r)=true:=by have:=T.r0;have:=T.r9;simp [zO];omega
 rw [b] at h2;have j:=yd h;generalize D.lst (jG (qp ws p q))=Z at *;simp [wH,qw,qx,qC,jf,h1,h2,j]
structure Line (ws:List Str) (p q r:Int) (l:Ln):Prop where
 k:qI l=LS (qp ws p q)
 v:∀ e∈l,0<=e.2/\e.2 < r
theorem Va {l:Ln}:∀ d∈prL l,qh1 d:=λd hd=>by
 obtain ⟨x,_,rfl⟩:=af.mp hd;refine ⟨trivial,λxs e y D=>?_⟩;cases e;rcases ac.mp D with rfl | D;·trivial
 ·rw [ao.mp D];trivial
theorem Line.pw {l:Ln} (h:Line ws p q r l):(qI l).Pairwise (λx y=>leS x y/\x≠y):=by rw [h.k];exact (qX _).and (KN _)
theorem Line.ok {l:Ln} (T:Told ws p q r ns) (h:Line ws p q r l):OkW r l:=λx hx=>by obtain ⟨c,d,e⟩:=qhc T.w p q x.1 (by rw [<-h.k]; exact af.mpr ⟨x,hx,rfl⟩);have:=h.v x hx;exact ⟨by rw [e]; exact qdB d,this.1,this.2⟩
theorem Line.len {l:Ln} (T:Told ws p q r ns) (h:Line ws p q r l):l.length<=12/\0 < l.length:=by
 have h1:=Xv T.w p q;have e:l.length=(LS (qp ws p q)).length:=by rw [<-h.k]; simp [qI]
 refine ⟨by omega,?_⟩;have b:=T.w.1;rw [e];obtain ⟨w,a⟩:=bR (show 0 < ws.length by omega);exact cm (mem_LS.mpr ⟨_,af.mpr ⟨w,a,rfl⟩,.inl rfl⟩)
theorem XM (T:Told ws p q r ns) {l:Ln} (m:OkW r l) (hp:(qI l).Pairwise (λx y=>leS x y/\x≠y)) (n:l.length<=30):jE [Wd ws,Ld p q,.int r,.tup (prL l)]=if (LS (qp ws p q)).all (λx=>decide (x∈qI l))=iA then .ok (.tup (qbv l (qp ws p q) r),[.non,.non,.non,.non]) else .exc "NoWorths" nn4:=by
 have c:KZ l=true:=by unfold KZ;rw [XF];exact Yd _ hp
 have d:zO 1 99 (.int r)=true:=by have:=T.r0;have:=T.r9;simp [zO];omega
 have hi:=(yc (ds:=prL l) Va (by simp [prL]; omega) r).2 l rfl m;rw [c] at hi;exact Ye T.w T.l d m c hi
theorem XN (T:Told ws p q r ns) {l:Ln} (h:Line ws p q r l):jE [Wd ws,Ld p q,.int r,.tup (prL l)]=.ok (nD (va l (qp ws p q) r),[.non,.non,.non,.non]):=by rw [XM T (h.ok T) h.pw (by have:=(h.len T).1; omega),if_pos (by rw [aM];intro x hx;rw [h.k];exact decide_eq_true hx)];unfold qbv va nD;rw [aV];rfl
noncomputable def qhy (l:Ln) (es:List D):List D:=[.non,.int 5,.tup [],.lst (prL l),.tup (prL l++[.tup [.str "zz",.int 0]]),.tup ((prL l).drop 1),.tup (es++prL l),.tup [.tup [.str "a"]],.tup [.tup [.int 1,.int 2]],.str "a0",.tup (l.map λe=>.tup [.str e.1,.non])]
theorem qhz (hd:d∈ds) (h:KY r d=iw):ds.all (KY r)=false:=by rw [List.all_eq_false];exact ⟨d,hd,by simp [h]⟩
theorem qhA (T:Told ws p q r ns) {l:Ln} (h:Line ws p q r l) (u:∀ d∈es,d∈prL l) (t:es≠[]) (G:es.length<=l.length) (hd:d∈qhy l es):kO ca [Wd ws,Ld p q,.int r,nD ns,d]=.exc "NoWorths" [ip .non,ip .non,ip .non,ip .non,ip .non]:=by
 obtain ⟨j,o⟩:=h.len T;have c:∀ {m:Ln},OkW r m->(qI m).Pairwise (λx y=>leS x y/\x≠y)->m.length<=30->(∃ x∈LS (qp ws p q),x∉qI m)->jE [Wd ws,Ld p q,.int r,.tup (prL m)]=.exc "NoWorths" nn4:=λ{m} C hp g ⟨x,hx,s⟩=>by rw [XM T C hp g,if_neg];intro z;rw [aM] at z;exact s (of_decide_eq_true (z x hx))
 have b:∀ {ds:List D} {d:D},(∀ d∈ds,qh1 d)->ds.length<=50->d∈ds->KY r d=iw->jE [Wd ws,Ld p q,.int r,.tup ds]=.exc "NoWorths" nn4:=λ{ds d} n v g A=>ko T ((yc n v r).1 (qhz g A));refine XI T (qfv T ?_);unfold qhy at hd;simp only [ac,bv,or_false] at hd;rcases hd with rfl | rfl | rfl | rfl | rfl | rfl | rfl | rfl | rfl | rfl | rfl;·exact ko T (wg (by trivial) rfl r)
 ·exact ko T (wg (by trivial) rfl r)
 ·obtain ⟨e,f⟩:=bR o;exact c (m:=[]) (λx hx=>by cases hx) dD (by simp) ⟨e.1,by rw [<-h.k]; exact af.mpr ⟨e,f,rfl⟩,by simp [qI]⟩
 ·exact ko T (wg (by trivial) rfl r)
 ·refine b (λd hd=>?_) (by simp [prL]; omega) (aj.mpr (.inr (ao.mpr rfl))) (by
   have:ZC (.str "zz")=false:=by decide +kernel
   simp [KY,this])
  rcases aj.mp hd with z | z;·exact Va d z
  ·exact Va (l:=[("zz",0)]) d z
 ·cases l with
  | nil=>simp at o
  | cons e m=>have hp:=aP.mp (show ((e.1::qI m).Pairwise λx y=>leS x y/\x≠y) from h.pw);exact c (m:=m) (λx hx=>h.ok T x (aa _ hx)) hp.2 (by simp at j; omega) ⟨e.1,by rw [<-h.k]; exact ai ..,λz=>(hp.1 _ z).2 rfl⟩
 ·obtain ⟨d,hd⟩:=bR (cr.mpr t);have i:∃ m,es++prL l=prL m/\OkW r m:=qbn (by rw [List.all_append,UZ (h.ok T),Bool.and_true,aM];intro x hx;exact aM.mp (UZ (h.ok T)) x (u x hx));obtain ⟨m,e1,g⟩:=i;have E:m.length<=30:=by have:=congrArg fB e1;simp [prL] at this;omega
  have hi:=(yc (ds:=prL m) Va (by simp [prL]; omega) r).2 m rfl g;have B:KZ m=false:=by
   cases z:KZ m with
   | false=>rfl
   | true=>
    have n:=Jx z;obtain ⟨x,hx,rfl⟩:=af.mp (u d hd);exfalso;have w:(es++prL l).map (λd=>match d with | .tup (.str x::_)=>x | _ => "")=qI m:=by rw [e1];simp [prL,qI]
    rw [cw] at w;rw [<-w] at n;have:=(bQ.mp n).2.2 x.1 (af.mpr ⟨_,hd,rfl⟩) x.1 (af.mpr ⟨_,u _ hd,rfl⟩);exact this rfl
  rw [B] at hi;rw [e1];exact ko T hi
 ·exact b (λd hd=>by rw [ao.mp hd];exact ⟨trivial,λxs e y a=>by cases e; rw [ao.mp a]; trivial⟩) (by simp) (ao.mpr rfl) rfl
 ·exact b (λd hd=>by
   rw [ao.mp hd];refine ⟨trivial,λxs e y a=>?_⟩;cases e;rcases ac.mp a with rfl | a;·trivial
   ·rw [ao.mp a]; trivial) (by simp) (ao.mpr rfl) rfl
 ·exact ko T (wg (by trivial) rfl r)
 ·obtain ⟨e,f⟩:=bR o;exact b (λd hd=>by
   obtain ⟨x,_,rfl⟩:=af.mp hd;refine ⟨trivial,λxs e y a=>?_⟩;cases e;rcases ac.mp a with rfl | a;·trivial
   ·rw [ao.mp a]; trivial) (by simp; omega) (af.mpr ⟨e,f,rfl⟩) (by simp [KY,zO])
abbrev Yg (ws:List Str) (p q r:Int) (ns:List Int):List Ln:=(EV0 r (LS (qp ws p q))).filter λl=>decide (va l (qp ws p q) r=ns)
theorem qbr (T:Told ws p q r ns) (S:Sn (qp ws p q) W) {l:Ln} (hd:l∈Yg ws p q r ns):∃ i:Nat,(Yg ws p q r ns)[i]?=ip l/\kO ca [Wd ws,Ld p q,.int r,nD ns,.tup (prL l)]=.ok (.int (i:Nat),[.non,.non,.non,.non,.non]):=by
 have f:=T.r0;have I:r<=99:=by have:=T.r9; omega
 have g:(qp ws p q).length=ws.length:=by simp [qp]
 have j:kI (qp ws p q).length r ns:=by rw [g]; exact T.n
 obtain ⟨X,hq⟩:=br.mp hd;obtain ⟨k,U⟩:=(zt f).mp X;have V:Line ws p q r l:=⟨k,U⟩
 have h1:=qbq (ca:=ca) T (XN T V);rw [decide_eq_true (of_decide_eq_true hq)] at h1;have H:BO W (qp ws p q) r ns=none:=(qfn S f j).2.mpr (cm hd);obtain ⟨M,_⟩:=Wx S f j H;have v:=qbe f H;have hd2:l∈(PV (ch W (qp ws p q) r ns) (RT W)).map (bl W r ns (LS (qp ws p q))):=by rw [<-M]; exact hd
 obtain ⟨m,E,o⟩:=af.mp hd2;obtain ⟨m1,R⟩:=(wK _).mp E;have s:(qI m).Nodup:=by rw [m1]; exact UV S
 have h:∀ z∈RT W,jh l z=jh m z/\jh m z∈ch W (qp ws p q) r ns z/\z∈qI l:=λz a=>by
  have G:jh m z∈ch W (qp ws p q) r ns z:=R _ (kh (by rw [m1]; exact a)).1;obtain ⟨A,N⟩:=mem_RT.mp a;obtain ⟨_,r2⟩:=yb S A;rw [N] at r2;have L:z∈LS (qp ws p q):=by rw [<-UW S];exact (qN _).mem_iff.mpr A
  refine ⟨?_,G,by rw [k]; exact L⟩;rw [<-o];unfold bl;rw [wp (vO W r ns (jh m)) L];unfold vO;rw [r2];obtain ⟨⟨c0,F⟩,_⟩:=(v _ _).mp G;show jh m z % r=jh m z;exact aZ c0 F
 obtain ⟨i,hi,b⟩:=qdP (ch W (qp ws p q) r ns) (jh l) (RT W) m 0 E (λe u=>by
  have a:e.1∈RT W:=by rw [<-m1]; exact af.mpr ⟨e,u,rfl⟩
  rw [(h e.1 a).1];exact UX s (kh (af.mpr ⟨e,u,rfl⟩)).1 u)
 rw [Nat.zero_mul,Nat.zero_add] at b;refine ⟨i,by show ((EV0 r (LS (qp ws p q))).filter λl=>decide (va l (qp ws p q) r=ns))[i]?=ip l;rw [M,aG,hi];exact congrArg ip o,?_⟩;have h2:=xO T.w T.l;have y:=um (l:=qp ws p q) (by have:=T.w5; omega);have Y:=UM (l:=l) (by rw [k]; exact KN _);have J:=xa S j.1 f I;have O:(RO W (qp ws p q) r ns).map rd=(RT W).map λx=>rd (x,ch W (qp ws p q) r ns x):=by unfold RO;rw [aV];rfl
 rw [O] at J;have t:jD (.tup (prL l))=.ok (.int (LS (qp ws p q)).length):=by rw [<-k];simp [jD,prL,qI]
 have d:jD (.lst ((LS (qp ws p q)).map D.str))=.ok (.int (LS (qp ws p q)).length):=by simp [jD]
 obtain ⟨Q,K,C⟩:=qfu (c:=ch W (qp ws p q) r ns) (l:=l) (ip (Wd ws)) (ip (Ld p q)) (ip (.int r)) (ip (nD ns)) (ip (.tup (prL l))) (ip (.bl iA)) (ip (sD (qp ws p q))) (RT W) 0 iq iq (λz a=>by obtain ⟨a1,a2,a3⟩:=h z a;exact ⟨by rw [a1]; exact a2,qa5 _ f I ns,a3⟩);rw [b] at C;have y:js [sD (qp ws p q)]=.ok (.lst ((LS (qp ws p q)).map D.str),[.non]):=y;generalize (RT W).map (λx=>rd (x,ch W (qp ws p q) r ns x))=RR at *;generalize sD (qp ws p q)=Z at *;generalize D.lst ((LS (qp ws p q)).map D.str)=LL at *;generalize D.tup (prL l)=P at *;generalize D.dct (bk l)=B at *;generalize Wd ws=W' at *;generalize Ld p q=L' at *;generalize nD ns=N' at *;refine runD_ap.trans ?_;unfold yx;rw [show qw zo [W',L',.int r,N',P]=[ip W',ip L',ip (.int r),ip N',ip P,iq,iq,iq,iq,iq,iq] from rfl];refine (qB (ρ1:=[ip W',ip L',ip (.int r),ip N',ip P,ip (.bl iA),iq,iq,iq,iq,iq]) (by simp [qC,jf,h1])).trans ?_;refine (qB (ρ1:=[ip W',ip L',ip (.int r),ip N',ip P,ip (.bl iA),ip Z,iq,iq,iq,iq]) (by simp [qC,jf,h2])).trans ?_;refine (qB (ρ1:=[ip W',ip L',ip (.int r),ip N',ip P,ip (.bl iA),ip Z,iq,iq,iq,iq]) (by simp [qC,jf,wu,t,y,d,neD,eqN,eqS])).trans ?_;refine (qB (ρ1:=[ip W',ip L',ip (.int r),ip N',ip P,ip (.bl iA),ip Z,ip B,iq,iq,iq]) (by simp [Y])).trans ?_;refine (qB (ρ1:=[ip W',ip L',ip (.int r),ip N',ip P,ip (.bl iA),ip Z,ip B,ip (.int ((0:Nat):Int)),iq,iq]) rfl).trans ?_;refine (qB (ρ1:=[ip W',ip L',ip (.int r),ip N',ip P,ip (.bl iA),ip Z,ip B,ip (.int (i:Nat)),Q,K]) (by
  have hit:jZ (qv [.vl,.vl,.vl] kM (qd (qe 6) (qd (qe 2) (qd (qe 3) qE)))) [ip W',ip L',ip (.int r),ip N',ip P,ip (.bl iA),ip Z,ip B,ip (.int ((0:Nat):Int)),iq,iq]=.ok (RR,[ip W',ip L',ip (.int r),ip N',ip P,ip (.bl iA),ip Z,ip B,ip (.int ((0:Nat):Int)),iq,iq]):=by simp [qC,jf,J,jC]
  rw [kL,hit,kX];exact C)).trans ?_
 simp [qx]
end
def qfI (ca:Str->Addr):Prop:=∀ x∈CS,∀ y∈CS,ca x=ca y->x=y
theorem wL (h:qfI ca) (hx:x∈CS) (D:y∈CS) (e:decide (y=x)=b):VM ca CS x (ca y)=ip b:=by
 unfold VM;rw [if_pos (af.mpr ⟨y,D,rfl⟩),<-e];by_cases z:y=x;·simp [z]
 ·have:ca y≠ca x:=λw=>z (h y D x hx w);simp [z,this]
theorem qfx (D:y∈CS):qgG ca CS (ca y)=ip true:=by unfold qgG;rw [if_pos (af.mpr ⟨y,D,rfl⟩)]
theorem qhB (D:y∈CS):qbu ca CS y=ip (ca y):=by unfold qbu;rw [if_pos D]
theorem WA (h:qfI ca):KG ca [.xcp (ca "NoWorths")]=.ok (.tup [.str "refused",.int 5],[.non]):=by
 refine runD_ap.trans ?_;have D:(be "NoWorths")∈CS:=by decide +kernel
 have B:=wL h (x := "NoWords") (y := "NoWorths") (b:=iw) (by decide +kernel) D (by decide +kernel);have p:=wL h (x := "NoLook") (y := "NoWorths") (b:=iw) (by decide +kernel) D (by decide +kernel);have o:=wL h (x := "NoNumbers") (y := "NoWorths") (b:=iw) (by decide +kernel) D (by decide +kernel);have m:=wL h (x := "NoRoom") (y := "NoWorths") (b:=iw) (by decide +kernel) D (by decide +kernel);have i:=wL h (x := "NoWord") (y := "NoWorths") (b:=iw) (by decide +kernel) D (by decide +kernel);have q:=wL h (x := "NoWorths") (y := "NoWorths") (b:=iA) (by decide +kernel) D (by decide +kernel);have l:=wL h (x := "Never") (y := "NoWorths") (b:=iw) (by decide +kernel) D (by decide +kernel);have k:=wL h (x := "Full") (y := "NoWorths") (b:=iw) (by decide +kernel) D (by decide +kernel);have j:=wL h (x := "Known") (y := "NoWorths") (b:=iw) (by decide +kernel) D (by decide +kernel);have g:=wL h (x := "NoPlace") (y := "NoWorths") (b:=iw) (by decide +kernel) D (by decide +kernel);have e:=wL h (x := "NoLetters") (y := "NoWorths") (b:=iw) (by decide +kernel) D (by decide +kernel);have d:=wL h (x := "NoText") (y := "NoWorths") (b:=iw) (by decide +kernel) D (by decide +kernel);have c:=wL h (x := "Nothing") (y := "NoWorths") (b:=iw) (by decide +kernel) D (by decide +kernel);have T:=qfx (ca:=ca) D;have r:4<=sizeLine:=jg (by omega);have f:8<=sizeLine:=jg (by omega);have a:12<=sizeLine:=jg (by omega);have z:12 < sizeLine:=aI (by decide) big;have N:2<=sizeLine:=jg (by omega);simp [KC,qw,qx,QM,B,p,o,m,i,q,l,k,j,g,e,d,c,T,r,f,a,z,N,yP,GK,JK,YF,wz,neD,eqN,eqS,wu,YG,qfD,List.countP_cons,List.findIdx?_cons]
theorem WB {k:Nat}:∀ ds:List D,(∀ d∈ds,eqN k d d=ip iA)->vh (eqN k) ds ds=ip iA
 | [],_=>rfl
 | d::ds,h=>by have e:=h d (ai ..);have j:=WB ds λd' hd=>h d' (aa _ hd);simp [vh,e,j]
theorem qfy (l:Ln):neD (.tup (prL l)) (.tup (prL l))=.ok (.bl iw):=by
 have e:=WB (k:=7) (prL l) λd hd=>by obtain ⟨x,_,rfl⟩:=af.mp hd;simp [eqN,vh,eqS]
 simp [neD,eqN,e]
theorem qhC {a b c n v:D} (h:kO ca [a,b,c,n,d]=.ok (v,[.non,.non,.non,.non,.non])):Jr ca [a,b,c,n,d]=.ok (v,[.non,.non,.non,.non,.non]):=by refine runD_ap.trans ?_;simp [Xp,ZK,qw,qx,qC,jf,h]
abbrev rf5:D:=.tup [.str "refused",.int 5]
theorem qdR (e:qfI ca) {a b c n:D} (h:kO ca [a,b,c,n,d]=.exc "NoWorths" [ip .non,ip .non,ip .non,ip .non,ip .non]):Jr ca [a,b,c,n,d]=.ok (rf5,[.non,.non,.non,.non,.non]):=by have hi:=qhB (ca:=ca) (y := "NoWorths") (by decide +kernel);have w:=WA e;refine runD_ap.trans ?_;simp [Xp,ZK,qw,qx,qC,jf,h,hi,w]
theorem qbs (k:Nat):∀ a b:Ln,vh (eqN (k+1)) (prL a) (prL b)=ip (decide (a.take (min a.length b.length)=b.take (min a.length b.length)))
 | [],b=>by simp [vh,prL]
 | x::a,[]=>by simp [vh,prL]
 | x::a,y::b=>by
  have j:=qbs k a b;have e:eqN (k+1) (.tup [.str x.1,.int x.2]) (.tup [.str y.1,.int y.2])=ip (decide (x=y)):=by obtain ⟨g,f⟩:=x;obtain ⟨d,c⟩:=y;by_cases h1:g=d <;> by_cases h2:f=c <;> cases k <;> simp [eqN,vh,eqS,h1,h2]
  show vh (eqN (k+1)) (.tup [.str x.1,.int x.2]::prL a) (.tup [.str y.1,.int y.2]::prL b)=_;rw [vh,e,j,ap,ap,show min (a.length+1) (b.length+1)=min a.length b.length+1 by omega,dP,dP];by_cases h1:x=y <;> simp [h1]
theorem qdS (a b:Ln):eqN 7 (.tup (prL a)) (.tup (prL b))=ip (decide (a=b)):=by
 have e:=qbs 5 a b;show (vh (eqN 6) (prL a) (prL b)).map (λz=>z&&(prL a).length == (prL b).length)=_;rw [e];by_cases h:a.length=b.length;·rw [h,ia,df,<-h,df];simp [prL,h]
 ·have c:a≠b:=λz=>h (by rw [z]);simp [prL,h,c]
theorem Yh (l:Ln):∀ A:List Ln,gb 7 (.tup (prL l)) (rD A)=ip (decide (l∈A))
 | []=>rfl
 | a::A=>by
  have j:=Yh l A;show gb 7 (.tup (prL l)) (.tup (prL a)::rD A)=_;rw [gb,qdS,j];by_cases h1:a=l;·simp [h1]
  ·have:¬l=a:=λz=>h1 z.symm;by_cases h2:l∈A <;> simp [h1,h2,this]
theorem qi7 (l:Ln) (A:List Ln):inA (.tup (prL l)) (.lst (rD A))=.ok (.bl (decide (l∈A))):=by simp [inA,qgo,inD,Yh]
variable {A:List Ln}
theorem qc7 {l:Ln} (n:A.Nodup) {i:Nat} (h:A[i]?=ip l):uI (.lst (rD A)) (.tup (prL l))=.ok (.int (i:Nat)):=by
 have c:((rD A).map λd=>eqN 7 d (.tup (prL l)) == ip iA)=A.map λa=>decide (a=l):=by unfold rD;rw [aV];refine bP λa _=>?_;show (eqN 7 (.tup (prL a)) (.tup (prL l)) == ip iA)=_;rw [qdS];by_cases z:a=l <;> simp [z]
 obtain ⟨hi,e⟩:=aB.mp h;have f:(A.map λa=>decide (a=l)).findIdx? id=ip i:=by
  rw [bZ];refine ⟨by simpa using hi,by simp [e],λj G=>?_⟩;have b:A[j]≠l:=λz=>by have:=List.pairwise_iff_getElem.mp n j i (by omega) hi G;exact this (by rw [z,e])
  simp [b]
 simp only [uI,Yh,c,f]
theorem qhD (A:List Ln):eqD (.lst (rD A)) (.lst [])=.ok (.bl (decide (A=[]))):=by
 cases A with
 | nil=>rfl
 | cons a A=>simp [eqD,eqN,rD]
theorem Yi (a:A≠[]) {c:Int} (f:0<=c):∃ l∈A,wq (.int c) (.int (A.length:Int))=.ok (.int (c % (A.length:Int)))/\ixD (.lst (rD A)) (.int (c % (A.length:Int)))=.ok (.tup (prL l)):=by
 have hp:(0:Int) < A.length:=by have:=cr.mpr a; omega
 have d:=cI c (by omega:(A.length:Int)≠0);have h1:=bV c hp;obtain ⟨k,b⟩:=db d;have h:k < A.length:=by omega
 refine ⟨A[k],bY h,by generalize (A.length:Int)=n at *;simp [wq,uu,hp],?_⟩;rw [b];have e:atI (rD A) (k:Int)=ip (.tup (prL A[k])):=by unfold rD;rw [wk,aG,aC h];rfl
 simp [ixD,e]
theorem qc8 {l:Ln} (hl:l.length<=50) (h:ρ[6]?=ip (ip (.tup (prL l)))):jw [1] 2 [] (jZ (qe 6)) (jL 2 (qD (gNm 0) (qD (gNm 1) jK))) ftT (vM (qd (qe 0) (qd (dC .non) qE))) ρ=.ok (.lst (l.map λe=>.tup [.str e.1,.non]),ρ):=by
 have N:2<=sizeLine:=jg (by omega);have e:=qaS (own:=[1]) (cap:=[]) (fi:=jZ (qe 6)) (ft:=ftT) (fe:=vM (qd (qe 0) (qd (dC .non) qE))) (ρ:=ρ) (ρ1:=ρ) (ps:=l.map λe=>(D.str e.1,D.int e.2)) (λ_=>iA) (λp=>.tup [p.1,.non]) (by simp) (by
  have:jZ (qe 6) ρ=.ok (prL l,ρ):=by simp [jZ,Ug,h,jC]
  rw [this,aV];rfl) (by rw [ay]; exact jg (by omega)) (λ_ _=>rfl) (λp hp _=>by simp [N])
 rw [e,dO.mpr λ_ _=>rfl,aV];rfl
abbrev thF:Sl->Out (D×Sl):=(dIf (dOr (jb (d2 eqD (qe 3) (dC (.int 0)))) (jb (d2 eqD (qe 5) (yz qE)))) (d2 ixD (qe 4) (d2 wq (qe 2) (d1 jD (qe 4)))) (d2 ixD (qe 5) (d2 wq (qe 2) (d1 jD (qe 5)))))
theorem qc9 {E:List Ln} (t:E≠[]) (hA:∀ l∈A,l∈E) {c wy:Int} (s:0<=c) (a b g h i j k m n o:Option D):∃ l∈E,thF [a,b,ip (.int c),ip (.int wy),ip (.lst (rD E)),ip (.lst (rD A)),g,h,i,j,k,m,n,o]=.ok (.tup (prL l),[a,b,ip (.int c),ip (.int wy),ip (.lst (rD E)),ip (.lst (rD A)),g,h,i,j,k,m,n,o]):=by
 have p:=qhD A;have d:jD (.lst (rD E))=.ok (.int (E.length:Int)):=by simp [jD,rD]
 have q:jD (.lst (rD A))=.ok (.int (A.length:Int)):=by simp [jD,rD]
 by_cases r:wy=0
 ·obtain ⟨l,hl,e1,e⟩:=Yi t s;refine ⟨l,hl,?_⟩;generalize D.lst (rD E)=X at *;generalize D.lst (rD A)=Y at *;generalize D.tup (prL l)=P at *;have f:eqD (.int wy) (.int 0)=.ok (.bl iA):=by simp [eqD,eqN,eqS,r]
  simp [f,d,e1,e]
 ·by_cases z:A=[]
  ·obtain ⟨l,hl,e1,e⟩:=Yi t s;refine ⟨l,hl,?_⟩;rw [decide_eq_true z] at p;generalize D.lst (rD E)=X at *;generalize D.lst (rD A)=Y at *;generalize D.tup (prL l)=P at *;have f:eqD (.int wy) (.int 0)=.ok (.bl iw):=by simp [eqD,eqN,eqS,r]
   simp [f,p,d,e1,e]
  ·obtain ⟨l,hl,e1,e⟩:=Yi z s;refine ⟨l,hA l hl,?_⟩;rw [decide_eq_false z] at p;generalize D.lst (rD E)=X at *;generalize D.lst (rD A)=Y at *;generalize D.tup (prL l)=P at *;have f:eqD (.int wy) (.int 0)=.ok (.bl iw):=by simp [eqD,eqN,eqS,r]
   simp [f,p,q,e1,e]
theorem qhE (M:qfI ca) (b:List Int):qcQ ca [scr b]=.ok (.bl iA,[.non]):=by
 refine runD_ap.trans ?_;obtain ⟨f,cc0,_,gc⟩:=vf b [] (many:=9973) (by omega) (by simp);obtain ⟨wy,_,_,gw⟩:=vf b ([]++[.int 0]) (many:=4) (by omega) (by simp);obtain ⟨ws,p,q,r,ns,t,T,ht1,g1⟩:=UU b ([]++[.int 0]++[.int 0]) (by simp);simp at ht1;have h9:r<=99:=by have:=T.r9; omega
 have o:=T.r0;have hsl:(qp ws p q).length=ws.length:=by simp [qp]
 have Q:(LS (qp ws p q)).length<=10:=by have:=qiY (qp ws p q);have:=T.w5;omega
 have hpw:r.toNat ^ (LS (qp ws p q)).length<=1100000:=by
  have h1:r.toNat<=4:=by have:=T.r9; omega
  have h2:r.toNat ^ (LS (qp ws p q)).length<=4 ^ (LS (qp ws p q)).length:=Nat.pow_le_pow_left h1 _;have h3:4 ^ (LS (qp ws p q)).length<=4 ^ 10:=Nat.pow_le_pow_right (by omega) Q;exact bg (bg h2 h3) (by decide)
 have he:=qc3 T.w T.l o h9 hpw;obtain ⟨W,S⟩:=qiW T.w p q;have hn:kI (qp ws p q).length r ns:=by rw [hsl]; exact T.n
 obtain ⟨c1,c2⟩:=qfn S o hn;have A:∀ l∈EV0 r (LS (qp ws p q)),qI l=LS (qp ws p q):=λl hl=>((zt o).mp hl).1;have hEl:(EV0 r (LS (qp ws p q))).length=r.toNat ^ (LS (qp ws p q)).length:=by
  have:∀ (L:List Str) (rows:List Ln),(EV r rows L).length=rows.length * r.toNat ^ L.length:=λL=>by
   induction L with
   | nil=>intro rows; simp [EV]
   | cons x L ih=>intro rows;show (EV r (evS r x rows) L).length=_;rw [ih,qbh,ap,Nat.pow_succ',hZ]
  have h:=this (LS (qp ws p q)) [[]];simpa using h
 have R:EV0 r (LS (qp ws p q))≠[]:=λz=>by rw [z,bf] at hEl;have:=Nat.one_le_pow (LS (qp ws p q)).length r.toNat (by omega);omega
 have hAl:(Yg ws p q r ns).length<=1100000:=bg (dw _ _) (by omega);have U:(Yg ws p q r ns).Nodup:=(qfm _ _ (by simp)).filter _;have hAE:∀ l∈Yg ws p q r ns,l∈EV0 r (LS (qp ws p q)):=λl hl=>(br.mp hl).1;obtain ⟨x',dc⟩:=qbi T.w T.l o ns (EV0 r (LS (qp ws p q))) iq A;obtain ⟨l,E,V⟩:=qc9 R hAE cc0 (wy:=wy) (ip (scr b)) (ip (.lst t)) iq iq iq iq (ip (Wd ws)) (ip (Ld p q)) (ip (.int r)) (ip (nD ns));have hL:Line ws p q r l:=⟨((zt o).mp E).1,((zt o).mp E).2⟩
 obtain ⟨l12,l0⟩:=hL.len T;have m:(prL l).length<=50:=by simp [prL]; omega
 obtain ⟨es,H,he1,he2,he3⟩:=qfw m (λz=>by
  have hh:(prL l).length=l.length:=by simp [prL]
  rw [z,bf] at hh;omega)
 have J:es.length<=l.length:=by simpa [prL] using he3
 have K:=qj1 (prL l) m;have c:=qi7 l (Yg ws p q r ns);have O:∃ v,Jr ca [Wd ws,Ld p q,.int r,nD ns,.tup (prL l)]=.ok (v,[.non,.non,.non,.non,.non])/\((l∈Yg ws p q r ns/\uI (.lst (rD (Yg ws p q r ns))) (.tup (prL l))=.ok v/\neD v v=.ok (.bl iw)/\ui [Wd ws,Ld p q,.int r,nD ns,v]=.ok (.tup (prL l),[.non,.non,.non,.non,.non]))\/(l∉Yg ws p q r ns/\v=rf5)):=by
  by_cases z:l∈Yg ws p q r ns;·obtain ⟨i,hi,hpl⟩:=qbr (ca:=ca) T S z;refine ⟨.int (i:Nat),qhC hpl,.inl ⟨z,qc7 U hi,by simp [neD,eqN,eqS],?_⟩⟩;have hi2:i < (Yg ws p q r ns).length:=(aB.mp hi).1;obtain ⟨l',hl',k⟩:=qi3 T.w T.l o h9 T.n S (a:=i) (by rw [c1]; exact Int.ofNat_lt.mpr hi2) (by omega);have:l'=l:=aO.inj (hl'.symm.trans hi);rw [this] at k;exact k
  ·refine ⟨rf5,qdR M (XI T ?_),.inr ⟨z,rfl⟩⟩;have h:=qbq (ca:=ca) T (XN T hL);rw [decide_eq_false λy=>z (br.mpr ⟨E,decide_eq_true y⟩)] at h;exact h
 obtain ⟨v,hv,j⟩:=O;obtain ⟨d,hd,hp⟩:=UJ b t (qhy l es) (by simp [qhy]) (by omega);have F:=qdR M (qhA (ca:=ca) T hL he1 he2 J hd);have z1:1<=sizeLine:=jg (by omega);have z2:2<=sizeLine:=jg (by omega);have Z:10<=sizeLine:=jg (by omega);have Y:11<=sizeLine:=jg (by omega);have G:kb (.tup (prL l)) (.tup [.tup [.str "zz",.int 0]])=.ok (.tup (prL l++[.tup [.str "zz",.int 0]])):=by have:(prL l).length+1<=sizeLine:=jg (by omega);simp [kb,this]
 have C:kb (.tup es) (.tup (prL l))=.ok (.tup (es++prL l)):=by have:es.length+(prL l).length<=sizeLine:=jg (by simp [prL]; omega);simp [kb,this]
 have u:VH (.tup (prL l))=.ok (.lst (prL l)):=rfl;have hz:(rD (EV0 r (LS (qp ws p q)))).length<=sizeLine:=by unfold rD;rw [ay];exact bg (by omega) Wu
 unfold qe3;rw [show qw qaM [scr b]=[ip (scr b),iq,iq,iq,iq,iq,iq,iq,iq,iq,iq,iq,iq,iq] from rfl];refine (qB (ρ1:=[ip (scr b),ip (.lst []),iq,iq,iq,iq,iq,iq,iq,iq,iq,iq,iq,iq]) (by simp)).trans ?_;refine (qB (ρ1:=[ip (scr b),ip (.lst ([]++[.int 0])),ip (.int f),iq,iq,iq,iq,iq,iq,iq,iq,iq,iq,iq]) (by simp [qC,jf,gc])).trans ?_;refine (qB (ρ1:=[ip (scr b),ip (.lst ([]++[.int 0]++[.int 0])),ip (.int f),ip (.int wy),iq,iq,iq,iq,iq,iq,iq,iq,iq,iq]) (by generalize ([]++[D.int 0]:List D)=t0 at *;simp [qC,jf,gw])).trans ?_;generalize ([]++[D.int 0]++[D.int 0]:List D)=t0 at *;refine (qB (ρ1:=[ip (scr b),ip (.lst t),ip (.int f),ip (.int wy),iq,iq,iq,iq,iq,iq,ip (Wd ws),ip (Ld p q),ip (.int r),ip (nD ns)]) (by simp [qC,jf,g1,jL,qD,jK])).trans ?_;refine (qB (ρ1:=[ip (scr b),ip (.lst t),ip (.int f),ip (.int wy),ip (.lst (rD (EV0 r (LS (qp ws p q))))),iq,iq,iq,iq,iq,ip (Wd ws),ip (Ld p q),ip (.int r),ip (nD ns)]) (by generalize D.lst (rD (EV0 r (LS (qp ws p q))))=X at *;generalize nD ns=N at *;simp [qC,jf,he])).trans ?_;have d3:=KL (own:=[1]) (cap:=[13,10,11,12]) (nt:=1) (fi:=jZ (qe 4)) (g:=gNm 0) (ft:=duT) (fe:=qe 0) (ρ:=[ip (scr b),ip (.lst t),ip (.int f),ip (.int wy),ip (.lst (rD (EV0 r (LS (qp ws p q))))),iq,iq,iq,iq,iq,ip (Wd ws),ip (Ld p q),ip (.int r),ip (nD ns)]) (ρ1:=[ip (scr b),ip (.lst t),ip (.int f),ip (.int wy),ip (.lst (rD (EV0 r (LS (qp ws p q))))),iq,iq,iq,iq,iq,ip (Wd ws),ip (Ld p q),ip (.int r),ip (nD ns)]) (ds:=rD (EV0 r (LS (qp ws p q)))) rfl hz dc;refine (qB (ρ1:=[ip (scr b),ip (.lst t),ip (.int f),ip (.int wy),ip (.lst (rD (EV0 r (LS (qp ws p q))))),ip (.lst (rD (Yg ws p q r ns))),iq,iq,iq,iq,ip (Wd ws),ip (Ld p q),ip (.int r),ip (nD ns)]) (by rw [Qa,d3]; rfl)).trans ?_;clear d3 dc he hz;refine (qB (ρ1:=[ip (scr b),ip (.lst t),ip (.int f),ip (.int wy),ip (.lst (rD (EV0 r (LS (qp ws p q))))),ip (.lst (rD (Yg ws p q r ns))),ip (.tup (prL l)),iq,iq,iq,ip (Wd ws),ip (Ld p q),ip (.int r),ip (nD ns)]) (by delta thF at V;rw [Qa,V];rfl)).trans ?_;have hnc:=qc8 (l:=l) (by omega) (ρ:=[ip (scr b),ip (.lst t),ip (.int f),ip (.int wy),ip (.lst (rD (EV0 r (LS (qp ws p q))))),ip (.lst (rD (Yg ws p q r ns))),ip (.tup (prL l)),ip v,ip (.lst [.non,.int 5,.tup [],.lst (prL l),.tup (prL l++[.tup [.str "zz",.int 0]]),.tup ((prL l).drop 1),.tup (es++prL l),.tup [.tup [.str "a"]],.tup [.tup [.int 1,.int 2]],.str "a0"]),iq,ip (Wd ws),ip (Ld p q),ip (.int r),ip (nD ns)]) rfl;have nl:=qfy l;have I:qhy l es=[.non,.int 5,.tup [],.lst (prL l),.tup (prL l++[.tup [.str "zz",.int 0]]),.tup ((prL l).drop 1),.tup (es++prL l),.tup [.tup [.str "a"]],.tup [.tup [.int 1,.int 2]],.str "a0"]++[.tup (l.map λe=>.tup [.str e.1,.non])]:=rfl;rw [I] at hp;have B:kb (.lst [.non,.int 5,.tup [],.lst (prL l),.tup (prL l++[.tup [.str "zz",.int 0]]),.tup ((prL l).drop 1),.tup (es++prL l),.tup [.tup [.str "a"]],.tup [.tup [.int 1,.int 2]],.str "a0"]) (.lst [.tup (l.map λe=>.tup [.str e.1,.non])])=.ok (.lst ([.non,.int 5,.tup [],.lst (prL l),.tup (prL l++[.tup [.str "zz",.int 0]]),.tup ((prL l).drop 1),.tup (es++prL l),.tup [.tup [.str "a"]],.tup [.tup [.int 1,.int 2]],.str "a0"]++[.tup (l.map λe=>.tup [.str e.1,.non])])):=by simp [kb,Y]
 generalize [.non,.int 5,.tup [],.lst (prL l),.tup (prL l++[.tup [.str "zz",.int 0]]),.tup ((prL l).drop 1),.tup (es++prL l),.tup [.tup [.str "a"]],.tup [.tup [.int 1,.int 2]],.str "a0"]++[D.tup (l.map λe=>.tup [.str e.1,.non])]=OO at *;have htl:wx (.lst (l.map λe=>D.tup [.str e.1,.non]))=.ok (.tup (l.map λe=>.tup [.str e.1,.non])):=rfl;generalize D.tup (l.map λe=>D.tup [.str e.1,.non])=NT at *;generalize D.lst (l.map λe=>D.tup [.str e.1,.non])=NL at *;generalize D.tup (prL l++[.tup [.str "zz",.int 0]])=P2 at *;generalize D.tup (es++prL l)=P3 at *;generalize D.tup ((prL l).drop 1)=P1 at *;generalize D.lst (prL l)=P4 at *;generalize D.tup es=Pe at *;generalize D.tup (prL l)=P at *;generalize hAA:D.lst (rD (Yg ws p q r ns))=AA at *;generalize D.lst (rD (EV0 r (LS (qp ws p q))))=EE at *;generalize Wd ws=W' at *;generalize Ld p q=L' at *;generalize nD ns=N' at *;refine (qB (ρ1:=[ip (scr b),ip (.lst t),ip (.int f),ip (.int wy),ip EE,ip AA,ip P,ip v,iq,iq,ip W',ip L',ip (.int r),ip N']) (by simp [qC,jf,hv])).trans ?_;refine (qB (ρ1:=[ip (scr b),ip (.lst t),ip (.int f),ip (.int wy),ip EE,ip AA,ip P,ip v,iq,iq,ip W',ip L',ip (.int r),ip N']) (by
  rcases j with ⟨s,hix,nv,_⟩ | ⟨s,rfl⟩
  ·rw [decide_eq_true s] at c;have hkl:qfG AA=true:=by rw [<-hAA]; rfl
   simp [c,dM,hkl,hix,nv]
  ·rw [decide_eq_false s] at c;simp [c,z2,neD,eqN,vh,eqS])).trans ?_
 refine (qB (ρ1:=[ip (scr b),ip (.lst t),ip (.int f),ip (.int wy),ip EE,ip AA,ip P,ip v,iq,iq,ip W',ip L',ip (.int r),ip N']) (by
  rcases j with ⟨s,_,_,k⟩ | ⟨s,_⟩
  ·rw [decide_eq_true s] at c;simp [c,qC,jf,k,nl]
  ·rw [decide_eq_false s] at c;simp [c])).trans ?_
 refine (qB (ρ1:=[ip (scr b),ip (.lst t),ip (.int f),ip (.int wy),ip EE,ip AA,ip P,ip v,ip (.lst [.non,.int 5,.tup [],P4,P2,P1,P3,.tup [.tup [.str "a"]],.tup [.tup [.int 1,.int 2]],.str "a0"]),iq,ip W',ip L',ip (.int r),ip N']) (by simp [u,G,YB,JL,K,H,qfD,C,Z])).trans ?_;generalize D.lst [.non,.int 5,.tup [],P4,P2,P1,P3,.tup [.tup [.str "a"]],.tup [.tup [.int 1,.int 2]],.str "a0"]=OL at *;refine (qB (ρ1:=[ip (scr b),ip (.lst (t++[.int 0])),ip (.int f),ip (.int wy),ip EE,ip AA,ip P,ip v,ip OL,ip d,ip W',ip L',ip (.int r),ip N']) (by generalize jw [1] 2 [] (jZ (qe 6)) (jL 2 (qD (gNm 0) (qD (gNm 1) jK))) ftT (vM (qd (qe 0) (qd (dC .non) qE)))=CF at *;simp [hnc,htl,z1,B,qC,jf,hp])).trans ?_;have er:eqD rf5 rf5=.ok (.bl iA):=by simp [eqD,eqN,vh,eqS]
 simp [qC,jf,F,z2,er,qx]
end Kx
namespace Kx
open PySem PySem.Spec PyProof.Rows L2 L2.D2
variable {us:List iu} {P:List iu->Prop}
theorem qjy (hl:us.length=0) (h:P []):P us:=List.length_eq_zero_iff.mp hl ▸ h
theorem qhF {n:Nat} (hl:us.length=n+1):∃ a l,us=a::l/\l.length=n:=by
 cases us with
 | nil=>cases hl
 | cons a l=>exact ⟨a,l,rfl,Nat.succ.inj hl⟩
theorem qjz (hl:us.length=1) (h:∀ a,P [a]):P us:=by obtain ⟨a,l,rfl,e⟩:=qhF hl;exact qjy (P:=λl=>P (a::l)) e (h a)
theorem qjA (hl:us.length=2) (h:∀ a b,P [a,b]):P us:=by obtain ⟨a,l,rfl,e⟩:=qhF hl;exact qjz (P:=λl=>P (a::l)) e (h a)
theorem qjB (hl:us.length=3) (h:∀ a b c,P [a,b,c]):P us:=by obtain ⟨a,l,rfl,e⟩:=qhF hl;exact qjA (P:=λl=>P (a::l)) e (h a)
theorem qjC (hl:us.length=4) (h:∀ a b c d,P [a,b,c,d]):P us:=by obtain ⟨a,l,rfl,e⟩:=qhF hl;exact qjB (P:=λl=>P (a::l)) e (h a)
theorem qj2 (hl:us.length=5) (h:∀ a b c d e,P [a,b,c,d,e]):P us:=by obtain ⟨a,l,rfl,e⟩:=qhF hl;exact qjC (P:=λl=>P (a::l)) e (h a)
variable {K:Frag} {h:Heap} {mg:Str->Option iu}
theorem qfz (X:K.In h) (G:h.Ns mainGlobals mg) {x:Str} {st:Stmt} {ps:List Str} {f:Addr} {oc:iu} {od an:Option Addr} {osl:Array (Option iu)} {kV doc pm cdv ct:iu}
  (a:nsIn K mainGlobals x=ip (ip (.ref f))) (l:K.lookup f=ip ⟨oc,od,.func (cf x x (uB st) (vb st) (qf st) .none kV doc pm an cdv ct),osl⟩) (c:codeIn K cdv x=iA) (k:keepIn K (.ref f)=iA)
  (d:∀ (kV doc pm:iu) (an:Option Addr) (cdv ct:iu) (us:List iu),us.length=ps.length->bindArgs (cf x x (uB st) (vb st) (qf st) .none kV doc pm an cdv ct) ⟨us,[]⟩=pure (ps.zip us)):qY K mg x st ps:=
 ⟨f,_,Gf l c k,j8 X G a,(Gf l c k).binds d⟩
variable {x:Str}
theorem qbt {l:List Str} {f:Str->Addr} (nd:(l.map f).Nodup) {y:Str} (hx:x∈l) (D:y∈l) (e:f x=f y):x=y:=by obtain ⟨i,hi,rfl⟩:=fk.mp hx;obtain ⟨j,G,rfl⟩:=fk.mp D;have q:=(fO (h₀:=by simpa using hi) (h₁:=by simpa using G) nd).mp (show (l.map f)[i]'(by simpa using hi)=(l.map f)[j]'(by simpa using G) by simpa using e);subst q;rfl
noncomputable def caT (T:List (Str×Addr)) (x:Str):Addr:=(T.lookup x).getD 0
noncomputable def qda (K:Frag) (C:List Addr) (W:Addr):Bool:=decide C.Nodup&&C.all λc=>xcB K c&&decide (bG K (.ref c) (.ref W)=ip iA)&&decide (cj K (.ref c) (.type "ValueError")=ip iA)&&dS K c bmV "ValueError.__new__"&&C.all λd=>decide (cj K (.ref c) (.ref d)=ip (decide (c=d)))
theorem qdb {C:List Addr} {W:Addr} (h:qda K C W=iA):C.Nodup/\∀ c∈C,xcB K c=iA/\bG K (.ref c) (.ref W)=ip iA/\cj K (.ref c) (.type "ValueError")=ip iA/\dS K c bmV "ValueError.__new__"=iA/\∀ d∈C,cj K (.ref c) (.ref d)=ip (decide (c=d)):=by unfold qda at h;rw [aN,aM] at h;refine ⟨of_decide_eq_true h.1,λc a=>?_⟩;have q:=h.2 c a;simp only [aN,decide_eq_true_eq,aM] at q;exact ⟨q.1.1.1.1,q.1.1.1.2,q.1.1.2,q.1.2,q.2⟩
theorem qhG {c:Str} (h:c∈CS):c = "NoWords"\/c = "NoLook"\/c = "NoNumbers"\/c = "NoRoom"\/c = "NoWord"\/c = "NoWorths"\/c = "Never"\/c = "Full"\/c = "Known"\/c = "NoPlace"\/c = "NoLetters"\/c = "NoText"\/c = "Nothing":=by simpa [CS] using h
theorem qi8 (X:K.In h) (G:h.Ns mainGlobals mg) {CW s r q p o i m l k j f b C:Addr}  {E t a M S:Tok}
    (Z:nsIn K mainGlobals "WordError"=ip (ip (.ref CW)))
    (a0:nsIn K mainGlobals "NoWords"=ip (ip (.ref s)))
    (a1:nsIn K mainGlobals "NoLook"=ip (ip (.ref r)))
    (a2:nsIn K mainGlobals "NoNumbers"=ip (ip (.ref q)))
    (a3:nsIn K mainGlobals "NoRoom"=ip (ip (.ref p)))
    (a4:nsIn K mainGlobals "NoWord"=ip (ip (.ref o)))
    (a5:nsIn K mainGlobals "NoWorths"=ip (ip (.ref i)))
    (a6:nsIn K mainGlobals "Never"=ip (ip (.ref m)))
    (a7:nsIn K mainGlobals "Full"=ip (ip (.ref l)))
    (a8:nsIn K mainGlobals "Known"=ip (ip (.ref k)))
    (F:nsIn K mainGlobals "NoPlace"=ip (ip (.ref j)))
    (I:nsIn K mainGlobals "NoLetters"=ip (ip (.ref f)))
    (H:nsIn K mainGlobals "NoText"=ip (ip (.ref b)))
    (D:nsIn K mainGlobals "Nothing"=ip (ip (.ref C)))
    (z_ValueError:nsIn K mainGlobals "ValueError"=ip iq)
    (z_all:nsIn K mainGlobals "all"=ip iq)
    (z_bool:nsIn K mainGlobals "bool"=ip iq)
    (z_dict:nsIn K mainGlobals "dict"=ip iq)
    (z_enumerate:nsIn K mainGlobals "enumerate"=ip iq)
    (z_int:nsIn K mainGlobals "int"=ip iq)
    (z_isinstance:nsIn K mainGlobals "isinstance"=ip iq)
    (z_len:nsIn K mainGlobals "len"=ip iq)
    (z_list:nsIn K mainGlobals "list"=ip iq)
    (z_max:nsIn K mainGlobals "max"=ip iq)
    (z_min:nsIn K mainGlobals "min"=ip iq)
    (z_range:nsIn K mainGlobals "range"=ip iq)
    (z_reversed:nsIn K mainGlobals "reversed"=ip iq)
    (z_set:nsIn K mainGlobals "set"=ip iq)
    (z_sorted:nsIn K mainGlobals "sorted"=ip iq)
    (z_str:nsIn K mainGlobals "str"=ip iq)
    (z_tuple:nsIn K mainGlobals "tuple"=ip iq)
    (c_LEAST_PLACE:nsIn K mainGlobals "LEAST_PLACE"=ip (ip (.int (-3) E)))
    (c_MOST_LETTERS:nsIn K mainGlobals "MOST_LETTERS"=ip (ip (.int 6 t)))
    (c_MOST_PLACE:nsIn K mainGlobals "MOST_PLACE"=ip (ip (.int 2 a)))
    (c_MOST_ROOM:nsIn K mainGlobals "MOST_ROOM"=ip (ip (.int 99 M)))
    (c_MOST_WORDS:nsIn K mainGlobals "MOST_WORDS"=ip (ip (.int 6 S)))
    (ex:qda K [s,r,q,p,o,i,m,l,k,j,f,b,C] CW=iA)
    (A:bG K (.ref i) (.ref i)=ip iA)
     :
    Zt K mg (λx=>.ref (caT [("WordError",CW),("NoWords",s),("NoLook",r),("NoNumbers",q),("NoRoom",p),("NoWord",o),("NoWorths",i),("Never",m),("Full",l),("Known",k),("NoPlace",j),("NoLetters",f),("NoText",b),("Nothing",C)] x)) (caT [("WordError",CW),("NoWords",s),("NoLook",r),("NoNumbers",q),("NoRoom",p),("NoWord",o),("NoWorths",i),("Never",m),("Full",l),("Known",k),("NoPlace",j),("NoLetters",f),("NoText",b),("Nothing",C)])/\qfI (caT [("WordError",CW),("NoWords",s),("NoLook",r),("NoNumbers",q),("NoRoom",p),("NoWord",o),("NoWorths",i),("Never",m),("Full",l),("Known",k),("NoPlace",j),("NoLetters",f),("NoText",b),("Nothing",C)]):=by
  obtain ⟨nd,z⟩:=qdb ex;generalize hT:([("WordError",CW),("NoWords",s),("NoLook",r),("NoNumbers",q),("NoRoom",p),("NoWord",o),("NoWorths",i),("Never",m),("Full",l),("Known",k),("NoPlace",j),("NoLetters",f),("NoText",b),("Nothing",C)]:List (Str×Addr))=T;have W:caT T "WordError"=CW:=by subst hT; kernel_rfl
  have V:caT T "NoWords"=s:=by subst hT; kernel_rfl
  have e1:caT T "NoLook"=r:=by subst hT; kernel_rfl
  have U:caT T "NoNumbers"=q:=by subst hT; kernel_rfl
  have Q:caT T "NoRoom"=p:=by subst hT; kernel_rfl
  have P:caT T "NoWord"=o:=by subst hT; kernel_rfl
  have B:caT T "NoWorths"=i:=by subst hT; kernel_rfl
  have R:caT T "Never"=m:=by subst hT; kernel_rfl
  have O:caT T "Full"=l:=by subst hT; kernel_rfl
  have N:caT T "Known"=k:=by subst hT; kernel_rfl
  have L:caT T "NoPlace"=j:=by subst hT; kernel_rfl
  have w:caT T "NoLetters"=f:=by subst hT; kernel_rfl
  have v:caT T "NoText"=b:=by subst hT; kernel_rfl
  have u:caT T "Nothing"=C:=by subst hT; kernel_rfl
  have J:CS.map (caT T)=[s,r,q,p,o,i,m,l,k,j,f,b,C]:=by unfold CS;simp only [aE,cg,V,e1,U,Q,P,B,R,O,N,L,w,v,u]
  have n:∀ c∈CS,caT T c∈[s,r,q,p,o,i,m,l,k,j,f,b,C]:=λc g=>J ▸ af.mpr ⟨c,g,rfl⟩;refine ⟨⟨⟨λc g=>rfl,λc g=>?_,λc g=>(z _ (n c g)).1,λc g d hd=>(z _ (n c g)).2.2.2.2 _ (n d hd),λc g=>(z _ (n c g)).2.2.1⟩,λc g=>?_,λc g=>(z _ (n c g)).2.2.2.1,λx hx=>absurd hx (by simp [FS]),?_,iL X G z_ValueError,iL X G z_all,iL X G z_bool,iL X G z_dict,iL X G z_enumerate,iL X G z_int,iL X G z_isinstance,iL X G z_len,iL X G z_list,iL X G z_max,iL X G z_min,iL X G z_range,iL X G z_reversed,iL X G z_set,iL X G z_sorted,iL X G z_str,iL X G z_tuple,⟨_,j8 X G c_LEAST_PLACE⟩,⟨_,j8 X G c_MOST_LETTERS⟩,⟨_,j8 X G c_MOST_PLACE⟩,⟨_,j8 X G c_MOST_ROOM⟩,⟨_,j8 X G c_MOST_WORDS⟩,?sX5⟩,λx hx y Y e=>?_⟩
  case sX5=>rw [B]; exact A
  · show bG K (.ref (caT T c)) (.ref (caT T "WordError"))=ip iA;rw [W];exact (z _ (n c g)).2.1
  · rcases qhG g with rfl | rfl | rfl | rfl | rfl | rfl | rfl | rfl | rfl | rfl | rfl | rfl | rfl;· rw [V]; exact j8 X G a0
    · rw [e1]; exact j8 X G a1
    · rw [U]; exact j8 X G a2
    · rw [Q]; exact j8 X G a3
    · rw [P]; exact j8 X G a4
    · rw [B]; exact j8 X G a5
    · rw [R]; exact j8 X G a6
    · rw [O]; exact j8 X G a7
    · rw [N]; exact j8 X G a8
    · rw [L]; exact j8 X G F
    · rw [w]; exact j8 X G I
    · rw [v]; exact j8 X G H
    · rw [u]; exact j8 X G D
  · show mg "WordError"=ip (.ref (caT T "WordError"));rw [W];exact j8 X G Z
  ·
    rw [<-J] at nd;exact qbt nd hx Y e
structure Tx (K:Frag) (mg:Str->Option iu) (ca:Str->Addr):Prop where
 x_is_between:qY K mg "is_between" vS ["thing", "least", "most"]
 x_is_letter:qY K mg "is_letter" wP ["thing"]
 x_is_word:qY K mg "is_word" wB ["thing"]
 x_is_words:qY K mg "is_words" vx ["thing"]
 x_check_words:qY K mg "check_words" vm ["thing"]
 x_is_look:qY K mg "is_look" wC ["thing"]
 x_check_look:qY K mg "check_look" vV ["thing"]
 x_letter_at:qY K mg "letter_at" wS ["word", "place"]
 x_pairs:qY K mg "pairs" zc ["words", "look"]
 x_letters_of:qY K mg "letters_of" jA ["seen"]
 x_other_letter:qY K mg "other_letter" kR ["pair", "letter"]
 x_spread:qY K mg "spread" gl ["seen", "root", "ways"]
 x_ways_of:qY K mg "ways_of" xG ["seen"]
 x_circles_of:qY K mg "circles_of" vX ["seen", "ways"]
 x_is_odd:qY K mg "is_odd" gn ["walk"]
 x_first_odd:qY K mg "first_odd" wX ["circles"]
 x_comes_to:qY K mg "comes_to" yl ["walk", "numbers", "start"]
 x_half:qY K mg "half" Xd ["total", "room"]
 x_root_worths:qY K mg "root_worths" vo ["walk", "room", "numbers"]
 x_roots_of:qY K mg "roots_of" kl ["seen", "room", "numbers"]
 x_worths_from:qY K mg "worths_from" vt ["seen", "room", "numbers", "starts"]
 x_check_room:qY K mg "check_room" vZ ["thing"]
 x_is_numbers:qY K mg "is_numbers" km ["thing", "count", "room"]
 x_check_numbers:qY K mg "check_numbers" kC ["thing", "count", "room"]
 x_told_pairs:qY K mg "told_pairs" wb ["words", "look", "room", "numbers"]
 x_bars:qY K mg "bars" Xe ["walk", "room", "numbers"]
 x_bar_of:qY K mg "bar_of" ym ["seen", "room", "numbers"]
 x_bar:qY K mg "bar" qcD ["words", "look", "room", "numbers"]
 x_how_many:qY K mg "how_many" yn ["words", "look", "room", "numbers"]
 x_starts_at:qY K mg "starts_at" ug ["roots", "at"]
 x_worths_at:qY K mg "worths_at" uh ["words", "look", "room", "numbers", "at"]
 x_Lcell_at:qY K mg "_law_cell_at" yp ["_law_script", "_law_k"]
 x_Lmixed:qY K mg "_law_mixed" gt ["_law_script", "_law_k", "_law_many"]
 x_Ldraw:qY K mg "_law_draw" Ko ["_law_script", "_law_town", "_law_many"]
 x_Lpick:qY K mg "_law_pick" Kp ["_law_script", "_law_town", "_law_some"]
 x_Lat:qY K mg "_law_at" ZA ["_law_word_here", "_law_place"]
 x_Lseen:qY K mg "_law_seen" zk ["_law_words_here", "_law_look_here"]
 x_Lby:qY K mg "_law_by" ZB ["_law_words_here", "_law_look_here", "_law_room", "_law_book"]
 x_Lword:qY K mg "_law_word" zl ["_law_script", "_law_town", "_law_letters_here", "_law_most"]
 x_Lwords:qY K mg "_law_words" gx ["_law_script", "_law_town", "_law_most"]
 x_Llook:qY K mg "_law_look" Kv ["_law_script", "_law_town"]
 x_Lletters:qY K mg "_law_letters" yq ["_law_words_here", "_law_look_here"]
 x_Ltold:qY K mg "_law_told" zn ["_law_script", "_law_town", "_law_most", "_law_wide"]
 x_Levery:qY K mg "_law_every" yr ["_law_words_here", "_law_look_here", "_law_room"]
 x_is_worth:qY K mg "is_worth" yt ["thing", "room"]
 x_is_worths:qY K mg "is_worths" jR ["thing", "room"]
 x_check_worths:qY K mg "check_worths" kT ["thing", "room"]
 x_within:qY K mg "within" gz ["total", "room"]
 x_numbered:qY K mg "numbered" kn ["words", "look", "room", "worths"]
 x_is_telling:qY K mg "is_telling" we ["words", "look", "room", "numbers", "thing"]
 x_place_of:qY K mg "place_of" yw ["words", "look", "room", "numbers", "thing"]
 x_Lwhich:qY K mg "_law_which" gB ["_law_e"]
 x_Lask:qY K mg "_law_ask" Xo ["_law_names", "_law_look_here", "_law_room", "_law_numbers", "_law_thing"]
variable {cv:Str->iu} {ca:Str->Addr}
theorem qhH {P:iE} {w:iF} {base:Heap} {f:Addr} {fd:iZ} (Z:Zt K mg cv ca) (T:Tx K mg ca) (F:Fun K "law" "law" KH f fd):FnOk P w K mg base (CXk P w) 10 f fd ["_law_script"] (spD K cv [.val] .sh (qcQ ca)):=by have o:=JW (P:=P) (w:=w) (base:=base) Z T.x_is_between ;have r:=VX (P:=P) (w:=w) (base:=base) Z T.x_is_letter ;have N:=Zw (P:=P) (w:=w) (base:=base) Z T.x_is_word r;have I:=Um (P:=P) (w:=w) (base:=base) Z T.x_is_words N;have u:=QQ (P:=P) (w:=w) (base:=base) Z T.x_check_words I;have O:=Zy (P:=P) (w:=w) (base:=base) Z T.x_is_look o;have z:=JY (P:=P) (w:=w) (base:=base) Z T.x_check_look O;have C:=VY (P:=P) (w:=w) (base:=base) Z T.x_letter_at ;have s:=qcC (P:=P) (w:=w) (base:=base) Z T.x_pairs u z C;have a:=Ka (P:=P) (w:=w) (base:=base) Z T.x_letters_of ;have n:=Ql (P:=P) (w:=w) (base:=base) Z T.x_other_letter ;have R:=qar (P:=P) (w:=w) (base:=base) Z T.x_spread n;have h:=Zz (P:=P) (w:=w) (base:=base) Z T.x_ways_of a R;have g:=Ke (P:=P) (w:=w) (base:=base) Z T.x_circles_of ;have j:=qat (P:=P) (w:=w) (base:=base) Z T.x_is_odd ;have i:=Wa (P:=P) (w:=w) (base:=base) Z T.x_first_odd j;have d:=Uq (P:=P) (w:=w) (base:=base) Z T.x_comes_to ;have o_half:=qeW (P:=P) (w:=w) (base:=base) Z T.x_half ;have t:=QR (P:=P) (w:=w) (base:=base) Z T.x_root_worths d o_half;have c:=Ur (P:=P) (w:=w) (base:=base) Z T.x_roots_of h g i t;have q:=QS (P:=P) (w:=w) (base:=base) Z T.x_worths_from d h;have m:=Kg (P:=P) (w:=w) (base:=base) Z T.x_check_room o;have y:=Ki (P:=P) (w:=w) (base:=base) Z T.x_is_numbers o;have k:=zW (P:=P) (w:=w) (base:=base) Z T.x_check_numbers y;have e:=Kj (P:=P) (w:=w) (base:=base) Z T.x_told_pairs m k s;have o_bars:=qeX (P:=P) (w:=w) (base:=base) Z T.x_bars d j;have S:=qay (P:=P) (w:=w) (base:=base) Z T.x_bar_of j o_bars h g i;have o_bar:=qg3 (P:=P) (w:=w) (base:=base) Z T.x_bar e S;have J:=Us (P:=P) (w:=w) (base:=base) Z T.x_how_many s o_bar c;have B:=Wc (P:=P) (w:=w) (base:=base) Z T.x_starts_at ;have A:=We (P:=P) (w:=w) (base:=base) Z T.x_worths_at o s c q J B;have M:=Uu (P:=P) (w:=w) (base:=base) Z T.x_Lcell_at ;have W:=qaz (P:=P) (w:=w) (base:=base) Z T.x_Lmixed M;have b:=qcF (P:=P) (w:=w) (base:=base) Z T.x_Ldraw W;have v:=qcH (P:=P) (w:=w) (base:=base) Z T.x_Lpick b;have o_Lat:=qg5 (P:=P) (w:=w) (base:=base) Z T.x_Lat ;have L:=qcJ (P:=P) (w:=w) (base:=base) Z T.x_Lseen o_Lat;have o_Lby:=qg7 (P:=P) (w:=w) (base:=base) Z T.x_Lby L;have Y:=qcM (P:=P) (w:=w) (base:=base) Z T.x_Lword b v;have U:=qaF (P:=P) (w:=w) (base:=base) Z T.x_Lwords b v Y;have o_Llook:=qcO (P:=P) (w:=w) (base:=base) Z T.x_Llook b;have l:=UC (P:=P) (w:=w) (base:=base) Z T.x_Lletters L;have o_Ltold:=qcP (P:=P) (w:=w) (base:=base) Z T.x_Ltold b U o_Llook l o_Lby;have X:=qaH (P:=P) (w:=w) (base:=base) Z T.x_Levery l;have H:=UG (P:=P) (w:=w) (base:=base) Z T.x_is_worth o r;have D:=Wi (P:=P) (w:=w) (base:=base) Z T.x_is_worths H;have p:=Qu (P:=P) (w:=w) (base:=base) Z T.x_check_worths D;have Q:=qaJ (P:=P) (w:=w) (base:=base) Z T.x_within ;have G:=UH (P:=P) (w:=w) (base:=base) Z T.x_numbered m p s a Q;have x:=KB (P:=P) (w:=w) (base:=base) Z T.x_is_telling G e;have E:=UI (P:=P) (w:=w) (base:=base) Z T.x_place_of s a c x;have V:=qaK (P:=P) (w:=w) (base:=base) Z T.x_Lwhich ;have o_Lask:=qe2 (P:=P) (w:=w) (base:=base) Z T.x_Lask E V;exact qg8 Z F A b v o_Lby o_Ltold X o_Lask
def qdc (K:Frag):Sp:=λvs H Q _=>∃ (a:Addr) (ns:List Int),vs=[.ref a]/\SqL K H a (ns.map V.int)/\∀ H',Q (.bl iA) H'
theorem XO {F:Hp}:∀ ns:List Int,IsL K F (ns.map V.int) (ns.map D.int)
 | []=>.nil
 | n::ns=>.cons (.int n) (XO ns)
theorem qi9 (h:qfI ca) (vs:List V) (H:Hp) (Q:VK) (E:XK) (q:qdc K vs H Q E):spD K cv [.val] .sh (qcQ ca) vs H Q E:=by obtain ⟨a,ns,rfl,c,hq⟩:=q;refine ⟨H,[scr ns],Same.refl _,⟨.lst c (XO ns),trivial⟩,cP,?_⟩;rw [qhE h ns];intro v F' H' p o z y;have y:Is K F' v (.bl iA):=y;cases y;exact hq H'
abbrev NsX (K:Frag) (x:Str) (f:Addr):Prop:=nsIn K mainGlobals x=ip (ip (.ref f))
abbrev CdX (K:Frag) (v:iu) (x:Str):Prop:=codeIn K v x=iA
abbrev KpX (K:Frag) (f:Addr):Prop:=keepIn K (.ref f)=iA
abbrev LkX (K:Frag) (x:Str) (st:Stmt) (f:Addr) (oc:iu) (od an:Option Addr) (sl:Array (Option iu)) (kV d pm cd ct:iu):Prop:=K.lookup f=ip ⟨oc,od,.func (cf x x (uB st) (vb st) (qf st) .none kV d pm an cd ct),sl⟩
def Dx (K:Frag) (x:Str) (st:Stmt):Prop:=∃ (f:Addr) (oc:iu) (od an:Option Addr) (sl:Array (Option iu)) (kV d pm cd ct:iu),NsX K x f/\LkX K x st f oc od an sl kV d pm cd ct/\CdX K cd x/\KpX K f
theorem ja (X:K.In h) (G:h.Ns mainGlobals mg) {st:Stmt} {ps:List Str} (q:Dx K x st) (d:∀ (kV doc pm:iu) (an:Option Addr) (cdv ct:iu) (us:List iu),us.length=ps.length->bindArgs (cf x x (uB st) (vb st) (qf st) .none kV doc pm an cdv ct) ⟨us,[]⟩=pure (ps.zip us):=by
  intro _ _ _ _ _ _ us hl;first | refine qjy (P:=λus=>bindArgs _ ⟨us,[]⟩=pure (g6 _ us)) hl ?_ | refine qjz (P:=λus=>bindArgs _ ⟨us,[]⟩=pure (g6 _ us)) hl ?_ | refine qjA (P:=λus=>bindArgs _ ⟨us,[]⟩=pure (g6 _ us)) hl ?_ | refine qjB (P:=λus=>bindArgs _ ⟨us,[]⟩=pure (g6 _ us)) hl ?_ | refine qjC (P:=λus=>bindArgs _ ⟨us,[]⟩=pure (g6 _ us)) hl ?_ | refine qj2 (P:=λus=>bindArgs _ ⟨us,[]⟩=pure (g6 _ us)) hl ?_
  all_goals intros; rfl):qY K mg x st ps:=by
 obtain ⟨f,oc,od,an,sl,kV,b,pm,cd,ct,a,l,c,k⟩:=q;exact qfz X G a l c k d
theorem qhI {l:fY} {w:iF} {fa:Addr} (X:K.In h) (G:h.Ns mainGlobals mg) (hfa:mg "law"=ip (.ref fa)) {CW C0 C1 C2 C3 C4 j C6 C7 C8 C9 f c C:Addr} {a t b M S:Tok}
  (aW:nsIn K mainGlobals "WordError"=ip (ip (.ref CW)))
  (a0:nsIn K mainGlobals "NoWords"=ip (ip (.ref C0)))
  (a1:nsIn K mainGlobals "NoLook"=ip (ip (.ref C1)))
  (a2:nsIn K mainGlobals "NoNumbers"=ip (ip (.ref C2)))
  (a3:nsIn K mainGlobals "NoRoom"=ip (ip (.ref C3)))
  (a4:nsIn K mainGlobals "NoWord"=ip (ip (.ref C4)))
  (a5:nsIn K mainGlobals "NoWorths"=ip (ip (.ref j)))
  (a6:nsIn K mainGlobals "Never"=ip (ip (.ref C6)))
  (a7:nsIn K mainGlobals "Full"=ip (ip (.ref C7)))
  (a8:nsIn K mainGlobals "Known"=ip (ip (.ref C8)))
  (a9:nsIn K mainGlobals "NoPlace"=ip (ip (.ref C9)))
  (a10:nsIn K mainGlobals "NoLetters"=ip (ip (.ref f)))
  (a11:nsIn K mainGlobals "NoText"=ip (ip (.ref c)))
  (a12:nsIn K mainGlobals "Nothing"=ip (ip (.ref C)))
  (z_ValueError:nsIn K mainGlobals "ValueError"=ip iq)
  (z_all:nsIn K mainGlobals "all"=ip iq)
  (z_bool:nsIn K mainGlobals "bool"=ip iq)
  (z_dict:nsIn K mainGlobals "dict"=ip iq)
  (z_enumerate:nsIn K mainGlobals "enumerate"=ip iq)
  (z_int:nsIn K mainGlobals "int"=ip iq)
  (z_isinstance:nsIn K mainGlobals "isinstance"=ip iq)
  (z_len:nsIn K mainGlobals "len"=ip iq)
  (z_list:nsIn K mainGlobals "list"=ip iq)
  (z_max:nsIn K mainGlobals "max"=ip iq)
  (z_min:nsIn K mainGlobals "min"=ip iq)
  (z_range:nsIn K mainGlobals "range"=ip iq)
  (z_reversed:nsIn K mainGlobals "reversed"=ip iq)
  (z_set:nsIn K mainGlobals "set"=ip iq)
  (z_sorted:nsIn K mainGlobals "sorted"=ip iq)
  (z_str:nsIn K mainGlobals "str"=ip iq)
  (z_tuple:nsIn K mainGlobals "tuple"=ip iq)
  (c_LEAST_PLACE:nsIn K mainGlobals "LEAST_PLACE"=ip (ip (.int (-3) a)))
  (c_MOST_LETTERS:nsIn K mainGlobals "MOST_LETTERS"=ip (ip (.int 6 t)))
  (c_MOST_PLACE:nsIn K mainGlobals "MOST_PLACE"=ip (ip (.int 2 b)))
  (c_MOST_ROOM:nsIn K mainGlobals "MOST_ROOM"=ip (ip (.int 99 M)))
  (c_MOST_WORDS:nsIn K mainGlobals "MOST_WORDS"=ip (ip (.int 6 S)))
  (ex:qda K [C0,C1,C2,C3,C4,j,C6,C7,C8,C9,f,c,C] CW=iA)
  (A:bG K (.ref j) (.ref j)=ip iA)
  (q0:Dx K "is_between" vS)
  (q1:Dx K "is_letter" wP)
  (q2:Dx K "is_word" wB)
  (q3:Dx K "is_words" vx)
  (q4:Dx K "check_words" vm)
  (q5:Dx K "is_look" wC)
  (q6:Dx K "check_look" vV)
  (q7:Dx K "letter_at" wS)
  (q8:Dx K "pairs" zc)
  (q9:Dx K "letters_of" jA)
  (q10:Dx K "other_letter" kR)
  (q11:Dx K "spread" gl)
  (q12:Dx K "ways_of" xG)
  (q13:Dx K "circles_of" vX)
  (q14:Dx K "is_odd" gn)
  (q15:Dx K "first_odd" wX)
  (q16:Dx K "comes_to" yl)
  (q17:Dx K "half" Xd)
  (q18:Dx K "root_worths" vo)
  (q19:Dx K "roots_of" kl)
  (q20:Dx K "worths_from" vt)
  (q21:Dx K "check_room" vZ)
  (q22:Dx K "is_numbers" km)
  (q23:Dx K "check_numbers" kC)
  (q24:Dx K "told_pairs" wb)
  (q25:Dx K "bars" Xe)
  (q26:Dx K "bar_of" ym)
  (q27:Dx K "bar" qcD)
  (q28:Dx K "how_many" yn)
  (q29:Dx K "starts_at" ug)
  (q30:Dx K "worths_at" uh)
  (q31:Dx K "_law_cell_at" yp)
  (q32:Dx K "_law_mixed" gt)
  (Y:Dx K "_law_draw" Ko)
  (W:Dx K "_law_pick" Kp)
  (V:Dx K "_law_at" ZA)
  (U:Dx K "_law_seen" zk)
  (R:Dx K "_law_by" ZB)
  (O:Dx K "_law_word" zl)
  (N:Dx K "_law_words" gx)
  (L:Dx K "_law_look" Kv)
  (J:Dx K "_law_letters" yq)
  (I:Dx K "_law_told" zn)
  (D:Dx K "_law_every" yr)
  (B:Dx K "is_worth" yt)
  (z:Dx K "is_worths" jR)
  (y:Dx K "check_worths" kT)
  (x:Dx K "within" gz)
  (u:Dx K "numbered" kn)
  (r:Dx K "is_telling" we)
  (p:Dx K "place_of" yw)
  (o:Dx K "_law_which" gB)
  (n:Dx K "_law_ask" Xo)
  (m:Dx K "law" KH) :
  ∃ fd:iZ,(∀ (s:iB) (v:iu),lm s fd ⟨[v],[]⟩ [("_law_script",v)])/\∀ base:Heap,K.In base->base.Ns mainGlobals mg->FnOk l.prog w K mg base (CXk l.prog w) 10 fa fd ["_law_script"] (qdc K):=by
 obtain ⟨f53,_,_,_,_,_,_,_,_,_,i,d,g,k⟩:=m;have e:=hfa.symm.trans (j8 X G i);cases e;obtain ⟨Z,cok⟩:=qi8 X G aW a0 a1 a2 a3 a4 a5 a6 a7 a8 a9 a10 a11 a12 z_ValueError z_all z_bool z_dict z_enumerate z_int z_isinstance z_len z_list z_max z_min z_range z_reversed z_set z_sorted z_str z_tuple c_LEAST_PLACE c_MOST_LETTERS c_MOST_PLACE c_MOST_ROOM c_MOST_WORDS ex A;have T:Tx K mg (caT [("WordError",CW),("NoWords",C0),("NoLook",C1),("NoNumbers",C2),("NoRoom",C3),("NoWord",C4),("NoWorths",j),("Never",C6),("Full",C7),("Known",C8),("NoPlace",C9),("NoLetters",f),("NoText",c),("Nothing",C)]):=⟨ja X G q0,ja X G q1,ja X G q2,ja X G q3,ja X G q4,ja X G q5,ja X G q6,ja X G q7,ja X G q8,ja X G q9,ja X G q10,ja X G q11,ja X G q12,ja X G q13,ja X G q14,ja X G q15,ja X G q16,ja X G q17,ja X G q18,ja X G q19,ja X G q20,ja X G q21,ja X G q22,ja X G q23,ja X G q24,ja X G q25,ja X G q26,ja X G q27,ja X G q28,ja X G q29,ja X G q30,ja X G q31,ja X G q32,ja X G Y,ja X G W,ja X G V,ja X G U,ja X G R,ja X G O,ja X G N,ja X G L,ja X G J,ja X G I,ja X G D,ja X G B,ja X G z,ja X G y,ja X G x,ja X G u,ja X G r,ja X G p,ja X G o,ja X G n⟩
 have F:=Gf (st:=KH) d g k;exact ⟨_,λs v=>.of_eq rfl,λbase _ _=>(qhH (P:=l.prog) (w:=w) (base:=base) Z T F).imp λvs H Q E q=>qi9 cok vs H Q E q⟩
theorem qj3 {l:fY} {q:iE} {loose:List Str} {XP:(Str->Option iu)->Heap->Prop} {YP:iF->Heap->Prop} {d:DefRec} {K:la->Frag} (b:l.most=ip 63) (hdf:d.params.defaults=[])
  (D:∀ (w:iF) (h:Heap),YP w h->(K w.params).In h)
  (F:∀ (w:iF) (mg:Str->Option iu) (fa:Addr) (h:Heap),(K w.params).In h->h.Ns mainGlobals mg->mg d.name=ip (.ref fa) ->∃ fd:iZ,(∀ (s:iB) (u:iu),lm s fd ⟨[u],[]⟩ [("_law_script",u)])/\∀ base:Heap,(K w.params).In base->base.Ns mainGlobals mg->FnOk l.prog w (K w.params) mg base (CXk l.prog w) 10 fa fd ["_law_script"] (qdc (K w.params))) :
  PySem.W.WalkO q loose XP YP l.row.toRowW d [] (λf vs=>ij f vs):=
 L2.qee (n:=63) (k:=10) (x := "_law_script") (CX:=λw=>CXk l.prog w) (sp:=λw=>qdc (K w.params)) b (by decide) hdf ⟨rfl,by decide,by decide⟩ D F (λ_ _ a ns hl _ S=>⟨a,ns,rfl,S,λ_=>rfl⟩) λw H s e s' z=>by obtain ⟨ex,T,C,H',_,_,_,_,_,_,_,_,_,_,q⟩:=z;exact q.elim
end Kx
open PySem PySem.W PyProof.Rows
set_option maxRecDepth 100000 in
set_option maxHeartbeats 0 in
theorem PySem.Challenge.cw_lookwords_k11_whole_places_holds : PySem.Challenge.rw_lookwords_k11_whole_places.Holds := by
  refine Kx.hd ?_;k_fill
  refine Kx.qj3 (l := PySem.Challenge.rw_lookwords_k11_whole_places) rfl rfl (λw h Y => PySem.W.kIn_of Y) ?F
  case F =>
    intro w mg fa h X G g;refine' Kx.qhI X G g ?_ ?_ ?_ ?_ ?_ ?_ ?_ ?_ ?_ ?_ ?_ ?_ ?_ ?_ ?_ ?_ ?_ ?_ ?_ ?_ ?_ ?_ ?_ ?_ ?_ ?_ ?_ ?_ ?_ ?_ ?_ ?_ ?_ ?_ ?_ ?_ ?_ ?_ ?_ ?_ ?_ ?_ ?_ ?_ ?_ ?_ ?_ ?_ ?_ ?_ ?_ ?_ ?_ ?_ ?_ ?_ ?_ ?_ ?_ ?_ ?_ ?_ ?_ ?_ ?_ ?_ ?_ ?_ ?_ ?_ ?_ ?_ ?_ ?_ ?_ ?_ ?_ ?_ ?_ ?_ ?_ ?_ ?_ ?_ ?_ ?_ ?_ ?_ ?_ ?_ ?_ ?_;all_goals try first | k_is | exact ⟨_, _, _, _, _, _, _, _, _, _, by unfold Kx.NsX; k_is, by unfold Kx.LkX; k_is, by unfold Kx.CdX; k_is, by unfold Kx.KpX; k_is⟩ | kernel_rfl
