import PyProof.Rows.All
import KE.KTryMore
import KE.KDictOf
import KE.KRevSl
import KE.KRevIter
import KE.KSortTup
import KE.KItemsList
import PySem.Challenge.RW_lookwords_k04_whole_bars
open Option renaming some→ii,none→ij
open PySem renaming wpAny_bind→im,Value→ip,Shared→iu,wpAny_pure→iw,wpAny→iy,starEach→iA,mainGlobals→iB,bootBuiltins→iC,Program→iE,sizeLine_eq→iF,World→iG,wpAny_newObj_type→iH,compareOp→iI,wpAny_call_entry→iJ,wpAny_callSpecial?_slot→iK,Around→iL,wpAny_seqItems→iM,wpAny_field→iO,wpAny_holding→iP,codeAny_builtin→iQ,rawInt→iR,wpAny_askSetting→iS,wpAny_setState_of→iU,builtinLookup_eq_fast→iV,binaryOp→iW,cLine→iX,wpAny_truthy_bool→iY,backTo→iZ,wpAny_isInstance→i4,sysModules→i5,assignEach→i6,wpAny_Call_Name_kw→i7,wpAny_setField→i8,wpAny_setField_rec→i9,wpAny_passesOwn→j3,OsState→j4,foldedSetIterable→j5,wpAny_mono→j6,attributeBase→j7,wpAny_attempt→j8,plainId_quiet→j9,IsPair→k6,Keyword→k7,wpAny_setEntries_of→k8,pyNext→k9,NameKind→la,tupleKind_room_in1→lf,wpAny_typeOf→lg,wpAny_pyIter_tuple→lh,FuncData→li,typeLookup_type→lj,swapsWith→ll,keywordEach→lm,wpAny_rule→lq,isSubtype_type→lr,firstArgMember→lu,behindInMarks→lw,bindArgs→lx,codeAny→lz,getattributeRaised→lA,treeTable→lB,sliceBounds→lC,pickOrder→lE,fits_of_scanBound→lF,Scope→lG,IsPart→lH,call_meets→lI,scanBound→lJ,SetTable→lL,importedModules→lM,wpAny_execs_nil→lN,letOwnedTupleGo→lO,wpAny_loadPart'→lP,codeAny_mono→lR,Params→lS,typeLookup→lT,backToKw→lU,wpAny_fieldsOf→lV,setsByText→lW,IsZip→lX,wpAny_newList→lZ,wpAny_onRaise→l0,tupleKind→l4,relayAll→l5,concat_meets→l8,call_meetsIn→l9,setNext→md,Paired→mj,wpAny_of_eq→ml,wpAny_letGo→mm,DictEntry→mn,getItem→mq,callerA→my,valueAt→mz,pyIter→mB,setEntries→mC,GenState→mD,BindsTo→mE,getAttr?→mG,ItemsOf→mH
open Bool renaming false→iq,true→ir
open PySem.W renaming mg_none_of→iN,boot_heap→j0,behindTheImports→lv,openGood→lK,mg_of→l6,boot_drawn→l7,topFrame→mi
open PyProof.Rows renaming seqObj→iT,AllBare→lQ,envOfC→lY,StrsAre→mh,tail_any→mF
open PySem.Heap renaming get?_push_of_some→aa,get?_push_size→aj,lt_size→ay,get?_update_self→bp,size_push→bu,SameBut→bJ,get?_update_other→dm,get?_push_ne→eY,ExtBut→f9
open List renaming mem_cons→ac,length_append→ae,mem_cons_of_mem→af,length_cons→ah,mem_append→ao,mem_cons_self→aq,size_toArray→au,mem_map→aw,mem_singleton→aA,length_map→aB,getElem?_set_ne→aC,getElem?_eq_getElem→aE,getElem?_eq_some_iff→aF,getElem?_map→aG,map_cons→aH,replicate→aJ,all_eq_true→aL,not_mem_nil→aM,getElem?_set_self→aN,range→aP,length_nil→aQ,nodup_cons→aR,append_assoc→aU,mem_append_right→aV,append_nil→be,pairwise_cons→bf,filterMap_cons→bq,mem_of_find?_eq_some→bA,map_map→bH,mem_append_left→bI,map_nil→bO,find?_cons_of_neg→bR,nodup_append→bT,mem_filter→bV,nil_append→bW,getElem?_eq_none_iff→bX,getElem?_eq_none→bY,lookup_cons→bZ,getElem_mem→ce,mem_range→cj,mem_of_getElem?→ck,nodup_nil→cm,getElem?_replicate→cq,length_range→cu,foldl_cons→cy,length_reverse→cA,replicate_zero→cC,find?_cons_of_pos→cF,any_cons→cG,getElem?_append_right→cH,length_filter_le→cK,find?_cons→cL,reverse_cons→cP,replicate_succ→cZ,length_eq_zero_iff→db,cons_append→dg,zip_cons_cons→dq,find?_eq_none→dA,of_mem_zip→dB,flatten_cons→dF,zipIdx_cons→dL,toArray→dN,getElem?_append_left→dO,map_congr_left→dS,pairwise_singleton→ej,ext_getElem?→eX,length_pos_of_mem→eZ,length_replicate→e7,getElem?_toArray→e9,length_take→fg,take_length→fh,countP_cons→fj,getElem?_of_mem→fq,mem_iff_getElem→fy,length_set→fz,map_append→fA,find?_some→fB,length_zipWith→fC,mem_filterMap→fE,length_zipIdx→fG,length→fI,all_cons→fP,getElem_inj→fR,mem_reverse→fS,zip→fU,forIn_cons→fY,mem_zipIdx→fZ
open Nat renaming le_refl→ax,ne_of_lt→aD,lt_of_lt_of_le→aI,zero_le→bh,le_trans→bN,lt_irrefl→cg,ne_of_gt→ci,lt_succ_of_lt→cr,le_of_lt→dJ,le_add_right→dM,lt_trans→eJ,sub_self→e6,le_succ→fJ,le_of_eq→fW
open Option renaming some→aK,map_eq_some_iff→aT,bind_eq_some_iff→aY,isSome_map→fK
open PySem.PassesOwn renaming leaving→aO
open Bool renaming and_eq_true→aS,false_ne_true→bC,false_eq_true→fF,not_eq_true'→fL
open PySem.Value renaming ref→aX,none→cw,isStrOf_shape→cW,bool→dG,str→d7,isStrOf→fN,type→g8,int→hV
open Or renaming inl→aZ,inr→cf
open PySem.Str renaming ofString→bg,length→fV
open PySem.Builtin.SmallTypes renaming nextOf→bi,ownedTupleIsFree→bM
open PySem.W renaming hideAll→bj,exmOne→bS,fnOf→cE,kitOne→cI,kia_one→cM,hideAll_none→cO,hideAll_get→cX,excIn→dX,of_hideAll→d6,methodObj→fH,OpenLaw→fX
open Sum renaming inr→bn,inl→fm
open PySem.Builtin.List renaming listExtendWith→bo,listTooLong→cR,listSameRef→cU
open PySem.Heap.SameBut renaming update→bt
open PySem.SetTable renaming below→bv,grown→df,laid→g0
open Ne renaming symm→bw
open PySem.Around renaming under_plainId→bx
open PySem.Builtin.Slice renaming sliceAdjust→bz,slicePlaces→dP
open PySem.NameKind renaming free→bD
open Array renaming length_toList→bE,getElem?_toList→bF,getElem?_eq_getElem→bL,getElem?_eq_none→dn,mk→f7
open PyProof.Rows renaming callWith_type1→bG,slot_tuple_getitem→cV
open Classical renaming byContradiction→bK
open PySem.F renaming called_set→bP,slot_tuple_iterator_next→bU,slot_zip_next→dD,slot_tuple_getattribute→dQ,args_tuple_add_2→dU,slot_list_getattribute→dY,entry_tuple_add→d8,plainAttrs_dict→d9,plainAttrs_list→eh,slot_tuple_add→eG,slot_dict_get→e8
open PySem.Obj renaming mapSeq→bQ,putSet→g9
open ForInStep renaming yield→cx
open PySem.Builtin.Frozenset renaming updateFrom→cz
open List.Perm renaming refl→cJ
open Int renaming emod_eq_of_lt→cQ,emod_lt_of_pos→dw,emod_nonneg→dZ,emod_eq_zero_of_dvd→et,dvd_add→fM,mul_sub→ia
open True renaming intro→cS
open PySem.Builtin.Tuple renaming tupleExact→cT
open PySem renaming mem_of_lookup→cY,call→ig
open PySem.Calls renaming spliced_cons→dh,callWith_builtin→dj,evalArgs_plain→dI,call_function_entry→dR,spliced_nil→ez
open PySem.Builtin.Str renaming strSliceIndices→dE
open False renaming elim→dH
open PyProof.Rows.F renaming plain_set_update_loop→ei
open List.Pairwise renaming nil→eI
open Eq renaming trans→eU
open PySem.Paired renaming length→fO
open PySem.Shared renaming TypeIs→fQ,heap→hZ
open PySem.Txt renaming partition→g7
open Prod renaming ext→ic
theorem Aa {c:Prop}{h:Decidable c}(k:c){a:Sort _}{t e:a}:ite c t e=t:=if_pos k
theorem Ab {c:Prop}{h:Decidable c}(k:¬c){a:Sort _}{t e:a}:ite c t e=e:=if_neg k
theorem Ac {p:Prop}[h:Decidable p](k:¬p):decide p=false:=decide_eq_false k
theorem Ad {p:Prop}[h:Decidable p](k:p):decide p=true:=decide_eq_true k
theorem Ae {p:Prop}[h:Decidable p](k:decide p=true):p:=of_decide_eq_true k
noncomputable section
open PySem.W (Frag nsIn keepIn codeIn mg_of mg_none_of)
set_option Elab.async false
set_option linter.all false
set_option maxRecDepth 100000
namespace Kx
noncomputable section
open PySem PySem.W PySem.Calls PyProof.Rows
noncomputable def zP:Pos:=⟨0,0,0,0⟩
noncomputable def anV:Option ip:=ii (.ref 6)
noncomputable def hA (P:lS):List Obj:=(j0 P).objs.toList++[⟨.type "tuple",ij,.seq #[] 0,#[]⟩,⟨.none,ij,.fields #[],#[]⟩,
 ⟨.type "code",ij,.fields #[.str "<module>" 182,.str "<module>" 183,.str "/claim/cut.py" 184,.int 1 0,.int 0 0,.int 0 0,.int 0 0,.int 0 0,.ref 11,.bool iq,.int 181 0,.ref 12,.none,.none,.none,.none,.int 185 0,.int 1 0,.str "/claim/cut.py" 186],#[]⟩,
 ⟨.type "frame",ij,.plain,#[ii (.ref 13),ii (.ref 3),ii (.ref 3),ij,ii (.str "__main__" 164),ij,ii (.ref 0)]⟩]
noncomputable def enP (p:iE):Env:={ scope:=p.main.scope,locals:=mainNs,globals:=mainNs,cells:=[],code:=.ref 13,frame:=ii 14 }
noncomputable def cdP (p:iE):Code:=.body (lv p) (enP p)
noncomputable def trA:List Obj->Nat->BT->BT
 | [],_,t=>t
 | o::l,i,t=>trA l (i+1) (t.ins i o)
noncomputable def SA (w:iG) (os:j4):SharedT:=⟨trA (hA w.params) 0 .nil,15,(j0 w.params).life,f7 [],l7,187,os⟩
noncomputable def kH (P:lS) (s:Str) (t:Nat) (v:ip):mn:=⟨PyData.keyHash P s,.str s t,v⟩
noncomputable def eM:ip:=.str "lookwords.errors" 187
noncomputable def eT (a:List ip):Obj:=⟨.type "tuple",ij,.seq ⟨a⟩ 0,#[]⟩
noncomputable def eF (c:ip) (a:List ip):Obj:=⟨c,ij,.fields ⟨a⟩,#[]⟩
noncomputable def eB:ip:=.type "builtin_function_or_method"
noncomputable def eD (a:List mn) (n:Nat):Obj:=⟨.type "dict",ij,.dict ⟨a⟩ n,#[]⟩
noncomputable def eA (P:lS) (s:Str) (b:ip) (n t l:Nat):List Obj:=[eT [b],eF eB [.builtin "type.__prepare__",.type "type"],
 eD [kH P "__module__" (t+7) eM,kH P "__qualname__" (t+9) (.str s (t+8)),kH P "__firstlineno__" (t+11) (.int l (t+10)),kH P "__static_attributes__" (t+12) (.ref (n+7))] 4,
 eT [],eF .none [],eF (.type "code") [.str s (t+2),.str s (t+3),.str "/claim/cut.py" (t+4),.int l 0,.int 0 0,.int 0 0,.int 0 0,.int 0 0,.ref (n+3),.bool iq,.int 181 0,.ref (n+4),.none,.none,.none,.none,.int ((t+5:Nat):Int) 0,.int l 0,.str "/claim/cut.py" (t+6)],
 ⟨.type "frame",ij,.plain,#[ii (.ref (n+5)),ii (.ref 3),ii (.ref (n+2)),ij,ii eM,ij,ii (.ref 0)]⟩,eT []]
noncomputable def eC (s:Str) (b:ip) (n t:Nat) (m sub:List ip):Obj:=⟨.type "type",ij,.cls { name:=s,bases:=[b],mro:=.ref (n+9)::m,ns:=n+8,qualname:=s,subclasses:=sub },#[ii (.ref n),ij,ii (.str s t),ii (.str s (t+8)),ii (.builtin "ValueError.__new__"),ii (.bool ir)]⟩
noncomputable def eS (a:Nat):List Obj:=[eF (.type "super") [.ref a,.ref a,.ref a],eF eB [.builtin "object.__init_subclass__",.ref a]]
noncomputable def eK (P:lS) (t l:Nat) (n:Nat):List mn:=[kH P "__module__" (t+7) eM,kH P "__firstlineno__" (t+11) (.int l (t+10)),kH P "__static_attributes__" (t+12) (.ref (n+7))]
noncomputable def eV:List ip:=[.type "ValueError",.type "Exception",.type "BaseException",.type "object"]
noncomputable def eL (P:lS):List Str->Nat->Nat->Nat->List Obj
 | [],_,_,_=>[]
 | s::r,n,t,l=>eA P s (.ref 24) n t l++eD (eK P t l n++[kH P "__doc__" (t+13) .none]) 2::eC s (.ref 24) n t (.ref 24::eV) []::eS (n+9)++eL P r (n+12) (t+16) (l+2)
noncomputable def eE (P:lS):List Str->Nat->Nat->List mn
 | [],_,_=>[]
 | s::r,n,t=>kH P s (t+15) (.ref (n+9))::eE P r (n+12) (t+16)
noncomputable def eR:Nat->Nat->List ip
 | 0,_=>[]
 | k+1,n=>.ref n::eR k (n+12)
noncomputable def eQ:Nat->Nat->Nat->List ip
 | 0,_,_=>[]
 | k+1,n,l=>.int l 0::.int 0 0::.ref n::eQ k (n+12) (l+2)
noncomputable def eO (P:lS) (L:List Str):Obj:=match (boot_o_3 P).data with
 | .dict a _=>eD (kH P "__name__" 165 eM::a.toList.drop 1++kH P "WordError" 206 (.ref 24)::eE P L 28 207) (L.length+10)
 | _=>eT []
noncomputable def hC (P:lS) (L:List Str):List Obj:=(hA P).take 3++eO P L::((hA P).drop 4).take 8++eF .none (.int 2 0::.int 0 0::.ref 20::eQ L.length 33 4)::(hA P).drop 13 ++
 eA P "WordError" (.type "ValueError") 15 189 2++eD (eK P 189 2 15++[kH P "__weakref__" 203 (.ref 25),kH P "__doc__" 204 .none]) 3::eC "WordError" (.type "ValueError") 15 189 eV (eR L.length 37) ::
 eF (.type "getset_descriptor") [.str "__weakref__" 202,.ref 24,.builtin "ExceptionGroup.__weakref__",.none]::eS 24++eL P L 28 207 4
noncomputable def SC (L:List Str) (w:iG) (os:j4):SharedT:=⟨trA (hC w.params L) 0 .nil,12 * L.length+28,(j0 w.params).life,f7 [],l7,16 * L.length+207,os⟩
noncomputable def zC (L:List Str):Pos:=⟨2 * L.length+2,0,2 * L.length+3,8⟩
noncomputable def ZN (L:List Str) (p:iE) (w:iG) (M:Nat) (os:j4):Option (Flow×Code×iu):=
 (segRunT lB p w 11 anV 1 M (SC L w os) (piecesOf ((lv p).drop (L.length+2)) (enP p) (cdP p) (zC L) [mi zP])).bind λr=>
  (topRun lB p w 11 anV 5 r.2.1.abs (restOf [] (enP p) (cdP p) r.2.2.2 [mi zP])).map λs=>(r.1,r.2.2.1,s)
abbrev qeA (p:iE) (w:iG) (x:Flow×Code×iu):=
 (x.1,x.2.1,(staticsOk (lM p.main.body) (j0 w.params) x.2.2.heap&&namesBound p x.2.2.heap&&gensDone x.2.2&&laidKept (j0 w.params) x.2.2.heap))
abbrev KR (p q:iE) (loose:List Str) (Xt:iu->Bool) (x:Flow×Code×iu):=openSeen q loose (lM p.main.body) Xt ir x.2.2
theorem left_T {L:List Str} {p q:iE} {loose:List Str} {Xt:iu->Bool} {α:Type} {Yf:iu->α} {Ya:iG->α} {N M:Nat}
  (e:opening p=plainProg p.main.scope.names) (hN:Nat.ble 600 N=ir) (f:∀ s,fenceModules? p s=ii s)
  (size:∀ w:iG,((j0 w.params).isNs iB&&(f7 []:Array mD).size == 0,(j0 w.params).objs.size,(j0 w.params).nsMap iB "__annotations__")=(ir,11,anV))
  (pre:∀ (w:iG) (os:j4),topGo lB p w 11 anV 12 ⟨j0 w.params,f7 [],l7,boot_toks,os⟩ (topStub p)=ii ((SA w os).abs,⟨denote lB (cdP p),cdP p,zP,[mi zP]⟩))
  (blk:∀ (w:iG) (os:j4),segRun lB p w 11 anV 1 1 (SA w os).abs (blockOf (lv p) (enP p) (cdP p) zP [mi zP])=ii (.next,(SA w os).abs,cdP p,zP))
  (le:Nat.ble (12+(1+(3500+(M+5)))) N=ir)
  (m6:∀ (w:iG) (os:j4),segRunT lB p w 11 anV 1 3500 (SA w os) (piecesOf ((lv p).take (L.length+2)) (enP p) (cdP p) zP [mi zP])=ii (.next,SC L w os,cdP p,zC L))
  (m0:∀ (w:iG) (os:j4),(ZN L p w M os).map (qeA p w)=ii (.next,cdP p,ir))
  (m1:∀ (w:iG) (os:j4),(ZN L p w M os).map (λx=>(KR p q loose Xt x).1)=ii (lK q loose).1)
  (m3:∀ (w:iG) (os:j4),(ZN L p w M os).map (λx=>(KR p q loose Xt x).2.1)=ii (lK q loose).2.1)
  (m4:∀ (w:iG) (os:j4),(ZN L p w M os).map (λx=>(KR p q loose Xt x).2.2.1)=ii (lK q loose).2.2.1)
  (m5:∀ (w:iG) (os:j4),(ZN L p w M os).map (λx=>(KR p q loose Xt x).2.2.2)=ii (lK q loose).2.2.2)
  (m2:∀ (w:iG) (os:j4),(ZN L p w M os).map (λx=>Yf x.2.2)=ii (Ya w)):LeftO p q loose Xt Yf Ya N:=λw=>by
 obtain ⟨⟨h,gs,d,k,os⟩,a,a'⟩:=aT.mp (boot_open e hN f w)
 obtain ⟨rfl,rfl,rfl,rfl⟩:h=j0 w.params/\gs=f7 []/\d=l7/\k=boot_toks:=by simpa using a'
 obtain ⟨x,hx,hl⟩:=aT.mp (m0 w os)
 have l2:openSeen q loose (lM p.main.body) Xt ir x.2.2=lK q loose:=by
  have a1:=m1 w os
  have a3:=m3 w os
  have a4:=m4 w os
  have a5:=m5 w os
  rw [hx] at a1 a3 a4 a5
  exact ic (aK.inj a1) (ic (aK.inj a3) (ic (aK.inj a4) (aK.inj a5)))
 obtain ⟨y,hy,hY⟩:=aT.mp (m2 w os)
 obtain rfl:y=x:=aK.inj (hy.symm.trans hx)
 obtain ⟨r,hr,hz⟩:=aY.mp hx
 obtain ⟨s,hs,rfl⟩:=aT.mp hz
 obtain ⟨fl,st,co,po⟩:=r
 unfold qeA at hl
 simp only [Prod.mk.injEq] at hl
 obtain ⟨rfl,rfl,l1⟩:=hl
 have t1:=piece_app (rest:=[]) (segRun_of hr) hs
 rw [be] at t1
 have t1:=piece_app (segRun_of (m6 w os)) t1
 rw [List.take_append_drop] at t1
 have t2:=piece_block (blk w os) t1
 have t3:=topRun_mono (N - (12+(1+(3500+(M+5))))) _ _ _ _ (go_top (pre w os) t2)
 rw [show 12+(1+(3500+(M+5)))+(N - (12+(1+(3500+(M+5)))))=N by have:=Nat.le_of_ble_eq_true le; omega] at t3
 obtain ⟨z1,z2,z3⟩:_/\_/\_:=by simpa only [Prod.mk.injEq] using size w
 have t:topFrom lB p w N ⟨j0 w.params,f7 [],l7,boot_toks,os⟩=ii s:=by
  unfold topFrom
  dsimp only
  rw [z1,z2,z3,t3]
  show (match staticsOk (lM p.main.body) (j0 w.params) s.heap&&namesBound p s.heap&&gensDone s&&laidKept (j0 w.params) s.heap with | true=>_ | false=>_)=_
  rw [l1]
 unfold openEnds
 rw [a]
 show (topFrom lB p w N _).map _=_
 rw [t]
 exact congrArg ii (ic l2 hY)
end
end Kx
noncomputable section
open PySem PySem.W PyProof.Rows
noncomputable def Kx.vq:iE:=view PySem.Challenge.pw_lookwords_k04_whole_bars [1,2,3,4,5,6,7,9,10,11,12,13,14,15,16,17,18,19,20,21,22,23,24,25,26,27,28,30,31,32,33,34,36,37,38,39,40,41,42,43,44,45,46,47,48,49,50,51,52,53,54,56,57,58,59,60,61,62,63,64,65,66,67,68,69,70]
noncomputable def Kx.eN:List Str:=["NoWords", "NoLook", "NoNumbers", "NoRoom", "NoWorths", "Never"]
noncomputable def Kx.xt (s:iu):Bool:=xlAt Kx.vq [] s&&recOk (RowW.records (OpenRow.toRowW (OpenLaw.row PySem.Challenge.rw_lookwords_k04_whole_bars))) s
theorem Kx.m6:∀ (w:iG) (os:j4),segRunT lB PySem.Challenge.pw_lookwords_k04_whole_bars w 11 Kx.anV 1 3500 (Kx.SA w os) (piecesOf ((lv PySem.Challenge.pw_lookwords_k04_whole_bars).take (Kx.eN.length+2)) (Kx.enP PySem.Challenge.pw_lookwords_k04_whole_bars) (Kx.cdP PySem.Challenge.pw_lookwords_k04_whole_bars) Kx.zP [mi Kx.zP])=ii (.next,Kx.SC Kx.eN w os,Kx.cdP PySem.Challenge.pw_lookwords_k04_whole_bars,Kx.zC Kx.eN):=by intro w os; kernel_rfl
theorem Kx.m0:∀ (w:iG) (os:j4),(Kx.ZN Kx.eN PySem.Challenge.pw_lookwords_k04_whole_bars w 15000 os).map (Kx.qeA PySem.Challenge.pw_lookwords_k04_whole_bars w)=ii (.next,Kx.cdP PySem.Challenge.pw_lookwords_k04_whole_bars,ir):=by intro w os; kernel_rfl
theorem Kx.m1:∀ (w:iG) (os:j4),(Kx.ZN Kx.eN PySem.Challenge.pw_lookwords_k04_whole_bars w 15000 os).map (λx=>(Kx.KR PySem.Challenge.pw_lookwords_k04_whole_bars Kx.vq [] Kx.xt x).1)=ii (lK Kx.vq []).1:=by intro w os; kernel_rfl
theorem Kx.m3:∀ (w:iG) (os:j4),(Kx.ZN Kx.eN PySem.Challenge.pw_lookwords_k04_whole_bars w 15000 os).map (λx=>(Kx.KR PySem.Challenge.pw_lookwords_k04_whole_bars Kx.vq [] Kx.xt x).2.1)=ii (lK Kx.vq []).2.1:=by intro w os; kernel_rfl
theorem Kx.m4:∀ (w:iG) (os:j4),(Kx.ZN Kx.eN PySem.Challenge.pw_lookwords_k04_whole_bars w 15000 os).map (λx=>(Kx.KR PySem.Challenge.pw_lookwords_k04_whole_bars Kx.vq [] Kx.xt x).2.2.1)=ii (lK Kx.vq []).2.2.1:=by intro w os; kernel_rfl
theorem Kx.m5:∀ (w:iG) (os:j4),(Kx.ZN Kx.eN PySem.Challenge.pw_lookwords_k04_whole_bars w 15000 os).map (λx=>(Kx.KR PySem.Challenge.pw_lookwords_k04_whole_bars Kx.vq [] Kx.xt x).2.2.2)=ii (lK Kx.vq []).2.2.2:=by intro w os; kernel_rfl
local macro_rules | `(tactic| o_head $H) => `(tactic| (refine holds_open (q := Kx.vq) (loose := []) (Xt := Kx.xt) (XP := XL Kx.vq []) (Yf := Hook.obs $H) (Ya := Hook.val $H) (YP := Hook.says $H) (N := 20000) ?hl (Hook.of $H) (Hook.keeps $H) (fun s e => xl_of s (Bool.and_eq_true_iff.mp e).1) XL.keeps (by rfl) (by rfl) (by rfl) (fun s e => recFacts_of (Bool.and_eq_true_iff.mp e).2) (by rfl) (by first | assumption | decide +kernel) (by decide +kernel) ⟨rfl, rfl, rfl, rfl, rfl, by decide +kernel⟩ ?hw ?hc; (case hl => refine Kx.left_T (p := PySem.Challenge.pw_lookwords_k04_whole_bars) (M := 15000) ?e rfl ?f ?s ?p ?b rfl Kx.m6 Kx.m0 Kx.m1 Kx.m3 Kx.m4 Kx.m5 ?m; (case e => kernel_rfl); (case f => intro s; kernel_rfl); (case s => intro w; kernel_rfl); (case p => intro w os; kernel_rfl); (case b => intro w os; kernel_rfl); (case m => intro w os; kernel_rfl))))
set_option maxHeartbeats 0 in
open_top Kx.hd for PySem.Challenge.rw_lookwords_k04_whole_bars
end
namespace L2
open PySem PySem.Spec PyProof.Rows
abbrev Key:=Sum Int Str
noncomputable def xM:Key->ip->Bool
 | .inl k,v=>Value.isInt k v
 | .inr x,v=>fN x v
noncomputable def qkE (w:iG):Key->Int
 | .inl k=>hashInt k
 | .inr x=>hashStr w x
theorem ji:∀ {k:Key} {v:ip},xM k v=ir->(∃ i t,k=fm i/\v=hV i t)\/(∃ x t,k=bn x/\v=d7 x t)
 | .inl i,v,h=>by obtain ⟨t,e⟩:=Value.isInt_shape (k:=i) (v:=v) h;exact .inl ⟨i,t,rfl,e⟩
 | .inr x,v,h=>by obtain ⟨t,e⟩:=cW (x:=x) (v:=v) h;exact .inr ⟨x,t,rfl,e⟩
theorem KS (i:Int) (t:Tok):xM (.inl i) (.int i t)=true:=by simp [xM,Value.isInt]
theorem KU (x:Str) (t:Tok):xM (.inr x) (.str x t)=true:=by simp [xM,fN]
theorem qgu (a b:Int):decide ((fm a:Key)=fm b)=(a == b):=by
 by_cases e:a=b;·subst e; simp
 ·have h:¬(fm a:Key)=fm b:=λq=>e (fm.inj q);rw [Ac h];exact (beq_eq_false_iff_ne.mpr e).symm
theorem qgv (a b:Str):decide ((bn a:Key)=bn b)=decide (a=b):=by
 by_cases e:a=b;·subst e; simp
 ·have h:¬(bn a:Key)=bn b:=λq=>e (bn.inj q);rw [Ac h,Ac e]
theorem qgw (a:Int) (b:Str):decide ((fm a:Key)=bn b)=false:=Ac (λq=>nomatch q)
theorem qgx (a:Str) (b:Int):decide ((bn a:Key)=fm b)=false:=Ac (λq=>nomatch q)
noncomputable def qQ (prog:iE) (w:iG):PySem.KeyKind prog w Key where
 is:=xM
 hash:=qkE w
 inj:=λv a b g d=>by
  rcases ji g with ⟨i,t,rfl,rfl⟩ | ⟨x,t,rfl,rfl⟩
  ·rcases ji d with ⟨j,u,rfl,e⟩ | ⟨y,u,rfl,e⟩
   ·injection e with e1 _; rw [e1]
   ·exact nomatch e
  ·rcases ji d with ⟨j,u,rfl,e⟩ | ⟨y,u,rfl,e⟩
   ·exact nomatch e
   ·injection e with e1 _; rw [e1]
 byValue:=λk v h=>by rcases ji h with ⟨i,t,rfl,rfl⟩ | ⟨x,t,rfl,rfl⟩ <;> rfl
 pyHash:=λc h=>by
  rcases ji c with ⟨i,t,rfl,rfl⟩ | ⟨x,t,rfl,rfl⟩
  ·exact wpAny_pyHash_int h
  ·exact wpAny_pyHash_str h
 eqBool:=λf c h=>by
  rcases ji f with ⟨i,t,rfl,rfl⟩ | ⟨x,t,rfl,rfl⟩
  ·rcases ji c with ⟨j,u,rfl,rfl⟩ | ⟨y,u,rfl,rfl⟩
   ·rw [qgu] at h; exact wpAny_eqBool_int h
   ·rw [qgw] at h; exact SeqAt.EqAt.int_str i t y u _ _ _ _ h
  ·rcases ji c with ⟨j,u,rfl,rfl⟩ | ⟨y,u,rfl,rfl⟩
   ·rw [qgx] at h; exact SeqAt.EqAt.str_int x t j u _ _ _ _ h
   ·rw [qgv] at h; exact wpAny_eqBool_str h
 «strs»:=λk x t v h=>by
  rcases ji h with ⟨i,u,rfl,e⟩ | ⟨y,u,rfl,e⟩
  ·exact nomatch e
  ·injection e with e1 _;subst e1;cases v <;> rfl
theorem WO (prog:iE) (w:iG) (i:Int) (t:Tok):(qQ prog w).is (.inl i) (.int i t)=true:=KS i t
theorem WP (prog:iE) (w:iG) (x:Str) (t:Tok):(qQ prog w).is (.inr x) (.str x t)=true:=KU x t
inductive V where
 | non | bl (b:Bool) | int (i:Int) | str (x:Str) | byt (b:Array UInt8) | flt (b:UInt64) | ref (a:Addr) | ty (n:String)
 deriving DecidableEq
def RelV:V->ip->Prop
 | .non,u=>u=cw
 | .bl b,u=>u=dG b
 | .int i,u=>∃ t,u=hV i t
 | .str x,u=>∃ t,u=d7 x t
 | .byt b,u=>∃ t,u=Value.bytes b t
 | .flt b,u=>∃ t,u=Value.float b t
 | .ref a,u=>u=aX a
 | .ty n,u=>u=g8 n
abbrev Vals:List V->List ip->Prop:=mj RelV
variable {xs:List V} {us:List ip}
theorem Vals.length (r:Vals xs us):xs.length=us.length:=fO r
theorem Vals.get:∀ {xs:List V} {us:List ip} {i:Nat} {x:V},Vals xs us->xs[i]?=ii x->∃ u,us[i]?=ii u/\RelV x u
 | _,_,_,_,.nil,e=>by simp at e
 | _,_,0,_,.cons r _,e=>by simp at e; subst e; exact ⟨_,rfl,r⟩
 | _,_,i+1,x,.cons _ t,e=>by obtain ⟨u,h1,h2⟩:=Vals.get (i:=i) (x:=x) t (by simpa using e);exact ⟨u,by simpa using h1,h2⟩
variable {u:ip}
theorem Vals.set {x:V} (r:RelV x u):∀ {xs:List V} {us:List ip} (i:Nat),Vals xs us->Vals (xs.set i x) (us.set i u)
 | _,_,_,.nil=>.nil
 | _,_,0,.cons _ t=>.cons r t
 | _,_,i+1,.cons q t=>.cons q (Vals.set r i t)
theorem Vals.append:∀ {xs ys:List V} {us ws:List ip},Vals xs us->Vals ys ws->Vals (xs++ys) (us++ws)
 | _,_,_,_,.nil,s=>s
 | _,_,_,_,.cons r t,s=>.cons r (Vals.append t s)
theorem Vals.take:∀ {xs:List V} {us:List ip} (n:Nat),Vals xs us->Vals (xs.take n) (us.take n)
 | _,_,0,_=>.nil
 | _,_,_+1,.nil=>.nil
 | _,_,n+1,.cons r t=>.cons r (Vals.take n t)
theorem Vals.drop:∀ {xs:List V} {us:List ip} (n:Nat),Vals xs us->Vals (xs.drop n) (us.drop n)
 | _,_,0,r=>r
 | _,_,_+1,.nil=>.nil
 | _,_,n+1,.cons _ t=>Vals.drop n t
theorem Vals.none_of:∀ {xs:List V} {us:List ip} {i:Nat},Vals xs us->xs[i]?=ij->us[i]?=none:=λ{xs us i} r e=>by have h1:=r.length;have h2:xs.length<=i:=bX.mp e;exact bX.mpr (by lia)
def RelO:Option V->Option ip->Prop
 | some v,ii u=>RelV v u
 | none,ij=>True
 | _,_=>False
def KV {κ:Type}:List (κ×V)->List (κ×ip)->Prop:=mj λ(p:κ×V) (q:κ×ip)=>p.1=q.1/\RelV p.2 q.2
noncomputable def kV:Key->V
 | .inl i=>.int i
 | .inr x=>.str x
inductive HO where
 /-- a list -/
 | lst (xs:List V)
 /-- a tuple (never changes) -/
 | tup (xs:List V)
 /-- a dict whose keys are ints and texts; one whose keys are tuples of ints and texts (the empty one is both) -/
 | dK (kvs:List (Key×V)) | dT (kvs:List (List Key×V))
 /-- a set of ints: its members,its size -/
 | set (S:Int->Bool) (n:Nat)
 /-- an instance of the class at C,its dict at dx,its attributes -/
 | ins (C dx:Addr) (fs:List (Str×V))
 /-- the dict of the instance at x -/
 | own (x:Addr)
 /-- the dict of an exception -/
 | xd (fs:List (Str×V))
 /-- a bound method,f of x -/
 | met (f x:Addr)
 /-- a range object lo,lo+1,.. below hi -/
 | rng (lo hi:Int)
 /-- a thing that is known to the object (the script; a dict while a loop walks it): read,never written while it is so -/
 | frz (o:Obj) (u:HO)
 /-- a code object's table -/
 | tbl (ps:Array ip)
 /-- any other thing,by what is ir of its one object (a def of one's own: SetO a S n:=HO.ext λh=>..) -/
 | ext (φ:Heap->Prop)
abbrev Hp:=Addr->Option HO
noncomputable def upd (H:Hp) (a:Addr) (o:HO):Hp:=λb=>if b=a then ii o else H b
variable {H:Hp} {a:Addr} {o:HO}
theorem qu:upd H a o a=ii o:=by unfold upd; rw [Aa rfl]
variable {b:Addr}
theorem qA (h:b≠a):upd H a o b=H b:=by unfold upd; rw [Ab h]
theorem qiX {u:HO} (h:H a=ii o) (h':H b=ii u) (d:o≠u):a≠b:=by intro e; subst e; rw [h] at h'; exact d (aK.inj h')
theorem qJ (h:H a=ii o) (h':H b=ij):a≠b:=by intro e; subst e; rw [h] at h'; cases h'
section
variable (P:iE) (w:iG)
def ObjOk (H:Hp) (h:Heap) (a:Addr):HO->Prop
 | .lst xs=>xs.length<=sizeLine/\∃ (its:List ip) (n:Nat),Vals xs its/\h.get? a=ii { cls:=.type "list",data:=.seq its.toArray n }
 | .tup xs=>(xs.length<=sizeLine/\∃ o,h.get? a=ii o/\o.dict=ij)/\∃ its:List ip,Vals xs its/\IsTup h a its.toArray
 | .dK kvs=>kvs.length<=sizeLine/\(a == i5)=iq/\∃ vs,KV kvs vs/\h.DictOf (qQ P w) a vs
 | .dT kvs=>kvs.length<=sizeLine/\(a == i5)=iq/\∃ xs:List (List Key×Addr×ip),mj (λ(p:List Key×V) (q:List Key×Addr×ip)=>p.1=q.1/\H q.2.1=ii (.tup (p.1.map kV))/\RelV p.2 q.2.2) kvs xs /\
   ∃ o es ep,h.get? a=ii o/\o.ExactDict/\o.data=.dict es ep/\es.toList=xs.map (entryOfKey (l4 (qQ P w)))/\(xs.map (·.1)).Nodup
 | .set S n=>h.SetOf (intKind P w) a S n
 | .ins C dx fs=>H dx=ii (.own a)/\fs.length<=1000/\dx≠a/\h.get? a=ii (PySem.W.instObj C dx) /\
   ∃ m,h.Ns1 dx m/\(∀ f,RelO (fs.lookup f) (m f))/\PySem.Within m (fs.map (·.1))
 | .own _=>∃ o,h.get? a=ii o
 | .xd fs=>∃ m,h.Ns1 a m/\∀ f,RelO (fs.lookup f) (m f)
 | .rng lo hi=>∃ t u v,h.get? a=ii { cls:=.type "range",data:=.fields #[.int lo t,.int hi u,.int 1 v] }
 | .frz o u=>h.get? a=ii o/\ObjOk H h a u
 | .tbl ps=>h.get? a=ii { cls:=.none,data:=.fields ps }
 | .met f x=>h.get? a=ii (fH (.ref f) (.ref x))
 | .ext φ=>φ h/\(∃ o,h.get? a=ii o)/\∀ h1 h2:Heap,φ h1->(∀ o,h1.get? a=ii o->h2.get? a=ii o)->φ h2
def HOk (H:Hp) (h:Heap):Prop:=∀ a o,H a=ii o->ObjOk P w H h a o
end
variable {P:iE} {w:iG} {H':Hp} {h h':Heap} {α:Type}
section
theorem ObjOk.lt (x:ObjOk P w H h a o):a < h.objs.size:=by
 cases o with
 | lst xs=>obtain ⟨_,_,_,_,e⟩:=x; exact ay e
 | tup xs=>obtain ⟨_,_,_,p⟩:=x; exact p.lt
 | dK kvs=>obtain ⟨_,_,_,_,o,_,_,e,_⟩:=x; exact ay e
 | dT kvs=>obtain ⟨_,_,_,_,o,_,_,e,_⟩:=x; exact ay e
 | set S n=>obtain ⟨o,_,_,_,e,_⟩:=x; exact ay e
 | ins C dx fs=>obtain ⟨_,_,_,e,_⟩:=x; exact ay e
 | own y=>obtain ⟨_,e⟩:=x; exact ay e
 | xd fs=>obtain ⟨_,⟨_,_,_,e,_⟩,_⟩:=x; exact ay e
 | rng lo hi=>obtain ⟨_,_,_,e⟩:=x; exact ay e
 | frz b u=>obtain ⟨e,_⟩:=x; exact ay e
 | tbl ps=>exact ay (show h.get? a=ii _ from x)
 | met f y=>exact ay (show h.get? a=ii _ from x)
 | ext φ=>obtain ⟨_,⟨_,e⟩,_⟩:=x; exact ay e
theorem Paired.mapP {β:Type} {F G:α->β->Prop}:∀ {c:List α} {l:List β},mj F c l->(∀ a b,F a b->G a b)->mj G c l
 | _,_,.nil,_=>.nil
 | _,_,.cons r t,f=>.cons (f _ _ r) (Paired.mapP t f)
theorem ObjOk.stay (x:ObjOk P w H h a o) (k:∀ b u,(b=a\/H b=ii (.own a))->h.get? b=ii u->h'.get? b=ii u)
  (j:∀ b,H b=ii (.own a)->H' b=ii (.own a)) (ht:∀ b xs,H b=ii (.tup xs)->H' b=ii (.tup xs)):ObjOk P w H' h' a o:=by
 induction o with
 | lst xs=>obtain ⟨z,its,n,r,e⟩:=x; exact ⟨z,its,n,r,k _ _ (.inl rfl) e⟩
 | tup xs=>obtain ⟨⟨z,o2,e2,d2⟩,its,r,g,e,c⟩:=x; exact ⟨⟨z,o2,k _ _ (.inl rfl) e2,d2⟩,its,r,g,k _ _ (.inl rfl) e,c⟩
 | dK kvs=>obtain ⟨z,y,vs,r,g,es,ep,e,c⟩:=x; exact ⟨z,y,vs,r,g,es,ep,k _ _ (.inl rfl) e,c⟩
 | dT kvs=>obtain ⟨z,y,xs,r,g,es,ep,e,c⟩:=x;exact ⟨z,y,xs,Paired.mapP r λp q z=>⟨z.1,ht _ _ z.2.1,z.2.2⟩,g,es,ep,k _ _ (.inl rfl) e,c⟩
 | set S n=>obtain ⟨g,es,ep,t,e,c⟩:=x; exact ⟨g,es,ep,t,k _ _ (.inl rfl) e,c⟩
 | ins C dx fs=>obtain ⟨d,z,ne,e,m,⟨od,es,ep,e2,c⟩,r⟩:=x;exact ⟨j _ d,z,ne,k _ _ (.inl rfl) e,m,⟨od,es,ep,k _ _ (.inr d) e2,c⟩,r⟩
 | own y=>obtain ⟨g,e⟩:=x; exact ⟨g,k _ _ (.inl rfl) e⟩
 | xd fs=>obtain ⟨m,⟨od,es,ep,e,c⟩,r⟩:=x; exact ⟨m,⟨od,es,ep,k _ _ (.inl rfl) e,c⟩,r⟩
 | rng lo hi=>obtain ⟨t,u,v,e⟩:=x; exact ⟨t,u,v,k _ _ (.inl rfl) e⟩
 | frz g u i=>obtain ⟨e,q⟩:=x; exact ⟨k _ _ (.inl rfl) e,i q⟩
 | tbl ps=>have e:h.get? a=ii { cls:=.none,data:=.fields ps }:=x;show h'.get? a=ii { cls:=.none,data:=.fields ps };exact k a _ (.inl rfl) e
 | met f y=>have e:h.get? a=ii (fH (.ref f) (.ref y)):=x;show h'.get? a=ii (fH (.ref f) (.ref y));exact k a _ (.inl rfl) e
 | ext φ=>obtain ⟨p,⟨o,e⟩,st⟩:=x; exact ⟨st _ _ p λo q=>k _ _ (.inl rfl) q,⟨o,k _ _ (.inl rfl) e⟩,st⟩
theorem HOk.lt (x:HOk P w H h) (e:H a=ii o):a < h.objs.size:=(x a o e).lt
theorem HOk.fresh (x:HOk P w H h) (e:h.objs.size<=a):H a=none:=by
 cases q:H a with
 | none=>rfl
 | some u=>exact absurd (aI (x.lt q) e) (cg _)
theorem HOk.kept (x:HOk P w H h) (k:∀ b u,h.get? b=ii u->h'.get? b=ii u):HOk P w H h':=λa o e=>
 (x a o e).stay (λb u _ q=>k b u q) (λ_ q=>q) λ_ _ q=>q
theorem HOk.laid (x:HOk P w H h) (k:∀ b u,h.get? b=ii u->h'.get? b=ii u) (hp:h.objs.size<=a) (new:ObjOk P w (upd H a o) h' a o):HOk P w (upd H a o) h':=λb u e=>by
 have hn:=x.fresh hp;by_cases d:b=a;·subst d; rw [qu] at e; cases e; exact new
 ·rw [qA d] at e;exact (x b u e).stay (λc v _ q=>k c v q) (λc q=>by rw [qA (qJ q hn)]; exact q) λc xs q=>by rw [qA (qJ q hn)]; exact q
end
def Rd (H:Hp) (a:Addr) (u:HO):Prop:=H a=ii u\/∃ o,H a=ii (.frz o u)
theorem Rd.ok {u:HO} (r:Rd H a u) (x:HOk P w H h):ObjOk P w H h a u:=by
 rcases r with r | ⟨o,r⟩
 ·exact x a u r
 ·obtain ⟨_,q⟩:=x a _ r;exact q
def Mut:Option HO->Prop
 | some (.lst _)=>True
 | some (.dK _)=>True
 | some (.dT _)=>True
 | some (.set _ _)=>True
 | some (.ins _ _ _)=>True
 | some (.ext _)=>True
 | _=>False
section
variable {x e:Addr} {o':HO}
theorem HOk.write (ok:HOk P w H h) (m:Mut (H x)) (i:e=x\/H e=ii (.own x)) (k:∀ b u,b≠e->h.get? b=ii u->h'.get? b=ii u) (o:∃ u,h'.get? e=ii u)
  (new:ObjOk P w (upd H x o') h' x o'):HOk P w (upd H x o') h':=λb u q=>by
 have n:∀ c y,H c=ii (.own y)->c≠x:=λc y r z=>by subst z; rw [r] at m; exact m
 have p:∀ c xs,H c=ii (.tup xs)->c≠x:=λc xs r z=>by subst z; rw [r] at m; exact m
 by_cases f:b=x;·subst f; rw [qu] at q; cases q; exact new
 ·rw [qA f] at q;by_cases a:b=e
  ·have g:H b=ii (.own x):=by
    rcases i with z | z;·exact absurd (a.trans z) f
    ·rw [a]; exact z
   rw [q] at g; cases g;obtain ⟨v,j⟩:=o;exact ⟨v,by rw [a]; exact j⟩
  ·refine (ok b u q).stay (λc v d r=>k c v ?_ r) (λc r=>by rw [qA (n c b r)]; exact r) λc xs r=>by rw [qA (p c xs r)]; exact r
   rcases d with rfl | d;·exact a
   ·rintro rfl;rcases i with z | z;·exact n c b d z
    ·rw [d] at z; cases z; exact f rfl
end
structure Un (fs ex:List Addr) (H H':Hp) (h h':Heap):Prop where
 keep:∀ b o,h.get? b=ii o->H b=ij->b∉fs->b∉ex->h'.get? b=ii o
 slot:∀ b o,h.get? b=ii o->H b=ij->b∈fs->b∉ex->∃ sl,h'.get? b=ii { o with slots:=sl }
 free:∀ b o,h.get? b=ii o->H b=ij->b∉ex->H' b=ij
 there:∀ b o,h.get? b=ii o->b∉ex->∃ o',h'.get? b=ii o'
 tups:∀ b xs,H b=ii (.tup xs)->H' b=ii (.tup xs)
 frzs:∀ b o u,H b=ii (.frz o u)->H' b=ii (.frz o u)
 tbls:∀ b ps,H b=ii (.tbl ps)->∃ more,H' b=ii (.tbl (ps++more))
section
variable {fs fs' ex ex':List Addr} {H1 H2:Hp} {h1 h2:Heap} {x e:Addr}
theorem Un.any (u:Un fs ex H H1 h h1) {o:Obj} (q:h.get? b=ii o) (n:H b=ij) (hx:b∉ex):∃ sl,h1.get? b=ii { o with slots:=sl }:=by
 by_cases d:b∈fs;·exact u.slot b o q n d hx
 ·exact ⟨o.slots,u.keep b o q n d hx⟩
theorem Un.kept (k:∀ b u,h.get? b=ii u->h'.get? b=ii u):Un fs ex H H h h':=
 ⟨λb o q _ _ _=>k b o q,λb o q _ _ _=>⟨o.slots,k b o q⟩,λ_ _ _ n _=>n,λb o q _=>⟨o,k b o q⟩,λ_ _ q=>q,λ_ _ _ q=>q,λ_ ps q=>⟨#[],by rw [q]; simp⟩⟩
theorem Un.refl:Un fs ex H H h h:=Un.kept λ_ _ q=>q
theorem Un.laid (k:∀ b u,h.get? b=ii u->h'.get? b=ii u) (hp:h.objs.size<=a) (hn:H a=ij):Un fs ex H (upd H a o) h h' where
 keep:=λb u q _ _ _=>k b u q
 slot:=λb u q _ _ _=>⟨u.slots,k b u q⟩
 free:=λb u q n _=>by rw [qA (aD (aI (ay q) hp))]; exact n
 there:=λb u q _=>⟨u,k b u q⟩
 tups:=λb xs q=>by rw [qA (qJ q hn)]; exact q
 frzs:=λb u xs q=>by rw [qA (qJ q hn)]; exact q
 tbls:=λb ps q=>⟨#[],by rw [qA (qJ q hn),q]; simp⟩
theorem Un.write (m:Mut (H x)) (i:e=x\/H e=ii (.own x)) (k:∀ b u,b≠e->h.get? b=ii u->h'.get? b=ii u) (d:∃ u,h'.get? e=ii u):Un fs ex H (upd H x o) h h':=by
 have hx:∀ b,H b=ij->b≠x:=λb n z=>by subst z; rw [n] at m; exact m
 have f:∀ b,H b=ij->b≠e:=λb n z=>by
  subst z;rcases i with r | r;·exact hx b n r
  ·rw [n] at r; cases r
 have c:∀ b u,H b=ii u->¬Mut (ii u)->b≠x:=λb u q nm z=>by subst z; rw [q] at m; exact nm m
 refine ⟨λb u q n _ _=>k b u (f b n) q,λb u q n _ _=>⟨u.slots,k b u (f b n) q⟩,λb u q n _=>by rw [qA (hx b n)]; exact n,λb u q _=>?_,λb xs q=>by rw [qA (c b _ q λz=>z)]; exact q,λb u xs q=>by rw [qA (c b _ q λz=>z)]; exact q,λb ps q=>⟨#[],by rw [qA (c b _ q λz=>z),q]; simp⟩⟩;by_cases a:b=e;·subst a; exact d
 ·exact ⟨u,k b u a q⟩
end
noncomputable def trk (h:Heap) (H:Hp):List Addr:=(aP h.objs.size).filter λa=>(H a).isSome
noncomputable def qbY (h:Heap) (H:Hp):Heap:=bj h (trk h H)
theorem ZO (h:Heap) (H:Hp):(qbY h H).objs.size=h.objs.size:=PySem.W.hideAll_size _ _
theorem qbZ {o:Obj} (e:h.get? b=ii o) (n:H b=ij):(qbY h H).get? b=ii o:=
 cX _ e λc=>by have q:(H b).isSome=true:=(bV.mp c).2;rw [n] at q; simp at q
theorem qeB {o:Obj} (e:(qbY h H).get? b=ii o):h.get? b=ii o/\H b=none:=by
 have a:h.get? b=ii o:=d6 (trk h H) e;refine ⟨a,?_⟩;cases q:H b with
 | none=>rfl
 | some x=>have c:b∈trk h H:=bV.mpr ⟨cj.mpr (ay a),by simp [q]⟩;have z:(qbY h H).get? b=none:=cO (trk h H) c;rw [z] at e; cases e
structure Mod (K:Frag) (mg:Str->Option ip) (base:Heap):Prop where
 kin:K.In base
 glob:base.Ns iB mg
 blt:∃ mb,base.Ns builtinsNs mb/\∀ x:Str,x ≠ "__name__"->mb x=iC x
 nolimit:base.NoLimit
abbrev Pns:=List (Addr×Obj)
structure Cx where
 prog:iE
 w:iG
 K:Frag
 mg:Str->Option ip
 base:Heap
 A:iL
 N:List Str
 s₀:iu
 H₀:Hp
 env:Env
 outer:List Env
 stack:List Env
 ex:List Addr
 fn:Str->Bool
 calm:Bool
 pn:Pns
 xe:ip->iu->Prop
noncomputable def frs (l:List Env):List Addr:=l.filterMap (·.frame)
abbrev Cx.fs (X:Cx):List Addr:=frs X.outer
def Vis (sc:lG) (x:Str):Prop:=sc.names.lookup x=ii .local\/sc.names.lookup x=ii .cell\/sc.names.lookup x=ii .free
def Loc (sc:lG) (x:Str):Prop:=sc.names.lookup x=ii .local\/sc.names.lookup x=ii .cell
def QJ (env:Env) (h:Heap) (m:Str->Option ip) (x:Str) (u:ip):Prop:=
 (env.kindOf x=ii .local/\m x=ii u)\/((env.kindOf x=ii .cell\/env.kindOf x=ii .free)/\∃ c,env.cells.lookup x=ii c/\h.IsCell c (ii u))
structure Cx.Ok (X:Cx):Prop where
 mod:Mod X.K X.mg X.base
 kind:X.env.scope.kind=.function
 glob:X.env.globals=iB
 blt:X.env.builtins=builtinsNs
 above:X.s₀.heap.objs.size<=X.env.locals
 inj:∀ x y c,X.env.cells.lookup x=ii c->X.env.cells.lookup y=ii c->x=y
 has:∀ x,(X.env.kindOf x=ii .cell\/X.env.kindOf x=ii .free)->∃ c,X.env.cells.lookup x=ii c
 cab:∀ x c,X.fn x=ir->X.env.cells.lookup x=ii c->X.s₀.heap.objs.size<=c
 hd:X.calm=ir->X.A.handled=ij
 frames:X.A.frames=ii X.stack
 stk:X.stack=X.outer\/(X.stack=X.env::X.outer/\X.env.frame=ii X.env.locals)
 exf:∀ b∈X.ex,b≠X.env.locals/\∀ x c,X.env.cells.lookup x=ii c->c≠b
 bs:∀ b o,X.base.get? b=ii o->X.s₀.heap.get? b=ii o/\X.H₀ b=ij
 bsz:X.base.objs.size<=X.s₀.heap.objs.size
 noex:∀ b o,X.base.get? b=ii o->b∉X.ex
 exfs:∀ b∈X.ex,b∉X.fs
 funs:X.s₀.heap.FunFrames X.base X.outer
 frf:∀ b∈X.fs,X.H₀ b=ij
structure Inv (X:Cx) (pins:Pns) (σ:List (Option V)) (H:Hp) (s:iu):Prop where
 ok:X.Ok
 os:s.os=X.s₀.os
 bare:lQ s.gens
 base:Un X.fs X.ex X.H₀ H X.s₀.heap s.heap
 loc:∃ m,s.heap.Ns X.env.locals m/\∀ (i:Nat) (x:Str) (v:V),X.N[i]?=ii x->σ[i]?=ii (ii v)->Vis X.env.scope x->∃ u,RelV v u/\QJ X.env s.heap m x u
 cell:∀ x c,X.env.cells.lookup x=ii c->∃ v,s.heap.IsCell c v
 free:H X.env.locals=ij
 freeC:∀ x c,X.env.cells.lookup x=ii c->H c=ij
 pin:∀ p∈X.pn++pins,s.heap.get? p.1=ii p.2/\H p.1=ij/\p.1≠X.env.locals/\p.1∉X.fs/\∀ v,p.2.data≠.cell v
 hok:HOk X.prog X.w H s.heap
 len:σ.length=X.N.length
variable {x:Str} {X:Cx} {pins:Pns} {s s':iu} {t' i:Nat} {it:Addr} {v:V}
section
variable {σ:List (Option V)}
theorem Cx.Ok.nofr (ok:X.Ok) {o:Obj} (e:X.base.get? b=ii o):b∉X.fs:=λd=>by have:=(ok.funs.mem d).1;rw [e] at this; cases this
theorem Inv.bs (I:Inv X pins σ H s):∀ b o,X.base.get? b=ii o->s.heap.get? b=ii o/\H b=none:=λb o e=>
 ⟨I.base.keep b o (I.ok.bs b o e).1 (I.ok.bs b o e).2 (I.ok.nofr e) (I.ok.noex b o e),I.base.free b o (I.ok.bs b o e).1 (I.ok.bs b o e).2 (I.ok.noex b o e)⟩
theorem Inv.bk (I:Inv X pins σ H s):∀ b o,X.base.get? b=ii o->s.heap.get? b=ii o:=λb o e=>(I.bs b o e).1
theorem Inv.mod (I:Inv X pins σ H s):Mod X.K X.mg X.base:=I.ok.mod
theorem Inv.kIn (I:Inv X pins σ H s):X.K.In s.heap:=I.ok.mod.kin.keeps I.bk
theorem Inv.fr (I:Inv X pins σ H s):∃ m,Fr X.base X.env.locals s.heap m:=
 let ⟨m,hn,_⟩:=I.loc
 ⟨m,hn,I.bk,bN I.ok.bsz I.ok.above⟩
theorem Inv.lt (I:Inv X pins σ H s):X.env.locals < s.heap.objs.size:=let ⟨_,hn,_⟩:=I.loc; hn.lt
theorem Inv.sz (I:Inv X pins σ H s):X.s₀.heap.objs.size<=s.heap.objs.size:=bN I.ok.above (dJ I.lt)
theorem Inv.nofs (I:Inv X pins σ H s) (h:s.heap.objs.size<=a):a∉X.fs:=λd=>by obtain ⟨_,o,j,_⟩:=I.ok.funs.mem d;exact absurd (aI (ay j) (bN I.sz h)) (cg _)
theorem Inv.cne (I:Inv X pins σ H s):∀ x c,X.env.cells.lookup x=ii c->c≠X.env.locals:=λx c e z=>by obtain ⟨v,o,j,hd⟩:=I.cell x c e;obtain ⟨m,⟨o',es,ep,h,a,_⟩,_⟩:=I.loc;rw [z,h] at j; cases j; rw [a] at hd; cases hd
theorem Inv.funs (I:Inv X pins σ H s):s.heap.FunFrames X.base X.outer:=by
 have all:∀ (l:List Env),(∀ b∈frs l,b∈X.fs)->X.s₀.heap.FunFrames X.base l->s.heap.FunFrames X.base l:=by
  intro l
  induction l with
  | nil=>intro _ _; trivial
  | cons env r i=>intro c hl;obtain ⟨k,⟨L,o,h,hn,j,hd⟩,hr⟩:=hl;have a:L∈X.fs:=c L (by unfold frs; rw [bq,h]; exact aq);obtain ⟨sl,e⟩:=I.base.slot L o j (I.ok.frf L a) a λz=>I.ok.exfs L z a;exact ⟨k,⟨L,_,h,hn,e,hd⟩,i (λb d=>c b (by unfold frs; rw [bq,h]; exact af _ d)) hr⟩
 exact all X.outer (λ_ d=>d) I.ok.funs
theorem Inv.stack (I:Inv X pins σ H s):s.heap.FunFrames X.base X.stack:=by
 rcases I.ok.stk with e | ⟨e,hf⟩
 ·rw [e]; exact I.funs
 ·rw [e];obtain ⟨m,hn,_⟩:=I.loc;refine .cons (by rw [I.ok.kind]; decide) hf hn ?_ I.funs;exact Heap.get?_none_of_le (bN I.ok.bsz I.ok.above)
theorem Inv.stkSub (I:Inv X pins σ H s):∀ b∈frs X.stack,b∈X.env.locals::X.fs:=λb d=>by
 rcases I.ok.stk with e | ⟨e,hf⟩
 ·rw [e] at d; exact af _ d
 ·rw [e] at d;unfold frs at d;rw [bq,hf] at d;exact d
theorem Inv.stkFree (I:Inv X pins σ H s):∀ b∈frs X.stack,H b=none:=λb d=>by
 rcases ac.mp (I.stkSub b d) with e | d;·rw [e]; exact I.free
 ·obtain ⟨_,o,j,_⟩:=I.ok.funs.mem d;exact I.base.free b o j (I.ok.frf b d) λz=>I.ok.exfs b z d
theorem Inv.step {g':Array mD} {t':Nat} {d':Drawn} {ch:List Addr} (I:Inv X pins σ H s)
  (a:∀ b∈ch,(b∈X.ex\/X.s₀.heap.objs.size<=b)/\b≠X.env.locals/\(∀ x c,X.env.cells.lookup x=ii c->c≠b)/\∀ p∈X.pn++pins,p.1≠b)
  (keep:∀ b o,b≠X.env.locals->b∉X.fs->b∉ch->s.heap.get? b=ii o->H b=ij->h'.get? b=ii o)
  (slot:∀ b o,b≠X.env.locals->b∈X.fs->b∉ch->s.heap.get? b=ii o->H b=ij->∃ sl,h'.get? b=ii { o with slots:=sl }) (free:∀ b o,b∉ch->s.heap.get? b=ii o->H b=ij->H' b=ij)
  (there:∀ b o,b∉ch->s.heap.get? b=ii o->∃ o',h'.get? b=ii o')
  (tups:∀ b xs,H b=ii (.tup xs)->H' b=ii (.tup xs)) (frzs:∀ b o u,H b=ii (.frz o u)->H' b=ii (.frz o u)) (tbls:∀ b ps,H b=ii (.tbl ps)->∃ more,H' b=ii (.tbl (ps++more)))
  (ns:∀ m,s.heap.Ns X.env.locals m->h'.Ns X.env.locals m) (hok:HOk X.prog X.w H' h') (hg:lQ g') :
  Inv X pins σ H' { s with heap:=h',gens:=g',drawn:=d',toks:=t' }:=by
 have L:∀ b o,X.s₀.heap.get? b=ii o->b≠X.env.locals:=λb o e=>aD (aI (ay e) I.ok.above);have C:∀ b o,X.s₀.heap.get? b=ii o->b∉X.ex->b∉ch:=λb o e hx f=>by
  rcases (a b f).1 with z | z;·exact hx z
  ·exact absurd (aI (ay e) z) (cg _)
 have K:∀ x c,X.env.cells.lookup x=ii c->∀ v,s.heap.IsCell c v->h'.IsCell c v:=λx c e v ⟨o,j,hd⟩=>by
  have h:c∉ch:=λz=>(a c z).2.2.1 x c e rfl;by_cases y:c∈X.fs;·obtain ⟨sl,q⟩:=slot c o (I.cne x c e) y h j (I.freeC x c e);exact ⟨_,q,hd⟩
  ·exact ⟨o,keep c o (I.cne x c e) y h j (I.freeC x c e),hd⟩
 refine ⟨I.ok,I.os,hg,⟨λb o e n f hx=>?_,λb o e n f hx=>?_,λb o e n hx=>?_,λb o e hx=>?_,λb xs e=>tups b xs (I.base.tups b xs e),λb o xs e=>frzs b o xs (I.base.frzs b o xs e),λb ps e=>?_⟩,?_,λx c e=>?_,?_,λx c e=>?_,λp hp=>?_,hok,I.len⟩;·exact keep b o (L b o e) f (C b o e hx) (I.base.keep b o e n f hx) (I.base.free b o e n hx)
 ·obtain ⟨sl,e1⟩:=I.base.slot b o e n f hx;obtain ⟨g,e2⟩:=slot b _ (L b o e) f (C b o e hx) e1 (I.base.free b o e n hx);exact ⟨g,e2⟩
 ·obtain ⟨o',e1⟩:=I.base.there b o e hx;exact free b o' (C b o e hx) e1 (I.base.free b o e n hx)
 ·obtain ⟨o',e1⟩:=I.base.there b o e hx;exact there b o' (C b o e hx) e1
 ·obtain ⟨m1,e1⟩:=I.base.tbls b ps e;obtain ⟨A,e2⟩:=tbls b _ e1;exact ⟨m1++A,by rw [e2,Array.append_assoc]⟩
 ·obtain ⟨m,hn,hl⟩:=I.loc;refine ⟨m,ns m hn,λi x v e1 e2 e3=>?_⟩;obtain ⟨u,r,l⟩:=hl i x v e1 e2 e3;refine ⟨u,r,?_⟩;rcases l with l | ⟨k,c,e,z⟩
  ·exact .inl l
  ·exact .inr ⟨k,c,e,K x c e _ z⟩
 ·obtain ⟨v,z⟩:=I.cell x c e;exact ⟨v,K x c e v z⟩
 ·obtain ⟨m,⟨o,_,_,j,_⟩,_⟩:=I.loc;exact free _ o (λz=>(a _ z).2.1 rfl) j I.free
 ·obtain ⟨v,o,j,hd⟩:=I.cell x c e;exact free c o (λz=>(a c z).2.2.1 x c e rfl) j (I.freeC x c e)
 ·obtain ⟨e,n,ne,t,d⟩:=I.pin p hp;have h:p.1∉ch:=λz=>(a p.1 z).2.2.2 p hp rfl;exact ⟨keep p.1 p.2 ne t h e n,free p.1 p.2 h e n,ne,t,d⟩
theorem Inv.un (I:Inv X pins σ H s) (u:Un X.fs [] H H' s.heap h') (hok:HOk X.prog X.w H' h'):Inv X pins σ H' { s with heap:=h',toks:=t' }:=by obtain ⟨m,⟨o,es,ep,j,r⟩,_⟩:=id I.loc;obtain ⟨sl,L⟩:=u.any j I.free (by simp);exact I.step (g':=s.gens) (d':=s.drawn) (ch:=[]) (λ_ z=>nomatch z) (λb o _ d _ e n=>u.keep b o e n d (by simp)) (λb o _ d _ e n=>u.slot b o e n d (by simp)) (λb o _ e n=>u.free b o e n (by simp)) (λb o _ e=>u.there b o e (by simp)) u.tups u.frzs u.tbls (λf c=>by obtain ⟨o',es',a,h,r'⟩:=c;rw [j] at h; cases h;exact ⟨_,es',a,L,r'⟩) hok I.bare
theorem Inv.call {g':Array mD} {t':Nat} {d':Drawn} {ch:List Addr} (I:Inv X pins σ H s) (u:Un (frs X.stack) ch H H' s.heap h') (hok:HOk X.prog X.w H' h') (hg:lQ g')
  (a:∀ b∈ch,(b∈X.ex\/X.s₀.heap.objs.size<=b)/\b≠X.env.locals/\(∀ x c,X.env.cells.lookup x=ii c->c≠b)/\∀ p∈X.pn++pins,p.1≠b) :
  Inv X pins σ H' { s with heap:=h',gens:=g',drawn:=d',toks:=t' }:=by
 obtain ⟨m,⟨o,es,ep,j,r⟩,_⟩:=id I.loc;obtain ⟨sl,L⟩:=u.any j I.free λz=>(a _ z).2.1 rfl;exact I.step (ch:=ch) a (λb o L i d e n=>u.keep b o e n (λz=>(ac.mp (I.stkSub b z)).elim L i) d) (λb o _ _ d e n=>u.any e n d) (λb o d e n=>u.free b o e n d) (λb o d e=>u.there b o e d) u.tups u.frzs u.tbls (λk g=>by obtain ⟨o',es',f,h,r'⟩:=g;rw [j] at h; cases h;exact ⟨_,es',f,L,r'⟩) hok hg
theorem Inv.turned {t':Nat} (I:Inv X pins σ H s) (k:∀ b o,b≠it->s.heap.get? b=ii o->h'.get? b=ii o) (hn:H it=ij) (a:it≠X.env.locals)
  (h1:it∈X.ex\/X.s₀.heap.objs.size<=it) (h2:∀ x c,X.env.cells.lookup x=ii c->c≠it) (g:∀ p∈X.pn++pins,p.1≠it):Inv X pins σ H { s with heap:=h',toks:=t' }:=by
 have t:∀ b u,H b=ii u->b≠it:=λb u e z=>by rw [z,hn] at e; cases e
 refine I.step (g':=s.gens) (d':=s.drawn) (ch:=[it]) (λb f=>?_) (λb o _ _ d e _=>k b o (λz=>d (by simp [z])) e) (λb o _ _ d e _=>⟨o.slots,k b o (λz=>d (by simp [z])) e⟩) (λ_ _ _ _ n=>n)
  (λb o d e=>⟨o,k b o (λz=>d (by simp [z])) e⟩) (λ_ _ e=>e) (λ_ _ _ e=>e) (λb ps e=>⟨#[],by rw [e]; simp⟩) (λm h=>?_) (λb u e=>?_) I.bare
 ·have e:b=it:=by simpa using f
  subst e;exact ⟨h1,a,h2,g⟩
 ·obtain ⟨o,es,ep,j,r⟩:=h;exact ⟨o,es,ep,k _ o (bw a) j,r⟩
 ·refine (I.hok b u e).stay (λc v d q=>k c v ?_ q) (λ_ q=>q) λ_ _ q=>q;rcases d with z | z;·rw [z]; exact t b u e
  ·exact t c _ z
theorem Inv.tok (I:Inv X pins σ H s) (t:Nat):Inv X pins σ H { s with toks:=t }:=I.un (h':=s.heap) (t':=t) Un.refl I.hok
theorem Inv.kept (I:Inv X pins σ H s) (k:∀ b u,s.heap.get? b=ii u->h'.get? b=ii u):Inv X pins σ H { s with heap:=h',toks:=t' }:=I.un (Un.kept k) (I.hok.kept k)
theorem Inv.laid {t':Nat} (I:Inv X pins σ H s) (k:∀ b u,s.heap.get? b=ii u->h'.get? b=ii u) (hp:s.heap.objs.size<=a) (new:ObjOk X.prog X.w (upd H a o) h' a o):Inv X pins σ (upd H a o) { s with heap:=h',toks:=t' }:=I.un (Un.laid k hp (I.hok.fresh hp)) (I.hok.laid k hp new)
theorem Inv.write {x e:Addr} {o:HO} {t':Nat} (I:Inv X pins σ H s) (m:Mut (H x)) (i:e=x\/H e=ii (.own x)) (k:∀ b u,b≠e->s.heap.get? b=ii u->h'.get? b=ii u) (h:∃ u,h'.get? e=ii u)
  (new:ObjOk X.prog X.w (upd H x o) h' x o):Inv X pins σ (upd H x o) { s with heap:=h',toks:=t' }:=I.un (Un.write m i k h) (I.hok.write m i k h new)
theorem Inv.weak {σ':List (Option V)} (I:Inv X pins σ H s) (hl:σ'.length=σ.length) (w:∀ (i:Nat) v,σ'[i]?=ii (ii v)->σ[i]?=ii (ii v)):Inv X pins σ' H s:=
 ⟨I.ok,I.os,I.bare,I.base,let ⟨m,hn,h⟩:=I.loc; ⟨m,hn,λi x v e1 e2 e3=>h i x v e1 (w i v e2) e3⟩,I.cell,I.free,I.freeC,I.pin,I.hok,hl.trans I.len⟩
theorem Inv.pins_of {a:Pns} (I:Inv X pins σ H s) (h:∀ p∈a,s.heap.get? p.1=ii p.2/\H p.1=ij/\p.1≠X.env.locals/\p.1∉X.fs/\∀ v,p.2.data≠.cell v):Inv X a σ H s:=
 ⟨I.ok,I.os,I.bare,I.base,I.loc,I.cell,I.free,I.freeC,λp hp=>(ao.mp hp).elim (λz=>I.pin p (bI _ z)) (h p),I.hok,I.len⟩
theorem Yj {N:List Str} (h:N.Nodup) {j:Nat} (a:N[i]?=ii x) (b:N[j]?=ii x):i=j:=by obtain ⟨h1,e1⟩:=aF.mp a;obtain ⟨h2,e2⟩:=aF.mp b;exact (fR h).mp (e1.trans e2.symm)
theorem KW {M:Model} {A:iL} {E:ip->iu->Prop} {Q:Unit->iu->Prop} (I:Inv X pins σ H s) (F:X.N.Nodup) (hi:X.N[i]?=ii x) (hx:Loc X.env.scope x) (r:RelV v u)
  (h:∀ s',Inv X pins (σ.set i (ii v)) H s'->(∃ a,bJ a s.heap s'.heap/\(a=X.env.locals\/X.env.cells.lookup x=ii a))->Q () s') (hf:X.fn x=ir\/X.env.scope.names.lookup x=ii .local:=by first | exact .inl rfl | exact .inr rfl | assumption):iy M A (storeName X.env x u) Q E s:=by
 obtain ⟨m,hn,hl⟩:=id I.loc;have O:(X.env.scope.kind == .class||(X.env.scope.kind == .module&&X.env.locals != X.env.globals))=false:=by rw [I.ok.kind]; rfl
 have C:i < σ.length:=by rw [I.len]; exact (aF.mp hi).1
 have cne:=I.cne;have t:∀ {a:Addr} {h':Heap},(∃ o,s.heap.get? a=ii o/\H a=ij)->bJ a s.heap h'->HOk X.prog X.w H h':=λ{a h'} ha f b ob e=>by
  obtain ⟨_,_,l⟩:=ha;refine (I.hok b ob e).stay (λc S g q=>(f.2 c ?_).trans q) (λ_ q=>q) λ_ _ q=>q;rintro rfl;rcases g with rfl | g;·rw [l] at e; cases e
  ·rw [l] at g; cases g
 rcases hx with B | B
 ·refine wpAny_storeName_local B hn (λh' Z f=>?_) O;obtain ⟨oL,_,_,Y,_⟩:=id hn;refine h _ ⟨I.ok,I.os,I.bare,⟨λb o e n J hx=>?_,λb o e n J hx=>?_,I.base.free,λb o e hx=>?_,I.base.tups,I.base.frzs,I.base.tbls⟩,⟨_,Z,λj y U e1 e2 e3=>?_⟩,λy c e=>?_,I.free,I.freeC,λp hp=>?_,t ⟨oL,Y,I.free⟩ f,by simpa using I.len⟩ ⟨_,f,.inl rfl⟩;·exact (f.2 b (aD (aI (ay e) I.ok.above))).trans (I.base.keep b o e n J hx)
  ·obtain ⟨sl,e1⟩:=I.base.slot b o e n J hx;exact ⟨sl,(f.2 b (aD (aI (ay e) I.ok.above))).trans e1⟩
  ·obtain ⟨o',e1⟩:=I.base.there b o e hx;exact ⟨o',(f.2 b (aD (aI (ay e) I.ok.above))).trans e1⟩
  ·by_cases D:j=i;·subst D;rw [hi] at e1; cases e1;rw [aN C] at e2;cases e2;exact ⟨u,r,.inl ⟨B,by simp⟩⟩
   ·rw [aC (bw D)] at e2;obtain ⟨V,r',q⟩:=hl j y U e1 e2 e3;refine ⟨V,r',?_⟩;rcases q with ⟨k,e⟩ | ⟨k,c,e,z⟩
    ·refine .inl ⟨k,?_⟩;have:y≠x:=λe=>D (Yj F e1 (e ▸ hi));simp [this,e]
    ·exact .inr ⟨k,c,e,z.sameBut f (cne y c e)⟩
  ·obtain ⟨S,z⟩:=I.cell y c e;exact ⟨S,z.sameBut f (cne y c e)⟩
  ·obtain ⟨e,n,ne,W,d⟩:=I.pin p hp;exact ⟨(f.2 p.1 ne).trans e,n,ne,W,d⟩
 ·have G:X.fn x=true:=by
   rcases hf with z | z;·exact z
   ·rw [z] at B; cases B
  obtain ⟨c,g⟩:=I.ok.has x (.inl B);obtain ⟨S,z⟩:=I.cell x c g;refine wpAny_storeName_cell I.ok.kind B g z (λh' R f=>?_);obtain ⟨oc,L,K⟩:=id z;refine h { s with heap:=h' } ⟨I.ok,I.os,I.bare,⟨λb o e n J hx=>?_,λb o e n J hx=>?_,I.base.free,λb o e hx=>?_,I.base.tups,I.base.frzs,I.base.tbls⟩,⟨m,hn.sameBut f (bw (cne x c g)),λj y U e1 e2 e3=>?_⟩,λy T e=>?_,I.free,I.freeC,λp hp=>?_,t ⟨oc,L,I.freeC x c g⟩ f,by simpa using I.len⟩ ⟨c,f,.inr g⟩;·exact (f.2 b (aD (aI (ay e) (I.ok.cab x c G g)))).trans (I.base.keep b o e n J hx)
  ·obtain ⟨sl,e1⟩:=I.base.slot b o e n J hx;exact ⟨sl,(f.2 b (aD (aI (ay e) (I.ok.cab x c G g)))).trans e1⟩
  ·obtain ⟨o',e1⟩:=I.base.there b o e hx;exact ⟨o',(f.2 b (aD (aI (ay e) (I.ok.cab x c G g)))).trans e1⟩
  ·by_cases D:j=i;·subst D;rw [hi] at e1; cases e1;rw [aN C] at e2;cases e2;exact ⟨u,r,.inr ⟨.inl B,c,g,R⟩⟩
   ·rw [aC (bw D)] at e2;obtain ⟨V,r',q⟩:=hl j y U e1 e2 e3;refine ⟨V,r',?_⟩;rcases q with q | ⟨k,T,e,z'⟩
    ·exact .inl q
    ·refine .inr ⟨k,T,e,z'.sameBut f ?_⟩;rintro rfl;exact D (Yj F e1 (I.ok.inj _ _ _ e g ▸ hi))
  ·by_cases P:T=c;·subst P; exact ⟨_,R⟩
   ·obtain ⟨w2,z2⟩:=I.cell y T e;exact ⟨w2,z2.sameBut f P⟩
  ·obtain ⟨e,n,ne,W,d⟩:=I.pin p hp;refine ⟨(f.2 p.1 ?_).trans e,n,ne,W,d⟩;intro q;rw [q,L] at e;have q':oc=p.2:=aK.inj e;exact d S (by rw [<-q']; exact K)
theorem Yk {M:Model} {A:iL} {E:ip->iu->Prop} {Q:Unit->iu->Prop} (I:Inv X pins σ H s) (a:X.N.Nodup) (hi:X.N[i]?=ii x) (hx:Loc X.env.scope x) (r:RelV v u)
  (h:∀ s',Inv X pins (σ.set i (ii v)) H s'->Q () s') (f:X.fn x=ir\/X.env.scope.names.lookup x=ii .local:=by first | exact .inl rfl | exact .inr rfl | assumption):iy M A (storeName X.env x u) Q E s:=
 KW I a hi hx r (λs' b _=>h s' b) f
theorem Inv.call' {ch:List Addr} (I:Inv X pins σ H s) (j:s'.os=s.os) (u:Un (frs X.stack) ch H H' s.heap s'.heap) (hok:HOk X.prog X.w H' s'.heap) (hg:lQ s'.gens)
  (a:∀ b∈ch,(b∈X.ex\/X.s₀.heap.objs.size<=b)/\b≠X.env.locals/\(∀ x c,X.env.cells.lookup x=ii c->c≠b)/\∀ p∈X.pn++pins,p.1≠b):Inv X pins σ H' s':=by
 obtain ⟨h',g',d',t',o'⟩:=s';have e:o'=s.os:=j;subst e;exact I.call (g':=g') (t':=t') (d':=d') u hok hg a
end
abbrev XK:=ip->Option Addr->Hp->Prop
abbrev St:=List (Option V)
abbrev VK:=V->Hp->Prop
abbrev TE:=St->Hp->VK->Prop
abbrev TT:=St->Hp->(Bool->Hp->Prop)->Prop
abbrev TA:=St->Hp->(List V->Hp->Prop)->Prop
structure Ends where
 nx:St->Hp->Prop
 rt:VK
 bk:St->Hp->Prop:=λ_ _=>False
 ct:St->Hp->Prop:=λ_ _=>False
abbrev TS:=Ends->St->Hp->Prop
def EP (X:Cx) (pins:Pns) (σ:St) (Q:VK) (u:ip) (s':iu):Prop:=∃ v H',Inv X pins σ H' s'/\RelV v u/\Q v H'
def TP (X:Cx) (pins:Pns) (σ:St) (Q:Bool->Hp->Prop) (b:Bool) (s':iu):Prop:=∃ H',Inv X pins σ H' s'/\Q b H'
def AP (X:Cx) (pins:Pns) (σ:St) (Q:List V->Hp->Prop) (us:List ip) (s':iu):Prop:=∃ vs H',Inv X pins σ H' s'/\Vals vs us/\Q vs H'
def SP (X:Cx) (pins:Pns) (D:Ends) (f:Flow) (s':iu):Prop:=
 match f with
 | .next=>∃ σ' H',Inv X pins σ' H' s'/\D.nx σ' H'
 | .brk=>∃ σ' H',Inv X pins σ' H' s'/\D.bk σ' H'
 | .cont=>∃ σ' H',Inv X pins σ' H' s'/\D.ct σ' H'
 | .ret u=>∃ v σ' H',Inv X pins σ' H' s'/\RelV v u/\D.rt v H'
structure PE (X:Cx) (e:Expr) (t:TE):Prop where
 run:∀ (pins:Pns) (s:iu) (σ:St) (H:Hp) (Q:VK),Inv X pins σ H s->t σ H Q->iy (model X.prog X.w) X.A (eval e X.env) (EP X pins σ Q) X.xe s
instance {X:Cx} {e:Expr} {t:TE}:CoeFun (PE X e t) (λ_=>∀ (pins:Pns) (s:iu) (σ:St) (H:Hp) (Q:VK),Inv X pins σ H s->t σ H Q->iy (model X.prog X.w) X.A (eval e X.env) (EP X pins σ Q) X.xe s):=⟨λh=>h.run⟩
structure PT (X:Cx) (e:Expr) (t:TT):Prop where
 run:∀ (pins:Pns) (s:iu) (σ:St) (H:Hp) (Q:Bool->Hp->Prop),Inv X pins σ H s->t σ H Q->iy (model X.prog X.w) X.A (isTrue e X.env (eval e X.env)) (TP X pins σ Q) X.xe s
instance {X:Cx} {e:Expr} {t:TT}:CoeFun (PT X e t) (λ_=>∀ (pins:Pns) (s:iu) (σ:St) (H:Hp) (Q:Bool->Hp->Prop),Inv X pins σ H s->t σ H Q->iy (model X.prog X.w) X.A (isTrue e X.env (eval e X.env)) (TP X pins σ Q) X.xe s):=⟨λh=>h.run⟩
structure PW (X:Cx) (e:Expr) (t:TT):Prop where
 run:∀ (whole:Sem ip) (pins:Pns) (s:iu) (σ:St) (H:Hp) (Q:Bool->Hp->Prop),Inv X pins σ H s->t σ H Q->iy (model X.prog X.w) X.A (isTrue e X.env whole) (TP X pins σ Q) X.xe s
instance {X:Cx} {e:Expr} {t:TT}:CoeFun (PW X e t) (λ_=>∀ (whole:Sem ip) (pins:Pns) (s:iu) (σ:St) (H:Hp) (Q:Bool->Hp->Prop),Inv X pins σ H s->t σ H Q->iy (model X.prog X.w) X.A (isTrue e X.env whole) (TP X pins σ Q) X.xe s):=⟨λh=>h.run⟩
variable {e:Expr}
theorem PW.pt {t:TT} (h:PW X e t):PT X e t:=⟨h.run _⟩
structure PA (X:Cx) (es:List Expr) (t:TA):Prop where
 run:∀ (pos:Pos) (pins:Pns) (s:iu) (σ:St) (H:Hp) (Q:List V->Hp->Prop),Inv X pins σ H s->t σ H Q->iy (model X.prog X.w) X.A (spliced (iZ pos (iA es X.env))) (AP X pins σ Q) X.xe s
instance {X:Cx} {es:List Expr} {t:TA}:CoeFun (PA X es t) (λ_=>∀ (pos:Pos) (pins:Pns) (s:iu) (σ:St) (H:Hp) (Q:List V->Hp->Prop),Inv X pins σ H s->t σ H Q->iy (model X.prog X.w) X.A (spliced (iZ pos (iA es X.env))) (AP X pins σ Q) X.xe s):=⟨λh=>h.run⟩
structure PS (X:Cx) (st:Stmt) (t:TS):Prop where
 run:∀ (pins:Pns) (s:iu) (σ:St) (H:Hp) (D:Ends),Inv X pins σ H s->t D σ H->iy (model X.prog X.w) X.A (exec st X.env) (SP X pins D) X.xe s
instance {X:Cx} {st:Stmt} {t:TS}:CoeFun (PS X st t) (λ_=>∀ (pins:Pns) (s:iu) (σ:St) (H:Hp) (D:Ends),Inv X pins σ H s->t D σ H->iy (model X.prog X.w) X.A (exec st X.env) (SP X pins D) X.xe s):=⟨λh=>h.run⟩
structure PSs (X:Cx) (st:List Stmt) (t:TS):Prop where
 run:∀ (pins:Pns) (s:iu) (σ:St) (H:Hp) (D:Ends),Inv X pins σ H s->t D σ H->iy (model X.prog X.w) X.A (execs st X.env) (SP X pins D) X.xe s
instance {X:Cx} {st:List Stmt} {t:TS}:CoeFun (PSs X st t) (λ_=>∀ (pins:Pns) (s:iu) (σ:St) (H:Hp) (D:Ends),Inv X pins σ H s->t D σ H->iy (model X.prog X.w) X.A (execs st X.env) (SP X pins D) X.xe s):=⟨λh=>h.run⟩
variable {A:iL}
theorem thn {t:Sem α} {Q b:α->iu->Prop} {M:Model} {E:ip->iu->Prop} (h:iy M A t Q E s) (c:∀ a s,Q a s->b a s):iy M A t b E s:=j6 h c λ_ _ x=>x
variable {σ:St} {pos:Pos} {Q:ip->iu->Prop} {ta:TE} {c:Expr}
section
def qkb (i:Nat):TE:=λσ H Q=>∃ v,σ[i]?=ii (ii v)/\Q v H
def tC (v:V):TE:=λ_ H Q=>Q v H
abbrev Dbg (x:Str):Prop:=(x == ("__debug__":Str))=iq
abbrev Cdk (x:Str):Prop:=(x == ("__classdict__":Str))=iq
theorem yR (j:X.N[i]?=ii x) (f:Vis X.env.scope x) (hd:Dbg x:=by decide) (d:Cdk x:=by decide):PE X (.Name x pos) (qkb i):=by
 refine ⟨?_⟩;intro pins s σ H Q I h;obtain ⟨v,e,h⟩:=h;obtain ⟨m,hn,hl⟩:=I.loc;obtain ⟨u,r,l⟩:=hl i x v j e f;have fin:EP X pins σ Q u s:=⟨v,H,I,r,h⟩
 rcases l with ⟨k,g⟩ | ⟨k,c,b,a⟩
 ·exact wpAny_Name (wpAny_loadName_local I.ok.kind k hn g fin) hd
 ·rcases k with k | k;·exact wpAny_Name (wpAny_loadName_cell I.ok.kind k b a fin) hd
  ·exact wpAny_Name (wpAny_loadName_free I.ok.kind k b a fin d) hd
theorem qdP {i j pos}:PE X (.Constant (.int i) j pos) (tC (.int i)):=⟨λ_ _ _ H _ I h=>wpAny_Constant_int ⟨.int i,H,I.tok _,⟨_,rfl⟩,h⟩⟩
theorem qiY {b j pos}:PE X (.Constant (.bool b) j pos) (tC (.bl b)):=⟨λ_ _ _ H _ I h=>Constant_bool ⟨.bl b,H,I,rfl,h⟩⟩
theorem qgy {j pos}:PE X (.Constant .none j pos) (tC .non):=⟨λ_ _ _ H _ I h=>Constant_none ⟨.non,H,I,rfl,h⟩⟩
theorem qgz {x j pos}:PE X (.Constant (.str x) j pos) (tC (.str x)):=⟨λ_ _ _ H _ I h=>Calls.Constant_str ⟨.str x,H,I.tok _,⟨_,rfl⟩,h⟩⟩
def Gl (X:Cx) (x:Str):Prop:=X.env.kindOf x=ii .globalImplicit
theorem Jo {E:ip->iu->Prop} {pos:Pos} (I:Inv X pins σ H s) (hg:Gl X x) (c:X.mg x=ii u) (h:Q u s)
  (hd:Dbg x:=by decide):iy (model X.prog X.w) X.A (eval (.Name x pos) X.env) Q E s:=
 Calls.Name_function_global I.ok.kind hg (Calls.loadGlobal_global (by rw [I.ok.glob]; exact I.mod.glob.keeps I.bk) c h) hd
theorem yS {E:ip->iu->Prop} {pos:Pos} (I:Inv X pins σ H s) (hg:Gl X x) (m:X.mg x=ij) (c:iC x=ii u) (h:Q u s)
  (hn:x ≠ "__name__":=by decide) (hd:Dbg x:=by decide):iy (model X.prog X.w) X.A (eval (.Name x pos) X.env) Q E s:=by
 obtain ⟨mb,h1,h2⟩:=I.mod.blt;exact Calls.Name_function_global I.ok.kind hg (Calls.loadGlobal_builtin (by rw [I.ok.glob]; exact I.mod.glob.keeps I.bk) m (by rw [I.ok.blt]; exact h1.keeps I.bk) ((h2 x hn).trans c) h) hd
theorem qeC (hg:Gl X x) (c:X.mg x=ii u) (r:RelV v u) (hd:Dbg x:=by decide):PE X (.Name x pos) (tC v):=⟨λ_ _ _ H _ I h=>Jo I hg c ⟨v,H,I,r,h⟩ hd⟩
theorem qeD (hg:Gl X x) (m:X.mg x=ij) (c:iC x=ii u) (r:RelV v u) (hn:x ≠ "__name__":=by decide) (hd:Dbg x:=by decide):PE X (.Name x pos) (tC v):=⟨λ_ _ _ H _ I h=>yS I hg m c ⟨v,H,I,r,h⟩ hn hd⟩
variable {a b:Expr} {tb:TE}
variable {tA tB':TT} {rest:List Expr}
def qkF (t u:TT):TT:=λσ H Q=>t σ H λc H1=>if c=ir then u σ H1 Q else Q iq H1
def tOr (t u:TT):TT:=λσ H Q=>t σ H λc H1=>if c=ir then Q ir H1 else u σ H1 Q
def qkG (t:TT):TT:=λσ H Q=>t σ H λc H1=>Q (!c) H1
theorem qeE (g:PT X a tA):PW X (.BoolOp .And [a] pos) tA:=by
 refine ⟨?_⟩;intro w pins s σ H Q I h;refine isTrue_and (thn (g pins s σ H Q I h) λc s1 e=>?_);cases c with
 | true=>exact isTrue_and_nil e
 | false=>exact e
theorem qgA (g:PT X a tA):PW X (.BoolOp .Or [a] pos) tA:=by
 refine ⟨?_⟩;intro w pins s σ H Q I h;refine isTrue_or (thn (g pins s σ H Q I h) λc s1 e=>?_);cases c with
 | false=>exact isTrue_or_nil e
 | true=>exact e
theorem qgB (g:PT X a tA) (e:PW X (.BoolOp .And (b::rest) pos) tB'):PW X (.BoolOp .And (a::b::rest) pos) (qkF tA tB'):=by
 refine ⟨?_⟩;intro w pins s σ H Q I h;refine isTrue_and (thn (g pins s σ H _ I h) λc s1 ⟨H1,d,q1⟩=>?_);cases c with
 | true=>exact e w pins s1 σ H1 Q d q1
 | false=>exact ⟨H1,d,q1⟩
theorem qiZ (g:PT X a tA) (e:PW X (.BoolOp .Or (b::rest) pos) tB'):PW X (.BoolOp .Or (a::b::rest) pos) (tOr tA tB'):=by
 refine ⟨?_⟩;intro w pins s σ H Q I h;refine isTrue_or (thn (g pins s σ H _ I h) λc s1 ⟨H1,d,q1⟩=>?_);cases c with
 | true=>exact ⟨H1,d,q1⟩
 | false=>exact e w pins s1 σ H1 Q d q1
theorem qgC (g:PT X a tA):PT X (.UnaryOp .Not a pos) (qkG tA):=by refine ⟨?_⟩;intro pins s σ H Q I h;exact isTrue_not (g pins s σ H (λc H1=>Q (!c) H1) I h)
def qi0 (ta tb:TE):TE:=λσ H Q=>ta σ H λx H1=>∃ c,x=.bl c/\if c=ir then tb σ H1 Q else Q (.bl iq) H1
theorem qgD {op} {t:TE} (h:PE X a t):PE X (.BoolOp op [a] pos) t:=⟨λpins s σ H Q I w=>BoolOp_one (h pins s σ H Q I w)⟩
theorem qgE (g:PE X a ta) (e:PE X (.BoolOp .And (b::rest) pos) tb):PE X (.BoolOp .And (a::b::rest) pos) (qi0 ta tb):=by
 refine ⟨?_⟩;intro pins s σ H Q I h;refine BoolOp_and (thn (g pins s σ H _ I h) λv s1 ⟨x,H1,d,r1,q1⟩=>?_);obtain ⟨c,rfl,q1⟩:=q1;cases r1;refine iY ?_;cases c with
 | true=>exact e pins s1 σ H1 Q d q1
 | false=>exact ⟨.bl iq,H1,d,rfl,q1⟩
def tIf (t:TT) (ta tb:TE):TE:=λσ H Q=>t σ H λc H1=>if c=ir then ta σ H1 Q else tb σ H1 Q
theorem qb0 (f:PT X c tA) (i:PE X a ta) (g:PE X b tb):PE X (.IfExp c a b pos) (tIf tA ta tb):=by
 refine ⟨?_⟩;intro pins s σ H Q I h;refine wpAny_IfExp (thn (f pins s σ H _ I h) λd s1 ⟨H1,e,q1⟩=>?_);cases d with
 | true=>exact i pins s1 σ H1 Q e q1
 | false=>exact g pins s1 σ H1 Q e q1
end
def SqL (K:Frag) (H:Hp) (a:Addr) (xs:List V):Prop:=
 Rd H a (.lst xs) \/
  ∃ (o:Obj) (its:Array ip) (n:Nat),K.lookup a=ii o/\o.cls=.type "list"/\o.dict=ij/\o.data=.seq its n/\its.size<=sizeLine/\Vals xs its.toList
def SqT (K:Frag) (H:Hp) (a:Addr) (xs:List V):Prop:=
 Rd H a (.tup xs) \/
  ∃ (o:Obj) (its:Array ip) (n:Nat),K.lookup a=ii o/\(o.cls=.type "tuple"/\o.dict=ij)/\o.data=.seq its n/\its.size<=sizeLine/\Vals xs its.toList
noncomputable def qkH:ip->Option V
 | .none=>ii .non
 | .bool b=>ii (.bl b)
 | .int i _=>ii (.int i)
 | .str x _=>ii (.str x)
 | .bytes b _=>ii (.byt b)
 | .float b _=>ii (.flt b)
 | .ref a=>ii (.ref a)
 | .type n=>ii (.ty n)
 | _=>ij
theorem RelV.abs {x:V} (r:RelV x u):qkH u=ii x:=by
 cases x with
 | non=>cases r; rfl
 | bl _=>cases r; rfl
 | int _=>obtain ⟨t,rfl⟩:=r; rfl
 | str _=>obtain ⟨t,rfl⟩:=r; rfl
 | byt _=>obtain ⟨t,rfl⟩:=r; rfl
 | flt _=>obtain ⟨t,rfl⟩:=r; rfl
 | ref _=>cases r; rfl
 | ty _=>cases r; rfl
theorem RelV.inj {x y:V} (r:RelV x u) (q:RelV y u):x=y:=aK.inj (r.abs.symm.trans q.abs)
variable {ys:List V}
theorem Vals.inj (h:Vals xs us) (h':Vals ys us):xs=ys:=by
 induction h generalizing ys with
 | nil=>cases h'; rfl
 | cons r t i=>
  cases h' with
  | cons r' t'=>rw [r.inj r',i t']
variable {K:Frag}
section
theorem SqT.of (h:H a=ii (.tup xs)):SqT K H a xs:=.inl (.inl h)
theorem Inv.list (I:Inv X pins σ H s) (h:SqL X.K H a xs):∃ its:List ip,Vals xs its/\PlainL s.heap a its.toArray/\xs.length<=sizeLine:=by
 rcases h with h | ⟨o,its,n,hk,hc,hd,hs,hz,r⟩
 ·obtain ⟨z,its,n,r,e⟩:=h.ok I.hok;exact ⟨its,r,⟨_,n,e,rfl,rfl,rfl⟩,z⟩
 ·refine ⟨its.toList,r,⟨o,n,I.kIn a o hk,hc,hd,by simpa using hs⟩,?_⟩;have e:=r.length;simp only [bE] at e
  lia
theorem Inv.tuple (I:Inv X pins σ H s) (h:SqT X.K H a xs):∃ its:List ip,Vals xs its/\IsTup s.heap a its.toArray/\xs.length<=sizeLine:=by
 rcases h with h | ⟨o,its,n,hk,hc,hs,hz,r⟩
 ·obtain ⟨⟨z,_⟩,its,r,p⟩:=h.ok I.hok;exact ⟨its,r,p,z⟩
 ·refine ⟨its.toList,r,⟨o,I.kIn a o hk,hc.1,n,by simpa using hs⟩,?_⟩;have e:=r.length;simp only [bE] at e
  lia
theorem Inv.tupleN (I:Inv X pins σ H s) (h:SqT X.K H a xs):∃ o,s.heap.get? a=ii o/\o.dict=none:=by
 rcases h with h | ⟨o,its,n,hk,hc,hs,hz,r⟩
 ·obtain ⟨⟨z,w⟩,its,r,p⟩:=h.ok I.hok;exact w
 ·exact ⟨o,I.kIn a o hk,hc.2⟩
theorem Inv.list_inj (I:Inv X pins σ H s) (h:SqL X.K H a xs) (h':SqL X.K H a ys):xs=ys:=by
 obtain ⟨its,r,⟨o,n,e,_,_,d⟩,_⟩:=I.list h;obtain ⟨its',r',⟨o',c,b,_,_,d'⟩,_⟩:=I.list h';rw [e] at b; cases b;rw [d] at d';injection d' with d1 _;have:its=its':=by simpa using congrArg Array.toList d1
 subst this;exact r.inj r'
theorem Inv.tuple_inj (I:Inv X pins σ H s) (h:SqT X.K H a xs) (h':SqT X.K H a ys):xs=ys:=by
 obtain ⟨its,r,⟨o,e,_,n,d⟩,_⟩:=I.tuple h;obtain ⟨its',r',⟨o',b,_,c,d'⟩,_⟩:=I.tuple h';rw [e] at b; cases b;rw [d] at d';injection d' with d1 _;have:its=its':=by simpa using congrArg Array.toList d1
 subst this;exact r.inj r'
end
variable {te:TE} {tc:TT}
section
variable {st:Stmt} {rest:List Stmt} {t u:TS}
def qi1:TS:=λD σ H=>D.nx σ H
def qkI (t u:TS):TS:=λD σ H=>t { D with nx:=u D } σ H
theorem ZP:PSs X [] qi1:=⟨λ_ _ σ H _ I h=>lN ⟨σ,H,I,h⟩⟩
theorem qb1 (h1:PS X st t) (h2:PSs X rest u):PSs X (st::rest) (qkI t u):=by
 refine ⟨?_⟩;intro pins s σ H D I h;refine wpAny_execs_cons (thn (h1 pins s σ H { D with nx:=u D } I h) λf s1 q=>?_);cases f with
 | next=>obtain ⟨σ',H',b,q⟩:=q;exact h2 pins s1 σ' H' D b q
 | ret v=>exact q
 | brk=>exact q
 | cont=>exact q
theorem qeF (h1:PS X st t):PSs X [st] t:=by
 refine ⟨?_⟩;intro pins s σ H D I h;refine wpAny_execs_cons (thn (h1 pins s σ H D I h) λf s1 q=>?_);cases f with
 | next=>exact lN q
 | ret v=>exact q
 | brk=>exact q
 | cont=>exact q
theorem Inv.quiet (I:Inv X pins σ H s):interactive X.env=false:=by simp [interactive,I.ok.kind]
def qi2 (te:TE):TS:=λD σ H=>te σ H λ_ H1=>D.nx σ H1
theorem qeG (i:PE X e te) (c:ll e ij pos.line X.env=pure false:=by rfl):PS X (.Expr e pos) (qi2 te):=by refine ⟨?_⟩;intro pins s σ H D I h;exact wpAny_Expr_any (thn (i pins s σ H _ I h) λv s1 ⟨x,H1,d,r1,q1⟩=>⟨σ,H1,d,q1⟩) I.quiet c
def qkJ (te:TE):TS:=λD σ H=>te σ H D.rt
theorem qgF (i:PE X e te):PS X (.Return (ii e) pos) (qkJ te):=by refine ⟨?_⟩;intro pins s σ H D I h;exact wpAny_Return_some (thn (i pins s σ H _ I h) λv s1 ⟨x,H1,d,r1,q1⟩=>⟨x,σ,H1,d,r1,q1⟩)
def qkK (c:TT) (t u:TS):TS:=λD σ H=>c σ H λb H1=>if b=ir then t D σ H1 else u D σ H1
theorem qi3 {a b:List Stmt} (f:PT X c tc) (i:PSs X a t) (g:PSs X b u):PS X (.If c a b pos) (qkK tc t u):=by
 refine ⟨?_⟩;intro pins s σ H D I h;refine wpAny_If (thn (f pins s σ H _ I h) λd s1 ⟨H1,e,q1⟩=>?_);cases d with
 | true=>exact i pins s1 σ H1 D e q1
 | false=>exact g pins s1 σ H1 D e q1
end
abbrev TG:=V->St->Hp->(St->Hp->Prop)->Prop
abbrev TGs:=List V->St->Hp->(St->Hp->Prop)->Prop
structure PG (X:Cx) (target:Expr) (t:TG):Prop where
 run:∀ (pins:Pns) (s:iu) (σ:St) (H:Hp) (v:V) (u:ip) (Q:St->Hp->Prop),Inv X pins σ H s->RelV v u->t v σ H Q ->iy (model X.prog X.w) X.A (assign target X.env u) (λ_ s'=>∃ σ' H',Inv X pins σ' H' s'/\Q σ' H') X.xe s
instance {X:Cx} {target:Expr} {t:TG}:CoeFun (PG X target t) (λ_=>∀ (pins:Pns) (s:iu) (σ:St) (H:Hp) (v:V) (u:ip) (Q:St->Hp->Prop),Inv X pins σ H s->RelV v u->t v σ H Q ->iy (model X.prog X.w) X.A (assign target X.env u) (λ_ s'=>∃ σ' H',Inv X pins σ' H' s'/\Q σ' H') X.xe s):=⟨λh=>h.run⟩
structure PGs (X:Cx) (ts:List Expr) (t:TGs):Prop where
 run:∀ (pins:Pns) (s:iu) (σ:St) (H:Hp) (vs:List V) (us:List ip) (Q:St->Hp->Prop),Inv X pins σ H s->Vals vs us->t vs σ H Q ->iy (model X.prog X.w) X.A (assignInOrder ((i6 ts X.env).map (·.2)) us) (λ_ s'=>∃ σ' H',Inv X pins σ' H' s'/\Q σ' H') X.xe s
instance {X:Cx} {ts:List Expr} {t:TGs}:CoeFun (PGs X ts t) (λ_=>∀ (pins:Pns) (s:iu) (σ:St) (H:Hp) (vs:List V) (us:List ip) (Q:St->Hp->Prop),Inv X pins σ H s->Vals vs us->t vs σ H Q ->iy (model X.prog X.w) X.A (assignInOrder ((i6 ts X.env).map (·.2)) us) (λ_ s'=>∃ σ' H',Inv X pins σ' H' s'/\Q σ' H') X.xe s):=⟨λh=>h.run⟩
variable {es:List Expr} {tg:Expr}
section
def qgG (i:Nat):TG:=λv σ H Q=>Q (σ.set i (ii v)) H
theorem qeH (a:X.N.Nodup) (hi:X.N[i]?=ii x) (hx:Loc X.env.scope x) (f:X.fn x=ir\/X.env.scope.names.lookup x=ii .local:=by first | exact .inl rfl | exact .inr rfl | assumption):PG X (.Name x pos) (qgG i):=by refine ⟨?_⟩;intro pins s σ H v u Q I r h;exact wpAny_assign_Name (Yk I a hi hx r (λs' b=>⟨_,H,b,h⟩) f)
def qkL:TGs:=λvs σ H Q=>vs=[]/\Q σ H
def qi4 (t:TG) (u:TGs):TGs:=λvs σ H Q=>∃ v r,vs=v::r/\t v σ H λσ' H'=>u r σ' H' Q
theorem qeI:PGs X [] qkL:=by refine ⟨?_⟩;intro pins s σ H vs us Q I r h;obtain ⟨e,h⟩:=h;subst e;cases r;exact assignInOrder_nil ⟨σ,H,I,h⟩
theorem qb2 {t:TG} {u:TGs} (h1:PG X e t) (h2:PGs X es u)
  (c:(i6 (e::es) X.env).map (·.2)=assign e X.env::(i6 es X.env).map (·.2):=by rfl):PGs X (e::es) (qi4 t u):=by
 refine ⟨?_⟩;intro pins s σ H vs us Q I r h;obtain ⟨v,vr,e1,h⟩:=h;subst e1;cases r with
 | cons r a=>rw [c];refine assignInOrder_cons (thn (h1 pins s σ H _ _ _ I r h) λ_ s1 ⟨σ1,H1,d,q1⟩=>?_);exact h2 pins s1 σ1 H1 _ _ Q d a q1
def qkM (K:Frag) (n:Nat) (t:TGs):TG:=λv σ H Q=>∃ a xs,v=.ref a/\SqT K H a xs/\xs.length=n/\t xs σ H Q
theorem qgH {k:Nat} {t:TGs} {n:Nat} (f:X.calm=ir) (h:PGs X es t)
  (hn:(i6 es X.env).length=n:=by rfl) (c:(i6 es X.env).findIdx? (·.1)=none:=by rfl):PG X (.Tuple es k pos) (qkM X.K n t):=by
 refine ⟨?_⟩;intro pins s σ H v u Q I r w;obtain ⟨a,xs,e1,hq,hl,w⟩:=w;subst e1;cases r;obtain ⟨its,d,ht,z⟩:=I.tuple hq;refine assign_Tuple_tuple (I.ok.hd f) ht (by simp [hn,<-hl,d.length]) c λh' hx=>?_;have g:Inv X pins σ H { s with heap:=h' }:=I.kept (t':=s.toks) λb o e=>hx b o (aD (ay e)) e;exact h pins _ σ H xs _ Q g (by simpa using d) w
def qkc (te:TE) (g:TG):TS:=λD σ H=>te σ H λx H1=>g x σ H1 D.nx
theorem qgI {g:TG} (i:PE X e te) (hg:PG X tg g) (c:swapsWithSole [tg] e pos.line X.env=pure false:=by rfl) (w:swappedStores [tg] e X.env=pure none:=by rfl)
  (h1:(i6 [tg] X.env).map (·.2)=[assign tg X.env]:=by rfl):PS X (.Assign [tg] e pos) (qkc te g):=by
 refine ⟨?_⟩;intro pins s σ H D I h;refine wpAny_Assign_stores (thn (i pins s σ H _ I h) λv s1 ⟨x,H1,d,r1,q1⟩=>?_) c w;rw [h1];exact thn (hg pins s1 σ H1 x v _ d r1 q1) λ_ s2 q=>q
theorem qdQ {pos':Pos} (b:X.N.Nodup) (hi:X.N[i]?=ii x) (hx:Loc X.env.scope x) (a:PE X e te) (c:ll e (ii (.Name x pos')) pos.line X.env=pure false:=by rfl) (f:X.fn x=ir\/X.env.scope.names.lookup x=ii .local:=by first | exact .inl rfl | exact .inr rfl | assumption):PS X (.Assign [.Name x pos'] e pos) (qkc te (qgG i)):=by refine ⟨?_⟩;intro pins s σ H D I h;refine wpAny_Assign_Name (thn (a pins s σ H _ I h) λv s1 ⟨y,H1,g,r1,q1⟩=>?_) c;exact Yk g b hi hx r1 (λs2 d=>⟨_,H1,d,q1⟩) f
end
variable {tb:TS} {body:List Stmt}
section
def qgJ (c:TT) (tb:TS):TS:=λD σ H=>∃ W:Nat->St->Hp->Prop,(∃ m,W m σ H)/\∀ m σ H,W m σ H ->c σ H λb H1=>if b=ir then ∃ N:St->Hp->Prop,(∀ σ' H',N σ' H'->∃ f,f < m/\W f σ' H')/\tb { D with nx:=N,ct:=N,bk:=D.nx } σ H1 else D.nx σ H1
theorem qb3 (hp:PassesOwn (model X.prog X.w) X.A X.env X.xe) (r:PT X c tc) (u:PSs X body tb):PS X (.While c body [] pos) (qgJ tc tb):=by
 refine ⟨?_⟩;intro pins s σ H D I h;obtain ⟨W,⟨m0,p⟩,t⟩:=h;refine wpAny_While (codeAny_whileLoop (λn s'=>∃ σ' H',Inv X pins σ' H' s'/\W n σ' H') ?_ m0 ⟨σ,H,I,p⟩);rintro n s1 ⟨σ1,H1,x,w1⟩;refine j3 hp (thn (r pins s1 σ1 H1 _ x (t n σ1 H1 w1)) λb s2 ⟨H2,o,e⟩=>?_);cases b with
 | true=>
  obtain ⟨N,l,e⟩:=e;rw [Aa rfl];refine j3 hp (thn (u pins s2 σ1 H2 _ o e) λf s3 q=>?_);cases f with
  | next=>obtain ⟨a,d,k,i⟩:=q;obtain ⟨m,j,g⟩:=l a d i;exact ⟨m,j,a,d,k,g⟩
  | cont=>obtain ⟨a,d,k,i⟩:=q;obtain ⟨m,j,g⟩:=l a d i;exact ⟨m,j,a,d,k,g⟩
  | brk=>exact q
  | ret v=>exact q
 | false=>rw [Ab bC];exact lN ⟨σ1,H2,o,e⟩
end
structure It where
 go:Nat->Hp->Prop
 yld:Nat->Hp->V->Hp->Prop
 stop:Nat->Hp->Prop
def WK (X:Cx) (pins:Pns) (H:Hp) (b:Addr):Prop:=
 H b=ij/\b≠X.env.locals/\b∉X.fs/\(b∈X.ex\/X.s₀.heap.objs.size<=b)/\(∀ x c,X.env.cells.lookup x=ii c->c≠b)/\∀ p∈X.pn++pins,p.1≠b
theorem Inv.fpOk (I:Inv X pins σ H s) (d:s.heap.objs.size<=b) (hn:H' b=ij):WK X pins H' b:=by
 refine ⟨hn,ci (aI I.lt d),I.nofs d,.inr (bN I.sz d),λx c e z=>?_,λp hp z=>?_⟩;·obtain ⟨v,q⟩:=I.cell x c e;exact absurd (aI q.lt (by rw [z]; exact d)) (cg _)
 ·exact absurd (aI (ay (I.pin p hp).1) (by rw [z]; exact d)) (cg _)
structure Turn (P:iE) (w:iG) (K:Frag) (tg:Expr) (J:It) (fp:List Addr) (it:Addr) (tn:Nat->Heap->Prop):Prop where
 mem:it∈fp
 obj:∀ i h,tn i h->∀ b∈fp,∃ o,h.get? b=ii o/\∀ v,o.data≠.cell v
 keep:∀ i h h',tn i h->(∀ b∈fp,∀ o,h.get? b=ii o->h'.get? b=ii o)->tn i h'
 item:∀ (X:Cx),X.prog=P->X.w=w->X.K=K->X.calm=ir->∀ (i:Nat) (pins:Pns) (s:iu) (σ:St) (H:Hp) (E:ip->iu->Prop),Inv X pins σ H s->(∀ b∈fp,WK X pins H b)->tn i s.heap->J.go i H ->iy (model P w) X.A (k9 (.ref it)) (λr s1=>∃ u,r=ii u /\
   iy (model P w) X.A (lO tg (.ref it) u) (λ_ s2=>∃ x H',Inv X pins σ H' s2/\RelV x u/\J.yld i H x H'/\tn (i+1) s2.heap/\∀ b∈fp,H' b=ij) E s1) E s
 done:∀ (X:Cx),X.prog=P->X.w=w->X.K=K->X.calm=ir->∀ (i:Nat) (pins:Pns) (s:iu) (σ:St) (H:Hp) (E:ip->iu->Prop),Inv X pins σ H s->(∀ b∈fp,WK X pins H b)->tn i s.heap->J.stop i H ->iy (model P w) X.A (k9 (.ref it)) (λr s1=>r=ij/\Inv X pins σ H s1) E s
 self:∀ (A:iL) (i:Nat) (s:iu) (Q:ip->iu->Prop) (E:ip->iu->Prop),tn i s.heap->Q (.ref it) s->iy (model P w) A (mB (.ref it)) Q E s
abbrev TI:=St->Hp->(It->Hp->Prop)->Prop
def PIE (X:Cx) (pins:Pns) (σ:St) (tg:Expr) (R:It->Hp->Prop) (i:ip) (s2:iu):Prop:=
 ∃ (it:Addr) (fp:List Addr) (tn:Nat->Heap->Prop) (J:It) (H':Hp),i=.ref it/\Inv X pins σ H' s2/\Turn X.prog X.w X.K tg J fp it tn/\tn 0 s2.heap/\(∀ b∈fp,WK X pins H' b)/\R J H'
structure PI (X:Cx) (tg iter:Expr) (wi:TI):Prop where
 run:∀ (pins:Pns) (s:iu) (σ:St) (H:Hp) (R:It->Hp->Prop),Inv X pins σ H s->wi σ H R ->iy (model X.prog X.w) X.A (eval iter X.env) (λv s1=>iy (model X.prog X.w) X.A (mB v) (PIE X pins σ tg R) X.xe s1) X.xe s
instance {X:Cx} {tg iter:Expr} {wi:TI}:CoeFun (PI X tg iter wi) (λ_=>∀ (pins:Pns) (s:iu) (σ:St) (H:Hp) (R:It->Hp->Prop),Inv X pins σ H s->wi σ H R ->iy (model X.prog X.w) X.A (eval iter X.env) (λv s1=>iy (model X.prog X.w) X.A (mB v) (PIE X pins σ tg R) X.xe s1) X.xe s):=⟨λh=>h.run⟩
theorem qb4 {M:Model} {A:iL} {E:ip->iu->Prop} {tg:Expr} {u:ip} {o:Obj} {n:String} {vs:Array ip} {Q:Unit->iu->Prop} (j:s.heap.get? it=ii o) (d:o.cls=.type n) (hd:o.data=.fields vs)
    (hn:["enumerate", "zip", "dict_itemiterator", "dict_reverseitemiterator", "odict_iterator", "itertools.zip_longest", "itertools.pairwise"].contains n=iq) (c:Q () s):iy M A (lO tg (.ref it) u) Q E s:=by
  unfold lO;cases tg <;> first
    | exact iw c
    | (cases u <;> first
        | exact iw c
        | (refine im (wpAny_load j ?_)
           rw [d,hd];show iy M A (if (["enumerate", "zip", "dict_itemiterator", "dict_reverseitemiterator", "odict_iterator", "itertools.zip_longest", "itertools.pairwise"].contains n&&vs[0]? == ii (iR _))=ir then _ else _) Q E s;rw [Ab (by intro h; rw [hn,Bool.false_and] at h; cases h)];exact iw c))
noncomputable def Itl (K:Frag) (a:Addr):It:=
 ⟨λi H=>∃ xs x,SqL K H a xs/\xs[i]?=ii x,λi H x H'=>H'=H/\∀ xs,SqL K H a xs->xs[i]?=ii x,λi H=>∃ xs,SqL K H a xs/\xs.length<=i⟩
noncomputable def Itt (K:Frag) (a:Addr):It:=
 ⟨λi H=>∃ xs x,SqT K H a xs/\xs[i]?=ii x,λi H x H'=>H'=H/\∀ xs,SqT K H a xs->xs[i]?=ii x,λi H=>∃ xs,SqT K H a xs/\xs.length<=i⟩
noncomputable def Itr (lo:Int) (n:Nat):It:=⟨λi _=>i < n,λi H x H'=>H'=H/\x=.int (lo+i),λi _=>n<=i⟩
theorem ZQ (a it:Addr):Turn P w K tg (Itl K a) [it] it (λi h=>h.IsListIter it a i) where
 mem:=by simp
 obj:=λi h st b f=>by
  have e:b=it:=by simpa using f
  subst e;obtain ⟨o,e,c,d⟩:=st;exact ⟨o,e,λv z=>by rw [d] at z; cases z⟩
 keep:=λi h h' st k=>st.at λo e=>k it (by simp) o e
 item:=by intro X m l n t i pins s σ H E I j st hg;subst m l n;obtain ⟨xs,x,hq,hx⟩:=hg;obtain ⟨its,r,p,B⟩:=I.list hq;obtain ⟨u,D,A⟩:=r.get hx;obtain ⟨f0,f1,f2,f3,f4,q⟩:=j it (by simp);refine wpAny_pyNext_list_item st p.isList (x:=u) (by simpa using D) λh' g y=>?_;have J:Inv X pins σ H { s with heap:=h' }:=I.turned (t':=s.toks) (λb o f e=>(y.2 b f).trans e) f0 f1 f3 f4 q;obtain ⟨o,e,c,d⟩:=id g;exact ⟨u,rfl,qb4 (s:={ s with heap:=h' }) e c d (by decide) ⟨x,H,J,A,⟨rfl,λys C=>by rw [I.list_inj C hq]; exact hx⟩,g,λb f=>(j b f).1⟩⟩
 done:=by intro X m l n t i pins s σ H E I j st hg;subst m l n;obtain ⟨xs,hq,hx⟩:=hg;obtain ⟨its,r,p,B⟩:=I.list hq;obtain ⟨f0,f1,f2,f3,f4,q⟩:=j it (by simp);have hl:=r.length;exact wpAny_pyNext_list_end (I.ok.hd t) st p.isList (by simp; lia) λh' G=>⟨rfl,I.turned (t':=s.toks) (λb o f e=>G b o f e) f0 f1 f3 f4 q⟩
 self:=λ_ _ _ _ _ st h=>wpAny_pyIter_listiter st h
theorem XG (a it:Addr):Turn P w K tg (Itt K a) [it] it (λi h=>h.IsTupleIter it a i) where
 mem:=by simp
 obj:=λi h st b f=>by
  have e:b=it:=by simpa using f
  subst e;obtain ⟨o,e,c,d⟩:=st;exact ⟨o,e,λv z=>by rw [d] at z; cases z⟩
 keep:=λi h h' st k=>st.at λo e=>k it (by simp) o e
 item:=by intro X m l n t i pins s σ H E I j st hg;subst m l n;obtain ⟨xs,x,hq,hx⟩:=hg;obtain ⟨its,r,p,B⟩:=I.tuple hq;obtain ⟨u,D,A⟩:=r.get hx;obtain ⟨f0,f1,f2,f3,f4,q⟩:=j it (by simp);refine wpAny_pyNext_tuple_item st (show s.heap.IsTuple a its.toArray from p) (x:=u) (by simpa using D) λh' g y=>?_;have J:Inv X pins σ H { s with heap:=h' }:=I.turned (t':=s.toks) (λb o f e=>(y.2 b f).trans e) f0 f1 f3 f4 q;obtain ⟨o,e,c,d⟩:=id g;exact ⟨u,rfl,qb4 (s:={ s with heap:=h' }) e c d (by decide) ⟨x,H,J,A,⟨rfl,λys C=>by rw [I.tuple_inj C hq]; exact hx⟩,g,λb f=>(j b f).1⟩⟩
 done:=by intro X m l n t i pins s σ H E I j st hg;subst m l n;obtain ⟨xs,hq,hx⟩:=hg;obtain ⟨its,r,p,B⟩:=I.tuple hq;obtain ⟨f0,f1,f2,f3,f4,q⟩:=j it (by simp);have hl:=r.length;exact wpAny_pyNext_tuple_end (I.ok.hd t) st (show s.heap.IsTuple a its.toArray from p) (by simp; lia) λh' G=>⟨rfl,I.turned (t':=s.toks) (λb o f e=>G b o f e) f0 f1 f3 f4 q⟩
 self:=λ_ _ _ _ _ st h=>wpAny_pyIter_tupleiter st h
theorem XH (it:Addr) (lo:Int) (n:Nat):Turn P w K tg (Itr lo n) [it] it (λi h=>IsRangeIter h it (lo+(i:Nat) * 1) ((n:Int) - (i:Nat)) 1) where
 mem:=by simp
 obj:=λi h st b d=>by
  have e:b=it:=by simpa using d
  subst e;exact ⟨_,st,λv z=>by have l:Data.fields _=Data.cell v:=z;cases l⟩
 keep:=λi h h' st k=>k it (by simp) _ st
 item:=by intro X m a j c i pins s σ H E I f st hg;subst m a j;obtain ⟨f0,f1,f2,f3,f4,q⟩:=f it (by simp);have W:=Walks.range (prog:=X.prog) (w:=X.w) (I.ok.hd c) it lo 1 n;refine W.item i s _ _ hg st λv h' tk r g p=>?_;obtain ⟨t,rfl⟩:=r;have u:Inv X pins σ H { s with heap:=h',toks:=tk }:=I.turned (λb o d e=>p b o (by simpa using d) e) f0 f1 f3 f4 q;refine ⟨_,rfl,qb4 (s:={ s with heap:=h',toks:=tk }) (n := "range_iterator") g rfl rfl (by decide) ⟨.int (lo+i),H,u,⟨t,?_⟩,⟨rfl,rfl⟩,g,λb d=>(f b d).1⟩⟩;rw [Int.mul_one]
 done:=by intro X m a j c i pins s σ H E I f st hg;subst m a j;obtain ⟨f0,f1,f2,f3,f4,q⟩:=f it (by simp);exact wpAny_pyNext_range_end (I.ok.hd c) st (by have:n<=i:=hg; lia) λh' G=>⟨rfl,I.turned (t':=s.toks) (λb o d e=>G b o d e) f0 f1 f3 f4 q⟩
 self:=λ_ _ _ _ _ st h=>wpAny_pyIter_rangeiter st h
variable {p:Pos} {fp:List Addr}
section
theorem qb5 {R:It->Hp->Prop} {E:ip->iu->Prop} {lo hi:Int} {t u v:Tok} {tk:Nat} (I:Inv X pins σ H s) (h1:-(2 ^ 62)<=lo) (h2:lo < 2 ^ 62) (g:-(2 ^ 62)<=hi) (a:hi < 2 ^ 62)
  (q:R (Itr lo (hi - lo).toNat) H):iy (model X.prog X.w) X.A (mB (.ref s.heap.objs.size)) (PIE X pins σ tg R) E { s with heap:=s.heap.push { cls:=.type "range",data:=.fields #[.int lo t,.int hi u,.int 1 v] },toks:=tk }:=by
 refine wpAny_pyIter_range (IsRange.new ..) (small_one h1 h2 g a) ?_;have d:Inv X pins σ H { s with heap:=s.heap.push { cls:=.type "range",data:=.fields #[.int lo t,.int hi u,.int 1 v] },toks:=tk }:=I.kept λb o e=>aa _ e;refine ⟨(s.heap.push { cls:=.type "range",data:=.fields #[.int lo t,.int hi u,.int 1 v] }).objs.size,[(s.heap.push { cls:=.type "range",data:=.fields #[.int lo t,.int hi u,.int 1 v] }).objs.size],_,_,H,rfl,d.kept (t':=tk) λb o e=>aa _ e,XH _ lo (hi - lo).toNat,?_,λb h=>?_,q⟩
 ·have e1:lo+((0:Nat):Int) * 1=lo:=by simp
  have e2:(((hi - lo).toNat:Nat):Int) - ((0:Nat):Int)=Builtin.Range.rangeSize lo hi 1:=by rw [rangeSize_one]; split <;> lia
  show IsRangeIter _ _ (lo+((0:Nat):Int) * 1) ((((hi - lo).toNat:Nat):Int) - ((0:Nat):Int)) 1;rw [e1,e2];exact aj _ rfl
 ·have e:b=(s.heap.push { cls:=.type "range",data:=.fields #[.int lo t,.int hi u,.int 1 v] }).objs.size:=by simpa using h
  subst e;exact d.fpOk (ax _) (d.hok.fresh (ax _))
def qi5 (ta:TA):TI:=λσ H R=>ta σ H λvs H1=>∃ j:Int,vs=[.int j]/\-(2 ^ 62)<=j/\j < 2 ^ 62/\R (Itr 0 j.toNat) H1
theorem ZR {a:Expr} {ta:TA} (hg:Gl X "range") (m:X.mg "range"=ij) (g:PA X [a] ta) (d:iA [a] X.env=[(iq,eval a X.env)]:=by rfl):PI X tg (.Call (.Name "range" p) [a] [] pos) (qi5 ta):=by
 refine ⟨?_⟩;intro pins s σ H R I h;refine Call_ (yS I hg m boot_range (bG (thn (g pos pins s σ H _ I h) λus s1 ⟨vs,H1,f,r1,q1⟩=>?_) d rfl));obtain ⟨j,e,q1,c,q⟩:=q1;subst e;cases r1 with
 | cons r b=>cases b;obtain ⟨t,rfl⟩:=r;exact call_range_1 (qb5 f (by lia) (by lia) q1 c (by simpa using q))
def qkN (wi:TI) (g:TG) (tb:TS):TS:=λD σ H=>wi σ H λJ H1=>∃ W:Nat->Nat->St->Hp->Prop,(∃ m,W 0 m σ H1)/\∀ i m σ H,W i m σ H ->(J.stop i H/\D.nx σ H)\/(J.go i H/\∃ N:St->Hp->Prop,(∀ σ' H',N σ' H'->∃ f,f < m/\W (i+1) f σ' H')/\∀ x H',J.yld i H x H'->g x σ H' λa H2=>tb { D with nx:=N,ct:=N,bk:=D.nx } a H2)
noncomputable def KY (fp:List Addr) (h:Heap):Pns:=fp.filterMap λb=>(h.get? b).map λo=>(b,o)
theorem uZ {o:Obj} (d:b∈fp) (e:h.get? b=ii o):(b,o)∈KY fp h:=fE.mpr ⟨b,d,by rw [e]; rfl⟩
theorem ZT {p:Addr×Obj} (hp:p∈KY fp h):p.1∈fp/\h.get? p.1=ii p.2:=by
 obtain ⟨b,d,e⟩:=fE.mp hp;cases q:h.get? b with
 | none=>rw [q] at e; cases e
 | some o=>rw [q] at e;have a:(b,o)=p:=aK.inj e;subst a;exact ⟨d,q⟩
theorem Inv.pinned (I:Inv X pins σ H s) (f:∀ b∈fp,WK X pins H b) (j:∀ b∈fp,∃ o,s.heap.get? b=ii o/\∀ v,o.data≠.cell v):Inv X (pins++KY fp s.heap) σ H s:=
 I.pins_of λp hp=>(ao.mp hp).elim (λz=>I.pin p (aV _ z)) λz=>by obtain ⟨h,e⟩:=ZT z;obtain ⟨f0,f1,f2,_⟩:=f p.1 h;obtain ⟨o,a,d⟩:=j p.1 h;rw [e] at a; cases a;exact ⟨e,f0,f1,f2,d⟩
theorem Inv.unpinned {pl:Pns} (I:Inv X (pins++pl) σ H s):Inv X pins σ H s:=I.pins_of λp hp=>I.pin p (aV _ (bI _ hp))
theorem qgK {iter:Expr} {wi:TI} {g:TG} {pos:Pos} (hp:PassesOwn (model X.prog X.w) X.A X.env X.xe) (Q:X.calm=ir) (hi:PI X tg iter wi) (hg:PG X tg g) (j:PSs X body tb)
  (hs:∀ x,j5 iter X.env x=pure x:=by intro _; rfl):PS X (.For tg iter body [] pos) (qkN wi g tb):=by
 refine ⟨?_⟩;intro pins s σ H D I h;refine wpAny_For (thn (hi pins s σ H _ I h) λv s1 h1=>thn h1 λitv s2 h2=>?_) hs;obtain ⟨it,fp,tn,J,H2,e,I2,T,L,f2,W,⟨m0,F⟩,z⟩:=h2;subst e;have t:∀ {H':Hp},(∀ b∈fp,H' b=ij)->∀ b∈fp,WK X pins H' b:=λhn b j=>⟨hn b j,(f2 b j).2⟩
 refine codeAny_forLoop_any (λn s'=>∃ i σ' H',Inv X pins σ' H' s'/\tn i s'.heap/\(∀ b∈fp,H' b=ij)/\W i n σ' H') ?_ m0 ⟨0,σ,H2,I2,L,λb j=>(f2 b j).1,F⟩;rintro n s3 ⟨i,c,G,R,B,E,Z⟩;rcases z i n c G Z with ⟨stop,qn⟩ | ⟨go,N,hN,step⟩
 ·refine j3 hp (thn (T.done X rfl rfl rfl Q i pins s3 c G X.xe R (t E) B stop) λr s4 ⟨hr,I4⟩=>?_);subst hr;exact lN ⟨c,G,I4,qn⟩
 ·refine j3 hp (thn (T.item X rfl rfl rfl Q i pins s3 c G X.xe R (t E) B go) λr s4 ⟨u,hr,h4⟩=>?_);subst hr;refine j3 hp (thn h4 λ_ s5 ⟨x,S,I5,r5,U,y,O⟩=>?_);have P:=I5.pinned (t O) (T.obj _ _ y);refine j3 hp (thn (hg _ s5 c S x u _ P r5 (step x S U)) λ_ s6 ⟨K,H6,I6,q6⟩=>?_);refine j3 hp (thn (j _ s6 K H6 _ I6 q6) λf M q=>?_);have k:∀ {a:St} {p:Hp},Inv X (pins++KY fp s5.heap) a p M->N a p->∃ m,m < n/\∃ i σ' H',Inv X pins σ' H' M/\tn i M.heap/\(∀ b∈fp,H' b=ij)/\W i m σ' H':=λ{a p} l C=>by obtain ⟨m',hm,Y⟩:=hN a p C;refine ⟨m',hm,i+1,a,p,l.unpinned,T.keep _ _ _ y λb j o e=>(l.pin (b,o) (aV _ (aV _ (uZ j e)))).1,λb j=>?_,Y⟩;obtain ⟨o,e,d⟩:=T.obj _ _ y b j;exact (l.pin (b,o) (aV _ (aV _ (uZ j e)))).2.1
  cases f with
  | next=>obtain ⟨a,p,l,C⟩:=q; exact k l C
  | cont=>obtain ⟨a,p,l,C⟩:=q; exact k l C
  | brk=>obtain ⟨a,p,l,q⟩:=q; exact ⟨a,p,l.unpinned,q⟩
  | ret v=>obtain ⟨V,a,p,l,r7,q⟩:=q; exact ⟨V,a,p,l.unpinned,r7,q⟩
end
abbrev R2:=V->V->Hp->VK->Prop
def OpR (X:Cx) (f:ip->ip->Sem ip) (r:R2):Prop:=
 ∀ (pins:Pns) (s:iu) (σ:St) (H:Hp) (x y:V) (v u:ip) (Q:VK),Inv X pins σ H s->RelV x v->RelV y u->r x y H Q ->iy (model X.prog X.w) X.A (f v u) (EP X pins σ Q) X.xe s
def UnR (X:Cx) (f:ip->Sem ip) (r:V->Hp->VK->Prop):Prop:=
 ∀ (pins:Pns) (s:iu) (σ:St) (H:Hp) (x:V) (v:ip) (Q:VK),Inv X pins σ H s->RelV x v->r x H Q ->iy (model X.prog X.w) X.A (f v) (EP X pins σ Q) X.xe s
def yp (X:Cx) (f:ip) (r:List V->Hp->VK->Prop):Prop:=
 ∀ (pins:Pns) (s:iu) (σ:St) (H:Hp) (xs:List V) (us:List ip) (Q:VK),Inv X pins σ H s->Vals xs us->r xs H Q ->iy (model X.prog X.w) X.A (call f us) (EP X pins σ Q) X.xe s
def qkO (X:Cx) (r:V->Hp->(Bool->Hp->Prop)->Prop):Prop:=
 ∀ (pins:Pns) (s:iu) (σ:St) (H:Hp) (x:V) (v:ip) (Q:Bool->Hp->Prop),Inv X pins σ H s->RelV x v->r x H Q ->iy (model X.prog X.w) X.A (truthy v) (TP X pins σ Q) X.xe s
def tOp (r:R2) (ta tb:TE):TE:=λσ H Q=>ta σ H λx H1=>tb σ H1 λy H2=>r x y H2 Q
def tUn (r:V->Hp->VK->Prop) (ta:TE):TE:=λσ H Q=>ta σ H λx H1=>r x H1 Q
def rI (C:Int->Int->Prop) (g:Int->Int->V):R2:=λx y H Q=>∃ i j,x=.int i/\y=.int j/\C i j/\Q (g i j) H
def rI0 (g:Int->Int->V):R2:=λx y H Q=>∃ i j,x=.int i/\y=.int j/\Q (g i j) H
def rU (g:Int->V):V->Hp->VK->Prop:=λx H Q=>∃ i,x=.int i/\Q (g i) H
variable {r:R2}
section
variable {a b:Expr} {tb tc:TE}
theorem qi6 (j:PE X a ta) (i:PE X b tb) {R:V->V->Hp->Prop} (I:Inv X pins σ H s)
  (h:ta σ H λx H1=>tb σ H1 λy H2=>R x y H2) {Q:ip->iu->Prop} {f:ip->ip->Sem ip}
  (g:∀ v u s2 x y H2,Inv X pins σ H2 s2->RelV x v->RelV y u->R x y H2->iy (model X.prog X.w) X.A (f v u) Q X.xe s2) :
  iy (model X.prog X.w) X.A (eval a X.env) (λv d=>iy (model X.prog X.w) X.A (eval b X.env) (λu c=>iy (model X.prog X.w) X.A (f v u) Q X.xe c) X.xe d) X.xe s:=by
 refine thn (j pins s σ H _ I h) λv s1 ⟨x,H1,l,r1,q1⟩=>?_;refine thn (i pins s1 σ H1 _ l q1) λu s2 ⟨y,H2,k,r2,e⟩=>?_;exact g v u s2 x y H2 k r1 r2 e
theorem qi7 {op:Operator} (j:OpR X (iW op) r) (g:PE X a ta) (e:PE X b tb):PE X (.BinOp a op b pos) (tOp r ta tb):=by refine ⟨?_⟩;intro pins s σ H Q I h;exact wpAny_BinOp (qi6 g e I h λv u s2 x y H2 f d c q=>j pins s2 σ H2 x y v u Q f d c q)
theorem qi8 {op:UnaryOp} {r:V->Hp->VK->Prop} (j:UnR X (unaryOp op) r) (g:PE X a ta):PE X (.UnaryOp op a pos) (tUn r ta):=by refine ⟨?_⟩;intro pins s σ H Q I h;exact UnaryOp_ (thn (g pins s σ H _ I h) λv s1 ⟨x,H1,d,r1,q1⟩=>j pins s1 σ H1 x v Q d r1 q1)
theorem opI {f:ip->ip->Sem ip} {C:Int->Int->Prop} {g:Int->Int->Int}
  (r:∀ (i j:Int) (t u:Tok) (s:iu) (Q:ip->iu->Prop) (E:ip->iu->Prop),C i j->Q (.int (g i j) s.toks) { s with toks:=s.toks+1 }->iy (model X.prog X.w) X.A (f (.int i t) (.int j u)) Q E s) :
  OpR X f (rI C λi j=>.int (g i j)):=by
 intro pins s σ H x y v u Q I d c h;obtain ⟨i,j,rfl,rfl,a,q⟩:=h;obtain ⟨t,rfl⟩:=d;obtain ⟨t',rfl⟩:=c;exact r i j t t' s _ _ a ⟨.int (g i j),H,I.tok _,⟨_,rfl⟩,q⟩
theorem qkd {f:ip->ip->Sem ip} {g:Int->Int->Int}
  (r:∀ (i j:Int) (t u:Tok) (s:iu) (Q:ip->iu->Prop) (E:ip->iu->Prop),Q (.int (g i j) s.toks) { s with toks:=s.toks+1 }->iy (model X.prog X.w) X.A (f (.int i t) (.int j u)) Q E s) :
  OpR X f (rI0 λi j=>.int (g i j)):=by
 intro pins s σ H x y v u Q I d c h;obtain ⟨i,j,rfl,rfl,q⟩:=h;obtain ⟨t,rfl⟩:=d;obtain ⟨t',rfl⟩:=c;exact r i j t t' s _ _ ⟨.int (g i j),H,I.tok _,⟨_,rfl⟩,q⟩
theorem qiA {f:ip->ip->Sem ip} {g:Int->Int->Bool}
  (r:∀ (i j:Int) (t u:Tok) (s:iu) (Q:ip->iu->Prop) (E:ip->iu->Prop),Q (.bool (g i j)) s->iy (model X.prog X.w) X.A (f (.int i t) (.int j u)) Q E s) :
  OpR X f (rI0 λi j=>.bl (g i j)):=by
 intro pins s σ H x y v u Q I d c h;obtain ⟨i,j,rfl,rfl,q⟩:=h;obtain ⟨t,rfl⟩:=d;obtain ⟨t',rfl⟩:=c;exact r i j t t' s _ _ ⟨.bl (g i j),H,I,rfl,q⟩
def qgo (i j:Int):Prop:=0 < j/\j < 1073741824
def qke (i j:Int):Prop:=0<=j/\j<=1000000/\i.natAbs < 2 ^ 64
def CMul (i j:Int):Prop:=(-(2 ^ 64) < i/\i < 2 ^ 64)\/(-(2 ^ 64) < j/\j < 2 ^ 64)
theorem CMul.ok {i j:Int} (h:CMul i j):IntMulOk i j:=by
 rcases h with ⟨h1,h2⟩ | ⟨h1,h2⟩
 ·exact .of_left (intBits_le_64 h1 h2)
 ·exact .of_right (intBits_le_64 h1 h2)
theorem qgL:OpR X (iW .Add) (rI0 λi j=>.int (i+j)):=qkd λ_ _ _ _ _ _ _ q=>add_int q
theorem qgM:OpR X (iW .Sub) (rI0 λi j=>.int (i - j)):=qkd λ_ _ _ _ _ _ _ q=>sub_int q
theorem qgN:OpR X (iW .Mult) (rI CMul λi j=>.int (i * j)):=opI λ_ _ _ _ _ _ _ d q=>mul_int q d.ok
theorem qeJ:OpR X (iW .FloorDiv) (rI qgo λi j=>.int (i / j)):=opI λi j _ _ _ _ _ d q=>by have h1:(0:Int) < j:=d.1;have h2:j < 1073741824:=d.2;exact floordiv_int (by lia) (by rw [Int.fdiv_eq_ediv_of_nonneg i (by lia)]; exact q) (.inl (PyProof.noPylong_small (by lia)))
theorem qgO:OpR X (iW .Mod) (rI (λ_ j=>0 < j) λi j=>.int (i % j)):=opI λi j _ _ _ _ _ d q=>by have h1:(0:Int) < j:=d;exact mod_int' (by lia) (by rw [Int.fmod_eq_emod_of_nonneg i (by lia)]; exact q)
theorem unI {f:ip->Sem ip} {g:Int->Int}
  (r:∀ (i:Int) (t:Tok) (s:iu) (Q:ip->iu->Prop) (E:ip->iu->Prop),Q (.int (g i) s.toks) { s with toks:=s.toks+1 }->iy (model X.prog X.w) X.A (f (.int i t)) Q E s) :
  UnR X f (rU λi=>.int (g i)):=by
 intro pins s σ H x v Q I d h;obtain ⟨i,rfl,q⟩:=h;obtain ⟨t,rfl⟩:=d;exact r i t s _ _ ⟨.int (g i),H,I.tok _,⟨_,rfl⟩,q⟩
theorem qgP:UnR X (unaryOp .USub) (rU λi=>.int (-i)):=unI λ_ _ _ _ _ q=>neg_int q
end
variable {op op':CmpOp} {r':R2}
section
variable {a b:Expr} {tb tc:TE}
theorem Yl {Q:VK} {k k':Bool} (I:Inv X pins σ H s) (q:Q (.bl k) H) (e:k=k'):EP X pins σ Q (.bool k') s:=by subst e;exact ⟨.bl k,H,I,rfl,q⟩
theorem qi9:OpR X (iI .Lt) (rI0 λi j=>.bl (decide (i < j))):=qiA λ_ _ _ _ _ _ _ q=>lt_int q
theorem qja:OpR X (iI .LtE) (rI0 λi j=>.bl (decide (i<=j))):=qiA λ_ _ _ _ _ _ _ q=>le_int q
theorem qjb:OpR X (iI .Gt) (rI0 λi j=>.bl (decide (j < i))):=qiA λ_ _ _ _ _ _ _ q=>gt_int q
theorem qjc:OpR X (iI .GtE) (rI0 λi j=>.bl (decide (j<=i))):=qiA λ_ _ _ _ _ _ _ q=>ge_int q
theorem ZU:OpR X (iI .Lt) (λx y H Q=>∃ i j,x=.str i/\y=.str j/\Q (.bl (decide (i.cps.toList < j.cps.toList))) H):=by intro pins s σ H x y v u Q I d c h;obtain ⟨i,j,rfl,rfl,q⟩:=h;obtain ⟨t,rfl⟩:=d;obtain ⟨t',rfl⟩:=c;exact lt_str (Yl I q rfl)
theorem qgQ:OpR X (iI .Is) (λx y H Q=>y=.non/\Q (.bl (decide (x=.non))) H):=by
 intro pins s σ H x y v u Q I d c h;obtain ⟨rfl,q⟩:=h;cases c;refine is_none_gen (Yl I q ?_);cases x <;> first
  | (cases d; rfl)
  | (obtain ⟨t,rfl⟩:=d; rfl)
theorem qeK:OpR X (iI .IsNot) (λx y H Q=>y=.non/\Q (.bl (!decide (x=.non))) H):=by
 intro pins s σ H x y v u Q I d c h;obtain ⟨rfl,q⟩:=h;cases c;refine isnot_none_gen (Yl I q ?_);cases x <;> first
  | (cases d; rfl)
  | (obtain ⟨t,rfl⟩:=d; rfl)
theorem qdR (b:Expr) (h:op≠.In:=by decide) (h2:op≠.NotIn:=by decide):lw op b=false:=by
 have e1:(op == CmpOp.In)=false:=by cases op <;> first | rfl | exact absurd rfl h
 have e2:(op == CmpOp.NotIn)=false:=by cases op <;> first | rfl | exact absurd rfl h2
 cases b <;> simp [lw,e1,e2]
theorem qeL (j:OpR X (iI op) r) (g:PE X a ta) (e:PE X b tb) (m:lw op b=iq):PE X (.Compare a [op] [b] pos) (tOp r ta tb):=by refine ⟨?_⟩;intro pins s σ H Q I h;exact wpAny_Compare1 (qi6 g e I h λv u s2 x y H2 f d c q=>j pins s2 σ H2 x y v u Q f d c q) m
def qgR (t:TE):TT:=λσ H Q=>t σ H λx H'=>∃ k,x=.bl k/\Q k H'
theorem qeM (j:OpR X (iI op) r) (g:PE X a ta) (f:PE X b tb) (m:lw op b=iq):PT X (.Compare a [op] [b] pos) (qgR (tOp r ta tb)):=by
 refine ⟨?_⟩;intro pins s σ H Q I h;refine wpAny_isTrue_Compare1 (thn (g pins s σ H _ I h) λv s1 ⟨x,H1,n,r1,q1⟩=>thn (f pins s1 σ H1 _ n q1) λu s2 ⟨y,H2,l,r2,d⟩=>
  thn (j pins s2 σ H2 x y v u _ l r1 r2 d) λc s3 ⟨z,o,i,r3,k,e,q⟩=>?_) m
 subst e;cases r3;exact iY ⟨o,i,q⟩
def ZV (r r':R2) (ta tb tc:TE):TE:=λσ H Q=>ta σ H λx H1=>tb σ H1 λy H2=>r x y H2 λz d=>∃ k,z=.bl k /\
 (if k=ir then tc σ d λS a=>r' y S a Q else Q (.bl iq) d)
theorem qb6 (o:OpR X (iI op) r) (f:OpR X (iI op') r') (w:PE X a ta) (t:PE X b tb) (p:PE X c tc)
  (n:lastMarks [op,op'] [b,c]=false:=by with_unfolding_all rfl):PE X (.Compare a [op,op'] [b,c] pos) (ZV r r' ta tb tc):=by
 refine ⟨?_⟩;intro pins s σ H Q I h;refine Compare_chain (thn (w pins s σ H _ I h) λv s1 ⟨x,H1,C,r1,q1⟩=>chain_link (thn (t pins s1 σ H1 _ C q1) λu s2 ⟨y,H2,B,r2,m⟩=>
  thn (o pins s2 σ H2 x y v u _ B r1 r2 m) λd s3 ⟨z,i,g,r3,k,e,q⟩=>?_)) n
 subst e;cases r3;refine iY ?_;cases k with
 | false=>exact ite_ff ⟨.bl iq,i,g,rfl,q⟩
 | true=>exact ite_tt (chain_last (thn (p pins s3 σ i _ g q) λS s4 ⟨l,D,A,r4,j⟩=>f pins s4 σ D y l u S Q A r2 r4 j))
theorem qb7 (p:OpR X (iI op) r) (f:OpR X (iI op') r') (B:PE X a ta) (A:PE X b tb) (w:PE X c tc)
  (t:lastMarks [op,op'] [b,c]=false:=by with_unfolding_all rfl):PT X (.Compare a [op,op'] [b,c] pos) (qgR (ZV r r' ta tb tc)):=by
 refine ⟨?_⟩;intro pins s σ H Q I h;refine isTrue_chain (thn (B pins s σ H _ I h) λv s1 ⟨x,H1,J,r1,q1⟩=>test_link (thn (A pins s1 σ H1 _ J q1) λu s2 ⟨y,H2,G,r2,n⟩=>
  thn (p pins s2 σ H2 x y v u _ G r1 r2 n) λd s3 ⟨z,i,g,r3,k,e,q⟩=>?_)) t
 subst e;cases r3;refine iY ?_;cases k with
 | false=>obtain ⟨k',C,o⟩:=q;cases C;exact ite_ff ⟨i,g,o⟩
 | true=>refine ite_tt (test_last (thn (w pins s3 σ i _ g q) λS s4 ⟨l,L,E,r4,m⟩=>thn (f pins s4 σ L y l u S _ E r2 r4 m) λd' s5 ⟨z2,K,D,r5,k2,e2,j⟩=>?_));subst e2;cases r5;exact iY ⟨K,D,j⟩
def qjd (K:Frag) (x:V) (H:Hp) (k:Bool):Prop:=
 match x with
 | .non=>k=iq
 | .bl b=>k=b
 | .int i=>k=(i != 0)
 | .str y=>y.length<=sizeLine/\k=((y.length:Int) != 0)
 | .byt y=>y.size<=sizeLine/\k=((y.size:Int) != 0)
 | .ref p=>(∃ xs,SqL K H p xs/\k=!xs.isEmpty)\/(∃ xs,SqT K H p xs/\k=!xs.isEmpty)\/∃ kvs,H p=ii (.dK kvs)/\k=!kvs.isEmpty
 | _=>False
theorem XI {κ:Type} {kvs:List (κ×V)} {vs:List (κ×ip)} (r:KV kvs vs):(!vs.isEmpty)=!kvs.isEmpty:=by cases r <;> rfl
theorem QK {its:List ip} (r:Vals xs its):(!its.toArray.isEmpty)=!xs.isEmpty:=by cases r <;> simp
theorem KZ:(sizeLine:Nat) < 2 ^ 63:=by rw [iF]; decide
theorem qgS:qkO X (λx H Q=>∃ k,qjd X.K x H k/\Q k H):=by
 intro pins s σ H x v Q I d h;obtain ⟨k,e,q⟩:=h;have hl:=KZ;have c:sizeLine=16777216:=iF;cases x with
 | non=>cases d;have a:k=false:=e;subst a;exact truthy_none ⟨H,I,q⟩
 | bl b=>cases d;have a:k=b:=e;subst a;exact iY ⟨H,I,q⟩
 | int i=>obtain ⟨t,rfl⟩:=d;have a:k=(i != 0):=e;subst a;exact PySem.P.truthy_int ⟨H,I,q⟩
 | str y=>obtain ⟨t,rfl⟩:=d;obtain ⟨hy,a⟩:y.length<=sizeLine/\k=((y.length:Int) != 0):=e;subst a;exact PySem.P.truthy_str (by lia) ⟨H,I.tok _,q⟩
 | byt y=>obtain ⟨t,rfl⟩:=d;obtain ⟨hy,a⟩:y.size<=sizeLine/\k=((y.size:Int) != 0):=e;subst a;exact PySem.W.truthy_bytes (by lia) ⟨H,I.tok _,q⟩
 | ref p=>
  cases d;have a:(∃ xs,SqL X.K H p xs/\k=!xs.isEmpty)\/(∃ xs,SqT X.K H p xs/\k=!xs.isEmpty)\/∃ kvs,H p=ii (.dK kvs)/\k=!kvs.isEmpty:=e;rcases a with ⟨xs,hx,a⟩ | ⟨xs,hx,a⟩ | ⟨kvs,hx,a⟩
  ·subst a;obtain ⟨its,r,pl,z⟩:=I.list hx;have n:=r.length;exact wpAny_truthy_list pl.isList (by simp only [au]; lia) ⟨H,I.tok _,by rw [QK r]; exact q⟩
  ·subst a;obtain ⟨its,r,pl,z⟩:=I.tuple hx;have n:=r.length;exact truthy_tuple pl (by simp only [au]; lia) ⟨H,I.tok _,by rw [QK r]; exact q⟩
  ·subst a;obtain ⟨z,hS,vs,r,m⟩:kvs.length<=sizeLine/\(p == i5)=iq/\∃ vs,KV kvs vs/\s.heap.DictOf (qQ X.prog X.w) p vs:=I.hok p _ hx;have n:kvs.length=vs.length:=fO r;exact wpAny_truthy_dict hS m (by lia) ⟨H,I.tok _,by rw [XI r]; exact q⟩
 | _=>exact (show False from e).elim
theorem qb8 (g:PE X a ta) (i:∀ whole,isTrue a X.env whole=(do let v <-whole; standAt a.pos; holding [v] (truthy v))):PT X a (λσ H Q=>ta σ H λx H'=>∃ k,qjd X.K x H' k/\Q k H'):=by refine ⟨?_⟩;intro pins s σ H Q I h;exact isTrue_plain (thn (g pins s σ H _ I h) λv s1 ⟨x,H1,d,r1,q1⟩=>qgS pins s1 σ H1 x v Q d r1 q1) (i _)
theorem XJ:OpR X (iW .Add) (λx y H Q=>∃ i j,x=.str i/\y=.str j/\i.length+j.length<=sizeLine/\Q (.str (i++j)) H):=by intro pins s σ H x y v u Q I d c h;obtain ⟨i,j,rfl,rfl,z,q⟩:=h;obtain ⟨t,rfl⟩:=d;obtain ⟨t',rfl⟩:=c;exact add_str (λt' tk=>⟨.str (i++j),H,I.tok _,⟨_,rfl⟩,q⟩) z
theorem yq {x:V} (r:Vals [x] us):∃ u,us=[u]/\RelV x u:=by
 cases r with
 | cons r1 r2=>cases r2; exact ⟨_,rfl,r1⟩
theorem qb9 {x y:V} (r:Vals [x,y] us):∃ u S,us=[u,S]/\RelV x u/\RelV y S:=by
 cases r with
 | cons r1 r2=>
  cases r2 with
  | cons r3 r4=>cases r4; exact ⟨_,_,rfl,r1,r3⟩
theorem ZW (d:X.calm=ir):yp X (.builtin "max") (λxs H Q=>∃ i j,xs=[.int i,.int j]/\Q (.int (if j > i then j else i)) H):=by
 intro pins s σ H xs us Q I r h;obtain ⟨i,j,rfl,q⟩:=h;obtain ⟨u,S,rfl,⟨t,rfl⟩,⟨t',rfl⟩⟩:=qb9 r;refine max_two_ints (I.ok.hd d) λh' tk k=>⟨_,H,I.kept k,?_,q⟩
 by_cases D:j > i;·rw [Aa D,Aa D]; exact ⟨_,rfl⟩
 ·rw [Ab D,Ab D]; exact ⟨_,rfl⟩
theorem ZX (d:X.calm=ir):yp X (.builtin "min") (λxs H Q=>∃ i j,xs=[.int i,.int j]/\Q (.int (if j < i then j else i)) H):=by
 intro pins s σ H xs us Q I r h;obtain ⟨i,j,rfl,q⟩:=h;obtain ⟨u,S,rfl,⟨t,rfl⟩,⟨t',rfl⟩⟩:=qb9 r;refine min_two_ints (I.ok.hd d) λh' tk k=>⟨_,H,I.kept k,?_,q⟩
 by_cases D:j < i;·rw [Aa D,Aa D]; exact ⟨_,rfl⟩
 ·rw [Ab D,Ab D]; exact ⟨_,rfl⟩
theorem Va:yp X (.type "int") (λxs H Q=>(∃ i,xs=[.int i]/\Q (.int i) H)\/∃ k,xs=[.bl k]/\Q (.int (if k then 1 else 0)) H):=by
 intro pins s σ H xs us Q I r h;rcases h with ⟨i,rfl,q⟩ | ⟨k,rfl,q⟩
 ·obtain ⟨u,rfl,t,rfl⟩:=yq r;exact call_int_int ⟨.int i,H,I,⟨_,rfl⟩,q⟩
 ·obtain ⟨u,rfl,r1⟩:=yq r;cases r1;exact call_int_bool ⟨.int (if k then 1 else 0),H,I.tok _,⟨_,rfl⟩,q⟩
def qkP (K:Frag) (x:V) (H:Hp) (n:Nat):Prop:=
 match x with
 | .str y=>y.length<=sizeLine/\n=y.length
 | .byt y=>y.size<=sizeLine/\n=y.size
 | .ref p=>(∃ xs,SqL K H p xs/\n=xs.length)\/∃ xs,SqT K H p xs/\n=xs.length
 | _=>False
theorem Jp:yp X (.builtin "len") (λxs H Q=>∃ x n,xs=[x]/\qkP X.K x H n/\Q (.int n) H):=by
 intro pins s σ H xs us Q I r h;obtain ⟨x,n,rfl,e,q⟩:=h;obtain ⟨u,rfl,d⟩:=yq r;have hl:=KZ;have c:sizeLine=16777216:=iF;cases x with
 | str y=>obtain ⟨t,rfl⟩:=d;obtain ⟨hy,b⟩:y.length<=sizeLine/\n=y.length:=e;subst b;exact len_str (by lia) ⟨.int _,H,I.tok _,⟨_,rfl⟩,q⟩
 | byt y=>obtain ⟨t,rfl⟩:=d;obtain ⟨hy,b⟩:y.size<=sizeLine/\n=y.size:=e;subst b;exact PySem.W.len_bytes (by lia) ⟨.int _,H,I.tok _,⟨_,rfl⟩,q⟩
 | ref p=>
  cases d;have b:(∃ xs,SqL X.K H p xs/\n=xs.length)\/∃ xs,SqT X.K H p xs/\n=xs.length:=e;rcases b with ⟨xs,hx,b⟩ | ⟨xs,hx,b⟩
  ·subst b;obtain ⟨its,r',pl,z⟩:=I.list hx;have a:=r'.length;exact Calls.call_len_list pl.isList (by simp only [au]; lia) ⟨.int xs.length,H,I.tok _,⟨_,by simp only [au]; rw [a]⟩,q⟩
  ·subst b;obtain ⟨its,r',pl,z⟩:=I.tuple hx;have a:=r'.length;exact len_tuple pl (by simp only [au]; lia) ⟨.int xs.length,H,I.tok _,⟨_,by simp only [au]; rw [a]⟩,q⟩
 | _=>exact (show False from e).elim
end
theorem RelO.some_of {o:Option ip} (r:RelO (ii v) o):∃ u,o=ii u/\RelV v u:=by
 cases o with
 | none=>exact (show False from r).elim
 | some u=>exact ⟨u,rfl,r⟩
structure Room (k:Nat) (A:iL):Prop where
 hd:A.handled=ij
 dp:A.depth+3 * k+5 < recursionLimit
 un:A.units+16 * k+200 < iX
theorem Room.mono {j k:Nat} (r:Room k A) (h:j<=k):Room j A:=⟨r.hd,by have:=r.dp; lia,by have:=r.un; lia⟩
theorem Room.deeper {k:Nat} (r:Room (k+1) A) (env:Env):Room k (A.deeper env):=
 ⟨r.hd,by have:=r.dp; show A.depth+1+3 * k+5 < _; lia,by have:=r.un; show A.units+3+16 * k+200 < _; lia⟩
theorem Room.depth {k:Nat} (r:Room k A):A.depth < recursionLimit:=by have:=r.dp; lia
theorem Room.units {k:Nat} (r:Room k A):A.units+64 < iX:=by have:=r.un; lia
def qje:TA:=λ_ H Q=>Q [] H
def qca (ta:TE) (tr:TA):TA:=λσ H Q=>ta σ H λx H1=>tr σ H1 λxs H2=>Q (x::xs) H2
variable {t:TA}
section
theorem kM:PA X [] qje:=⟨λ_ _ _ _ H Q I h=>ez ⟨[],H,I,.nil,h⟩⟩
theorem jt (g:PE X e te) (hr:PA X es t) (c:iA (e::es) X.env=(iq,eval e X.env)::iA es X.env:=by rfl):PA X (e::es) (qca te t):=by refine ⟨?_⟩;intro pos pins s σ H Q I h;rw [c];show iy _ _ (spliced ((iq,eval e X.env)::iZ pos (iA es X.env))) _ _ s;refine dh (thn (g pins s σ H _ I h) λu s1 ⟨x,H1,a,r1,q1⟩=>?_);exact thn (hr pos pins s1 σ H1 _ a q1) λus s2 ⟨xs,H2,d,r2,q⟩=>⟨x::xs,H2,d,.cons r1 r2,q⟩
def qkQ (t:TA):TE:=λσ H Q=>t σ H λxs H1=>xs.length<=sizeLine/\∀ p,H1 p=ij->Q (.ref p) (upd H1 p (.tup xs))
def qkR (t:TA):TE:=λσ H Q=>t σ H λxs H1=>xs.length<=sizeLine/\∀ p,H1 p=ij->Q (.ref p) (upd H1 p (.lst xs))
theorem qgT {x1} (h:PA X es t):PE X (.Tuple es x1 pos) (qkQ t):=by refine ⟨?_⟩;intro pins s σ H Q I hq;refine wpAny_Tuple_spliced (thn (h pos pins s σ H _ I hq) λus s1 ⟨xs,H1,d,r,z,q⟩=>⟨by rw [<-r.length]; exact z,?_⟩);have f:H1 s1.heap.objs.size=none:=d.hok.fresh (ax _);refine ⟨.ref s1.heap.objs.size,upd H1 s1.heap.objs.size (.tup xs),d.laid (t':=s1.toks) (λb u e=>aa _ e) (ax _) ?_,rfl,q _ f⟩;exact ⟨⟨z,_,aj _ rfl,rfl⟩,us,r,⟨_,aj _ rfl,rfl,_,rfl⟩⟩
theorem qgU (h:PA X es t):PE X (.List es pos) (qkR t):=by refine ⟨?_⟩;intro pins s σ H Q I hq;refine wpAny_List_spliced (thn (h pos pins s σ H _ I hq) λus s1 ⟨xs,H1,d,r,z,q⟩=>⟨by rw [<-r.length]; exact z,?_⟩);have f:H1 s1.heap.objs.size=none:=d.hok.fresh (ax _);refine ⟨.ref s1.heap.objs.size,upd H1 s1.heap.objs.size (.lst xs),d.laid (t':=s1.toks) (λb u e=>aa _ e) (ax _) ?_,rfl,q _ f⟩;exact ⟨z,us,0,r,aj _ rfl⟩
end
abbrev Sp:=List V->Hp->VK->XK->Prop
abbrev CXT:=List Env->Hp->iu->XK->ip->iu->Prop
structure Env0 (P:iE) (w:iG) (K:Frag) (mg:Str->Option ip) (base:Heap) (A:iL) (outer:List Env) (s:iu) (H:Hp):Prop where
 frames:A.frames=ii outer
 mod:Mod K mg base
 bs:∀ b o,base.get? b=ii o->s.heap.get? b=ii o/\H b=ij
 bsz:base.objs.size<=s.heap.objs.size
 funs:s.heap.FunFrames base outer
 frf:∀ b∈frs outer,H b=ij
 hok:HOk P w H s.heap
 bare:lQ s.gens
def CE (outer:List Env) (P:iE) (w:iG) (H:Hp) (s:iu) (Q:VK) (u:ip) (s':iu):Prop:=
 ∃ v H',s'.os=s.os/\lQ s'.gens/\Un (frs outer) [] H H' s.heap s'.heap/\HOk P w H' s'.heap/\RelV v u/\Q v H'
def CR (CX:CXT) (outer:List Env) (P:iE) (w:iG) (H:Hp) (s:iu) (Q:VK) (E:XK) (r:Result) (s':iu):Prop:=
 match r with
 | .ok (.ret u)=>CE outer P w H s Q u s'
 | .ok _=>False
 | .error e=>CX outer H s E e s'
structure FnOk (P:iE) (w:iG) (K:Frag) (mg:Str->Option ip) (base:Heap) (CX:CXT) (k:Nat) (f:Addr) (fd:li) (ps:List Str) (sp:Sp):Prop where
 len:∀ vs H Q E,sp vs H Q E->vs.length=ps.length
 run:∀ (A:iL) (outer:List Env) (s:iu) (H:Hp) (args:Args) (us:List ip) (vs:List V) (Q:VK) (E:XK),Room k A->Env0 P w K mg base A outer s H->mE s fd args (ps.zip us)->Vals vs us->sp vs H Q E ->lz (model P w) A (.call (.ref f) args) (CR CX outer P w H s Q E) s
variable {CX:CXT} {f:Addr} {fd:li} {ps:List Str} {sp:Sp}
theorem FnOk.imp {mg:Str->Option ip} {base:Heap} {k:Nat} {a:Sp} (F:FnOk P w K mg base CX k f fd ps sp)
  (h:∀ vs H Q E,a vs H Q E->sp vs H Q E):FnOk P w K mg base CX k f fd ps a:=
 ⟨λvs H Q E q=>F.len vs H Q E (h _ _ _ _ q),λA outer s H args us vs Q E hr i d c b=>F.run A outer s H args us vs Q E hr i d c (h _ _ _ _ b)⟩
section
theorem Inv.env0 (I:Inv X pins σ H s):Env0 X.prog X.w X.K X.mg X.base X.A X.stack s H:=
 ⟨I.ok.frames,I.ok.mod,I.bs,bN I.ok.bsz I.sz,I.stack,I.stkFree,I.hok,I.bare⟩
theorem Inv.after {Q:VK} (I:Inv X pins σ H s) (h:CE X.stack X.prog X.w H s Q u s'):EP X pins σ Q u s':=by obtain ⟨v,H',os,bare,un,hok,r,q⟩:=h;obtain ⟨a,g,d,t,o⟩:=s';obtain rfl:o=s.os:=os;exact ⟨v,H',I.call (h':=a) (g':=g) (d':=d) (t':=t) (ch:=[]) un hok bare (λb z=>absurd z (by simp)),r,q⟩
end
def qjf (sp:Sp) (dvs:List V) (E:XK) (t:TA):TE:=λσ H Q=>t σ H λvs H1=>sp (vs++dvs) H1 Q E
def Binds (K:Frag) (fd:li) (ps:List Str) (ds:List ip):Prop:=
 ∀ (s:iu) (us:List ip),K.In s.heap->(us++ds).length=ps.length->mE s fd ⟨us,[]⟩ (ps.zip (us++ds))
theorem Binds.all (h:∀ us:List ip,us.length=ps.length->lx fd ⟨us,[]⟩=pure (ps.zip us)):Binds K fd ps []:=λs us _ hl=>by rw [be] at hl ⊢;exact .of_eq (h us hl)
def yT (CX:CXT) (X:Cx) (E:XK):Prop:=∀ (pins:Pns) (σ:St) (H:Hp) (s:iu) (e:ip) (s':iu),Inv X pins σ H s->CX X.stack H s E e s'->X.xe e s'
variable {apos:Pos}
section
variable {k:Nat} {C:Addr} {dvs:List V} {ds:List ip} {E:XK} {m:Str} {o:Expr}
theorem qgV {pins:Pns} {σ:St} {H:Hp} {s:iu} {Q:VK} {us:List ip} {vs:List V} (F:FnOk X.prog X.w X.K X.mg X.base CX k f fd ps sp) (hr:Room k X.A) (d:Binds X.K fd ps ds) (hd:Vals dvs ds) (hx:yT CX X E)
  (I:Inv X pins σ H s) (r:Vals vs us) (h:sp (vs++dvs) H Q E):iy (model X.prog X.w) X.A (call (.ref f) us) (EP X pins σ Q) X.xe s:=by
 have r2:Vals (vs++dvs) (us++ds):=r.append hd;have hl:(us++ds).length=ps.length:=by rw [<-r2.length]; exact F.len _ _ _ _ h
 refine wpAny_call (lR (F.run X.A X.stack s H ⟨us,[]⟩ (us++ds) (vs++dvs) Q E hr I.env0 (d s us I.kIn hl) r2 h) λr s' hq=>?_);cases r with
 | error e=>exact hx pins σ H s e s' I hq
 | ok l=>
  cases l with
  | ret u=>exact I.after hq
  | next=>exact dH hq
  | brk=>exact dH hq
  | cont=>exact dH hq
theorem qeN (F:FnOk X.prog X.w X.K X.mg X.base CX k f fd ps sp) (hr:Room k X.A) (hg:Gl X x) (c:X.mg x=ii (.ref f)) (a:keepIn X.K (.ref f)=ir) (g:Binds X.K fd ps ds) (hd:Vals dvs ds) (hx:yT CX X E)
  (j:PA X (e::es) t) (b:Dbg x:=by decide) (i:iA (e::es) X.env=(iq,eval e X.env)::iA es X.env:=by rfl) (l:(iZ pos (iA es X.env)).any (·.1)=false:=by rfl) :
  PE X (.Call (.Name x p) (e::es) [] pos) (qjf sp dvs E t):=by
 refine ⟨?_⟩;intro pins s σ H Q I h;refine i7 (Jo I hg c ?_ b);refine PySem.W.callWith_K (h₀:=X.base) I.ok.mod.kin a (thn (j pos pins s σ H _ I h) λus s1 ⟨vs,H1,d,r,q⟩=>⟨d.kIn,?_⟩) i l;exact qgV F hr g hd hx d r q
end
section
variable {k:Nat} {C:Addr} {ks:List Str} {E:XK} {m:Str} {kpos:Pos} {o:Expr} {kws:List k7} {tk:TA} {nm:Option Str}
variable {g:List ip->List ip->List ip} {gV:List V->List V->List V}
end
structure FnScope (N P:List Str) (sc:lG):Prop where
 kind:sc.kind=.function
 co:sc.isCoroutine=iq
 gen:sc.isGenerator=iq
 nd:N.Nodup
 pre:N.take P.length=P
 par:∀ x∈P,sc.names.lookup x=ii .local\/sc.names.lookup x=ii .cell
 nofree:∀ y∈sc.names,y.2≠.free
variable {kindOf:Str->Option la}
theorem Vb:∀ {binds:List (Str×ip)} {m:Str->Option ip},(∀ v,(x,v)∉binds)->bindL kindOf binds m x=m x
 | [],_,_=>rfl
 | (n,v)::r,m,h=>by
  unfold bindL;rw [Vb λw a=>h w (af _ a)];split
  ·have:x≠n:=by rintro rfl; exact h v aq
   simp [this]
  ·rfl
theorem Vc:∀ {binds:List (Str×ip)} {m:Str->Option ip},(∀ v,(x,v)∉binds)->bindC kindOf binds m x=m x
 | [],_,_=>rfl
 | (n,v)::r,m,h=>by
  unfold bindC;rw [Vc λw a=>h w (af _ a)];split;·rfl
  ·have:x≠n:=by rintro rfl; exact h v aq
   simp [this]
theorem Vd {kindOf:Str->Option la} {x:Str} {v:ip}:∀ {P:List Str} {vs:List ip} {i:Nat} {m:Str->Option ip},P.Nodup->P[i]?=ii x->vs[i]?=ii v->kindOf x=ii .local ->bindL kindOf (P.zip vs) m x=ii v
 | [],_,_,_,_,h,_,_=>by simp at h
 | _::_,[],_,_,_,_,h,_=>by simp at h
 | p::P,w::vs,0,m,nd,h1,h2,hk=>by simp at h1 h2; subst h1; subst h2;show bindL kindOf ((p,w)::P.zip vs) m p=_;unfold bindL;rw [Vb λv c=>(aR.mp nd).1 (dB c).1,Aa hk];simp
 | p::P,w::vs,i+1,m,nd,h1,h2,hk=>by show bindL kindOf ((p,w)::P.zip vs) m x=_;unfold bindL;exact Vd (i:=i) (aR.mp nd).2 (by simpa using h1) (by simpa using h2) hk
theorem Ve {kindOf:Str->Option la} {x:Str} {v:ip}:∀ {P:List Str} {vs:List ip} {i:Nat} {m:Str->Option ip},P.Nodup->P[i]?=ii x->vs[i]?=ii v->kindOf x≠ii .local ->bindC kindOf (P.zip vs) m x=ii v
 | [],_,_,_,_,h,_,_=>by simp at h
 | _::_,[],_,_,_,_,h,_=>by simp at h
 | p::P,w::vs,0,m,nd,h1,h2,hk=>by simp at h1 h2; subst h1; subst h2;show bindC kindOf ((p,w)::P.zip vs) m p=_;unfold bindC;rw [Vc λv c=>(aR.mp nd).1 (dB c).1,Ab hk];simp
 | p::P,w::vs,i+1,m,nd,h1,h2,hk=>by show bindC kindOf ((p,w)::P.zip vs) m x=_;unfold bindC;exact Ve (i:=i) (aR.mp nd).2 (by simpa using h1) (by simpa using h2) hk
noncomputable def ud (N:List Str) (vs:List V):St:=vs.map ii++aJ (N.length - vs.length) ij
def qeO (CX:CXT) (P:iE) (w:iG) (K:Frag) (mg:Str->Option ip) (base:Heap) (N:List Str) (qual:Str) (scope:lG) (f:Addr) (cd:ip) (A:iL) (outer:List Env) (s:iu) (H:Hp) (E:XK):Cx where
 prog:=P
 w:=w
 K:=K
 mg:=mg
 base:=base
 A:=A.deeper (lY qual scope s.heap.objs.size f cd)
 N:=N
 s₀:=s
 H₀:=H
 env:=lY qual scope s.heap.objs.size f cd
 outer:=outer
 stack:=lY qual scope s.heap.objs.size f cd::outer
 ex:=[]
 calm:=ir
 fn:=λ_=>ir
 pn:=[]
 xe:=λe s'=>iy (model P w) (A.deeper (lY qual scope s.heap.objs.size f cd)) (leaving (lY qual scope s.heap.objs.size f cd) e) (λ_ a=>CX outer H s E e a) (λb a=>CX outer H s E b a) s'
theorem Ym {sc:lG} {n:Nat} (h:sc.names.lookup x=ii .cell):∃ c,(cellsFrom n sc.names []).lookup x=ii c:=by have q:=PySem.W.cellsFrom_some sc.names n [] (.inl h);exact Option.isSome_iff_exists.mp q
theorem ZY {CX:CXT} {P:iE} {w:iG} {K:Frag} {mg:Str->Option ip} {base:Heap} {N ps:List Str} {qual:Str} {scope:lG} {f:Addr} {cd:ip} {A:iL} {outer:List Env} {s s1:iu} {H:Hp} {E:XK} {us:List ip} {vs:List V}
  (S:FnScope N ps scope) (hd:A.handled=ij) (e0:Env0 P w K mg base A outer s H) (hl:vs.length=ps.length) (r:Vals vs us)
  (x:InCallC s s.heap.objs.size (bindL (lY qual scope s.heap.objs.size f cd).kindOf (ps.zip us) λ_=>ij) (cellsFrom (s.heap.objs.size+1) scope.names []) (bindC (lY qual scope s.heap.objs.size f cd).kindOf (ps.zip us) λ_=>ij) s1) :
  Inv (qeO CX P w K mg base N qual scope f cd A outer s H E) [] (ud N vs) H s1:=by
 have o:ps.length<=N.length:=by have:=congrArg fI S.pre; rw [fg] at this; lia
 obtain ⟨h1,tk,rfl,l⟩:=x.done;have d:∀ b:Addr,b∉(qeO CX P w K mg base N qual scope f cd A outer s H E).ex:=λb z=>absurd (show b∈([]:List Addr) from z) (by simp);refine ⟨⟨e0.mod,S.kind,rfl,rfl,ax _,λy z c h1 h2=>?_,λy C=>?_,λy c _ h=>?_,λ_=>hd,Around.frames_deeper e0.frames,.inr ⟨rfl,rfl⟩,λb z=>absurd z (d b),e0.bs,e0.bsz,λb _ _=>d b,λb z=>absurd z (d b),e0.funs,e0.frf⟩,rfl,e0.bare,Un.kept l,⟨_,x.toInCall.ns,λi y v h1 h2 B=>?_⟩,λy c h=>⟨_,x.cell y c h⟩,e0.hok.fresh (ax _),λy c h=>?_,λp hp=>absurd (show p∈([]:Pns) from hp) (by simp),e0.hok.kept l,?_⟩;·exact name_of_addr x.apart (cY h1) (cY h2)
 ·have C:scope.names.lookup y=ii .cell\/scope.names.lookup y=ii .free:=C;rcases C with C | C;·exact Ym C
  ·exact absurd rfl (S.nofree _ (cY C))
 ·exact dJ (x.above y c (cY h))
 ·have hi:i < vs.length:=by
   unfold ud at h2;by_cases hi:i < vs.length;·exact hi
   ·rw [cH (by simpa using hi)] at h2;rw [cq] at h2;split at h2 <;> cases h2
  have t:vs[i]?=ii v:=by
   unfold ud at h2;rw [dO (by simpa using hi),aG] at h2;cases e:vs[i]? with
   | none=>rw [e] at h2; cases h2
   | some a=>rw [e] at h2; cases h2; rfl
  obtain ⟨u,j,m⟩:=r.get t;have hp:ps[i]?=ii y:=by rw [<-S.pre,List.getElem?_take_of_lt (by lia)]; exact h1
  have g:ps.Nodup:=by rw [<-S.pre]; exact S.nd.sublist (List.take_sublist _ _)
  refine ⟨u,m,?_⟩;rcases S.par y (ck hp) with k | k;·exact .inl ⟨k,Vd g hp j k⟩
  ·obtain ⟨c,e⟩:=Ym (n:=s.heap.objs.size+1) k;refine .inr ⟨.inl k,c,e,?_⟩;have q:=x.cell y c e;rw [Ve g hp j (by show scope.names.lookup y≠_; rw [k]; decide)] at q;exact q
 ·exact e0.hok.fresh (dJ (x.above y c (cY h)))
 ·unfold ud;show _=N.length;rw [ae,aB,e7]
  lia
theorem qjg {CX:CXT} {P:iE} {w:iG} {K:Frag} {mg:Str->Option ip} {base:Heap} {k:Nat} {f:Addr} {name qual:Str} {params:Arguments} {body:List Stmt} {scope:lG} {i kV doc pm cdv ct oc:ip} {an od:Option Addr}
  {osl:Array (Option ip)} {N ps:List Str} {sp:Sp} (j:K.lookup f=ii ⟨oc,od,.func (cE name qual params body scope i kV doc pm an cdv ct),osl⟩) (g:codeIn K cdv qual=ir) (S:FnScope N ps scope)
  (len:∀ vs H Q E,sp vs H Q E->vs.length=ps.length)
  (a:∀ (A:iL) (outer:List Env) (s:iu) (H:Hp) (vs:List V) (Q:VK) (E:XK),Room k (A.deeper (lY qual scope s.heap.objs.size f cdv))->sp vs H Q E ->∃ t,PSs (qeO CX P w K mg base N qual scope f cdv A outer s H E) body t/\t { nx:=λ_ H'=>Q .non H',rt:=Q } (ud N vs) H) :
  FnOk P w K mg base CX (k+1) f (cE name qual params body scope i kV doc pm an cdv ct) ps sp:=by
 refine ⟨len,λA outer s H args us vs Q E hr e0 z r p=>?_⟩;have hl:=len _ _ _ _ p;have X:K.In s.heap:=e0.mod.kin.keeps λb o e=>(e0.bs b o e).1;have l:s.heap.NoLimit:=e0.mod.nolimit.keeps λb o e=>(e0.bs b o e).1;have h:∀ y∈ps.zip us,scope.names.lookup y.1=ii .local\/(scope.names.lookup y.1=ii .cell/\((cellsFrom (s.heap.objs.size+1) scope.names []).lookup y.1).isSome=ir):=λ⟨n,v⟩ C=>by
  rcases S.par n (dB C).1 with q | q;·exact .inl q
  ·exact .inr ⟨q,PySem.W.cellsFrom_some _ _ _ (.inl q)⟩
 refine codeAny_call_function hr.depth (X _ _ j) rfl S.co S.gen rfl (PySem.W.codeRec_of X g) (z _ _ _ _ ?_);refine wpAny_newFunctionEnv_cells S.kind h λenv m s1 x=>?_;subst m;refine ⟨l.keeps x.toInCall.keep,codeAny_func ?_⟩;obtain ⟨t,ht,hq⟩:=a A outer s H vs Q E (hr.deeper _) p;have I:Inv (qeO CX P w K mg base N qual scope f cdv A outer s H E) [] (ud N vs) H s1:=ZY S hr.hd e0 hl r x;refine j6 (ht [] s1 (ud N vs) H _ I hq) (λB s' c=>?_) λe s' c=>c;have fin:∀ {σ':St} {H':Hp} {v:V} {u:ip},Inv (qeO CX P w K mg base N qual scope f cdv A outer s H E) [] σ' H' s'->RelV v u->Q v H'->CE outer P w H s Q u s':=
  λ{σ' H' v u} J d q=>⟨v,H',J.os,J.bare,J.base,J.hok,d,q⟩
 cases B with
 | ret u=>obtain ⟨v,σ',H',J,d,q⟩:=c;exact fin J d q
 | next=>obtain ⟨σ',H',J,q⟩:=c;exact fin (v:=V.non) (u:=cw) J rfl q
 | brk=>obtain ⟨_,_,_,q⟩:=c;exact dH q
 | cont=>obtain ⟨_,_,_,q⟩:=c;exact dH q
section
variable {id T:String} {r:List V->Hp->VK->Prop}
def tCB (r:List V->Hp->VK->Prop) (t:TA):TE:=λσ H Q=>t σ H λvs H1=>r vs H1 Q
theorem yU (d:yp X (.builtin id) r) (hg:Gl X x) (m:X.mg x=ij) (c:iC x=ii (.builtin id)) (g:PA X (e::es) t) (hn:x ≠ "__name__":=by decide) (b:Dbg x:=by decide)
  (i:iA (e::es) X.env=(iq,eval e X.env)::iA es X.env:=by rfl) (l:(iZ pos (iA es X.env)).any (·.1)=false:=by rfl):PE X (.Call (.Name x p) (e::es) [] pos) (tCB r t):=by
 refine ⟨?_⟩;intro pins s σ H Q I h;refine i7 (yS I hg m c ?_ hn b);exact PyProof.Rows.callWith_builtin1 (thn (g pos pins s σ H _ I h) λus s1 ⟨vs,H1,a,r1,q1⟩=>d pins s1 σ H1 vs us Q a r1 q1) i l
theorem ue (d:yp X (.type T) r) (hg:Gl X x) (m:X.mg x=ij) (c:iC x=ii (.type T)) (g:PA X (e::es) t) (hn:x ≠ "__name__":=by decide) (b:Dbg x:=by decide)
  (i:iA (e::es) X.env=(iq,eval e X.env)::iA es X.env:=by rfl) (l:(iZ pos (iA es X.env)).any (·.1)=false:=by rfl):PE X (.Call (.Name x p) (e::es) [] pos) (tCB r t):=by
 refine ⟨?_⟩;intro pins s σ H Q I h;refine i7 (yS I hg m c ?_ hn b);exact bG (thn (g pos pins s σ H _ I h) λus s1 ⟨vs,H1,a,r1,q1⟩=>d pins s1 σ H1 vs us Q a r1 q1) i l
end
end L2
namespace HT
open PySem PyProof.Rows
section
open PySem.SeqAt
open PySem.AutoSeq1 (wpAny_loadPart')
open PySem.MeetsSeq PySem.MeetsSeq2 PySem.MeetsSeq3
end
section
variable {prog:iE} {w:iG} {A:iL} {E:ip->iu->Prop} {s:iu}
theorem cat_tup {t b:Addr} {vs ws:List ip} {Q:ip->iu->Prop} (ht:IsTup s.heap t vs.toArray) (l:IsTup s.heap b ws.toArray) (v:vs≠[])
  (h1:ws=[]->Q (.ref t) s) (h2:ws≠[]->Q (.ref s.heap.objs.size) { s with heap:=s.heap.push { cls:=.type "tuple",data:=.seq (vs++ws).toArray } })
  (hsz:vs.length+ws.length<=sizeLine):iy (model prog w) A (iW .Add (.ref t) (.ref b)) Q E s:=by
 obtain ⟨⟨cls,dd,data,sl⟩,j,i,n,hd⟩:=id ht;obtain ⟨⟨k,d,g,a⟩,h,c,n2,hd2⟩:=id l;simp only at i hd c hd2;subst i hd c hd2;have e:vs.toArray++ws.toArray=(vs++ws).toArray:=by simp
 by_cases f:ws=[]
 ·exact l8 ⟨_,j,rfl⟩ ⟨_,h,rfl⟩ noFill_tuple_add seq_tuple_add eG d8 (dU _ _)
   (tuple_addW1 t b vs.toArray ws.toArray n n2 dd d sl a (by simpa using v) (by simp [f])) ⟨j,h,h1 f⟩
 ·refine l8 ⟨_,j,rfl⟩ ⟨_,h,rfl⟩ noFill_tuple_add seq_tuple_add eG d8 (dU _ _)
   (tuple_addW2 t b vs.toArray ws.toArray n n2 dd d sl a (by simpa using v) (by simpa using f) (by rw [au,au]; exact hsz)) ⟨j,h,?_⟩
  rw [e];exact h2 f
noncomputable def sIx (n d:Nat):Option Int->Nat
 | none=>d
 | some v=>if v < 0 then (v+(n:Int)).toNat else min v.toNat n
theorem slicePart_ {v:ip} {o:Option Int} {Q:Option Int->iu->Prop} (p:lH v o) (h:Q o s):iy (model prog w) A (Builtin.Slice.slicePartIndex v) Q E s:=by
 cases p with
 | none=>exact slicePart_none h
 | int i t=>exact slicePart_int h
end
end HT
namespace L2
open PySem PySem.Spec PyProof.Rows
abbrev TO:=St->Hp->(Option Int->Hp->Prop)->Prop
def PO (X:Cx) (e:Option Expr) (t:TO):Prop:=
 ∀ (pins:Pns) (s:iu) (σ:St) (H:Hp) (Q:Option Int->Hp->Prop),Inv X pins σ H s->t σ H Q ->iy (model X.prog X.w) X.A (evalPart e X.env) (λu s'=>∃ o H',Inv X pins σ H' s'/\lH u o/\Q o H') X.xe s
def qeP:TO:=λ_ H Q=>Q ij H
def qjh (t:TE):TO:=λσ H Q=>t σ H λx H1=>∃ i,x=.int i/\Q (ii i) H1
variable {X:Cx} {e:Expr} {pos:Pos} {xs:List V} {us:List ip}
section
variable {te:TE} {lo hi:Option Expr} {tl th:TO} {p2:Pos}
theorem qeQ:PO X ij qeP:=by intro pins s σ H Q I h;rw [evalPart_none];exact iw ⟨ij,H,I,.none,h⟩
theorem qeR (h:PE X e te):PO X (ii e) (qjh te):=by intro pins s σ H Q I w;rw [evalPart_some];refine thn (h pins s σ H _ I w) λu s1 ⟨x,H1,d,r1,q1⟩=>?_;obtain ⟨i,rfl,q⟩:=q1;obtain ⟨t,rfl⟩:=r1;exact ⟨ii i,H1,d,.int i t,q⟩
def SlR (X:Cx) (r:V->Option Int->Option Int->Hp->VK->Prop):Prop:=
 ∀ (pins:Pns) (s:iu) (σ:St) (H:Hp) (x:V) (v vl u:ip) (lo hi:Option Int) (sl:Addr) (Q:VK),Inv X pins σ H s->RelV x v->s.heap.IsSliceOf sl vl u .none->lH vl lo->lH u hi->r x lo hi H Q ->∃ T id,lT (.type T) "__getitem__"=pure (ii (.builtin id))/\s.TypeIs v T/\iy (model X.prog X.w) X.A (mq v (.ref sl)) (EP X pins σ Q) X.xe s
def tSl (r:V->Option Int->Option Int->Hp->VK->Prop) (te:TE) (tl th:TO):TE:=λσ H Q=>te σ H λx H1=>tl σ H1 λl H2=>th σ H2 λu d=>r x l u d Q
theorem qcb {r:V->Option Int->Option Int->Hp->VK->Prop} (hr:SlR X r) (i:PE X e te) (hl:PO X lo tl) (g:PO X hi th):PE X (.Subscript e (.Slice lo hi ij p2) pos) (tSl r te tl th):=by refine ⟨?_⟩;intro pins s σ H Q I h;refine Subscript_ (thn (i pins s σ H _ I h) λv s1 ⟨x,H1,n,r1,q1⟩=>?_);refine wpAny_Slice (thn (hl pins s1 σ H1 _ n q1) λvl s2 ⟨l,H2,m,pl,f⟩=>thn (g pins s2 σ H2 _ m f) λa s3 ⟨u,d,k,p,c⟩=>?_);rw [evalPart_none];refine iw ?_;have j:Inv X pins σ d { s3 with heap:=s3.heap.push { cls:=.type "slice",data:=.fields #[vl,a,.none] } }:=k.kept (t':=s3.toks) λb o q=>aa _ q;obtain ⟨T,id,hT,ht,hg⟩:=hr pins { s3 with heap:=s3.heap.push { cls:=.type "slice",data:=.fields #[vl,a,.none] } } σ d x v vl a l u s3.heap.objs.size Q j r1 (Heap.IsSliceOf.new ..) pl p c;show iy (model X.prog X.w) X.A (subscriptTail e (.Slice lo hi ij p2) v (.ref s3.heap.objs.size)) (EP X pins σ Q) X.xe { s3 with heap:=s3.heap.push { cls:=.type "slice",data:=.fields #[vl,a,.none] } };exact mF (ops:=[.ref s3.heap.objs.size,v]) ht hT hg (by with_unfolding_all rfl)
noncomputable def qeS (xs:List V) (lo hi:Option Int):List V:=(xs.drop (HT.sIx xs.length 0 lo)).take (HT.sIx xs.length xs.length hi - HT.sIx xs.length 0 lo)
theorem WQ (xs:List V) (lo hi:Option Int):(qeS xs lo hi).length<=xs.length:=by
 unfold qeS;rw [fg,List.length_drop]
 lia
def qji (K:Frag):R2:=λx y H Q=>∃ a b xs ys,x=.ref a/\y=.ref b/\SqT K H a xs/\SqT K H b ys/\xs≠[]/\xs.length+ys.length<=sizeLine /\
 (ys=[]->Q (.ref a) H)/\(ys≠[]->∀ p,H p=ij->Q (.ref p) (upd H p (.tup (xs++ys))))
theorem Vals.nil_iff (r:Vals xs us):us=[]↔xs=[]:=by
 cases r with
 | nil=>simp
 | cons _ _=>simp
theorem qeT:OpR X (iW .Add) (qji X.K):=by intro pins s σ H x y v u Q I d r h;obtain ⟨a,b,xs,ys,rfl,rfl,g,f,hx,c,q1,e⟩:=h;cases d;cases r;obtain ⟨its,r1,p1,_⟩:=I.tuple g;obtain ⟨i,r2,p2,_⟩:=I.tuple f;refine HT.cat_tup p1 p2 (λz=>hx (r1.nil_iff.mp z)) (λz=>⟨.ref a,H,I,rfl,q1 (r2.nil_iff.mp z)⟩) (λz=>?_) (by rw [<-r1.length,<-r2.length]; exact c);refine ⟨.ref s.heap.objs.size,_,I.laid (t':=s.toks) (o:=.tup (xs++ys)) (λb j q=>aa _ q) (ax _) ?_,rfl,e (λw=>z (r2.nil_iff.mpr w)) _ (I.hok.fresh (ax _))⟩;exact ⟨⟨by rw [ae]; exact c,_,aj _ rfl,rfl⟩,_,r1.append r2,IsTup.new _ _⟩
end
noncomputable def ixN (n:Nat) (i:Int):Option Nat:=if 0<=i then (if i < n then ii i.toNat else ij) else if -(n:Int)<=i then ii (i+n).toNat else ij
variable {α:Type}
noncomputable def atI (xs:List α) (i:Int):Option α:=(ixN xs.length i).bind λj=>xs[j]?
variable {n:Nat} {i:Int}
theorem qeU {j:Nat} (h:ixN n i=ii j):seqIndex? i n=ii j/\j < n/\-(n:Int)<=i/\i < n:=by
 unfold ixN at h;by_cases a:0<=i
 ·rw [Aa a] at h;by_cases h1:i < n;·rw [Aa h1] at h;have e:i.toNat=j:=aK.inj h;exact ⟨by rw [seqIndex_of a h1,e],by lia,by lia,h1⟩
  ·rw [Ab h1] at h; cases h
 ·rw [Ab a] at h;by_cases h1:-(n:Int)<=i;·rw [Aa h1] at h;have e:(i+n).toNat=j:=aK.inj h;exact ⟨by rw [seqIndex_neg (by lia) h1,e],by lia,h1,by lia⟩
  ·rw [Ab h1] at h; cases h
theorem WR {xs:List α} {v:α} (h:atI xs i=ii v):∃ j,seqIndex? i xs.length=ii j/\xs[j]?=ii v/\j < xs.length/\-(xs.length:Int)<=i/\i < xs.length:=by
 unfold atI at h;cases e:ixN xs.length i with
 | none=>rw [e] at h; cases h
 | some j=>rw [e] at h;obtain ⟨h1,h2,g,a⟩:=qeU e;exact ⟨j,h1,h,h2,g,a⟩
def Jq (b:Expr):Prop:=∀ o i,subscripted b iq o i=operate [o,i] (mq o i)
def IxR (X:Cx) (r:R2):Prop:=
 ∀ (value e:Expr) (pins:Pns) (s:iu) (σ:St) (H:Hp) (x y:V) (v u:ip) (Q:VK),Inv X pins σ H s->RelV x v->RelV y u->r x y H Q ->subscripted e iq v u=operate [v,u] (mq v u)->iy (model X.prog X.w) X.A (subscriptTail value e v u) (EP X pins σ Q) X.xe s
def MtR (X:Cx) (id:String) (r:V->List V->Hp->VK->Prop):Prop:=
 ∀ (pins:Pns) (s:iu) (σ:St) (H:Hp) (x:V) (xs:List V) (v:ip) (us:List ip) (Q:VK),Inv X pins σ H s->RelV x v->Vals xs us->r x xs H Q ->iy (model X.prog X.w) X.A (call (.builtin id) (v::us)) (EP X pins σ Q) X.xe s
variable {pins:Pns} {σ:St} {H:Hp} {s:iu} {T:String} {x:V}
section
variable {a b:Expr} {ta tb:TE}
theorem IxR.or {r r':R2} (h:IxR X r) (h':IxR X r'):IxR X (λx y H Q=>r x y H Q\/r' x y H Q):=by
 intro value e pins s σ H x y v u Q I d c q a;rcases q with q | q;·exact h value e pins s σ H x y v u Q I d c q a
 ·exact h' value e pins s σ H x y v u Q I d c q a
theorem qgW {r:R2} (hr:IxR X r) (g:PE X a ta) (f:PE X b tb) (e:Jq b):PE X (.Subscript a b pos) (tOp r ta tb):=by refine ⟨?_⟩;intro pins s σ H Q I h;exact Subscript_ (qi6 g f I h λv u s2 x y H2 i d c q=>hr a b pins s2 σ H2 x y v u Q i d c q (e _ _))
def qkf (K:Frag):R2:=λx y H Q=>∃ p xs i v,x=.ref p/\y=.int i/\SqL K H p xs/\atI xs i=ii v/\Q v H
def qkg (K:Frag):R2:=λx y H Q=>∃ p xs i v,x=.ref p/\y=.int i/\SqT K H p xs/\atI xs i=ii v/\Q v H
def qkh:R2:=λx y H Q=>∃ z i c,x=.str z/\y=.int i/\z.length<=sizeLine/\atI z.cps.toList i=ii c/\Q (.str ⟨#[c]⟩) H
theorem qeV:IxR X (qkf X.K):=by
 intro value e pins s σ H x y v u Q I g f h c;obtain ⟨p,xs,i,z,rfl,rfl,hq,k,q⟩:=h;cases g;obtain ⟨t,rfl⟩:=f;obtain ⟨its,r,pl,n⟩:=I.list hq;obtain ⟨j,h1,h2,o,m,l⟩:=WR k;obtain ⟨w,d,a⟩:=r.get h2;have hl:=r.length;have hn:=KZ;have fin:EP X pins σ Q w s:=⟨z,H,I,a,q⟩
 by_cases b:0<=i
 ·have D:i.toNat=j:=by rw [seqIndex_of b l] at h1;exact aK.inj h1
  exact item_listR pl.isList b (by lia) (by rw [D]; simpa using d) fin c
 ·have D:(i+(its.toArray.size:Int)).toNat=j:=by rw [seqIndex_neg (by lia) m] at h1;rw [au,<-hl];exact aK.inj h1
  exact subscriptTail_builtinR (x:=w) pl.isList.typeIs slot_list_getitem.lookup
   (wpAny_getItem_list_neg (Q:=λr s'=>r=w/\EP X pins σ Q r s') pl.isList (by lia) (by rw [au] <;> lia) (by lia) (by rw [D]; simpa using d) ⟨rfl,fin⟩) c
theorem qgX:IxR X (qkg X.K):=by
 intro value e pins s σ H x y v u Q I d c h b;obtain ⟨p,xs,i,z,rfl,rfl,hq,f,q⟩:=h;cases d;obtain ⟨t,rfl⟩:=c;obtain ⟨its,r,pl,k⟩:=I.tuple hq;obtain ⟨j,h1,h2,n,m,l⟩:=WR f;obtain ⟨w,g,a⟩:=r.get h2;have hl:=r.length;have hn:=KZ;have fin:EP X pins σ Q w s:=⟨z,H,I,a,q⟩
 exact subscriptTail_builtinR (x:=w) pl.typeIs slot_tuple_getitem.lookup
  (getItem_tuple (j:=j) (Q:=λr s'=>r=w/\EP X pins σ Q r s') pl (by lia) (by lia) (by rw [au,<-hl]; exact h1) (by simpa using g) ⟨rfl,fin⟩) b
theorem qgY:IxR X qkh:=by
 intro value e pins s σ H x y v u Q I d r h a;obtain ⟨z,i,c,rfl,rfl,g,b,q⟩:=h;obtain ⟨t,rfl⟩:=d;obtain ⟨t',rfl⟩:=r;obtain ⟨j,h1,h2,k,f,l⟩:=WR b;have hl:z.cps.toList.length=z.length:=by simp [fV]
 rw [hl] at h1 f l;have hn:=KZ;exact mF (typeIs_str s z t) slot_str_getitem.lookup (getItem_str (c:=c) (by have e1:decide (i < -(2 ^ 63:Int))=false:=Ac (by lia);have e2:decide (i ≥ 2 ^ 63)=false:=Ac (by lia);rw [e1,e2,Bool.or_false]) (by rw [h1]; simpa using h2) ⟨.str ⟨#[c]⟩,H,I.tok _,⟨_,rfl⟩,q⟩) a
def rIx (K:Frag):R2:=λx y H Q=>qkf K x y H Q\/qkg K x y H Q\/qkh x y H Q
theorem qgZ:IxR X (rIx X.K):=qeV.or (qgX.or qgY)
theorem Vf (lo hi:Option Int) (n:Nat):(lC lo hi ij n).1=((HT.sIx n 0 lo:Nat):Int)/\(lC lo hi ij n).2.1=((HT.sIx n n hi:Nat):Int)/\(lC lo hi ij n).2.2=1:=by
 refine ⟨?_,?_,rfl⟩
 ·cases lo with
  | none=>simp [lC,HT.sIx]
  | some i=>
   simp only [lC,HT.sIx,Option.getD_none,show (1:Int) > 0 by decide,if_true];by_cases h:i < 0;·simp only [h,if_true] <;> lia
   ·simp only [h,if_false] <;> lia
 ·cases hi with
  | none=>simp [lC,HT.sIx]
  | some i=>
   simp only [lC,HT.sIx,Option.getD_none,show (1:Int) > 0 by decide,if_true];by_cases h:i < 0;·simp only [h,if_true] <;> lia
   ·simp only [h,if_false] <;> lia
theorem Jr (its:List ip) (lo hi:Option Int):slicePick its.toArray lo hi ij=((its.drop (HT.sIx its.length 0 lo)).take (HT.sIx its.length its.length hi - HT.sIx its.length 0 lo)).toArray:=by obtain ⟨h1,h2,g⟩:=Vf lo hi its.toArray.size;unfold slicePick;rw [h1,h2,g];simp only [sliceRange_one,pick_run,au] <;> rfl
def qkS (K:Frag):V->Option Int->Option Int->Hp->VK->Prop:=λx lo hi H Q=>∃ a xs,x=.ref a/\SqL K H a xs/\∀ p,H p=ij->Q (.ref p) (upd H p (.lst (qeS xs lo hi)))
theorem qeW:SlR X (qkS X.K):=by intro pins s σ H x v vl u lo hi sl Q I d c pl p h;obtain ⟨a,xs,rfl,hx,q⟩:=h;cases d;obtain ⟨its,r,ht,z⟩:=I.list hx;have n:=r.length;refine ⟨"list",_,slot_list_getitem.lookup,ht.isList.typeIs,?_⟩;refine wpAny_getItem_list_slice ht.isList c pl p .none (by simp) ?_ (by rw [au] <;> lia);rw [Jr,<-n];refine ⟨.ref s.heap.objs.size,_,I.laid (t':=s.toks) (o:=.lst (qeS xs lo hi)) (λb e q=>aa _ q) (ax _) ?_,rfl,q _ (I.hok.fresh (ax _))⟩;exact ⟨bN (WQ xs lo hi) z,_,0,(r.drop (HT.sIx xs.length 0 lo)).take (HT.sIx xs.length xs.length hi - HT.sIx xs.length 0 lo),aj _ rfl⟩
theorem yV:yp X (.type "tuple") (λxs H Q=>∃ p ys,xs=[.ref p]/\((SqL X.K H p ys/\∀ l,H l=ij->Q (.ref l) (upd H l (.tup ys)))\/(SqT X.K H p ys/\Q (.ref p) H))):=by
 intro pins s σ H xs us Q I r h;obtain ⟨p,ys,rfl,h⟩:=h;obtain ⟨u,rfl,x⟩:=yq r;cases x;rcases h with ⟨hq,q⟩ | ⟨hq,q⟩
 ·obtain ⟨its,r',pl,z⟩:=I.list hq;have n:=r'.length;refine call_tuple_list pl.isList (λh' kp=>?_) (by simp only [au] <;> lia);have d:Inv X pins σ H { s with heap:=h' }:=I.kept (t':=s.toks) kp;have a:Inv X pins σ (upd H h'.objs.size (.tup ys)) { s with heap:=h'.push { cls:=.type "tuple",data:=.seq its.toArray } }:=
   d.laid (t':=s.toks) (λb o e=>aa _ e) (ax _) (show ObjOk X.prog X.w _ _ _ (.tup ys) from ⟨⟨z,_,aj _ rfl,rfl⟩,its,r',IsTup.new _ _⟩)
  exact ⟨.ref h'.objs.size,_,a,rfl,q _ (d.hok.fresh (ax _))⟩
 ·obtain ⟨its,r',pl,z⟩:=I.tuple hq;exact call_tuple_same pl ⟨.ref p,H,I,rfl,q⟩
def tyV (K:Frag) (T:String) (x:V) (H:Hp):Prop:=match x with
 | .str _=>T = "str"
 | .int _=>T = "int"
 | .ref p=>(T = "list"/\∃ xs,SqL K H p xs)\/(T = "tuple"/\∃ o,K.lookup p=ii o/\o.cls=.type "tuple"/\o.dict=ij) \/
   (T = "dict"/\((∃ kvs,H p=ii (.dK kvs))\/∃ kvs,H p=ii (.dT kvs)))\/(T = "set"/\∃ S n,H p=ii (.set S n))
 | _=>False
theorem qg0 {v:ip} (I:Inv X pins σ H s) (r:RelV x v) (ty:tyV X.K T x H):s.TypeIs v T/\∀ a,v=.ref a->∃ b,s.heap.get? a=ii b/\b.dict=none:=by
 cases x with
 | str z=>obtain ⟨t,rfl⟩:=r;cases (show T = "str" from ty);exact ⟨typeIs_str s z t,λ_ e=>nomatch e⟩
 | int i=>obtain ⟨t,rfl⟩:=r;cases (show T = "int" from ty);exact ⟨typeIs_int s i t,λ_ e=>nomatch e⟩
 | ref p=>
  cases r;rcases ty with ⟨rfl,xs,hq⟩ | ⟨rfl,o,k,d,hd⟩ | ⟨rfl,k⟩ | ⟨rfl,S,n,k⟩
  ·obtain ⟨its,_,pl,_⟩:=I.list hq;refine ⟨pl.isList.typeIs,λa e=>?_⟩;cases e;obtain ⟨o,n,e,c,hd,_⟩:=pl;exact ⟨o,e,hd⟩
  ·refine ⟨⟨o,I.kIn p o k,d⟩,λa e=>?_⟩;cases e;exact ⟨o,I.kIn _ o k,hd⟩
  ·have z:∃ o,s.heap.get? p=ii o/\o.ExactDict:=by
    rcases k with ⟨kvs,k⟩ | ⟨kvs,k⟩
    ·obtain ⟨_,_,_,_,o,_,_,e,ex,_⟩:=I.hok p _ k;exact ⟨o,e,ex⟩
    ·obtain ⟨_,_,_,_,o,_,_,e,ex,_⟩:=I.hok p _ k;exact ⟨o,e,ex⟩
   obtain ⟨o,e,ex⟩:=z;refine ⟨⟨o,e,ex.1⟩,λa e2=>?_⟩;cases e2;exact ⟨o,e,ex.2.1⟩
  ·obtain ⟨o,_,_,_,e,ex,_⟩:=I.hok p _ k;refine ⟨⟨o,e,ex.1⟩,λa e2=>?_⟩;cases e2;exact ⟨o,e,ex.2.1⟩
 | _=>exact dH ty
def tBM (K:Frag) (T:String) (r:V->List V->Hp->VK->Prop) (to:TE) (t:TA):TE:=λσ H Q=>to σ H λx H1=>tyV K T x H1/\t σ H1 λxs H2=>r x xs H2 Q
variable {o:Expr} {es:List Expr} {to:TE} {t:TA} {name:Str} {apos cpos:Pos} {id:String} {r:V->List V->Hp->VK->Prop}
theorem qcc (p:PlainAttrs T) (slot:Slot T name id) (y:typeOf (.builtin id)=pure (.type "method_descriptor")) (m:MtR X id r) (j:PE X o to) (g:PA X (e::es) t)
  (b:j7 o name X.env (eval o X.env)=eval o X.env:=by rfl)
  (w:((iZ cpos (iA (e::es) X.env)).all (λx=>!x.1)&&(lU cpos (lm [] X.env)).all (λx=>x.1.isSome)
   && decide ((e::es).length+([]:List k7).length+(if ([]:List k7).isEmpty then 0 else 1) < 30))=true:=by rfl)
  (a:(apos.endLine == cpos.line)=true:=by rfl) (c:iA (e::es) X.env=(iq,eval e X.env)::iA es X.env:=by rfl) (n:(iZ cpos (iA es X.env)).any (·.1)=false:=by rfl) :
  PE X (.Call (.Attribute o name apos) (e::es) [] cpos) (tBM X.K T r to t):=by
 refine ⟨?_⟩;intro pins s σ H Q I h;refine wpAny_Call_method_late b w a rfl (thn (j pins s σ H _ I h) λv s1 ⟨x,H1,d,r1,ty,q1⟩=>?_);obtain ⟨h1,h2⟩:=qg0 d r1 ty;refine ⟨T,id,p,slot,y,h1,h2,?_⟩;have hA:=g cpos pins s1 σ H1 _ d q1;rw [c] at hA ⊢;refine dj (by show (iq||(iZ cpos (iA es X.env)).any (·.1))=iq; rw [n] <;> rfl) (dI ?_);exact thn hA λus s2 ⟨vs,H2,f,r2,q⟩=>m pins s2 σ H2 x vs v us Q f r1 r2 q
end
def MtM (X:Cx) (id:String) (r:V->List V->Hp->VK->Prop):Prop:=
 ∀ (pins:Pns) (s:iu) (σ:St) (H:Hp) (x:V) (xs:List V) (v:ip) (us:List ip) (Q:VK),Inv X pins σ H s->RelV x v->Vals xs us->r x xs H Q ->iy (model X.prog X.w) X.A (call (.builtin id) (v::us)) (EP X pins σ Q) X.xe s
theorem Vals.one (h:Vals [x] us):∃ u,us=[u]/\RelV x u:=by
 cases h with
 | cons r t=>cases t;exact ⟨_,rfl,r⟩
theorem Vals.eraseIdx:∀ {xs:List V} {us:List ip} (i:Nat),Vals xs us->Vals (xs.eraseIdx i) (us.eraseIdx i)
 | _,_,_,.nil=>.nil
 | _,_,0,.cons _ t=>t
 | _,_,i+1,.cons r t=>.cons r (Vals.eraseIdx i t)
theorem Vals.reverse (h:Vals xs us):Vals xs.reverse us.reverse:=by
 induction h with
 | nil=>exact .nil
 | cons r t i=>rw [cP,cP]; exact Vals.append i (.cons r .nil)
theorem Vg:∀ (l:List α) (i:Nat),(l.eraseIdx i).length<=l.length
 | [],_=>ax _
 | _::_,0=>fJ _
 | _::r,i+1=>Nat.succ_le_succ (Vg r i)
section
variable {l b:Addr} {ys zs:List V}
theorem Inv.lset {its its':List ip} {n:Nat} {f:Array ip->Array ip} {t':Nat} (I:Inv X pins σ H s) (b:H l=ii (.lst xs))
  (e:s.heap.get? l=ii { cls:=.type "list",data:=.seq its.toArray n }) (a:f its.toArray=its'.toArray) (c:Vals ys its') (z:ys.length<=sizeLine) :
  Inv X pins σ (upd H l (.lst ys)) { s with heap:=s.heap.update l (bQ f),toks:=t' }:=by
 have q:=PySem.IsL.update e f;rw [a] at q;refine I.write (x:=l) (e:=l) (by rw [b]; exact trivial) (.inl rfl) (λg u d h=>(dm s.heap (bQ f) (bw d)).trans h) ⟨_,q⟩ ?_;exact ⟨z,its',_,c,q⟩
theorem Inv.lnew {its:List ip} {t':Nat} (I:Inv X pins σ H s) (c:Vals ys its) (z:ys.length<=sizeLine):Inv X pins σ (upd H s.heap.objs.size (.lst ys)) { s with heap:=s.heap.push { cls:=.type "list",data:=.seq its.toArray },toks:=t' }:=
 I.laid (λ_ _ q=>aa _ q) (ax _) ⟨z,its,0,c,aj _ rfl⟩
theorem Inv.fresh (I:Inv X pins σ H s):H s.heap.objs.size=none:=I.hok.fresh (ax _)
theorem Inv.lstM (I:Inv X pins σ H s) (b:H l=ii (.lst xs)):xs.length<=sizeLine/\∃ (its:List ip) (n:Nat),Vals xs its/\xs.length=its.length/\s.heap.get? l=ii { cls:=.type "list",data:=.seq its.toArray n }:=by obtain ⟨z,its,n,r,e⟩:=I.hok l _ b;exact ⟨z,its,n,r,r.length,e⟩
theorem qcd (h:n<=sizeLine):cR n=false:=by unfold cR;exact Ac (by lia)
end
section
def WS:V->List V->Hp->VK->Prop:=λx vs H Q=>∃ l xs y,x=.ref l/\vs=[y]/\H l=ii (.lst xs)/\xs.length < sizeLine/\Q .non (upd H l (.lst (xs++[y])))
theorem Vh:MtM X "list.append" WS:=by
 intro pins s σ H x vs v us Q I d a h;obtain ⟨l,xs,y,rfl,rfl,b,c,q⟩:=h;cases d;obtain ⟨u,rfl,A⟩:=a.one;obtain ⟨z,its,n,r,hl,e⟩:=I.lstM b;refine lI F.slot_list_append ⟨_,e,rfl⟩ F.entry_list_append (F.args_list_append_2 _ _) (PySem.list_append l its.toArray n u (by rw [au]; lia)) ⟨e,?_⟩;refine ⟨.non,_,I.lset (its':=its++[u]) b e (by simp) (r.append (.cons A .nil)) ?_,rfl,q⟩;rw [ae,List.length_singleton]
 lia
def qeX:V->List V->Hp->VK->Prop:=λx vs H Q=>∃ l b xs zs,x=.ref l/\vs=[.ref b]/\H l=ii (.lst xs)/\H b=ii (.lst zs)/\xs.length+zs.length<=sizeLine/\Q .non (upd H l (.lst (xs++zs)))
theorem Ga:MtM X "list.extend" qeX:=by
 intro pins s σ H x vs v us Q I d c h;obtain ⟨l,b,xs,zs,rfl,rfl,a,hB,j,q⟩:=h;cases d;obtain ⟨u,rfl,A⟩:=c.one;cases A;obtain ⟨z,its,n,r,hl,e⟩:=I.lstM a;obtain ⟨z2,i,n2,r2,f,e2⟩:=I.lstM hB;have hsz:its.toArray.size+i.toArray.size<=sizeLine:=by rw [au,au]; lia
 have g:¬(!its.toArray.isEmpty&&cR (its.toArray.size+i.toArray.size))=true:=by rw [qcd hsz,Bool.and_false];exact bC
 refine lI F.slot_list_extend ⟨_,e,rfl⟩ F.entry_list_extend (F.args_list_extend_2 _ _)
  (AutoSeq1.list_extend_list_list_0 l its.toArray n b i.toArray n2 g (by rw [au]; lia) (by lia)) ⟨e,e2,?_⟩
 refine ⟨.non,_,I.lset (its':=its++i) a e (by simp) (r.append r2) ?_,rfl,q⟩;rw [ae]
 lia
def qg1:V->List V->Hp->VK->Prop:=λx vs H Q=>∃ l xs i k y,x=.ref l/\vs=[.int i]/\H l=ii (.lst xs)/\-(2 ^ 63)<=i/\i < 2 ^ 63/\seqIndex? i xs.length=ii k/\xs[k]?=ii y/\Q y (upd H l (.lst (xs.eraseIdx k)))
theorem qce:MtM X "list.pop" qg1:=by
 intro pins s σ H x vs v us Q I d c h;obtain ⟨l,xs,i,k,y,rfl,rfl,b,h1,h2,g,C,q⟩:=h;cases d;obtain ⟨u,rfl,A⟩:=c.one;obtain ⟨t,rfl⟩:=A;obtain ⟨z,its,n,r,hl,e⟩:=I.lstM b;obtain ⟨w,f,a⟩:=r.get C;refine lI F.slot_list_pop ⟨_,e,rfl⟩ F.entry_list_pop (F.args_list_pop_2 _ _)
  (MeetsSeq.list_pop_at l its.toArray n i t k w (fitsIndex_both h1 h2) (by rw [au,<-hl]; exact g) (by rw [<-bF]; exact f) (by rw [au]; lia)) ⟨e,?_⟩
 refine ⟨y,_,I.lset (its':=its.eraseIdx k) b e ?_ (r.eraseIdx k) ?_,a,q⟩;·show its.toArray.eraseIdxIfInBounds k=(its.eraseIdx k).toArray;rw [List.eraseIdxIfInBounds_toArray]
 ·have:=Vg xs k
  lia
end
end L2
namespace Att
open PySem PySem.W PySem.Calls PyProof.Rows
theorem gm {P:lS} {h:Heap}:∀ (ns:List Int) (vs:List ip),WellAll P h vs (ns.map WData.int)->IntsAre vs ns:=by
 intro ns
 induction ns with
 | nil=>intro vs w;rw [bO] at w;cases w;exact .nil
 | cons n ns i=>
  intro vs w;rw [aH] at w;cases w with
  | cons a b=>cases a;exact .cons _ _ (i _ b)
theorem Gb {l:OpenLaw} {n:Nat} (hn:l.most=ii n) {P:lS} {h:Heap} {args:List WData} {v:List ip}
  (e:l.row.toRowW.claim.pre args=ir) (i:WellAll P h v args) :
  ∃ a vs ns,v=[aX a]/\args=[WData.list (ns.map WData.int)]/\h.get? a=ii { cls:=.type "list",data:=.seq vs.toArray }/\IntsAre vs ns/\ns.length<=n:=by
 have j:WShape.hasAll [] args [.list .int]=true:=(pre_splitW e).1;have k:l.pre.holds [] { args:=args }=true:=(pre_splitW e).2;obtain ⟨d,r,rfl,h1,h2⟩:=hasAllW_cons j;obtain rfl:=hasAllW_nil h2;obtain ⟨xs,rfl,p⟩:=hasW_list h1;obtain ⟨ns,rfl⟩:=items_int p;have b:ns.length<=n:=by
  unfold OpenLaw.pre at k;have g:(WTm.not (.lt (.lit (.int (n:Int))) (.len (.arg 0)))).holds [] { args:=[.list (ns.map .int)] }=true:=by have g:=(holds_andW k).1;rw [hn] at g;exact g
  have f:=condW_of g (w_not (w_lt w_lit (w_len_list (w_arg rfl))));rw [aB] at f;refine Nat.le_of_not_lt λq=>?_;have m:(n:Int) < ((ns.length:Nat):Int):=by omega
  first
   | (rw [Ad m] at f; exact absurd f (by decide))
   | (simp at f; omega)
 cases i with
 | cons w1 w2=>
  cases w2;cases w1 with
  | list o c=>exact ⟨_,_,ns,rfl,rfl,o,gm ns _ c,b⟩
theorem Gc (l:OpenLaw) (args:List WData):l.row.toRowW.claim.post args (.bool ir) args=true:=
 postW_of (r:=l.row.toRowW) (X:=(ir == ir))
  (show WShape.has [] (.bool ir) .bool=ir by first | rfl | decide | simp [WShape.has,WShape.arms,WShape.armsAll])
  (show (WTm.eq .res (.lit (.bool ir))).value [] { args:=args,res:=ii (.bool ir),after:=args }=ii (.bool (ir == ir)) from w_eq_bool (w_res rfl) w_lit) rfl
theorem attach_call {l:OpenLaw} {n:Nat} {q:iE} {loose:List Str} {XP:(Str->Option ip)->Heap->Prop} {YP:iG->Heap->Prop} {d:DefRec}
  (hn:l.most=ii n) (hdf:d.params.defaults=[])
  (call:∀ (w:iG) (s₀ s:iu) (mg mb:Str->Option ip) (fa:Addr) (o:Obj) (pm cd doc:ip) (a:Addr) (vs:List ip) (ns:List Int),Ground q loose [] XP w s₀ mg mb s.heap->YP w s.heap ->s.heap.get? fa=ii o->o.data=.func (docDef d.name d.params d.body d.scope pm cd doc)->s.heap.CodeRec cd d.name->mg d.name=ii (.ref fa) ->s.heap.get? a=ii { cls:=.type "list",data:=.seq vs.toArray }->IntsAre vs ns->ns.length<=n->s.gens=#[] ->lz (model l.prog w) my (.call (.ref fa) ⟨[.ref a],[]⟩) (λr s'=>r=.ok (.ret (.bool ir))/\OldK s.heap s'.heap/\s'.os=s.os/\lQ s'.gens) s) :
  WalkO q loose XP YP l.row.toRowW d [] (λf vs=>ig f vs):=by
 intro w s₀ s mg mb G Y fa o pm cd doc V kV m hd c D g hg args v as e y k i t;obtain rfl:V=.none:=Dflts.none D hdf;obtain rfl:kV=.none:=Dflts.noKw D;obtain ⟨a,vs,ns,rfl,rfl,j,h,b⟩:=Gb hn e i;refine enter_call (lR (call w s₀ s mg mb fa o pm cd doc a vs ns G Y m (fd_plain hd) c g j h b hg) λr s' hq=>?_);obtain ⟨rfl,h2,x,u⟩:=hq;exact ⟨.inl ⟨.bool ir,.bool ir,[],rfl,λ_=>rfl,.bool ir,Gc l _,λ_=>⟨eI,λ_ p=>(nomatch p)⟩⟩,h2,x,u⟩
end Att
namespace L2
open PySem PySem.Spec PyProof.Rows
theorem Vi:∀ {vs:List ip} {ns:List Int},IntsAre vs ns->Vals (ns.map V.int) vs
 | _,_,.nil=>.nil
 | _,_,.cons n t h=>.cons ⟨t,rfl⟩ (Vi h)
def qjj (H:Hp):Prop:=∀ b,H b=ij\/∃ o xs,H b=ii (.frz o (.lst xs))
theorem qcf {P:iE} {w:iG} {K:Frag} {mg mb:Str->Option ip} {CX:CXT} {k:Nat} {fa a:Addr} {fd:li} {x:Str} {sp:Sp} {c:iu} {vs:List ip} {ns:List Int}
  (N:K.In c.heap) (A:c.heap.Ns iB mg) (g:c.heap.Ns builtinsNs mb) (J:∀ x:Str,x ≠ "__name__"->mb x=iC x) (B:c.heap.NoLimit) (hg:c.gens=#[])
  (D:c.heap.get? a=ii { cls:=.type "list",data:=.seq vs.toArray }) (hi:IntsAre vs ns) (hl:ns.length<=sizeLine) (hr:Room k my)
  (F:∀ base:Heap,K.In base->base.Ns iB mg->FnOk P w K mg base CX k fa fd [x] sp) (l:∀ (s:iu) (u:ip),mE s fd ⟨[u],[]⟩ [(x,u)])
  (G:∀ H:Hp,qjj H->SqL K H a (ns.map V.int)->sp [.ref a] H (λv _=>v=.bl ir) λ_ _ _=>False)
  (X:∀ H e s',CX [] H c (λ_ _ _=>False) e s'->False) :
  lz (model P w) my (.call (.ref fa) ⟨[.ref a],[]⟩) (λr s'=>r=.ok (.ret (.bool ir))/\OldK c.heap s'.heap/\s'.os=c.os/\lQ s'.gens) c:=by
 have M:=Vi hi;have t:=hi.length;have j:∀ H:Hp,qjj H->SqL K H a (ns.map V.int)->HOk P w H c.heap->(∀ b,H b≠ij->b=a)->(H a≠ij->K.lookup a=ij) ->lz (model P w) my (.call (.ref fa) ⟨[.ref a],[]⟩) (λr s'=>r=.ok (.ret (.bool ir))/\OldK c.heap s'.heap/\s'.os=c.os/\lQ s'.gens) c:=by
  intro H O S hok hA T;have f:∀ {b:Addr} {o:Obj},c.heap.get? b=ii o->H b=ij->(qbY c.heap H).get? b=ii o:=λe n=>qbZ e n;have E:∀ {b:Addr} {o:Obj} {es:Array mn} {ep:Nat},c.heap.get? b=ii o->o.data=.dict es ep->H b=none:=λ{b o es ep} e d=>by
   cases q:H b with
   | none=>rfl
   | some u=>have L:b=a:=hA b (by rw [q]; simp);subst L;rw [D] at e; cases e;have d':Data.seq vs.toArray _=Data.dict es ep:=d;cases d'
  have i:∀ {b:Addr} {m:Str->Option ip},c.heap.Ns b m->(qbY c.heap H).Ns b m:=λ{b m} ⟨o,es,ep,e,d,r⟩=>⟨o,es,ep,f e (E e d),d,r⟩
  have C:K.In (qbY c.heap H):=λb o e=>f (N b o e) (by
   cases q:H b with
   | none=>rfl
   | some u=>have L:b=a:=hA b (by rw [q]; simp);subst L;rw [T (by rw [q]; simp)] at e; cases e)
  have R:Mod K mg (qbY c.heap H):=⟨C,i A,⟨mb,i g,J⟩,let ⟨mc,h1,h2⟩:=B; ⟨mc,i h1,h2⟩⟩
  have e0:Env0 P w K mg (qbY c.heap H) my [] c H:=⟨rfl,R,λb o e=>qeB e,fW (ZO _ _),trivial,λb g=>absurd (show b∈([]:List Addr) from g) (by simp),hok,.of_eq hg⟩
  refine lR ((F _ C (i A)).run my [] c H ⟨[.ref a],[]⟩ [.ref a] [.ref a] _ _ hr e0 (l c (.ref a)) (.cons rfl .nil) (G H O S)) λr s' h=>?_;cases r with
  | error e=>exact (X H e s' h).elim
  | ok U=>
   cases U with
   | next=>exact dH h
   | brk=>exact dH h
   | cont=>exact dH h
   | ret u=>
    obtain ⟨v,H',os,bare,un,y,r',q⟩:=h;have Q:v=.bl true:=q;subst Q;obtain rfl:u=dG true:=r';refine ⟨rfl,OldK.of_keep λb o e=>?_,os,bare⟩;cases q:H b with
    | none=>exact un.keep b o e q (by intro z; exact absurd (show b∈([]:List Addr) from z) (by simp)) (by simp)
    | some u=>
     rcases O b with z | ⟨ob,xs,z⟩
     ·rw [q] at z; cases z
     ·have z2:=un.frzs b ob _ z;obtain ⟨e1,_⟩:=hok b _ z;obtain ⟨e2,_⟩:=y b _ z2;rw [e] at e1; cases e1;exact e2
 cases I:K.lookup a with
 | some o=>have e:=N a o I;rw [D] at e;cases e;refine j (λ_=>ij) (λ_=>.inl rfl) (.inr ⟨_,vs.toArray,_,I,rfl,rfl,rfl,by rw [au,t]; exact hl,by simpa using M⟩) (λb u z=>by have p:(ij:Option HO)=ii u:=z; cases p) (λb z=>absurd rfl z) λz=>absurd rfl z
 | none=>
  refine j (λb=>if b=a then ii (.frz { cls:=.type "list",data:=.seq vs.toArray } (.lst (ns.map V.int))) else ij) (λb=>?_) (.inl (.inr ⟨{ cls:=.type "list",data:=.seq vs.toArray },Aa rfl⟩)) (λb u z=>?_) (λb z=>?_) λ_=>I
  ·by_cases g:b=a;·exact .inr ⟨_,_,Aa g⟩
   ·exact .inl (Ab g)
  ·by_cases g:b=a;·have p:=(Aa g).symm.trans z;cases p;subst g;exact ⟨D,by rw [aB]; exact hl,vs,_,M,D⟩
   ·have p:=(Ab g).symm.trans z;cases p
  ·by_cases g:b=a;·exact g
   ·exact absurd (Ab g) z
theorem qeY {l:fX} {n k:Nat} {q:iE} {loose:List Str} {XP:(Str->Option ip)->Heap->Prop} {YP:iG->Heap->Prop} {d:DefRec} {K:lS->Frag} {CX:iG->CXT} {sp:iG->Sp} {x:Str}
  (hn:l.most=ii n) (r:n<=sizeLine) (hdf:d.params.defaults=[]) (hr:Room k my)
  (B:∀ (w:iG) (h:Heap),YP w h->(K w.params).In h)
  (F:∀ (w:iG) (mg:Str->Option ip) (fa:Addr) (h:Heap),(K w.params).In h->h.Ns iB mg->mg d.name=ii (.ref fa) ->∃ fd:li,(∀ (s:iu) (u:ip),mE s fd ⟨[u],[]⟩ [(x,u)]) /\
    ∀ base:Heap,(K w.params).In base->base.Ns iB mg->FnOk l.prog w (K w.params) mg base (CX w) k fa fd [x] (sp w))
  (p:∀ (w:iG) (H:Hp) (a:Addr) (ns:List Int),ns.length<=n->qjj H->SqL (K w.params) H a (ns.map V.int)->sp w [.ref a] H (λv _=>v=.bl ir) λ_ _ _=>False)
  (X:∀ (w:iG) (H:Hp) (s:iu) (e:ip) (s':iu),CX w [] H s (λ_ _ _=>False) e s'->False) :
  PySem.W.WalkO q loose XP YP l.row.toRowW d [] (λf vs=>ig f vs):=by
 refine Att.attach_call hn hdf λw s₀ j mg mb fa o pm cd doc a vs ns G Y D hd z t m i c hg=>?_;have y:=B w _ Y;obtain ⟨fd,A,C⟩:=F w mg fa _ y G.T.g t;exact qcf y G.T.g G.T.b G.T.builtins G.T.nolimit hg m i (bN c r) hr C A (λH O S=>p w H a ns c O S) λH e s'=>X w H j e s'
noncomputable def uf (s:Stmt):Arguments:=match s with
 | .FunctionDef _ a _ _ _ _ _ _ _ _=>a
 | _=>{ posonlyargs:=[],args:=[],vararg:=ij,kwonlyargs:=[],kw_defaults:=[],kwarg:=ij,defaults:=[] }
noncomputable def vt (s:Stmt):List Stmt:=match s with
 | .FunctionDef _ _ b _ _ _ _ _ _ _=>b
 | _=>[]
noncomputable def jg (s:Stmt):lG:=match s with
 | .FunctionDef _ _ _ _ _ _ sc _ _ _=>sc
 | _=>{ kind:=.function,names:=[],isGenerator:=iq,isCoroutine:=iq }
structure Fun (K:Frag) (x qual:Str) (st:Stmt) (f:Addr) (fd:li):Prop where
 ex:∃ (oc:ip) (od:Option Addr) (kV doc pm:ip) (an:Option Addr) (cdv ct:ip) (osl:Array (Option ip)),fd=cE x qual (uf st) (vt st) (jg st) .none kV doc pm an cdv ct/\K.lookup f=ii ⟨oc,od,.func fd,osl⟩/\codeIn K cdv qual=ir
 kp:keepIn K (.ref f)=ir
variable {P:iE} {w:iG} {K:Frag} {qual:Str} {st:Stmt} {f:Addr}
section
variable {mg:Str->Option ip} {base:Heap}
theorem Fun.binds {x:Str} {fd:li} {ps:List Str} (F:Fun K x qual st f fd)
  (h:∀ (kV doc pm:ip) (an:Option Addr) (cdv ct:ip) (us:List ip),us.length=ps.length->lx (cE x qual (uf st) (vt st) (jg st) .none kV doc pm an cdv ct) ⟨us,[]⟩=pure (ps.zip us)):Binds K fd ps []:=by
 obtain ⟨oc,od,kV,doc,pm,an,cdv,ct,osl,rfl,j,d⟩:=F.ex;exact .all (h kV doc pm an cdv ct)
theorem Gd {x:Str} {oc:ip} {od an:Option Addr} {osl:Array (Option ip)} {kV doc pm cdv ct:ip} (l:K.lookup f=ii ⟨oc,od,.func (cE x qual (uf st) (vt st) (jg st) .none kV doc pm an cdv ct),osl⟩)
  (c:codeIn K cdv qual=ir) (k:keepIn K (.ref f)=ir):Fun K x qual st f (cE x qual (uf st) (vt st) (jg st) .none kV doc pm an cdv ct):=⟨⟨oc,od,kV,doc,pm,an,cdv,ct,osl,rfl,l,c⟩,k⟩
end
def Same (H H':Hp):Prop:=∀ b o,H b=ii o->H' b=ii o
theorem Same.refl (H:Hp):Same H H:=λ_ _ h=>h
variable {H:Hp}
theorem Same.trans {H1 H2:Hp} (a:Same H H1) (b:Same H1 H2):Same H H2:=λc o h=>b c o (a c o h)
variable {H':Hp} {a:Addr}
theorem Same.seq {xs:List V} (e:Same H H') (h:SqL K H a xs):SqL K H' a xs:=by
 rcases h with (h | ⟨o,h⟩) | h;·exact .inl (.inl (e _ _ h))
 ·exact .inl (.inr ⟨o,e _ _ h⟩)
 ·exact .inr h
variable {o:Option V} {u:ip} {d y:V}
section
variable {κ:Type} [DecidableEq κ]
noncomputable def WT (kvs:List (κ×V)) (k:κ):Option V:=(kvs.find? λkv=>decide (kv.1=k)).map (·.2)
noncomputable def zL (kvs:List (κ×V)) (k:κ) (v:V):List (κ×V):=
 if (kvs.any λkv=>decide (kv.1=k))=ir then kvs.map (λkv=>if kv.1=k then (kv.1,v) else kv) else kvs++[(k,v)]
theorem zV {p:κ×V} {r:List (κ×V)} {k:κ} (e:p.1=k):WT (p::r) k=ii p.2:=by simp [WT,cL,e]
theorem yW {p:κ×V} {r:List (κ×V)} {k:κ} (e:¬p.1=k):WT (p::r) k=WT r k:=by simp [WT,cL,e]
theorem Js (k:κ):∀ kvs:List (κ×V),(kvs.any λkv=>decide (kv.1=k))=(WT kvs k).isSome
 | []=>rfl
 | p::r=>by
  rw [cG];by_cases e:p.1=k;·simp only [zV e,Ad e,Bool.true_or,Option.isSome_some]
  ·rw [yW e,Ac e,Bool.false_or]; exact Js k r
theorem ww (kvs:List (κ×V)) (k:κ) (v:V):(zL kvs k v).length<=kvs.length+1:=by
 unfold zL;split;·rw [aB]; omega
 ·rw [ae,ah,aQ]; omega
theorem RelO.isSome_eq {u:Option ip} (r:RelO o u):o.isSome=u.isSome:=by
 cases o with
 | none=>cases u with
  | none=>rfl
  | some _=>exact (show False from r).elim
 | some _=>cases u with
  | none=>exact (show False from r).elim
  | some _=>rfl
theorem RelO.getD {u:Option ip} {d':ip} (r:RelO o u) (rd:RelV d d'):RelV (o.getD d) (u.getD d'):=by
 cases o with
 | none=>cases u with
  | none=>exact rd
  | some _=>exact (show False from r).elim
 | some _=>cases u with
  | none=>exact (show False from r).elim
  | some _=>exact r
theorem KV.val {kvs:List (κ×V)} {vs:List (κ×ip)} (r:KV kvs vs) (k:κ):RelO (WT kvs k) (mz vs k):=by
 unfold KV at r
 induction r with
 | nil=>exact cS
 | @cons p q ps qs h t ih=>
  obtain ⟨h1,h2⟩:=h;by_cases e:p.1=k
  ·have a:q.1=k:=h1.symm.trans e;have b:mz (q::qs) k=ii q.2:=by simp [mz,cL,a]
   rw [zV e,b]; exact h2
  ·have a:¬q.1=k:=λz=>e (h1.trans z);have b:mz (q::qs) k=mz qs k:=by simp [mz,cL,a]
   rw [yW e,b]; exact ih
theorem KV.any {kvs:List (κ×V)} {vs:List (κ×ip)} (r:KV kvs vs) (k:κ):(kvs.any λkv=>decide (kv.1=k))=vs.any λkv=>decide (kv.1=k):=by
 unfold KV at r
 induction r with
 | nil=>rfl
 | cons h t i=>rw [cG,cG,i,h.1]
theorem KV.repl {kvs:List (κ×V)} {vs:List (κ×ip)} (r:KV kvs vs) (k:κ) (c:RelV y u):KV (kvs.map λkv=>if kv.1=k then (kv.1,y) else kv) (vs.map λkv=>if kv.1=k then (kv.1,u) else kv):=by
 unfold KV at r ⊢
 induction r with
 | nil=>exact .nil
 | @cons p q ps qs h t ih=>
  rw [aH,aH];refine .cons ?_ ih;obtain ⟨h1,h2⟩:=h;by_cases e:p.1=k;·rw [Aa e,Aa (h1.symm.trans e)]; exact ⟨h1,c⟩
  ·rw [Ab e,Ab (λz=>e (h1.trans z))]; exact ⟨h1,h2⟩
theorem KV.put {kvs:List (κ×V)} {vs:List (κ×ip)} (r:KV kvs vs) (k:κ) (c:RelV y u):KV (zL kvs k y) (stored vs k u):=by
 unfold zL stored;rw [r.any k];by_cases e:(vs.any λkv=>decide (kv.1=k))=ir;·rw [Aa e,Aa e]; exact r.repl k c
 ·rw [Ab e,Ab e]; exact Paired.snoc r ⟨rfl,c⟩
theorem KV.length {kvs:List (κ×V)} {vs:List (κ×ip)} (r:KV kvs vs):kvs.length=vs.length:=fO r
end
theorem WU {k:Key} (r:RelV (kV k) u):(qQ P w).is k u=true:=by
 cases k with
 | inl i=>obtain ⟨t,e⟩:=(show ∃ t,u=hV i t from r); subst e; exact WO P w i t
 | inr x=>obtain ⟨t,e⟩:=(show ∃ t,u=d7 x t from r); subst e; exact WP P w x t
theorem Vj:∀ {ks:List Key} {us:List ip},Vals (ks.map kV) us->ItemsAre (qQ P w) ks us
 | [],_,r=>by rw [bO] at r; cases r; exact .nil
 | k::ks,_,r=>by
  rw [aH] at r;cases r with
  | cons h t=>exact .cons (WU h) (Vj t)
abbrev KT (H:Hp):List (List Key×V)->List (List Key×Addr×ip)->Prop:=mj λp q=>p.1=q.1/\H q.2.1=ii (.tup (p.1.map kV))/\RelV p.2 q.2.2
variable {xs:List (List Key×Addr×ip)} {kvs:List (List Key×V)}
theorem KT.val (r:KT H kvs xs) (k:List Key):RelO (WT kvs k) ((atKey xs k).map (·.2)):=by
 induction r with
 | nil=>exact cS
 | @cons p q ps qs h t ih=>
  obtain ⟨h1,_,h2⟩:=h;by_cases e:p.1=k
  ·have a:q.1=k:=h1.symm.trans e;have b:atKey (q::qs) k=ii q.2:=by simp [atKey,cL,a]
   rw [zV e,b]; exact h2
  ·have a:¬q.1=k:=λz=>e (h1.trans z);have b:atKey (q::qs) k=atKey qs k:=by simp [atKey,cL,a]
   rw [yW e,b]; exact ih
theorem KT.repl (r:KT H kvs xs) (k:List Key) (c:RelV y u):KT H (kvs.map λkv=>if kv.1=k then (kv.1,y) else kv) (xs.map (putAt k u)):=by
 induction r with
 | nil=>exact .nil
 | @cons p q ps qs h t ih=>
  rw [aH,aH];refine .cons ?_ ih;obtain ⟨h1,h2,g⟩:=h;unfold putAt;by_cases e:p.1=k;·rw [Aa e,Aa (h1.symm.trans e)]; exact ⟨h1,h2,c⟩
  ·rw [Ab e,Ab (λz=>e (h1.trans z))]; exact ⟨h1,h2,g⟩
theorem KT.put (r:KT H kvs xs) (k:List Key) {b:Addr} (d:H b=ii (.tup (k.map kV))) (c:RelV y u):KT H (zL kvs k y) (storedH xs k b u):=by
 have e:(kvs.any λkv=>decide (kv.1=k))=(atKey xs k).isSome:=by rw [Js,(r.val k).isSome_eq,fK]
 unfold zL storedH;rw [e];by_cases q:(atKey xs k).isSome=ir;·rw [Aa q,Aa q]; exact r.repl k c
 ·rw [Ab q,Ab q]; exact Paired.snoc r ⟨rfl,d,c⟩
theorem KT.keeps (r:KT H kvs xs) (ht:∀ b ys,H b=ii (.tup ys)->H' b=ii (.tup ys)):KT H' kvs xs:=
 Paired.mapP r λ_ _ z=>⟨z.1,ht _ _ z.2.1,z.2.2⟩
section
variable {h:Heap}
theorem qg2 {u:HO} (ok:HOk P w H h) (e:Rd H a u):ObjOk P w H h a u:=e.ok ok
theorem Vk {kvs:List (Key×V)} (ok:HOk P w H h) (e:Rd H a (.dK kvs)):kvs.length<=sizeLine/\(a == i5)=iq/\∃ vs,KV kvs vs/\h.DictOf (qQ P w) a vs:=
 show ObjOk P w H h a (.dK kvs) from qg2 ok e
theorem qcg {kvs:List (Key×V)} (ok:HOk P w H h) (e:H a=ii (.dK kvs)):kvs.length<=sizeLine/\(a == i5)=iq/\∃ vs,KV kvs vs/\h.DictOf (qQ P w) a vs:=Vk ok (.inl e)
theorem zi {ks:List Key} (ok:HOk P w H h) (e:H a=ii (.tup (ks.map kV))):(l4 (qQ P w)).is h ks a:=by
 obtain ⟨_,its,r,o,h1,h2,n,g⟩:=(show ObjOk P w H h a (.tup (ks.map kV)) from ok a _ e)
 exact ⟨o,its.toArray,n,h1,h2,g,by simpa using Vj r⟩
theorem WV (ok:HOk P w H h) (e:Rd H a (.dT kvs)):kvs.length<=sizeLine/\(a == i5)=iq /\
  ∃ xs,KT H kvs xs/\h.DictOfH (l4 (qQ P w)) a xs:=by
 obtain ⟨z,y,xs,r,o,es,ep,h1,h2,g,c,b⟩:=(show ObjOk P w H h a (.dT kvs) from qg2 ok e)
 refine ⟨z,y,xs,r,o,es,ep,h1,h2,g,c,λx hx=>?_,b⟩;have all:∀ {l:List (List Key×V)} {m:List (List Key×Addr×ip)},KT H l m->∀ x∈m,(l4 (qQ P w)).is h x.1 x.2.1:=by
  intro l m q
  induction q with
  | nil=>intro x hx; exact nomatch hx
  | @cons p q ps qs hq t ih=>
   intro x hx;rcases ac.mp hx with e | hx
   ·subst e;exact zi ok (by rw [<-hq.1]; exact hq.2.1)
   ·exact ih x hx
 exact all r x hx
theorem qjk (ok:HOk P w H h) (e:H a=ii (.dT kvs)):kvs.length<=sizeLine/\(a == i5)=iq /\
  ∃ xs,KT H kvs xs/\h.DictOfH (l4 (qQ P w)) a xs:=WV ok (.inl e)
end
def DGet (H:Hp) (a:Addr) (y:V) (r:Option V):Prop:=
 (∃ kvs k,Rd H a (.dK kvs)/\y=kV k/\r=WT kvs k)\/∃ kvs k b,Rd H a (.dT kvs)/\y=.ref b/\H b=ii (.tup (k.map kV))/\r=WT kvs k
def DPut (H:Hp) (a:Addr) (y v:V) (H':Hp):Prop:=
 (∃ kvs k,H a=ii (.dK kvs)/\y=kV k/\kvs.length < sizeLine/\H'=upd H a (.dK (zL kvs k v))) \/
 ∃ kvs k b,H a=ii (.dT kvs)/\y=.ref b/\H b=ii (.tup (k.map kV))/\kvs.length < sizeLine/\H'=upd H a (.dT (zL kvs k v))
theorem DGet.k {kvs:List (Key×V)} {k:Key} (e:H a=ii (.dK kvs)):DGet H a (kV k) (WT kvs k):=.inl ⟨kvs,k,.inl e,rfl,rfl⟩
variable {v:V}
theorem DPut.k {kvs:List (Key×V)} {k:Key} (e:H a=ii (.dK kvs)) (hl:kvs.length < sizeLine):DPut H a (kV k) v (upd H a (.dK (zL kvs k v))):=.inl ⟨kvs,k,e,rfl,hl,rfl⟩
variable {X:Cx} {pins:Pns} {σ:St} {s:iu} {A:iL} {E Q:ip->iu->Prop} {h':Heap}
section
variable {r:ip}
theorem Inv.big (I:Inv X pins σ H s):i5 < s.heap.objs.size:=by have h:iB < s.heap.objs.size:=(I.mod.glob.keeps I.bk).lt;exact eJ (by decide) h
theorem Ge (j:A.units+1 < iX) (I:Inv X pins σ H s) (g:DGet H a y (ii v)) (i:RelV y u) (h:∀ S s',Inv X pins σ H s'->RelV v S->Q S s'):iy (model X.prog X.w) A (mq (.ref a) u) Q E s:=by
 rcases g with ⟨kvs,k,e,f,l⟩ | ⟨kvs,k,b,e,f,G,l⟩
 ·subst f;obtain ⟨z,hd,vs,rel,dd⟩:=Vk I.hok e;obtain ⟨S,c,r⟩:=RelO.some_of (v:=v) (o:=mz vs k) (by rw [l]; exact rel.val k);exact wpAny_getItem_of (WU i) dd.mapOf c (h S _ (I.tok _) r)
 ·subst f;cases (show u=aX b from i);obtain ⟨z,hd,xs,rel,dd⟩:=WV I.hok e;obtain ⟨S,c,r⟩:=RelO.some_of (v:=v) (o:=(atKey xs k).map (·.2)) (by rw [l]; exact rel.val k);obtain ⟨p,hp,d⟩:=aT.mp c;refine wpAny_getItem_heap (lf j) (zi I.hok G) dd hp ?_;rw [d];exact h S _ (I.tok _) r
theorem qkT (d:A.units+1 < iX) (I:Inv X pins σ H s) (g:DGet H a y o) (c:RelV y u) (h:∀ s',Inv X pins σ H s'->Q (.bool o.isSome) s'):iy (model X.prog X.w) A (iI .In u (.ref a)) Q E s:=by
 rcases g with ⟨kvs,k,e,f,l⟩ | ⟨kvs,k,b,e,f,G,l⟩
 ·subst f;obtain ⟨z,hd,vs,rel,dd⟩:=Vk I.hok e;refine wpAny_in_of (WU c) hd dd.mapOf ?_;rw [<-(rel.val k).isSome_eq,<-l];exact h _ (I.tok _)
 ·subst f;cases (show u=aX b from c);obtain ⟨z,hd,xs,rel,dd⟩:=WV I.hok e;refine wpAny_in_heap (lf d) (zi I.hok G) hd dd ?_;have q:=(rel.val k).isSome_eq;rw [fK] at q;rw [<-q,<-l];exact h _ (I.tok _)
theorem qeZ (d:A.units+1 < iX) (I:Inv X pins σ H s) (g:DGet H a y o) (c:RelV y u) (h:∀ s',Inv X pins σ H s'->Q (.bool (!o.isSome)) s'):iy (model X.prog X.w) A (iI .NotIn u (.ref a)) Q E s:=by
 rcases g with ⟨kvs,k,e,f,l⟩ | ⟨kvs,k,b,e,f,G,l⟩
 ·subst f;obtain ⟨z,hd,vs,rel,dd⟩:=Vk I.hok e;refine wpAny_notIn_of (WU c) hd dd.mapOf ?_;rw [<-(rel.val k).isSome_eq,<-l];exact h _ (I.tok _)
 ·subst f;cases (show u=aX b from c);obtain ⟨z,hd,xs,rel,dd⟩:=WV I.hok e;refine wpAny_notIn_heap (lf d) (zi I.hok G) hd dd ?_;have q:=(rel.val k).isSome_eq;rw [fK] at q;rw [<-q,<-l];exact h _ (I.tok _)
theorem Jt {t':Nat} {o:HO} (I:Inv X pins σ H s) (m:Mut (H a)) (c:bJ a s.heap h') (i:∃ q,h'.get? a=ii q) (new:ObjOk X.prog X.w (upd H a o) h' a o):Inv X pins σ (upd H a o) { s with heap:=h',toks:=t' }:=
 I.write (x:=a) (e:=a) m (.inl rfl) (λb q d z=>(c.2 b d).trans z) i new
theorem Yn {H':Hp} {kvs:List (Key×V)} {vs:List (Key×ip)} (z:kvs.length<=sizeLine) (hd:(a == i5)=iq) (rel:KV kvs vs) (dd:h'.DictOf (qQ P w) a vs):ObjOk P w H' h' a (.dK kvs):=⟨z,hd,vs,rel,dd⟩
theorem Gf {Q:Unit->iu->Prop} (t:A.units+1 < iX) (I:Inv X pins σ H s) (g:DPut H a y v H') (n:RelV y u) (o:RelV v r) (h:∀ s',Inv X pins σ H' s'->Q () s'):iy (model X.prog X.w) A (setItem (.ref a) u r) Q E s:=by
 rcases g with ⟨kvs,k,e,j,l,m⟩ | ⟨kvs,k,b,e,j,G,l,m⟩
 ·subst j m;obtain ⟨z,hd,vs,rel,dd⟩:=qcg I.hok e;have f:vs.length<=sizeLine:=by rw [<-rel.length]; exact z
  have hl:(zL kvs k v).length<=sizeLine:=by have:=ww kvs k v; omega
  refine wpAny_setItem_pairs (hsz:=f) (WU n) dd λh' d i=>h _ ?_;have x:∃ q,h'.get? a=ii q:=let ⟨q,_,_,hq,_⟩:=d; ⟨q,hq⟩
  exact Jt I (by rw [e]; exact cS) i x (Yn hl hd (rel.put k o) d)
 ·subst j m;cases (show u=aX b from n);obtain ⟨z,hd,xs,rel,dd⟩:=qjk I.hok e;have f:xs.length<=sizeLine:=by rw [<-fO rel]; exact z
  have hl:(zL kvs k v).length<=sizeLine:=by have:=ww kvs k v; omega
  refine wpAny_setItem_heap (hsz:=f) (lf t) (zi I.hok G) dd λh' d i=>h _ ?_;obtain ⟨q,es,ep,hq,h2,D,C,_,B⟩:=d;refine Jt I (by rw [e]; exact cS) i ⟨q,hq⟩ ⟨hl,hd,_,(rel.put k G o).keeps λc ys p=>?_,q,es,ep,hq,h2,D,C,B⟩;rw [qA (qiX p e (λz=>nomatch z))];exact p
end
section
variable {kvs:List (Key×V)} {k:Key}
theorem qjl (I:Inv X pins σ H s) (e:Rd H a (.dK kvs)) (h:∀ t s',Inv X pins σ H s'->Q (.int kvs.length t) s'):iy (model X.prog X.w) A (call (.builtin "len") [.ref a]) Q E s:=by obtain ⟨z,hd,vs,rel,dd⟩:=Vk I.hok e;refine call_len_dict hd dd (by rw [<-rel.length]; rw [iF] at z; omega) ?_;rw [<-rel.length];exact h _ _ (I.tok _)
end
theorem WW (I:Inv X pins σ H s) (g:DGet H a y o):s.TypeIs (.ref a) "dict":=by
 rcases g with ⟨kvs,k,e,_,_⟩ | ⟨kvs,k,b,e,_,_,_⟩
 ·obtain ⟨_,_,vs,_,dd⟩:=Vk I.hok e;exact dd.typeIs
 ·obtain ⟨_,_,xs,_,dd⟩:=WV I.hok e;exact dd.typeIs
def qjm (td ty tv:TE):TS:=λD σ H=>tv σ H λv H1=>td σ H1 λx H2=>ty σ H2 λy d=>∃ a b,x=.ref a/\DPut d a y v b/\D.nx σ b
variable {pos:Pos}
section
variable {o i e value:Expr} {pos' tpos:Pos} {td ty tv:TE}
theorem qe0 (j:X.A.units+1 < iX) (l:PE X o td) (hi:PE X i ty) (f:PE X value tv) (k:ll value (ii (.Subscript o i pos')) pos.line X.env=pure iq):PS X (.Assign [.Subscript o i pos'] value pos) (qjm td ty tv):=by refine ⟨?_⟩;intro pins s σ H D I h;refine wpAny_Assign_Subscript (thn (f pins s σ H _ I h) λr s1 ⟨v,H1,t,b,q1⟩=>thn (l pins s1 σ H1 _ t q1) λu s2 ⟨x,H2,p,d,e⟩=>thn (hi pins s2 σ H2 _ p e) λz s3 ⟨y,B,n,c,a,w,ex,g,q⟩=>?_) k;subst ex;obtain rfl:u=aX a:=d;exact Gf j n g c b λs4 m=>⟨σ,w,m,q⟩
end
theorem Yo (h:Heap) (d:i5 < h.objs.size):ObjOk P w H (h.push { cls:=.type "dict",data:=.dict #[] }) h.objs.size (.dK []):=
 ⟨bh _,beq_eq_false_iff_ne.mpr (bw (aD d)),[],.nil,Heap.DictOf.new h⟩
def qg3:TE:=λ_ H Q=>∀ p,H p=ij->Q (.ref p) (upd H p (.dK []))
section
theorem qch:PE X (.Dict [] [] pos) qg3:=⟨λpins s σ H Q I h=>
 wpAny_Dict_empty ⟨.ref s.heap.objs.size,_,I.laid (a:=s.heap.objs.size) (o:=.dK []) (t':=s.toks) (λ_ _ q=>aa _ q) (ax _) (Yo s.heap I.big),rfl,h _ (I.hok.fresh (ax _))⟩⟩
end
def Gg:List (TE×TE)->St->Hp->(List (V×V)->Hp->Prop)->Prop
 | [],_,H,Q=>Q [] H
 | (tk,tv)::r,σ,H,Q=>tk σ H λx H1=>tv σ H1 λy H2=>Gg r σ H2 λps d=>Q ((x,y)::ps) d
abbrev VV:List (V×V)->List (ip×ip)->Prop:=mj λp q=>RelV p.1 q.1/\RelV p.2 q.2
def PPs (X:Cx) (pos:Pos) (keys:List (Option Expr)) (v:List Expr) (trs:List (TE×TE)):Prop:=
 ∀ (pins:Pns) (s:iu) (σ:St) (H:Hp) (Q:List (V×V)->Hp->Prop),Inv X pins σ H s->Gg trs σ H Q ->iy (model X.prog X.w) X.A (evalPairs (pairTrees keys v X.env pos)) (λvs s'=>∃ ps H',Inv X pins σ H' s'/\VV ps vs/\Q ps H') X.xe s
theorem qe1:PPs X pos [] [] []:=λpins s σ H Q I h=>pairTrees_nil_walk ⟨[],H,I,.nil,h⟩
variable {trs:List (TE×TE)}
theorem qci {k v:Expr} {ks:List (Option Expr)} {vs:List Expr} {tk tv:TE} (b:PE X k tk) (a:PE X v tv) (hr:PPs X pos ks vs trs):PPs X pos (ii k::ks) (v::vs) ((tk,tv)::trs):=λpins s σ H Q I h=>
 pairTrees_cons_walk (thn (b pins s σ H _ I h) λu s1 ⟨x,H1,i,d,q1⟩=>thn (a pins s1 σ H1 _ i q1) λw2 s2 ⟨y,H2,g,c,e⟩=>
  thn (hr pins s2 σ H2 _ g e) λws s3 ⟨ps,j,f,rel,q⟩=>⟨(x,y)::ps,j,f,.cons ⟨d,c⟩ rel,q⟩)
noncomputable def zj (kvs more:List (Key×V)):List (Key×V):=more.foldl (λacc kv=>zL acc kv.1 kv.2) kvs
theorem KV.merge:∀ {more:List (Key×V)} {rs:List (Key×ip)} {kvs:List (Key×V)} {vs:List (Key×ip)},KV more rs->KV kvs vs->KV (zj kvs more) (merged vs rs):=by
 intro more rs kvs vs r;unfold KV at r
 induction r generalizing kvs vs with
 | nil=>intro q; exact q
 | @cons p q ps qs h t ih=>
  intro r0;have e:KV (zL kvs p.1 p.2) (stored vs q.1 q.2):=by have:=r0.put p.1 h.2;rw [<-h.1]; exact this
  exact ih e
theorem wx:∀ (more kvs:List (Key×V)),(zj kvs more).length<=kvs.length+more.length
 | [],kvs=>by show kvs.length<=kvs.length+0; omega
 | p::r,kvs=>by have h1:=wx r (zL kvs p.1 p.2);have h2:=ww kvs p.1 p.2;show (zj (zL kvs p.1 p.2) r).length<=_;rw [ah]; omega
theorem QL {P:iE} {w:iG}:∀ {kvs:List (Key×V)} {ws:List (ip×ip)},VV (kvs.map λkv=>(kV kv.1,kv.2)) ws->∃ rs,Carries (qQ P w) ws rs/\KV kvs rs
 | [],_,r=>by rw [bO] at r; cases r; exact ⟨[],cS,.nil⟩
 | p::kvs,_,r=>by
  rw [aH] at r;cases r with
  | @cons a b as bs h t=>obtain ⟨rs,c,q⟩:=QL (P:=P) (w:=w) t;obtain ⟨b1,b2⟩:=b;exact ⟨(p.1,b2)::rs,⟨WU h.1,rfl,c⟩,.cons ⟨rfl,h.2⟩ q⟩
def qjn (trs:List (TE×TE)):TE:=λσ H Q=>∀ p,H p=ij->Gg trs σ (upd H p (.dK [])) λps H2=>H2 p=ii (.dK [])/\∃ kvs:List (Key×V),ps=kvs.map (λkv=>(kV kv.1,kv.2))/\kvs.length<=15/\Q (.ref p) (upd H2 p (.dK (zj [] kvs)))
theorem qe2 {keys:List (Option Expr)} {v:List Expr} (h:PPs X pos keys v trs) (l:keys.all (·.isSome)=ir) (hl:keys.length=v.length) (n:keys≠[])
  (b:keys.length<=15):PE X (.Dict keys v pos) (qjn trs):=by
 refine ⟨?_⟩;intro pins s σ H Q I q;have hn:=I.hok.fresh (ax s.heap.objs.size);have p:=I.laid (a:=s.heap.objs.size) (o:=.dK []) (h':=s.heap.push { cls:=.type "dict",data:=.dict #[] }) (t':=s.toks) (λ_ _ q=>aa _ q) (ax _) (Yo s.heap I.big);refine wpAny_Dict_walk (knd:=qQ X.prog X.w) l hl n b (thn (h pins _ σ _ _ p (q _ hn)) λws s2 ⟨ps,H2,f,rel,e,kvs,ep,t,i⟩=>?_);subst ep;obtain ⟨rs,c,r⟩:=QL (P:=X.prog) (w:=X.w) rel;obtain ⟨z,hd,g,r0,dd⟩:=qcg f.hok e;cases r0;refine ⟨rs,c,dd,λh' d k=>⟨.ref s.heap.objs.size,_,?_,rfl,i⟩⟩;have j:(zj [] kvs).length<=sizeLine:=by have h1:=wx kvs [];rw [aQ] at h1;rw [iF]; omega
 have m:∃ q,h'.get? s.heap.objs.size=ii q:=let ⟨q,_,_,hq,_⟩:=d; ⟨q,hq⟩
 exact Jt f (by rw [e]; exact cS) k m (Yn j hd (r.merge .nil) d)
structure M2 (X:Cx) (o:Expr) (m:Str) (apos:Pos) (e f:Expr) (cpos:Pos):Prop where
 base:j7 o m X.env (eval o X.env)=eval o X.env
 few:((iZ cpos (iA [e,f] X.env)).all (λx=>!x.1)&&(lU cpos (lm [] X.env)).all (λx=>x.1.isSome)
  && decide (([e,f]:List Expr).length+([]:List k7).length+(if ([]:List k7).isEmpty then 0 else 1) < 30))=ir
 line:(apos.endLine == cpos.line)=ir
 trees:iZ cpos (iA [e,f] X.env)=[(iq,eval e X.env),(iq,eval f X.env)]
def IsD (H:Hp) (a:Addr):Prop:=(∃ kvs,Rd H a (.dK kvs))\/∃ kvs,Rd H a (.dT kvs)
theorem qdS (I:Inv X pins σ H s) (d:IsD H a):s.TypeIs (.ref a) "dict"/\(∀ b,aX a=.ref b->∃ o,s.heap.get? b=ii o/\o.dict=ij)/\(a == i5)=false:=by
 rcases d with ⟨kvs,e⟩ | ⟨kvs,e⟩
 ·obtain ⟨_,hd,vs,_,dd⟩:=Vk I.hok e;refine ⟨dd.typeIs,λb q=>?_,hd⟩;cases q;obtain ⟨o,_,_,h1,h2,_⟩:=dd;exact ⟨o,h1,h2.2.1⟩
 ·obtain ⟨_,hd,xs,_,dd⟩:=WV I.hok e;refine ⟨dd.typeIs,λb q=>?_,hd⟩;cases q;obtain ⟨o,_,_,h1,h2,_⟩:=dd;exact ⟨o,h1,h2.2.1⟩
section
variable {r:ip}
theorem qg4 (i:A.units+1 < iX) (I:Inv X pins σ H s) (g:DGet H a y o) (c:RelV y u) (rd:RelV d r) (h:∀ S s',Inv X pins σ H s'->RelV (o.getD d) S->Q S s'):iy (model X.prog X.w) A (call (.builtin "dict.get") [.ref a,u,r]) Q E s:=by
 rcases g with ⟨kvs,k,e,f,l⟩ | ⟨kvs,k,b,e,f,G,l⟩
 ·subst f;obtain ⟨z,hd,vs,rel,dd⟩:=Vk I.hok e;refine l9 e8 dd.typeIs PySem.F.entry_dict_get (PySem.F.args_dict_get_3 _ _ _) (meets_dict_get_default (qQ X.prog X.w) a (WU c) hd r) ⟨_,dd.mapOf,h _ _ (I.tok _) ?_⟩;rw [l];exact (rel.val k).getD rd
 ·subst f;cases (show u=aX b from c);obtain ⟨z,hd,xs,rel,dd⟩:=WV I.hok e;refine l9 e8 dd.typeIs PySem.F.entry_dict_get (PySem.F.args_dict_get_3 _ _ _) (meetsH_dict_get_default (l4 (qQ X.prog X.w)) a b hd r) ⟨lf i,k,xs,zi I.hok G,dd,h _ _ (I.tok _) ?_⟩;rw [l];exact (rel.val k).getD rd
end
def qg5 (td ty tx:TE):TE:=λσ H Q=>td σ H λx H1=>∃ a,x=.ref a/\IsD H1 a/\ty σ H1 λy H2=>tx σ H2 λz d=>∃ o,DGet d a y o/\Q (o.getD z) d
section
variable {o e f:Expr} {apos cpos:Pos} {td ty tx:TE}
theorem qcj (l:X.A.units+1 < iX) (n:PE X o td) (v:PE X e ty) (p:PE X f tx) (m:M2 X o "get" apos e f cpos):PE X (.Call (.Attribute o "get" apos) [e,f] [] cpos) (qg5 td ty tx):=by
 refine ⟨?_⟩;intro pins s σ H Q I h;refine wpAny_Call_method m.base m.few m.line d9 e8 PySem.F.type_dict_get (thn (n pins s σ H _ I h) λu s1 ⟨x,H1,b,j,a,ex,d,q1⟩=>?_);subst ex;obtain rfl:u=aX a:=j;obtain ⟨c,t,_⟩:=qdS b d;refine ⟨c,t,?_⟩;rw [m.trees];refine dj rfl (dI (dh (thn (v pins s1 σ H1 _ b q1) λG s2 ⟨y,H2,C,i,k⟩=>
  dh (thn (p pins s2 σ H2 _ C k) λfv s3 ⟨z,D,B,rz,E,g,q⟩=>ez ?_))))
 exact qg4 l B g i rz λS s4 w r=>⟨_,D,w,r,q⟩
end
section
theorem Gh:yp X (.builtin "len") (λxs H Q=>∃ a kvs,xs=[V.ref a]/\H a=ii (.dK kvs)/\Q (.int kvs.length) H):=by intro pins s σ H xs us Q I r h;obtain ⟨a,kvs,rfl,g,q⟩:=h;obtain ⟨u,rfl,A⟩:=yq r;cases A;exact qjl I (.inl g) λt s' b=>⟨.int kvs.length,H,b,⟨t,rfl⟩,q⟩
end
end L2
namespace L2.D2
open PySem PySem.Spec PyProof.Rows
variable {b:List Nat}
theorem ug {a:List Nat} (h:(a.all λi=>decide (i∈b))=ir):∀ i∈a,i∈b:=λi hi=>Ae (aL.mp h i hi)
theorem yX {i:Nat} (h:decide (i∈b)=iq):i∉b:=of_decide_eq_false h
noncomputable def WX:Expr->Bool
 | .Starred ..=>iq
 | _=>ir
variable {e:Expr} {env:Env}
theorem jS {es:List Expr} (h:WX e=ir):iA (e::es) env=(iq,eval e env)::iA es env:=by cases e <;> first | rfl | cases h
theorem qR (h:WX e=ir):iA [e] env=[(iq,eval e env)]:=jS h
theorem qck {a b:Expr} (h:WX a=ir) (k:WX b=ir):iA [a,b] env=[(iq,eval a env),(iq,eval b env)]:=by rw [jS h,qR k]
variable {pos:Pos}
theorem zW:∀ {es:List Expr},es.all WX=ir->(iZ pos (iA es env)).any (·.1)=iq
 | [],_=>rfl
 | e::es,h=>by rw [fP,aS] at h;rw [jS h.1];exact zW h.2
theorem yY (h:WX e=ir):((iZ pos (iA [e] env)).all (λx=>!x.1)&&(lU pos (lm [] env)).all (λx=>x.1.isSome)
   && decide ([e].length+([]:List k7).length+(if ([]:List k7).isEmpty then 0 else 1) < 30))=true:=by rw [qR h]; rfl
inductive D where
 | non | bl (b:Bool) | int (i:Int) | str (x:Str)
 | tup (xs:List D) | lst (xs:List D) | dct (kvs:List (Key×D)) | raw (v:V)
 | xcp (C:Addr) | ins (C:Addr) (fs:List (Str×D)) | at_ (a:Addr) (xs:List D)
 deriving Inhabited
abbrev Sl:=List (Option D)
inductive Out (α:Type) where
 | ok (a:α) | exc (c:Str) (o:Sl) | bad
variable {α β:Type}
noncomputable def Out.bind (o:Out α) (k:α->Out β):Out β:=match o with
 | .ok a=>k a
 | .exc c o=>.exc c o
 | .bad=>.bad
@[simp] theorem Out.oj (a:α) (k:α->Out β):(Out.ok a).bind k=k a:=rfl
@[simp] theorem Out.exc_bind (c:Str) (o:Sl) (k:α->Out β):(Out.exc c o:Out α).bind k=.exc c o:=rfl
@[simp] theorem Out.bad_bind (k:α->Out β):(Out.bad:Out α).bind k=.bad:=rfl
noncomputable def Yp (a C:Addr):HO:=.ext λh=>∃ o vs,h.get? a=ii o/\o.cls=.ref C/\o.data=.fields vs
mutual
/-- the value v is the data d,all its objects in F -/
inductive Is (K:Frag) (F:Hp):V->D->Prop
 | non:Is K F .non .non
 | bl (b:Bool):Is K F (.bl b) (.bl b)
 | int (i:Int):Is K F (.int i) (.int i)
 | str {x:Str} (h:x.length<=sizeLine):Is K F (.str x) (.str x)
 | tup {a:Addr} {xs:List V} {ds:List D} (h:SqT K F a xs) (t:IsL K F xs ds):Is K F (.ref a) (.tup ds)
 | lst {a:Addr} {xs:List V} {ds:List D} (h:SqL K F a xs) (t:IsL K F xs ds):Is K F (.ref a) (.lst ds)
 | dct {a:Addr} {kv:List (Key×V)} {kvs:List (Key×D)} (h:F a=ii (.dK kv)) (t:IsK K F kv kvs):Is K F (.ref a) (.dct kvs)
 | raw (v:V):Is K F v (.raw v)
 | xcp {a C:Addr} (h:F a=ii (Yp a C)):Is K F (.ref a) (.xcp C)
 | ins {a C dx:Addr} {fv:List (Str×V)} {fs:List (Str×D)} (h:F a=ii (.ins C dx fv)) (t:IsF K F fv fs):Is K F (.ref a) (.ins C fs)
 | at_ {a:Addr} {xs:List V} {ds:List D} (h:SqL K F a xs) (t:IsL K F xs ds):Is K F (.ref a) (.at_ a ds)
inductive IsL (K:Frag) (F:Hp):List V->List D->Prop
 | nil:IsL K F [] []
 | cons {v:V} {d:D} {vs:List V} {ds:List D} (h:Is K F v d) (t:IsL K F vs ds):IsL K F (v::vs) (d::ds)
inductive IsK (K:Frag) (F:Hp):List (Key×V)->List (Key×D)->Prop
 | nil:IsK K F [] []
 | cons {k:Key} {v:V} {d:D} {vs:List (Key×V)} {ds:List (Key×D)} (h:Is K F v d) (t:IsK K F vs ds):IsK K F ((k,v)::vs) ((k,d)::ds)
inductive IsF (K:Frag) (F:Hp):List (Str×V)->List (Str×D)->Prop
 | nil:IsF K F [] []
 | cons {k:Str} {v:V} {d:D} {vs:List (Str×V)} {ds:List (Str×D)} (h:Is K F v d) (t:IsF K F vs ds):IsF K F ((k,v)::vs) ((k,d)::ds)
end
theorem jj {K:Frag} {H H':Hp} {a:Addr} {xs:List V} (e:Same H H') (h:SqT K H a xs):SqT K H' a xs:=by
 rcases h with (h | ⟨o,h⟩) | h;·exact .inl (.inl (e _ _ h))
 ·exact .inl (.inr ⟨o,e _ _ h⟩)
 ·exact .inr h
mutual
theorem Is.mono {K:Frag} {F F':Hp} (e:Same F F'):∀ {v:V} {d:D},Is K F v d->Is K F' v d
 | _,_,.non=>.non
 | _,_,.bl b=>.bl b
 | _,_,.int i=>.int i
 | _,_,.str h=>.str h
 | _,_,.tup h t=>.tup (jj e h) (IsL.mono e t)
 | _,_,.lst h t=>.lst (e.seq h) (IsL.mono e t)
 | _,_,.dct h t=>.dct (e _ _ h) (IsK.mono e t)
 | _,_,.raw v=>.raw v
 | _,_,.xcp h=>.xcp (e _ _ h)
 | _,_,.ins h t=>.ins (e _ _ h) (IsF.mono e t)
 | _,_,.at_ h t=>.at_ (e.seq h) (IsL.mono e t)
theorem IsL.mono {K:Frag} {F F':Hp} (e:Same F F'):∀ {vs:List V} {ds:List D},IsL K F vs ds->IsL K F' vs ds
 | _,_,.nil=>.nil
 | _,_,.cons h t=>.cons (Is.mono e h) (IsL.mono e t)
theorem IsK.mono {K:Frag} {F F':Hp} (e:Same F F'):∀ {vs:List (Key×V)} {ds:List (Key×D)},IsK K F vs ds->IsK K F' vs ds
 | _,_,.nil=>.nil
 | _,_,.cons h t=>.cons (Is.mono e h) (IsK.mono e t)
theorem IsF.mono {K:Frag} {F F':Hp} (e:Same F F'):∀ {vs:List (Str×V)} {ds:List (Str×D)},IsF K F vs ds->IsF K F' vs ds
 | _,_,.nil=>.nil
 | _,_,.cons h t=>.cons (Is.mono e h) (IsF.mono e t)
end
theorem IsL.length {K:Frag} {F:Hp}:∀ {vs:List V} {ds:List D},IsL K F vs ds->vs.length=ds.length
 | _,_,.nil=>rfl
 | _,_,.cons _ t=>congrArg (·+1) (IsL.length t)
theorem IsL.get {K:Frag} {F:Hp}:∀ {vs:List V} {ds:List D} {i:Nat} {v:V},IsL K F vs ds->vs[i]?=ii v->∃ d,ds[i]?=ii d/\Is K F v d
 | _,_,_,_,.nil,e=>by simp at e
 | _,_,0,_,.cons h _,e=>by simp at e; subst e; exact ⟨_,rfl,h⟩
 | _,_,i+1,v,.cons _ t,e=>by obtain ⟨d,h1,h2⟩:=IsL.get (i:=i) (v:=v) t (by simpa using e);exact ⟨d,by simpa using h1,h2⟩
theorem IsL.getD {K:Frag} {F:Hp}:∀ {vs:List V} {ds:List D} {i:Nat} {d:D},IsL K F vs ds->ds[i]?=ii d->∃ v,vs[i]?=ii v/\Is K F v d
 | _,_,_,_,.nil,e=>by simp at e
 | _,_,0,_,.cons h _,e=>by simp at e; subst e; exact ⟨_,rfl,h⟩
 | _,_,i+1,v,.cons _ t,e=>by obtain ⟨d,h1,h2⟩:=IsL.getD (i:=i) (d:=v) t (by simpa using e);exact ⟨d,by simpa using h1,h2⟩
theorem IsL.append {K:Frag} {F:Hp}:∀ {vs ws:List V} {ds es:List D},IsL K F vs ds->IsL K F ws es->IsL K F (vs++ws) (ds++es)
 | _,_,_,_,.nil,s=>s
 | _,_,_,_,.cons h t,s=>.cons h (IsL.append t s)
theorem IsL.drop {K:Frag} {F:Hp}:∀ {vs:List V} {ds:List D} (n:Nat),IsL K F vs ds->IsL K F (vs.drop n) (ds.drop n)
 | _,_,0,r=>r
 | _,_,_+1,.nil=>.nil
 | _,_,n+1,.cons _ t=>IsL.drop n t
theorem IsL.take {K:Frag} {F:Hp}:∀ {vs:List V} {ds:List D} (n:Nat),IsL K F vs ds->IsL K F (vs.take n) (ds.take n)
 | _,_,0,_=>.nil
 | _,_,_+1,.nil=>.nil
 | _,_,n+1,.cons h t=>.cons h (IsL.take n t)
def OwnIs (K:Frag) (F H:Hp) (a:Addr):D->Prop
 | .lst ds=>∃ xs,H a=ii (.lst xs)/\IsL K F xs ds
 | .dct kvs=>∃ kv,H a=ii (.dK kv)/\IsK K F kv kvs
 | .ins C fs=>∃ dx fv,H a=ii (.ins C dx fv)/\IsF K F fv fs
 | .at_ b ds=>b=a/\∃ xs,H a=ii (.lst xs)/\IsL K F xs ds
 | _=>False
def TopIs (K:Frag) (F H:Hp) (v:V) (d:D):Prop:=Is K F v d\/∃ a,v=.ref a/\OwnIs K F H a d
inductive Mo where
 | sh | fr | any
def MoIs (K:Frag) (m:Mo) (H0 F H:Hp) (v:V) (d:D):Prop:=match m with
 | .sh=>Is K F v d
 | .fr=>∃ a,v=.ref a/\H0 a=ij/\F a=ij/\OwnIs K F H a d
 | .any=>TopIs K F H v d
theorem MoIs.top {K:Frag} {m:Mo} {H0 F H:Hp} {v:V} {d:D} (h:MoIs K m H0 F H v d):TopIs K F H v d:=by
 cases m with
 | sh=>exact .inl h
 | fr=>obtain ⟨a,e,_,_,o⟩:=h; exact .inr ⟨a,e,o⟩
 | any=>exact h
structure Chg (A:Addr->Prop) (F H F' H':Hp):Prop where
 keep:∀ b o,H b=ii o->¬A b->H' b=ii o
 stay:∀ b,H b≠ij->H' b≠ij
 grow:Same F F'
 new:∀ b,F' b≠ij->F b≠ij\/H b=ij\/A b
theorem Chg.refl {A:Addr->Prop} {F H:Hp}:Chg A F H F H:=⟨λ_ _ e _=>e,λ_ h=>h,Same.refl _,λ_ h=>.inl h⟩
theorem Chg.trans {A A1:Addr->Prop} {F H F1 H1 c H2:Hp} (a:Chg A F H F1 H1) (b:Chg A1 F1 H1 c H2) (hA:∀ x,A1 x->A x\/H x=ij):Chg A F H c H2 where
 keep:=λx o e n=>b.keep x o (a.keep x o e n) λz=>(hA x z).elim n λq=>by rw [e] at q; cases q
 stay:=λx h=>b.stay x (a.stay x h)
 grow:=a.grow.trans b.grow
 new:=λx h=>by
  rcases b.new x h with q | q | q;·exact a.new x q
  ·refine .inr (.inl ?_);cases e:H x with
   | none=>rfl
   | some o=>exact absurd q (a.stay x (by rw [e]; simp))
  ·rcases hA x q with z | z;·exact .inr (.inr z)
   ·exact .inr (.inl z)
theorem Chg.trans' {A:Addr->Prop} {F H F1 H1 c H2:Hp} (a:Chg A F H F1 H1) (b:Chg A F1 H1 c H2):Chg A F H c H2:=a.trans b λ_ z=>.inl z
theorem Chg.mono {A c:Addr->Prop} {F H F1 H1:Hp} (a:Chg A F H F1 H1) (h:∀ x,A x->c x):Chg c F H F1 H1:=
 ⟨λb o e n=>a.keep b o e λz=>n (h b z),a.stay,a.grow,λb z=>(a.new b z).imp id (Or.imp id (h b))⟩
abbrev No:Addr->Prop:=λ_=>False
theorem Chg.ofNo {A:Addr->Prop} {F H F1 H1:Hp} (a:Chg No F H F1 H1):Chg A F H F1 H1:=a.mono λ_ z=>z.elim
structure Rep (K:Frag) (own:List Nat) (F H:Hp) (σ:St) (ρ:Sl):Prop where
 sub:Same F H
 len:σ.length=ρ.length
 val:∀ i d,i∉own->ρ[i]?=ii (ii d)->∃ v,σ[i]?=ii (ii v)/\Is K F v d
 ow:∀ i d,i∈own->ρ[i]?=ii (ii d)->∃ a,σ[i]?=ii (ii (.ref a))/\F a=ij/\OwnIs K F H a d
 opn:∀ i,i∈own->∃ d,ρ[i]?=ii (ii d)
 dis:∀ i j a,i∈own->j∈own->σ[i]?=ii (ii (V.ref a))->σ[j]?=ii (ii (V.ref a))->i=j
def OA (own:List Nat) (σ:St):Addr->Prop:=λb=>∃ i∈own,σ[i]?=ii (ii (V.ref b))
theorem OwnIs.there {K:Frag} {F H:Hp} {a:Addr} {d:D} (h:OwnIs K F H a d):H a≠none:=by
 cases d with
 | lst ds=>obtain ⟨xs,e,_⟩:=h; rw [e]; simp
 | dct ds=>obtain ⟨xs,e,_⟩:=h; rw [e]; simp
 | ins C fs=>obtain ⟨dx,xs,e,_⟩:=h; rw [e]; simp
 | at_ b ds=>obtain ⟨_,xs,e,_⟩:=h; rw [e]; simp
 | _=>exact h.elim
theorem OwnIs.grow {K:Frag} {F H F' H':Hp} {a:Addr} {d:D} (h:OwnIs K F H a d) (g:Same F F') (k:∀ o,H a=ii o->H' a=ii o):OwnIs K F' H' a d:=by
 cases d with
 | lst ds=>obtain ⟨xs,e,t⟩:=h; exact ⟨xs,k _ e,t.mono g⟩
 | dct ds=>obtain ⟨xs,e,t⟩:=h; exact ⟨xs,k _ e,t.mono g⟩
 | ins C fs=>obtain ⟨dx,xs,e,t⟩:=h; exact ⟨dx,xs,k _ e,t.mono g⟩
 | at_ b ds=>obtain ⟨G,xs,e,t⟩:=h; exact ⟨G,xs,k _ e,t.mono g⟩
 | _=>exact h.elim
theorem Rep.OA_there {K:Frag} {own:List Nat} {F H:Hp} {σ:St} {ρ:Sl} (r:Rep K own F H σ ρ) {b:Addr} (h:OA own σ b):H b≠ij/\F b=none:=by obtain ⟨i,hi,e⟩:=h;obtain ⟨d,hd⟩:=r.opn i hi;obtain ⟨a,e1,e2,o⟩:=r.ow i d hi hd;rw [e] at e1;cases e1;exact ⟨o.there,e2⟩
theorem Rep.grow {K:Frag} {own:List Nat} {F H F' H':Hp} {σ:St} {ρ:Sl} (r:Rep K own F H σ ρ) (c:Chg No F H F' H') (s:Same F' H'):Rep K own F' H' σ ρ where
 sub:=s
 len:=r.len
 val:=λi d hi e=>let ⟨v,h1,h2⟩:=r.val i d hi e; ⟨v,h1,h2.mono c.grow⟩
 ow:=λi d hi e=>by
  obtain ⟨a,h1,h2,g⟩:=r.ow i d hi e;refine ⟨a,h1,?_,g.grow c.grow λo q=>c.keep a o q λz=>z⟩;cases q:F' a with
  | none=>rfl
  | some o=>
   rcases c.new a (by rw [q]; simp) with z | z | z;·exact absurd h2 z
   ·exact absurd z g.there
   ·exact z.elim
 opn:=r.opn
 dis:=r.dis
theorem MoIs.grow {K:Frag} {A:Addr->Prop} {m:Mo} {H0 F H F' H':Hp} {v:V} {d:D} (h:MoIs K m H0 F H v d) (f:m≠.any) (c:Chg A F H F' H') (hA:∀ x,A x->H0 x≠ij):MoIs K m H0 F' H' v d:=by
 cases m with
 | sh=>exact Is.mono c.grow h
 | fr=>
  obtain ⟨a,e,b,C,o⟩:=h;have n:¬A a:=λz=>hA a z b;refine ⟨a,e,b,?_,o.grow c.grow λo q=>c.keep a o q n⟩;cases q:F' a with
  | none=>rfl
  | some u=>
   rcases c.new a (by rw [q]; simp) with z | z | z;·exact absurd C z
   ·exact absurd z o.there
   ·exact absurd z n
 | any=>exact absurd rfl f
def ZK (K:Frag) (io:List Nat) (F H:Hp) (σ:St) (ρ:Sl):Prop:=∀ i∈io,∃ d a,ρ[i]?=ii (ii d)/\σ[i]?=ii (ii (V.ref a))/\F a=ij/\OwnIs K F H a d
theorem Rep.ioIs {K:Frag} {own io:List Nat} {F H:Hp} {σ:St} {ρ:Sl} (r:Rep K own F H σ ρ) (h:∀ i∈io,i∈own):ZK K io F H σ ρ:=λi hi=>by obtain ⟨d,hd⟩:=r.opn i (h i hi);obtain ⟨a,h1,h2,g⟩:=r.ow i d (h i hi) hd;exact ⟨d,a,hd,h1,h2,g⟩
structure Ct where
 K:Frag
 cv:Str->ip
 E:XK
 io:List Nat
 mr:Mo
 ol:List Nat
 ox:List Nat
 oxs:∀ i∈ox,i∈io
abbrev WL:=Out (D×Sl)
def Po (C:Ct) (own:List Nat) (m:Mo) (σ:St) (F H:Hp) (r:WL) (Q:VK):Prop:=match r with
 | .ok (d,ρ')=>∀ v F' H',Rep C.K own F' H' σ ρ'->Chg (OA own σ) F H F' H'->MoIs C.K m H F' H' v d->Q v H'
 | .exc c ρ'=>∀ F' H',Same F' H'->ZK C.K C.ox F' H' σ ρ'->Chg (OA own σ) F H F' H'->C.E (C.cv c) ij H'
 | .bad=>False
abbrev jl:=Sl->WL
def tE (C:Ct) (own:List Nat) (m:Mo) (f:jl):TE:=λσ H Q=>∃ F ρ,Rep C.K own F H σ ρ/\Po C own m σ F H (f ρ) Q
theorem MoIs.back {K:Frag} {m:Mo} {A:Addr->Prop} {H0 F H F1 H1:Hp} {f Ha:Hp} {v:V} {d:D} (c:Chg A f H0 F1 H1) (h:MoIs K m H1 F H v d):MoIs K m H0 F H v d:=by
 cases m with
 | sh=>exact h
 | fr=>
  obtain ⟨a,e,b,r⟩:=h;refine ⟨a,e,?_,r⟩;cases q:H0 a with
  | none=>rfl
  | some o=>exact absurd b (c.stay a (by rw [q]; simp))
 | any=>exact h
theorem Po.shift {C:Ct} {own:List Nat} {m:Mo} {σ:St} {F H F1 H1:Hp} {r:WL} {Q:VK} (h:Po C own m σ F H r Q) (c:Chg (OA own σ) F H F1 H1):Po C own m σ F1 H1 r Q:=by
 cases r with
 | ok p=>exact λv F' H' a T o=>h v F' H' a (c.trans' T) (MoIs.back (Ha:=H1) c o)
 | exc x=>exact λF' H' s io T=>h F' H' s io (c.trans' T)
 | bad=>exact h.elim
theorem Po.bind {C:Ct} {own:List Nat} {m ma:Mo} {σ:St} {F H:Hp} {o:WL} {k:D×Sl->WL} {Q R:VK} (hp:Po C own m σ F H (o.bind k) Q)
  (h:∀ v F1 H1 d ρ1,Rep C.K own F1 H1 σ ρ1->Chg (OA own σ) F H F1 H1->MoIs C.K ma H F1 H1 v d->Po C own m σ F1 H1 (k (d,ρ1)) Q->R v H1):Po C own ma σ F H o R:=by
 cases o with
 | ok p=>obtain ⟨d,ρ1⟩:=p;exact λv F1 H1 a c b=>h v F1 H1 d ρ1 a c b (Po.shift (show Po C own m σ F H (k (d,ρ1)) Q from hp) c)
 | exc x=>exact hp
 | bad=>exact hp.elim
def PoV (C:Ct) (m:Mo) (F H:Hp) (r:Out D) (Q:VK):Prop:=match r with
 | .ok d=>∀ v F' H',Same F' H'->Chg No F H F' H'->MoIs C.K m H F' H' v d->Q v H'
 | _=>False
def OpD (X:Cx) (C:Ct) (m:Mo) (f:ip->ip->Sem ip) (g:D->D->Out D):Prop:=
 OpR X f (λx y H Q=>∃ F dx d,Same F H/\TopIs C.K F H x dx/\TopIs C.K F H y d/\PoV C m F H (g dx d) Q)
def UnD (X:Cx) (C:Ct) (m:Mo) (f:ip->Sem ip) (g:D->Out D):Prop:=
 UnR X f (λx H Q=>∃ F dx,Same F H/\TopIs C.K F H x dx/\PoV C m F H (g dx) Q)
noncomputable def Out.plain {α:Type}:Out α->Out α
 | .ok a=>.ok a
 | _=>.bad
theorem PoV.of {C:Ct} {own:List Nat} {m:Mo} {σ:St} {F H:Hp} {o:Out D} {ρ:Sl} {Q:VK} (a:Rep C.K own F H σ ρ) (h:Po C own m σ F H (o.plain.bind λd=>.ok (d,ρ)) Q):PoV C m F H o Q:=by
 cases o with
 | ok d=>exact λv F' H' s c b=>h v F' H' (a.grow c s) c.ofNo b
 | exc c=>exact h.elim
 | bad=>exact h.elim
noncomputable def d2 (g:D->D->Out D) (fa fb:jl):jl:=λρ=>(fa ρ).bind λp=>(fb p.2).bind λq=>(g p.1 q.1).plain.bind λd=>.ok (d,q.2)
noncomputable def d1 (g:D->Out D) (fa:jl):jl:=λρ=>(fa ρ).bind λp=>(g p.1).plain.bind λd=>.ok (d,p.2)
section
variable {X:Cx} {C:Ct} {own:List Nat} {a b:Expr} {fa fb:jl} {m ma mb:Mo} {pos:Pos}
theorem Vl {g:D->D->Out D} {σ:St} {H:Hp} {Q:VK} (f:ma≠.any) (h:tE C own m (d2 g fa fb) σ H Q):tE C own ma fa σ H λx H1=>tE C own mb fb σ H1 λy H2=>∃ F dx i,Same F H2/\TopIs C.K F H2 x dx/\TopIs C.K F H2 y i/\PoV C m F H2 (g dx i) Q:=by obtain ⟨F,ρ,p,h⟩:=h;refine ⟨F,ρ,p,Po.bind h λv F1 H1 d ρ1 a c1 c h1=>⟨F1,ρ1,a,Po.bind h1 λw j H2 e ρ2 r c2 b h2=>?_⟩⟩;exact ⟨j,d,e,r.sub,(c.grow f c2 λx z=>(p.OA_there z).1).top,b.top,PoV.of r h2⟩
theorem qcl {g:D->Out D} {σ:St} {H:Hp} {Q:VK} (h:tE C own m (d1 g fa) σ H Q):tE C own ma fa σ H λx H1=>∃ F dx,Same F H1/\TopIs C.K F H1 x dx/\PoV C m F H1 (g dx) Q:=by obtain ⟨F,ρ,r,h⟩:=h;refine ⟨F,ρ,r,Po.bind h λv F1 H1 d ρ1 a c1 c h1=>?_⟩;exact ⟨F1,d,a.sub,c.top,PoV.of a h1⟩
theorem kf {e:Expr} {t t':TE} (h:PE X e t) (i:∀ σ H Q,t' σ H Q->t σ H Q):PE X e t':=⟨λpins s σ H Q I w=>h pins s σ H Q I (i σ H Q w)⟩
theorem qcm {e:Expr} {t t':TT} (h:PT X e t) (i:∀ σ H Q,t' σ H Q->t σ H Q):PT X e t':=⟨λpins s σ H Q I w=>h pins s σ H Q I (i σ H Q w)⟩
theorem qG {op:Operator} {g:D->D->Out D} (j:OpD X C m (iW op) g) (c:PE X a (tE C own ma fa)) (d:PE X b (tE C own mb fb)) (f:ma≠.any:=by decide):PE X (.BinOp a op b pos) (tE C own m (d2 g fa fb)):=
 kf (qi7 j c d) λ_ _ _ h=>Vl f h
theorem kN {op:CmpOp} {g:D->D->Out D} (j:OpD X C m (iI op) g) (c:PE X a (tE C own ma fa)) (d:PE X b (tE C own mb fb)) (f:ma≠.any:=by decide)
  (k:lw op b=false:=by first | exact qdR _ | with_unfolding_all rfl):PE X (.Compare a [op] [b] pos) (tE C own m (d2 g fa fb)):=
 kf (qeL j c d k) λ_ _ _ h=>Vl f h
theorem Vm {op:UnaryOp} {g:D->Out D} (j:UnD X C m (unaryOp op) g) (b:PE X a (tE C own ma fa)):PE X (.UnaryOp op a pos) (tE C own m (d1 g fa)):=
 kf (qi8 j b) λ_ _ _ h=>qcl h
end
instance:DecidableEq Mo:=λa b=>by cases a <;> cases b <;> first | exact isTrue rfl | exact isFalse (by intro h; cases h)
theorem qcn {K:Frag} {own:List Nat} {H0 F H:Hp} {σ:St} {ρ:Sl} {v:V} {d:D} (r:Rep K own F H σ ρ) (hA:∀ b,OA own σ b->H0 b≠ij) (h:MoIs K .fr H0 F H v d):∃ F',Rep K own F' H σ ρ/\Same F F'/\Is K F' v d/\∀ b,F' b≠ij->F b≠ij\/H0 b=none:=by
 obtain ⟨a,rfl,g,j,o⟩:=h;obtain ⟨u,hu⟩:∃ u,H a=ii u:=by
  cases q:H a with
  | none=>exact absurd q o.there
  | some u=>exact ⟨u,rfl⟩
 have gr:Same F (upd F a u):=λb w e=>by rw [qA (qJ e j)]; exact e
 have y:Same (upd F a u) H:=λb w e=>by
  by_cases q:b=a;·subst q; rw [qu] at e; cases e; exact hu
  ·rw [qA q] at e; exact r.sub b w e
 refine ⟨upd F a u,⟨y,r.len,λi d hi e=>?_,λi d hi e=>?_,r.opn,r.dis⟩,gr,?_,λb f=>?_⟩;·obtain ⟨v,h1,h2⟩:=r.val i d hi e;exact ⟨v,h1,h2.mono gr⟩
 ·obtain ⟨c,h1,h2,k⟩:=r.ow i d hi e;refine ⟨c,h1,?_,k.grow gr λ_ q=>q⟩;have n:c≠a:=λq=>by subst q; exact hA c ⟨i,hi,h1⟩ g
  rw [qA n]; exact h2
 ·cases d with
  | lst ds=>obtain ⟨xs,e,t⟩:=o; rw [hu] at e; cases e; exact .lst (.inl (.inl qu)) (t.mono gr)
  | dct ds=>obtain ⟨xs,e,t⟩:=o; rw [hu] at e; cases e; exact .dct qu (t.mono gr)
  | ins C fs=>obtain ⟨dx,xs,e,t⟩:=o; rw [hu] at e; cases e; exact .ins qu (t.mono gr)
  | at_ b ds=>obtain ⟨G,xs,e,t⟩:=o; rw [hu] at e; cases e; subst G; exact .at_ (.inl (.inl qu)) (t.mono gr)
  | _=>exact o.elim
 ·by_cases q:b=a;·exact .inr (by rw [q]; exact g)
  ·rw [qA q] at f; exact .inl f
theorem Po.toSh {C:Ct} {own:List Nat} {m:Mo} {σ:St} {F H:Hp} {d:Sl} {r:WL} {Q:VK} (f:Rep C.K own F H σ d) (g:m≠.any) (h:Po C own .sh σ F H r Q):Po C own m σ F H r Q:=by
 cases r with
 | ok p=>
  intro v F' H' a c o;cases m with
  | sh=>exact h v F' H' a c o
  | fr=>
   obtain ⟨j,e,gr,is,n⟩:=qcn a (λb z=>(f.OA_there z).1) o;refine h v j H' e ⟨c.keep,c.stay,c.grow.trans gr,λb i=>?_⟩ is;rcases n b i with z | z;·exact c.new b z
   ·exact .inr (.inl z)
  | any=>exact absurd rfl g
 | exc x=>exact h
 | bad=>exact h.elim
section
variable {X:Cx} {C:Ct} {own:List Nat} {a b e:Expr} {f fa fb:jl} {m ma mb:Mo} {pos:Pos}
theorem uh (h:PE X e (tE C own m f)) (c:m≠.any):PE X e (tE C own .sh f):=kf h λ_ _ _ ⟨F,ρ,a,p⟩=>⟨F,ρ,a,p.toSh a c⟩
noncomputable def qc (i:Nat):jl:=λρ=>match ρ[i]? with
 | some (ii d)=>.ok (d,ρ)
 | _=>.bad
noncomputable def dC (d:D):jl:=λρ=>.ok (d,ρ)
theorem qg6 {i:Nat} {x:Str} (b:X.N[i]?=ii x) (c:Vis X.env.scope x) (j:i∉own) (hd:Dbg x:=by decide) (a:Cdk x:=by decide):PE X (.Name x pos) (tE C own .sh (qc i)):=by
 refine kf (yR b c hd a) λσ H Q ⟨F,ρ,r,h⟩=>?_;unfold qc at h;cases e:ρ[i]? with
 | none=>rw [e] at h; exact h.elim
 | some o=>
  cases o with
  | none=>rw [e] at h; exact h.elim
  | some d=>rw [e] at h;obtain ⟨v,h1,h2⟩:=r.val i d j e;exact ⟨v,h1,h v F H r .refl h2⟩
theorem Gi {i:Nat} {x:Str} (f:X.N[i]?=ii x) (c:Vis X.env.scope x) (j:i∈own) (hd:Dbg x:=by decide) (b:Cdk x:=by decide):PE X (.Name x pos) (tE C own .any (qc i)):=by
 refine kf (yR f c hd b) λσ H Q ⟨F,ρ,r,h⟩=>?_;unfold qc at h;cases e:ρ[i]? with
 | none=>rw [e] at h; exact h.elim
 | some o=>
  cases o with
  | none=>rw [e] at h; exact h.elim
  | some d=>rw [e] at h;obtain ⟨a,h1,h2,g⟩:=r.ow i d j e;exact ⟨_,h1,h _ F H r .refl (.inr ⟨a,rfl,g⟩)⟩
theorem qg7 {v:V} {d:D} (h:PE X e (tC v)) (i:∀ F,Is C.K F v d):PE X e (tE C own .sh (dC d)):=kf h λσ H Q ⟨F,ρ,a,h⟩=>h v F H a .refl (i F)
theorem qg {i j pos}:PE X (.Constant (.int i) j pos) (tE C own .sh (dC (.int i))):=qg7 qdP λ_=>.int i
theorem vK {i j pos}:PE X (.Constant (.bool i) j pos) (tE C own .sh (dC (.bl i))):=qg7 qiY λ_=>.bl i
theorem vd {j pos}:PE X (.Constant .none j pos) (tE C own .sh (dC .non)):=qg7 qgy λ_=>.non
theorem kT {x j pos} (h:fV x<=sizeLine:=by decide):PE X (.Constant (.str x) j pos) (tE C own .sh (dC (.str x))):=qg7 qgz λ_=>.str h
theorem qe3 {x:Str} {v:V} {d:D} {u:ip} (hg:Gl X x) (c:X.mg x=ii u) (r:RelV v u) (i:∀ F,Is C.K F v d) (hd:Dbg x:=by decide):PE X (.Name x pos) (tE C own .sh (dC d)):=qg7 (qeC hg c r hd) i
noncomputable def yz (g:Int->Int->Out D):D->D->Out D
 | .int i,.int j=>g i j
 | _,_=>.bad
theorem TopIs.int {K:Frag} {F H:Hp} {v:V} {i:Int} (h:TopIs K F H v (.int i)):v=.int i:=by
 rcases h with h | ⟨a,_,h⟩
 ·cases h; rfl
 ·exact h.elim
theorem TopIs.str {K:Frag} {F H:Hp} {v:V} {x:Str} (h:TopIs K F H v (.str x)):v=.str x/\x.length<=sizeLine:=by
 rcases h with h | ⟨a,_,h⟩
 ·cases h; exact ⟨rfl,by assumption⟩
 ·exact h.elim
theorem TopIs.bl {K:Frag} {F H:Hp} {v:V} {x:Bool} (h:TopIs K F H v (.bl x)):v=.bl x:=by
 rcases h with h | ⟨a,_,h⟩
 ·cases h; rfl
 ·exact h.elim
theorem TopIs.non {K:Frag} {F H:Hp} {v:V} (h:TopIs K F H v .non):v=.non:=by
 rcases h with h | ⟨a,_,h⟩
 ·cases h; rfl
 ·exact h.elim
theorem TopIs.lst {K:Frag} {F H:Hp} {v:V} {ds:List D} (s:Same F H) (h:TopIs K F H v (.lst ds)):∃ a xs,v=.ref a/\SqL K H a xs/\IsL K F xs ds:=by
 rcases h with h | ⟨a,e,h⟩
 ·cases h with
  | lst h t=>exact ⟨_,_,rfl,s.seq h,t⟩
 ·obtain ⟨xs,e2,t⟩:=h;exact ⟨a,xs,e,.inl (.inl e2),t⟩
theorem TopIs.tup {K:Frag} {F H:Hp} {v:V} {ds:List D} (s:Same F H) (h:TopIs K F H v (.tup ds)):∃ a xs,v=.ref a/\SqT K H a xs/\IsL K F xs ds:=by
 rcases h with h | ⟨a,e,h⟩
 ·cases h with
  | tup h t=>exact ⟨_,_,rfl,jj s h,t⟩
 ·exact h.elim
theorem TopIs.dct {K:Frag} {F H:Hp} {v:V} {ds:List (Key×D)} (s:Same F H) (h:TopIs K F H v (.dct ds)):∃ a kv,v=.ref a/\H a=ii (.dK kv)/\IsK K F kv ds:=by
 rcases h with h | ⟨a,e,h⟩
 ·cases h with
  | dct h t=>exact ⟨_,_,rfl,s _ _ h,t⟩
 ·obtain ⟨xs,e2,t⟩:=h;exact ⟨a,xs,e,e2,t⟩
theorem Gj {fn:ip->ip->Sem ip} {P:Int->Int->Prop} [∀ i j,Decidable (P i j)] {g:Int->Int->V} {gd:Int->Int->D} (o:OpR X fn (rI P g)) (hg:∀ F i j,Is C.K F (g i j) (gd i j)):OpD X C .sh fn (yz λi j=>if P i j then .ok (gd i j) else .bad):=by
 intro pins s σ H x y v u Q I d c h;obtain ⟨F,dx,a,b,tx,ty,po⟩:=h;cases dx <;> try exact po.elim
 cases a <;> try exact po.elim
 rename_i i j;have po:PoV C .sh F H (if P i j then .ok (gd i j) else .bad) Q:=po;obtain rfl:=tx.int;obtain rfl:=ty.int;by_cases q:P i j;·rw [Aa q] at po;exact o pins s σ H _ _ v u Q I d c ⟨i,j,rfl,rfl,q,po (g i j) F H b .refl (hg F i j)⟩
 ·rw [Ab q] at po; exact po.elim
theorem WY {fn:ip->ip->Sem ip} {g:Int->Int->V} {gd:Int->Int->D} (o:OpR X fn (rI0 g)) (hg:∀ F i j,Is C.K F (g i j) (gd i j)):OpD X C .sh fn (yz λi j=>.ok (gd i j)):=by
 intro pins s σ H x y v u Q I d c h;obtain ⟨F,dx,a,b,tx,ty,po⟩:=h;cases dx <;> try exact po.elim
 cases a <;> try exact po.elim
 rename_i i j;obtain rfl:=tx.int;obtain rfl:=ty.int;exact o pins s σ H _ _ v u Q I d c ⟨i,j,rfl,rfl,po (g i j) F H b .refl (hg F i j)⟩
noncomputable def zM:D->D->Out D:=yz λi j=>.ok (.int (i - j))
theorem wg:OpD X C .sh (iW .Sub) zM:=WY qgM λ_ _ _=>.int _
instance:∀ i j,Decidable (CMul i j):=λi j=>inferInstanceAs (Decidable (_\/_))
instance:∀ i j,Decidable (qgo i j):=λi j=>inferInstanceAs (Decidable (_/\_))
noncomputable def qdT:D->D->Out D:=yz λi j=>if CMul i j then .ok (.int (i * j)) else .bad
theorem Vn:OpD X C .sh (iW .Mult) qdT:=Gj qgN λ_ _ _=>.int _
noncomputable def vL:D->D->Out D:=yz λi j=>if 0 < j then .ok (.int (i % j)) else .bad
theorem kh:OpD X C .sh (iW .Mod) vL:=Gj qgO λ_ _ _=>.int _
noncomputable def XM:D->D->Out D:=yz λi j=>if qgo i j then .ok (.int (i / j)) else .bad
theorem WZ:OpD X C .sh (iW .FloorDiv) XM:=Gj qeJ λ_ _ _=>.int _
noncomputable def vf (x y:Str):Bool:=decide (x.cps.toList < y.cps.toList)
noncomputable def ltD:D->D->Out D
 | .int i,.int j=>.ok (.bl (decide (i < j)))
 | .str x,.str y=>.ok (.bl (vf x y))
 | _,_=>.bad
theorem qg8:OpD X C .sh (iI .Lt) ltD:=by
 intro pins s σ H x y v u Q I d c h;obtain ⟨F,dx,a,b,tx,ty,po⟩:=h;cases dx <;> try exact po.elim
 ·cases a <;> try exact po.elim
  obtain rfl:=tx.int;obtain rfl:=ty.int;exact qi9 pins s σ H _ _ v u Q I d c ⟨_,_,rfl,rfl,po _ F H b .refl (.bl _)⟩
 ·cases a <;> try exact po.elim
  obtain ⟨rfl,_⟩:=tx.str;obtain ⟨rfl,_⟩:=ty.str;exact ZU pins s σ H _ _ v u Q I d c ⟨_,_,rfl,rfl,po _ F H b .refl (.bl _)⟩
end
noncomputable def eqS (a b:D):Option Bool:=match a with
 | .non=>match b with
  | .non=>ii ir
  | .bl _=>ii iq
  | .int _=>ii iq
  | .str _=>ii iq
  | .tup _=>ii iq
  | .lst _=>ii iq
  | .dct _ | .raw _ | .xcp _ | .ins _ _ | .at_ _ _=>ij
 | .bl x=>match b with
  | .non=>ii iq
  | .bl y=>ii (x == y)
  | .int y=>ii ((if x then 1 else 0) == y)
  | .str _=>ii iq
  | .tup _=>ii iq
  | .lst _=>ii iq
  | .dct _ | .raw _ | .xcp _ | .ins _ _ | .at_ _ _=>ij
 | .int x=>match b with
  | .non=>ii iq
  | .bl y=>ii (x == (if y then 1 else 0))
  | .int y=>ii (x == y)
  | .str _=>ii iq
  | .tup _=>ii iq
  | .lst _=>ii iq
  | .dct _ | .raw _ | .xcp _ | .ins _ _ | .at_ _ _=>ij
 | .str x=>match b with
  | .non=>ii iq
  | .bl _=>ii iq
  | .int _=>ii iq
  | .str y=>ii (x == y)
  | .tup _=>ii iq
  | .lst _=>ii iq
  | .dct _ | .raw _ | .xcp _ | .ins _ _ | .at_ _ _=>ij
 | .tup x=>match b with
  | .non=>ii iq
  | .bl _=>ii iq
  | .int _=>ii iq
  | .str _=>ii iq
  | .tup _=>ij
  | .lst _=>ii iq
  | .dct _ | .raw _ | .xcp _ | .ins _ _ | .at_ _ _=>ij
 | .lst x=>match b with
  | .non=>ii iq
  | .bl _=>ii iq
  | .int _=>ii iq
  | .str _=>ii iq
  | .tup _=>ii iq
  | .lst _=>ij
  | .dct _ | .raw _ | .xcp _ | .ins _ _ | .at_ _ _=>ij
 | .dct _ | .raw _ | .xcp _ | .ins _ _ | .at_ _ _=>ij
noncomputable def wU (f:D->D->Option Bool):List D->List D->Option Bool
 | x::xs,y::ys=>(f x y).bind λa=>(wU f xs ys).bind λb=>ii (a&&b)
 | _,_=>ii ir
noncomputable def eqN:Nat->D->D->Option Bool
 | n+1,.tup xs,.tup ys=>(wU (eqN n) xs ys).map λb=>b&&xs.length == ys.length
 | n+1,.lst xs,.lst ys=>if xs.length=ys.length then wU (eqN n) xs ys else ii iq
 | _,a,b=>eqS a b
theorem Yq {n:Nat} {a b:D} (h1:∀ xs ys,a=.tup xs->b≠.tup ys) (h2:∀ xs ys,a=.lst xs->b≠.lst ys):eqN n a b=eqS a b:=by
 cases n with
 | zero=>rfl
 | succ n=>
  cases a with
  | tup xs=>cases b with
   | tup ys=>exact absurd rfl (h1 xs ys rfl)
   | _=>rfl
  | lst xs=>cases b with
   | lst ys=>exact absurd rfl (h2 xs ys rfl)
   | _=>rfl
  | _=>rfl
noncomputable def itE (f:D->D->Option Bool) (xs ys:List D) (j:Nat):Bool:=((xs[j]?).bind λx=>(ys[j]?).bind λy=>f x y).getD iq
theorem wj {f:D->D->Option Bool}:∀ {xs ys:List D} {b:Bool},wU f xs ys=ii b->b=(aP (min xs.length ys.length)).all (itE f xs ys)
 | [],ys,b,h=>by simp [wU] at h ⊢; exact h
 | x::xs,[],b,h=>by simp [wU] at h ⊢; exact h
 | x::xs,y::ys,b,h=>by
  unfold wU at h;cases e:f x y with
  | none=>rw [e] at h; simp at h
  | some a=>
   cases e2:wU f xs ys with
   | none=>rw [e,e2] at h; simp at h
   | some c=>
    rw [e,e2] at h;have h:(a&&c)=b:=by simpa using h
    have i:=wj e2;have m:min (x::xs).length (y::ys).length=min xs.length ys.length+1:=by simp only [ah]; lia
    rw [m,List.range_succ_eq_map,fP,List.all_map];have e0:itE f (x::xs) (y::ys) 0=a:=by simp [itE,e]
    have e1:(itE f (x::xs) (y::ys)) ∘ Nat.succ=itE f xs ys:=by funext j;simp [itE]
    rw [e0,e1,<-i];exact h.symm
theorem Gk {f:D->D->Option Bool}:∀ {xs ys:List D} {b:Bool},wU f xs ys=ii b->∀ (j:Nat) (x y:D),xs[j]?=ii x->ys[j]?=ii y->f x y=ii (itE f xs ys j)
 | [],ys,b,_,j,x,y,hx,_=>by simp at hx
 | x::xs,[],b,_,j,_,y,_,hy=>by simp at hy
 | x::xs,y::ys,b,h,0,x',y',hx,hy=>by
  simp at hx hy;subst hx hy;unfold wU at h;cases e:f x y with
  | none=>rw [e] at h; simp at h
  | some a=>simp [itE,e]
 | x::xs,y::ys,b,h,j+1,x',y',hx,hy=>by
  unfold wU at h;cases e:f x y with
  | none=>rw [e] at h; simp at h
  | some a=>
   cases e2:wU f xs ys with
   | none=>rw [e,e2] at h; simp at h
   | some c=>have q:=Gk e2 j x' y' (by simpa using hx) (by simpa using hy);rw [q];simp [itE]
section
variable {X:Cx} {pins:Pns} {σ:St} {F H:Hp} {s:iu}
noncomputable def smp:D->Bool
 | .non | .bl _ | .int _ | .str _ | .tup _ | .lst _=>ir
 | .dct _ | .raw _ | .xcp _ | .ins _ _ | .at_ _ _=>iq
theorem Gm {n:Nat} {d e:D} {b:Bool} (h:eqN n d e=ii b):smp d=true:=by cases d <;> first | rfl | (cases n <;> exact nomatch (show ij=ii b from h))
theorem qjo {n:Nat} {d e:D} {b:Bool} (h:eqN n d e=ii b):smp e=true:=by cases e <;> first | rfl | (cases n <;> cases d <;> exact nomatch (show ij=ii b from h))
theorem Gn (I:Inv X pins σ H s) (y:Same F H) {a:Addr} {xs ys:List V} (p:SqT X.K F a xs) (q:SqL X.K F a ys):False:=by obtain ⟨_,_,q1,_⟩:=I.list (y.seq q);obtain ⟨_,_,e,_⟩:=I.tuple (jj y p);exact absurd rfl (PySem.SeqAt.ne_of_list_tuple q1.isList e)
theorem gp {f:D->D->Option Bool} {x y:D} {xs ys:List D} {b:Bool} (h:wU f (x::xs) (y::ys)=ii b):∃ a c,f x y=ii a/\wU f xs ys=ii c/\b=(a&&c):=by
 unfold wU at h;cases e:f x y with
 | none=>rw [e] at h; cases h
 | some a=>
  cases e2:wU f xs ys with
  | none=>rw [e,e2] at h; cases h
  | some c=>rw [e,e2] at h; exact ⟨a,c,rfl,rfl,(aK.inj h).symm⟩
theorem Ua {n:Nat} {xs ys:List D} {b:Bool} (h:eqN (n+1) (.tup xs) (.tup ys)=ii b):∃ c,wU (eqN n) xs ys=ii c/\b=(c&&xs.length == ys.length):=by
 have h:((wU (eqN n) xs ys).map λb=>b&&xs.length == ys.length)=ii b:=h;cases e:wU (eqN n) xs ys with
 | none=>rw [e] at h; cases h
 | some c=>rw [e] at h; exact ⟨c,rfl,(aK.inj h).symm⟩
theorem Go (I:Inv X pins σ H s) (y:Same F H):∀ (n:Nat) {v:V} {d e:D} {b:Bool},Is X.K F v d->Is X.K F v e->eqN n d e=ii b->b=true:=by
 have base:∀ {n:Nat} {v:V} {d e:D} {b:Bool},Is X.K F v d->Is X.K F v e->eqN n d e=ii b->(∀ a xs ds es,Is X.K F (.ref a) (.tup ds)->SqT X.K F a xs->IsL X.K F xs ds->IsL X.K F xs es->eqN n (.tup ds) (.tup es)=ii b->b=ir)->(∀ a xs ds es,SqL X.K F a xs->IsL X.K F xs ds->IsL X.K F xs es->eqN n (.lst ds) (.lst es)=ii b->b=ir)->b=true:=by
  intro n v d e b h1 h2 h ht hl;have s1:=Gm h;have s2:=qjo h;cases h1 with
  | non=>cases h2 with
   | non=>cases n <;> exact (aK.inj h).symm
   | raw=>cases s2
  | bl x=>cases h2 with
   | bl=>cases n <;> exact (aK.inj h).symm.trans (beq_self_eq_true x)
   | raw=>cases s2
  | int x=>cases h2 with
   | int=>cases n <;> exact (aK.inj h).symm.trans (beq_self_eq_true x)
   | raw=>cases s2
  | str _=>cases h2 with
   | str _=>cases n <;> exact (aK.inj h).symm.trans (beq_self_eq_true _)
   | raw=>cases s2
  | tup p1 f=>cases h2 with
   | tup p2 t=>have q:=I.tuple_inj (jj y p1) (jj y p2);subst q;exact ht _ _ _ _ (.tup p1 f) p1 f t h
   | lst p2 t=>exact (Gn I y p1 p2).elim
   | _=>cases s2
  | lst p1 f=>cases h2 with
   | lst p2 t=>have q:=I.list_inj (y.seq p1) (y.seq p2);subst q;exact hl _ _ _ _ p1 f t h
   | tup p2 t=>exact (Gn I y p2 p1).elim
   | _=>cases s2
  | _=>cases s1
 intro n
 induction n with
 | zero=>exact λ{_ _ _ _} h1 h2 h=>base h1 h2 h (λ_ _ _ _ _ _ _ _ h=>nomatch (show ij=ii _ from h)) λ_ _ _ _ _ _ _ h=>nomatch (show ij=ii _ from h)
 | succ n j=>
  have l:∀ {xs:List V} {ds es:List D} {b:Bool},IsL X.K F xs ds->IsL X.K F xs es->wU (eqN n) ds es=ii b->b=true:=by
   intro xs
   induction xs with
   | nil=>intro ds es b h1 h2 h; cases h1; cases h2; exact (aK.inj h).symm
   | cons x xs i=>
    intro ds es b h1 h2 h;cases h1 with
    | cons m f=>
     cases h2 with
     | cons k t=>obtain ⟨a,c,q,g,rfl⟩:=gp h;rw [j m k q,i f t g];rfl
  intro v d e b h1 h2 h;refine base h1 h2 h (λa xs ds es _ _ f t h=>?_) λa xs ds es _ f t h=>?_;·obtain ⟨c,q,rfl⟩:=Ua h;rw [l f t q,f.length.symm.trans t.length,beq_self_eq_true];rfl
  ·have h:(if ds.length=es.length then wU (eqN n) ds es else ii iq)=ii _:=h;rw [Aa (f.length.symm.trans t.length)] at h;exact l f t h
end
open PySem.SeqAt
section
variable {X:Cx} {pins:Pns} {σ:St} {F H:Hp} {s:iu}
theorem Vals.getE {xs:List V} {us:List ip} (r:Vals xs us) {j:Nat} (h:j < us.length):∃ x,xs[j]?=ii x/\RelV x us[j]:=by
 have hl:=r.length;have D:j < xs.length:=by lia
 obtain ⟨u,e1,e2⟩:=Vals.get (i:=j) (x:=xs[j]) r (by simp [D]);refine ⟨xs[j],by simp [D],?_⟩;rw [aE h] at e1;cases e1;exact e2
theorem ya {A:iL} {n:Nat} {xs ys:List V} {ds es:List D} {us ws:List ip} {b:Bool} (g:∀ {v w:V} {d e:D} {u t:ip} {b:Bool},Is X.K F v d->Is X.K F w e->RelV v u->RelV w t->eqN n d e=ii b->EqAt A s u t b)
  (r1:Vals xs us) (r2:Vals ys ws) (i1:IsL X.K F xs ds) (i2:IsL X.K F ys es) (h:wU (eqN n) ds es=ii b) :
  ∀ j (h1:j < us.toArray.size) (h2:j < ws.toArray.size),EqAt A s us.toArray[j] ws.toArray[j] (itE (eqN n) ds es j):=by
 intro j h1 h2;have c:j < us.length:=by simpa using h1
 have a:j < ws.length:=by simpa using h2
 obtain ⟨x,ex,f⟩:=Vals.getE r1 c;obtain ⟨y,l,r⟩:=Vals.getE r2 a;obtain ⟨d,o,i⟩:=i1.get ex;obtain ⟨e,m,k⟩:=i2.get l;have q:=Gk h j d e o m;simpa using g i k f r q
theorem Yr {A:iL} {n:Nat} {a c:Addr} {xs ys:List V} {ds es:List D} {b:Bool} (I:Inv X pins σ H s) (j:∀ {v w:V} {d e:D} {u t:ip} {b:Bool},Is X.K F v d->Is X.K F w e->RelV v u->RelV w t->eqN n d e=ii b->EqAt A.in1 s u t b)
  (p1:SqT X.K H a xs) (p2:SqT X.K H c ys) (i1:IsL X.K F xs ds) (i2:IsL X.K F ys es) (h:eqN (n+1) (.tup ds) (.tup es)=ii b) (m:A.units < iX):RcAt A s (.ref a) (.ref c) b:=by
 obtain ⟨us,r1,g,_⟩:=I.tuple p1;obtain ⟨ws,r2,f,_⟩:=I.tuple p2;simp only [eqN] at h;cases q:wU (eqN n) ds es with
 | none=>rw [q] at h; simp at h
 | some k=>
  rw [q] at h;have i:us.toArray.size=ds.length:=by rw [au,<-r1.length,i1.length]
  have l:ws.toArray.size=es.length:=by rw [au,<-r2.length,i2.length]
  have z:=RcAt.tuples (A:=A) g f m (ya (A:=A.in1) j r1 r2 i1 i2 q);rw [i,l,<-wj q] at z;have e:b=(k&&ds.length == es.length):=by simpa using h.symm
  rw [e]; exact z
theorem Ys {A:iL} {n:Nat} {a c:Addr} {xs ys:List V} {ds es:List D} {b:Bool} (I:Inv X pins σ H s) (k:∀ {v w:V} {d e:D} {u t:ip} {b:Bool},Is X.K F v d->Is X.K F w e->RelV v u->RelV w t->eqN n d e=ii b->EqAt A.in1 s u t b)
  (p1:SqL X.K H a xs) (p2:SqL X.K H c ys) (i1:IsL X.K F xs ds) (i2:IsL X.K F ys es) (h:eqN (n+1) (.lst ds) (.lst es)=ii b) (j:A.units < iX):RcAt A s (.ref a) (.ref c) b:=by
 obtain ⟨us,r1,g,_⟩:=I.list p1;obtain ⟨ws,r2,f,_⟩:=I.list p2;have i:us.toArray.size=ds.length:=by rw [au,<-r1.length,i1.length]
 have l:ws.toArray.size=es.length:=by rw [au,<-r2.length,i2.length]
 simp only [eqN] at h;by_cases hl:ds.length=es.length;·rw [Aa hl] at h;have z:=RcAt.lists (A:=A) g.isList f.isList (by lia) j (ya (A:=A.in1) k r1 r2 i1 i2 h);have e:=wj h;rw [i] at z;rw [e,show min ds.length es.length=ds.length by lia];exact z
 ·rw [Ab hl] at h;cases h;exact RcAt.lists_lengths g.isList f.isList (bne_iff_ne.mpr (by rw [i,l]; exact hl)) j
def Kd (s:iu):D->ip->Prop
 | .non,u=>u=.none
 | .bl b,u=>u=.bool b
 | .int i,u=>∃ t,u=.int i t
 | .str x,u=>∃ t,u=.str x t
 | .tup _,u=>∃ a its,u=.ref a/\s.heap.IsTuple a its
 | .lst _,u=>∃ a its,u=.ref a/\s.heap.IsList a its
 | _,_=>True
theorem XN (I:Inv X pins σ H s) (y:Same F H) {v:V} {d:D} {u:ip} (t:TopIs X.K F H v d) (r:RelV v u):Kd s d u:=by
 cases d with
 | non=>obtain rfl:=t.non; exact r
 | bl=>obtain rfl:=t.bl; exact r
 | int=>obtain rfl:=t.int; exact r
 | str=>obtain ⟨rfl,_⟩:=t.str; exact r
 | tup=>obtain ⟨a,_,rfl,p,_⟩:=t.tup y; obtain ⟨_,_,q,_⟩:=I.tuple p; exact ⟨a,_,r,q⟩
 | lst=>obtain ⟨a,_,rfl,p,_⟩:=t.lst y; obtain ⟨_,_,q,_⟩:=I.list p; exact ⟨a,_,r,q.isList⟩
 | _=>trivial
theorem qg9 {A:iL} {d e:D} {u t:ip} {b:Bool} (f:A.units < iX) (k1:Kd s d u) (k2:Kd s e t) (h:eqS d e=ii b):EqAt A s u t b:=by
 cases d <;> cases e <;> try (cases h; done)
 all_goals
  cases h;first | obtain ⟨_,_,rfl,q1⟩:=k1 | obtain ⟨_,rfl⟩:=k1 | cases k1
  first | obtain ⟨_,_,rfl,q⟩:=k2 | obtain ⟨_,rfl⟩:=k2 | cases k2
  with_reducible first | exact EqAt.same _ | exact EqAt.none_bool _ | exact EqAt.none_int _ _ | exact EqAt.none_str _ _ | exact EqAt.bool_none _ | exact EqAt.bool_bool _ _ | exact EqAt.bool_int _ _ _ | exact EqAt.bool_str _ _ _ | exact EqAt.int_none _ _ | exact EqAt.int_bool _ _ _ | exact EqAt.int_int _ _ _ _ | exact EqAt.int_str _ _ _ _ | exact EqAt.str_none _ _ | exact EqAt.str_bool _ _ _ | exact EqAt.str_int _ _ _ _ | exact EqAt.str_str _ _ _ _ | exact EqAt.none_tuple q f | exact EqAt.tuple_none q1 f | exact EqAt.none_list q f | exact EqAt.list_none q1 f | exact EqAt.bool_tuple _ q f | exact EqAt.tuple_bool _ q1 f | exact EqAt.bool_list _ q f | exact EqAt.list_bool _ q1 f | exact EqAt.int_tuple _ _ q f | exact EqAt.tuple_int _ _ q1 f | exact EqAt.int_list _ _ q f | exact EqAt.list_int _ _ q1 f | exact EqAt.str_tuple _ _ q f | exact EqAt.tuple_str _ _ q1 f | exact EqAt.str_list _ _ q f | exact EqAt.list_str _ _ q1 f | exact EqAt.tuple_list q1 q f | exact EqAt.list_tuple q1 q f
theorem Gp (I:Inv X pins σ H s) (y:Same F H):∀ (n:Nat) {A:iL} {v w:V} {d e:D} {u t:ip} {b:Bool},A.units+n < iX->Is X.K F v d->Is X.K F w e->RelV v u->RelV w t->eqN n d e=ii b->EqAt A s u t b:=by
 intro n
 induction n with
 | zero=>exact λB h1 h2 x r h=>qg9 (by lia) (XN I y (.inl h1) x) (XN I y (.inl h2) r) h
 | succ n o=>
  intro A v w d e u t b B h1 h2 x r h;have i:A.in1.units+n < iX:=by show A.units+1+n < iX; lia
  by_cases both:(∃ xs ys,d=.tup xs/\e=.tup ys)\/(∃ xs ys,d=.lst xs/\e=.lst ys)
  ·rcases both with ⟨ds,es,rfl,rfl⟩ | ⟨ds,es,rfl,rfl⟩
   ·have g:=h1;have f:=h2;cases h1 with
    | tup p1 l=>
     cases h2 with
     | tup p2 j=>
      rename_i a xs c ys;cases x;cases r;by_cases ne:a=c;·subst ne;rw [Go I y (n+1) g f h];exact EqAt.same _
      ·exact EqAt.of_refs ne (Yr I (λm k z q p=>o i m k z q p) (jj y p1) (jj y p2) l j h (by lia))
   ·have g:=h1;have f:=h2;cases h1 with
    | lst p1 l=>
     cases h2 with
     | lst p2 j=>
      rename_i a xs c ys;cases x;cases r;by_cases ne:a=c;·subst ne;rw [Go I y (n+1) g f h];exact EqAt.same _
      ·exact EqAt.of_refs ne (Ys I (λm k z q p=>o i m k z q p) (y.seq p1) (y.seq p2) l j h (by lia))
  ·have e1:eqN (n+1) d e=eqS d e:=Yq (λxs ys m k=>both (.inl ⟨xs,ys,m,k⟩)) (λxs ys m k=>both (.inr ⟨xs,ys,m,k⟩));have e2:eqN n d e=eqS d e:=Yq (λxs ys m k=>both (.inl ⟨xs,ys,m,k⟩)) (λxs ys m k=>both (.inr ⟨xs,ys,m,k⟩));exact o (by lia) h1 h2 x r (by rw [e2,<-e1]; exact h)
end
end L2.D2
namespace L2.D2
open PySem PySem.Spec PyProof.Rows
open PySem.SeqAt
variable {X:Cx} {A:iL} {n:Nat} {b:Bool}
section
variable {pins:Pns} {σ:St} {F H:Hp} {s:iu}
theorem qco {a c:Addr} {xs ys:List V} {ds es:List D} (I:Inv X pins σ H s) (j:∀ {v w:V} {d e:D} {u t:ip} {b:Bool},Is X.K F v d->Is X.K F w e->RelV v u->RelV w t->eqN n d e=ii b->EqAt A.in1 s u t b)
  (p1:SqT X.K H a xs) (p2:SqT X.K H c ys) (i1:IsL X.K F xs ds) (i2:IsL X.K F ys es) (h:eqN (n+1) (.tup ds) (.tup es)=ii b) (m:A.units < iX):RcNeAt A s (.ref a) (.ref c) (!b):=by
 obtain ⟨us,r1,g,_⟩:=I.tuple p1;obtain ⟨ws,r2,f,_⟩:=I.tuple p2;simp only [eqN] at h;cases q:wU (eqN n) ds es with
 | none=>rw [q] at h; simp at h
 | some k=>
  rw [q] at h;have i:us.toArray.size=ds.length:=by rw [au,<-r1.length,i1.length]
  have l:ws.toArray.size=es.length:=by rw [au,<-r2.length,i2.length]
  have z:=RcNeAt.tuples (A:=A) g f m (ya (A:=A.in1) j r1 r2 i1 i2 q);rw [i,l,<-wj q] at z;have e:b=(k&&ds.length == es.length):=by simpa using h.symm
  rw [e]; exact z
theorem qcp {a c:Addr} {xs ys:List V} {ds es:List D} (I:Inv X pins σ H s) (k:∀ {v w:V} {d e:D} {u t:ip} {b:Bool},Is X.K F v d->Is X.K F w e->RelV v u->RelV w t->eqN n d e=ii b->EqAt A.in1 s u t b)
  (p1:SqL X.K H a xs) (p2:SqL X.K H c ys) (i1:IsL X.K F xs ds) (i2:IsL X.K F ys es) (h:eqN (n+1) (.lst ds) (.lst es)=ii b) (j:A.units < iX):RcNeAt A s (.ref a) (.ref c) (!b):=by
 obtain ⟨us,r1,g,_⟩:=I.list p1;obtain ⟨ws,r2,f,_⟩:=I.list p2;have i:us.toArray.size=ds.length:=by rw [au,<-r1.length,i1.length]
 have l:ws.toArray.size=es.length:=by rw [au,<-r2.length,i2.length]
 simp only [eqN] at h;by_cases hl:ds.length=es.length;·rw [Aa hl] at h;have z:=RcNeAt.lists (A:=A) g.isList f.isList (by lia) j (ya (A:=A.in1) k r1 r2 i1 i2 h);have e:=wj h;rw [i] at z;rw [e,show min ds.length es.length=ds.length by lia];exact z
 ·rw [Ab hl] at h;cases h;exact RcNeAt.lists_lengths g.isList f.isList (bne_iff_ne.mpr (by rw [i,l]; exact hl)) j
theorem qha (I:Inv X pins σ H s) (y:Same F H) {v w:V} {d e:D} {u t:ip} (k:A.units+n+1 < iX) (i:TopIs X.K F H v d) (g:TopIs X.K F H w e) (x:RelV v u) (r:RelV w t) (h:eqN (n+1) d e=ii b):RcAt A s u t b:=by
 have f:A.units < iX:=by lia
 have j:∀ {v w:V} {d e:D} {u t:ip} {b:Bool},Is X.K F v d->Is X.K F w e->RelV v u->RelV w t->eqN n d e=ii b->EqAt A.in1 s u t b:=λo m z l p=>Gp I y n (by show A.units+1+n < iX; lia) o m z l p;have k1:=XN I y i x;have k2:=XN I y g r;cases d <;> cases e <;> try (cases h; done)
 case tup.tup=>
  obtain ⟨a,xs,rfl,p1,i1⟩:=i.tup y; obtain ⟨c,ys,rfl,p2,i2⟩:=g.tup y; cases x; cases r;exact Yr I j p1 p2 i1 i2 h f
 case lst.lst=>
  obtain ⟨a,xs,rfl,p1,i1⟩:=i.lst y; obtain ⟨c,ys,rfl,p2,i2⟩:=g.lst y; cases x; cases r;exact Ys I j p1 p2 i1 i2 h f
 all_goals
  cases h;clear x r i g;first | obtain ⟨_,_,rfl,q1⟩:=k1 | obtain ⟨_,rfl⟩:=k1 | cases k1
  first | obtain ⟨_,_,rfl,q⟩:=k2 | obtain ⟨_,rfl⟩:=k2 | cases k2
  with_reducible first | exact RcAt.none_none | exact RcAt.none_bool _ | exact RcAt.none_int _ _ | exact RcAt.none_str _ _ | exact RcAt.bool_none _ | exact RcAt.bool_bool _ _ | exact RcAt.bool_int _ _ _ | exact RcAt.bool_str _ _ _ | exact RcAt.int_none _ _ | exact RcAt.int_bool _ _ _ | exact RcAt.int_int _ _ _ _ | exact RcAt.int_str _ _ _ _ | exact RcAt.str_none _ _ | exact RcAt.str_bool _ _ _ | exact RcAt.str_int _ _ _ _ | exact RcAt.str_str _ _ _ _ | exact RcAt.none_tuple q f | exact RcAt.tuple_none q1 f | exact RcAt.none_list q f | exact RcAt.list_none q1 f | exact RcAt.bool_tuple _ q f | exact RcAt.tuple_bool _ q1 f | exact RcAt.bool_list _ q f | exact RcAt.list_bool _ q1 f | exact RcAt.int_tuple _ _ q f | exact RcAt.tuple_int _ _ q1 f | exact RcAt.int_list _ _ q f | exact RcAt.list_int _ _ q1 f | exact RcAt.str_tuple _ _ q f | exact RcAt.tuple_str _ _ q1 f | exact RcAt.str_list _ _ q f | exact RcAt.list_str _ _ q1 f | exact RcAt.tuple_list q1 q f | exact RcAt.list_tuple q1 q f
theorem qhb (I:Inv X pins σ H s) (y:Same F H) {v w:V} {d e:D} {u t:ip} (k:A.units+n+1 < iX) (i:TopIs X.K F H v d) (g:TopIs X.K F H w e) (x:RelV v u) (r:RelV w t) (h:eqN (n+1) d e=ii b):RcNeAt A s u t (!b):=by
 have f:A.units < iX:=by lia
 have j:∀ {v w:V} {d e:D} {u t:ip} {b:Bool},Is X.K F v d->Is X.K F w e->RelV v u->RelV w t->eqN n d e=ii b->EqAt A.in1 s u t b:=λo m z l p=>Gp I y n (by show A.units+1+n < iX; lia) o m z l p;have k1:=XN I y i x;have k2:=XN I y g r;cases d <;> cases e <;> try (cases h; done)
 case tup.tup=>
  obtain ⟨a,xs,rfl,p1,i1⟩:=i.tup y; obtain ⟨c,ys,rfl,p2,i2⟩:=g.tup y; cases x; cases r;exact qco I j p1 p2 i1 i2 h f
 case lst.lst=>
  obtain ⟨a,xs,rfl,p1,i1⟩:=i.lst y; obtain ⟨c,ys,rfl,p2,i2⟩:=g.lst y; cases x; cases r;exact qcp I j p1 p2 i1 i2 h f
 all_goals
  cases h;clear x r i g;first | obtain ⟨_,_,rfl,q1⟩:=k1 | obtain ⟨_,rfl⟩:=k1 | cases k1
  first | obtain ⟨_,_,rfl,q⟩:=k2 | obtain ⟨_,rfl⟩:=k2 | cases k2
  try simp only [Bool.not_true,Bool.not_false]
  with_reducible first | exact RcNeAt.none_none | exact RcNeAt.none_bool _ | exact RcNeAt.none_int _ _ | exact RcNeAt.none_str _ _ | exact RcNeAt.bool_none _ | exact RcNeAt.bool_bool _ _ | exact RcNeAt.bool_int _ _ _ | exact RcNeAt.bool_str _ _ _ | exact RcNeAt.int_none _ _ | exact RcNeAt.int_bool _ _ _ | exact RcNeAt.int_int _ _ _ _ | exact RcNeAt.int_str _ _ _ _ | exact RcNeAt.str_none _ _ | exact RcNeAt.str_bool _ _ _ | exact RcNeAt.str_int _ _ _ _ | exact RcNeAt.str_str _ _ _ _ | exact RcNeAt.none_tuple q f | exact RcNeAt.tuple_none q1 f | exact RcNeAt.none_list q f | exact RcNeAt.list_none q1 f | exact RcNeAt.bool_tuple _ q f | exact RcNeAt.tuple_bool _ q1 f | exact RcNeAt.bool_list _ q f | exact RcNeAt.list_bool _ q1 f | exact RcNeAt.int_tuple _ _ q f | exact RcNeAt.tuple_int _ _ q1 f | exact RcNeAt.int_list _ _ q f | exact RcNeAt.list_int _ _ q1 f | exact RcNeAt.str_tuple _ _ q f | exact RcNeAt.tuple_str _ _ q1 f | exact RcNeAt.str_list _ _ q f | exact RcNeAt.list_str _ _ q1 f | exact RcNeAt.tuple_list q1 q f | exact RcNeAt.list_tuple q1 q f | with_unfolding_all first | exact RcNeAt.bool_bool _ _ | exact RcNeAt.bool_int _ _ _ | exact RcNeAt.int_bool _ _ _ | exact RcNeAt.int_int _ _ _ _ | exact RcNeAt.str_str _ _ _ _
end
noncomputable def eqD (a b:D):Out D:=match eqN 8 a b with
 | some c=>.ok (.bl c)
 | none=>.bad
noncomputable def neD (a b:D):Out D:=match eqN 8 a b with
 | some c=>.ok (.bl (!c))
 | none=>.bad
section
variable {C:Ct}
theorem vW (a:C.K=X.K) (g:X.A.units+64 < iX):OpD X C .sh (iI .Eq) eqD:=by
 intro pins s σ H x y v u Q I d r h;obtain ⟨F,dx,f,b,tx,ty,po⟩:=h;rw [a] at tx ty;unfold eqD at po;cases e:eqN 8 dx f with
 | none=>rw [e] at po; exact po.elim
 | some c=>rw [e] at po;exact qha I b (n:=7) (by lia) tx ty d r e _ _ _ _ ⟨.bl c,H,I,rfl,po _ F H b .refl (.bl _)⟩
theorem xN (a:C.K=X.K) (g:X.A.units+64 < iX):OpD X C .sh (iI .NotEq) neD:=by
 intro pins s σ H x y v u Q I d r h;obtain ⟨F,dx,f,b,tx,ty,po⟩:=h;rw [a] at tx ty;unfold neD at po;cases e:eqN 8 dx f with
 | none=>rw [e] at po; exact po.elim
 | some c=>rw [e] at po;exact qhb I b (n:=7) (by lia) tx ty d r e _ _ _ _ ⟨.bl _,H,I,rfl,po _ F H b .refl (.bl _)⟩
end
end L2.D2
namespace L2.D2
open PySem PySem.Spec PyProof.Rows
open PySem.SeqAt
variable {X:Cx} {pins:Pns} {σ:St} {F H:Hp} {s:iu} {n:Nat} {v:V} {d e:D} {b:Bool}
section
theorem qe4 (I:Inv X pins σ H s) (y:Same F H):∀ (n:Nat) {v:V} {d d' e:D} {b g:Bool},Is X.K F v d->Is X.K F v d'->eqN n d e=ii b->eqN n d' e=ii g->b=g:=by
 intro n
 induction n with
 | zero=>
  intro v d d' e b g h1 h2 e1 e2;have s1:=Gm e1;have s2:=Gm e2;cases h1 <;> cases h2 <;> first
   | exact aK.inj (e1.symm.trans e2)
   | (cases s1; done)
   | (cases s2; done)
   | exact (Gn I y (by assumption) (by assumption)).elim
   | exact aK.inj (e1.symm.trans (eU (by cases e <;> rfl) e2))
 | succ n o=>
  have l:∀ {xs:List V} {ds f es:List D} {b g:Bool},IsL X.K F xs ds->IsL X.K F xs f->wU (eqN n) ds es=ii b->wU (eqN n) f es=ii g->b=g:=by
   intro xs
   induction xs with
   | nil=>intro ds f es b g h1 h2 e1 e2; cases h1; cases h2; exact aK.inj (e1.symm.trans e2)
   | cons x xs k=>
    intro ds f es b g h1 h2 e1 e2;cases h1 with
    | cons r h=>
     cases h2 with
     | cons p t=>
      cases es with
      | nil=>exact aK.inj (e1.symm.trans e2)
      | cons e es=>obtain ⟨a,c,q,m,rfl⟩:=gp e1;obtain ⟨u,T,j,i,rfl⟩:=gp e2;rw [o r p q j,k h t m i]
  intro v d d' e b g h1 h2 e1 e2;have s1:=Gm e1;have s2:=Gm e2;cases h1 with
  | tup p1 h=>
   cases h2 with
   | tup p2 t=>
    have q:=I.tuple_inj (jj y p1) (jj y p2);subst q;have hl:=h.length.symm.trans t.length;cases e with
    | tup es=>obtain ⟨c,q,rfl⟩:=Ua e1;obtain ⟨T,j,rfl⟩:=Ua e2;rw [l h t q j,hl]
    | _=>exact aK.inj (e1.symm.trans e2)
   | lst p2 t=>exact (Gn I y p1 p2).elim
   | _=>cases s2
  | lst p1 h=>
   cases h2 with
   | lst p2 t=>
    have q:=I.list_inj (y.seq p1) (y.seq p2);subst q;have hl:=h.length.symm.trans t.length;cases e with
    | lst es=>
     have e1:(if _=es.length then wU (eqN n) _ es else ii iq)=ii b:=e1;have e2:(if _=es.length then wU (eqN n) _ es else ii iq)=ii g:=e2;rw [hl] at e1;split at e2;·rw [Aa (by assumption)] at e1; exact l h t e1 e2
     ·rw [Ab (by assumption)] at e1; exact aK.inj (e1.symm.trans e2)
    | _=>exact aK.inj (e1.symm.trans e2)
   | tup p2 t=>exact (Gn I y p2 p1).elim
   | _=>cases s2
  | _=>cases h2 <;> first
   | exact aK.inj (e1.symm.trans e2)
   | (cases s1; done)
   | (cases s2; done)
open Classical in
noncomputable def qbW (X:Cx) (F:Hp) (n:Nat) (e:D) (u:ip):Bool:=decide (∃ v d,Is X.K F v d/\RelV v u/\eqN n d e=ii ir)
open Classical in
theorem qe5 (I:Inv X pins σ H s) (y:Same F H) {u:ip} (h:Is X.K F v d) (r:RelV v u) (q:eqN n d e=ii b):qbW X F n e u=b:=by
 unfold qbW;cases b with
 | true=>exact Ad ⟨v,d,h,r,q⟩
 | false=>refine Ac ?_;rintro ⟨w,d',h',r',g⟩;have e:=r.inj r';subst e;exact absurd (qe4 I y n h h' q g) (by decide)
noncomputable def WM (n:Nat) (e:D):List D->Option Bool
 | []=>ii iq
 | d::ds=>(eqN n d e).bind λa=>(WM n e ds).bind λb=>ii (a||b)
theorem Gq {ds:List D} (h:WM n e (d::ds)=ii b):∃ a c,eqN n d e=ii a/\WM n e ds=ii c/\b=(a||c):=by
 unfold WM at h;cases q:eqN n d e with
 | none=>rw [q] at h; simp at h
 | some a=>
  cases f:WM n e ds with
  | none=>rw [q,f] at h; simp at h
  | some c=>rw [q,f] at h; exact ⟨a,c,rfl,rfl,(aK.inj h).symm⟩
theorem Gr (I:Inv X pins σ H s) (y:Same F H):∀ {vs:List V} {ds:List D} {us:List ip} {b:Bool},IsL X.K F vs ds->Vals vs us->WM n e ds=ii b->us.any (qbW X F n e)=b/\∀ u∈us,∃ v d a,Is X.K F v d/\RelV v u/\eqN n d e=ii a/\qbW X F n e u=a
 | _,_,_,b,.nil,.nil,h=>⟨by simpa using (aK.inj h),λu f=>nomatch f⟩
 | _,_,_,b,.cons i t,.cons r rs,h=>by
  obtain ⟨a,c,q1,q,rfl⟩:=Gq h;obtain ⟨j,g⟩:=Gr I y t rs q;have e1:=qe5 I y i r q1;refine ⟨by rw [cG,e1,j],λu f=>?_⟩;rcases ac.mp f with rfl | f;·exact ⟨_,_,a,i,r,q1,e1⟩
  ·exact g u f
end
noncomputable def inD (x y:D):Out Bool:=match y with
 | .lst ds=>match WM 7 x ds with
  | some b=>.ok b
  | none=>.bad
 | .tup ds=>match WM 7 x ds with
  | some b=>.ok b
  | none=>.bad
 | _=>.bad
noncomputable def qiB (x y:D):Out D:=(inD x y).bind λb=>.ok (.bl b)
noncomputable def XO (x y:D):Out D:=(inD x y).bind λb=>.ok (.bl (!b))
theorem TopIs.is {K:Frag} (s:Same F H) (h:TopIs K F H v d):∃ F',Same F F'/\Same F' H/\Is K F' v d:=by
 rcases h with h | ⟨a,rfl,o⟩
 ·exact ⟨F,Same.refl _,s,h⟩
 ·obtain ⟨u,hu⟩:∃ u,H a=ii u:=by
   cases q:H a with
   | none=>exact absurd q o.there
   | some u=>exact ⟨u,rfl⟩
  by_cases f:F a=ij
  ·have gr:Same F (upd F a u):=λb w e=>by rw [qA (qJ e f)]; exact e
   refine ⟨upd F a u,gr,λb w e=>?_,?_⟩
   ·by_cases q:b=a;·subst q; rw [qu] at e; cases e; exact hu
    ·rw [qA q] at e; exact s b w e
   ·cases d with
    | lst ds=>obtain ⟨xs,e,t⟩:=o; rw [hu] at e; cases e; exact .lst (.inl (.inl qu)) (t.mono gr)
    | dct ds=>obtain ⟨xs,e,t⟩:=o; rw [hu] at e; cases e; exact .dct qu (t.mono gr)
    | ins C fs=>obtain ⟨dx,xs,e,t⟩:=o; rw [hu] at e; cases e; exact .ins qu (t.mono gr)
    | at_ b ds=>obtain ⟨G,xs,e,t⟩:=o; rw [hu] at e; cases e; subst G; exact .at_ (.inl (.inl qu)) (t.mono gr)
    | _=>exact o.elim
  ·obtain ⟨w,hw⟩:∃ w,F a=ii w:=by
    cases q:F a with
    | none=>exact absurd q f
    | some w=>exact ⟨w,rfl⟩
   have e:=s a w hw;cases d with
   | lst ds=>obtain ⟨xs,c,t⟩:=o; rw [c] at e; cases e; exact ⟨F,Same.refl _,s,.lst (.inl (.inl hw)) t⟩
   | dct ds=>obtain ⟨xs,c,t⟩:=o; rw [c] at e; cases e; exact ⟨F,Same.refl _,s,.dct hw t⟩
   | ins C fs=>obtain ⟨dx,xs,c,t⟩:=o; rw [c] at e; cases e; exact ⟨F,Same.refl _,s,.ins hw t⟩
   | at_ b ds=>obtain ⟨G,xs,c,t⟩:=o; rw [c] at e; cases e; subst G; exact ⟨F,Same.refl _,s,.at_ (.inl (.inl hw)) t⟩
   | _=>exact o.elim
section
variable {C:Ct}
theorem Yt {A:iL} {y x:V} {dx:D} {ds:List D} {b:Bool} {u v:ip} {a:Addr} {us:List ip} {xs:List V} (I:Inv X pins σ H s) (j:A.units+64 < iX) (c:Same F H) (ix:Is X.K F x dx) (f:RelV x v)
  (i:IsL X.K F xs ds) (r:Vals xs us) (h:WM 7 dx ds=ii b):us.any (qbW X F 7 dx)=b/\∀ w,w∈us.toArray->EqAt A.in1 s w v (qbW X F 7 dx w):=by
 obtain ⟨h1,h2⟩:=Gr I c i r h;refine ⟨h1,λw g=>?_⟩;obtain ⟨vv,d,k,i1,r1,q,e⟩:=h2 w (by simpa using g);rw [e];exact Gp I c 7 (by show A.units+1+7 < iX; lia) i1 ix r1 f q
theorem qjp (n:C.K=X.K) (j:X.A.units+64 < iX):OpD X C .sh (iI .In) qiB:=by
 intro pins s σ H x y v u Q I g f h;obtain ⟨F,dx,k,d,tx,ty,po⟩:=h;rw [n] at tx ty;unfold qiB inD at po;obtain ⟨F',g',c,ix⟩:=tx.is d;cases k with
 | lst ds=>
  cases e:WM 7 dx ds with
  | none=>simp only [e] at po; exact po.elim
  | some b=>simp only [e] at po;obtain ⟨a,xs,rfl,p,i⟩:=ty.lst d;cases f;obtain ⟨us,r,pl,_⟩:=I.list p;obtain ⟨h1,h2⟩:=Yt (A:=X.A) (y:=.non) (a:=a) (u:=.none) I j c ix g (i.mono g') r e;refine in_listAt (qbW X F' 7 dx) pl.isList h2 ⟨.bl b,H,I,by show _=_; rw [<-h1]; simp,po _ F H d .refl (.bl _)⟩
 | tup ds=>
  cases e:WM 7 dx ds with
  | none=>simp only [e] at po; exact po.elim
  | some b=>simp only [e] at po;obtain ⟨a,xs,rfl,p,i⟩:=ty.tup d;cases f;obtain ⟨us,r,pl,_⟩:=I.tuple p;obtain ⟨h1,h2⟩:=Yt (A:=X.A) (y:=.non) (a:=a) (u:=.none) I j c ix g (i.mono g') r e;refine in_tupleAt (qbW X F' 7 dx) pl h2 ⟨.bl b,H,I,by show _=_; rw [<-h1]; simp,po _ F H d .refl (.bl _)⟩
 | _=>exact po.elim
theorem qcq (n:C.K=X.K) (j:X.A.units+64 < iX):OpD X C .sh (iI .NotIn) XO:=by
 intro pins s σ H x y v u Q I g f h;obtain ⟨F,dx,k,d,tx,ty,po⟩:=h;rw [n] at tx ty;unfold XO inD at po;obtain ⟨F',g',c,ix⟩:=tx.is d;cases k with
 | lst ds=>
  cases e:WM 7 dx ds with
  | none=>simp only [e] at po; exact po.elim
  | some b=>simp only [e] at po;obtain ⟨a,xs,rfl,p,i⟩:=ty.lst d;cases f;obtain ⟨us,r,pl,_⟩:=I.list p;obtain ⟨h1,h2⟩:=Yt (A:=X.A) (y:=.non) (a:=a) (u:=.none) I j c ix g (i.mono g') r e;refine notIn_listAt (qbW X F' 7 dx) pl.isList h2 ⟨.bl (!b),H,I,by show _=_; rw [<-h1]; simp,po _ F H d .refl (.bl _)⟩
 | tup ds=>
  cases e:WM 7 dx ds with
  | none=>simp only [e] at po; exact po.elim
  | some b=>simp only [e] at po;obtain ⟨a,xs,rfl,p,i⟩:=ty.tup d;cases f;obtain ⟨us,r,pl,_⟩:=I.tuple p;obtain ⟨h1,h2⟩:=Yt (A:=X.A) (y:=.non) (a:=a) (u:=.none) I j c ix g (i.mono g') r e;refine notIn_tupleAt (qbW X F' 7 dx) pl h2 ⟨.bl (!b),H,I,by show _=_; rw [<-h1]; simp,po _ F H d .refl (.bl _)⟩
 | _=>exact po.elim
end
end L2.D2
namespace L2.D2
open PySem PySem.Spec PyProof.Rows
def PoT (C:Ct) (own:List Nat) (σ:St) (F H:Hp) (r:Out (Bool×Sl)) (Q:Bool->Hp->Prop):Prop:=match r with
 | .ok (b,ρ')=>∀ F' H',Rep C.K own F' H' σ ρ'->Chg (OA own σ) F H F' H'->Q b H'
 | .exc c ρ'=>∀ F' H',Same F' H'->ZK C.K C.ox F' H' σ ρ'->Chg (OA own σ) F H F' H'->C.E (C.cv c) ij H'
 | .bad=>False
abbrev yA:=Sl->Out (Bool×Sl)
def tT (C:Ct) (own:List Nat) (f:yA):TT:=λσ H Q=>∃ F ρ,Rep C.K own F H σ ρ/\PoT C own σ F H (f ρ) Q
variable {C:Ct} {own:List Nat} {σ:St} {F H F1 H1:Hp} {Q:Bool->Hp->Prop}
theorem PoT.shift {r:Out (Bool×Sl)} (h:PoT C own σ F H r Q) (c:Chg (OA own σ) F H F1 H1):PoT C own σ F1 H1 r Q:=by
 cases r with
 | ok p=>exact λF' H' a T=>h F' H' a (c.trans' T)
 | exc x=>exact λF' H' s io T=>h F' H' s io (c.trans' T)
 | bad=>exact h.elim
theorem PoT.bindV {ma:Mo} {o:WL} {k:D×Sl->Out (Bool×Sl)} {R:VK} (hp:PoT C own σ F H (o.bind k) Q)
  (h:∀ v F1 H1 d ρ1,Rep C.K own F1 H1 σ ρ1->Chg (OA own σ) F H F1 H1->MoIs C.K ma H F1 H1 v d->PoT C own σ F1 H1 (k (d,ρ1)) Q->R v H1):Po C own ma σ F H o R:=by
 cases o with
 | ok p=>obtain ⟨d,ρ1⟩:=p;exact λv F1 H1 a c m=>h v F1 H1 d ρ1 a c m (PoT.shift (show PoT C own σ F H (k (d,ρ1)) Q from hp) c)
 | exc x=>exact hp
 | bad=>exact hp.elim
variable {o:Out (Bool×Sl)}
theorem PoT.bindT {k:Bool×Sl->Out (Bool×Sl)} {R:Bool->Hp->Prop} (hp:PoT C own σ F H (o.bind k) Q)
  (h:∀ F1 H1 b ρ1,Rep C.K own F1 H1 σ ρ1->Chg (OA own σ) F H F1 H1->PoT C own σ F1 H1 (k (b,ρ1)) Q->R b H1):PoT C own σ F H o R:=by
 cases o with
 | ok p=>obtain ⟨d,ρ1⟩:=p;exact λF1 H1 a c=>h F1 H1 d ρ1 a c (PoT.shift (show PoT C own σ F H (k (d,ρ1)) Q from hp) c)
 | exc x=>exact hp
 | bad=>exact hp.elim
variable {m:Mo}
theorem Po.bindT {k:Bool×Sl->WL} {Q:VK} {R:Bool->Hp->Prop} (hp:Po C own m σ F H (o.bind k) Q)
  (h:∀ F1 H1 b ρ1,Rep C.K own F1 H1 σ ρ1->Chg (OA own σ) F H F1 H1->Po C own m σ F1 H1 (k (b,ρ1)) Q->R b H1):PoT C own σ F H o R:=by
 cases o with
 | ok p=>obtain ⟨d,ρ1⟩:=p;exact λF1 H1 a c=>h F1 H1 d ρ1 a c (Po.shift (show Po C own m σ F H (k (d,ρ1)) Q from hp) c)
 | exc x=>exact hp
 | bad=>exact hp.elim
noncomputable def ZL:D->Out Bool
 | .non=>.ok iq
 | .bl b=>.ok b
 | .int i=>.ok (i != 0)
 | .str x=>.ok ((x.length:Int) != 0)
 | .tup xs=>.ok (!xs.isEmpty)
 | .lst xs=>.ok (!xs.isEmpty)
 | .dct xs=>.ok (!xs.isEmpty)
 | .raw _=>.bad
 | .xcp _=>.bad
 | .ins _ _=>.bad
 | .at_ _ _=>.bad
noncomputable def ui (f:jl):yA:=λρ=>(f ρ).bind λp=>(ZL p.1).bind λb=>.ok (b,p.2)
variable {K:Frag} {vs:List V} {ds:List D}
theorem IsL.isEmpty (h:IsL K F vs ds):vs.isEmpty=ds.isEmpty:=by cases h <;> rfl
theorem IsK.isEmpty {vs:List (Key×V)} {ds:List (Key×D)} (h:IsK K F vs ds):vs.isEmpty=ds.isEmpty:=by cases h <;> rfl
variable {v:V} {d:D}
theorem qe6 {b:Bool} (s:Same F H) (h:TopIs K F H v d) (e:ZL d=.ok b):qjd K v H b:=by
 cases d with
 | non=>obtain rfl:=h.non; cases e; rfl
 | bl x=>obtain rfl:=h.bl; cases e; rfl
 | int x=>obtain rfl:=h.int; cases e; rfl
 | str x=>obtain ⟨rfl,q⟩:=h.str; cases e; exact ⟨q,rfl⟩
 | tup x=>obtain ⟨a,xs,rfl,p,t⟩:=h.tup s; cases e; exact .inr (.inl ⟨xs,p,by rw [t.isEmpty]⟩)
 | lst x=>obtain ⟨a,xs,rfl,p,t⟩:=h.lst s; cases e; exact .inl ⟨xs,p,by rw [t.isEmpty]⟩
 | dct x=>obtain ⟨a,xs,rfl,p,t⟩:=h.dct s; cases e; exact .inr (.inr ⟨xs,p,by rw [t.isEmpty]⟩)
 | raw x=>cases e
 | xcp x=>cases e
 | ins x y=>cases e
 | at_ x y=>cases e
noncomputable def qC (f:jl):yA:=λρ=>(f ρ).bind λp=>match p.1 with
 | .bl b=>.ok (b,p.2)
 | _=>.bad
variable {X:Cx} {c e t:Expr} {ma mb:Mo} {pos:Pos} {op op':CmpOp} {ρ:Sl} {g':D->D->Out D}
section
variable {a b:Expr} {f fa fb fc:jl} {ft fu:yA} {mc:Mo} {rest:List Expr}
theorem qe7 (n:C.K=X.K) (h:PE X e (tE C own m f)) (i:∀ whole,isTrue e X.env whole=(do let v <-whole; standAt e.pos; holding [v] (truthy v))):PT X e (tT C own (ui f)):=by
 refine qcm (qb8 h i) λσ H Q ⟨F,ρ,r,h⟩=>⟨F,ρ,r,PoT.bindV h λv F1 H1 d ρ1 a c1 c h1=>?_⟩
 cases q:ZL d with
 | ok k=>have h1:PoT C own σ F1 H1 ((ZL d).bind λb=>.ok (b,ρ1)) Q:=h1;rw [q] at h1;exact ⟨k,by rw [<-n]; exact qe6 a.sub c.top q,h1 F1 H1 a .refl⟩
 | exc x=>have h1:PoT C own σ F1 H1 ((ZL d).bind λb=>.ok (b,ρ1)) Q:=h1;cases d <;> cases q
 | bad=>have h1:PoT C own σ F1 H1 ((ZL d).bind λb=>.ok (b,ρ1)) Q:=h1;rw [q] at h1;exact h1.elim
theorem Gs (h:tT C own (qC f) σ H Q):tE C own .sh f σ H λx H'=>∃ k,x=.bl k/\Q k H':=by
 obtain ⟨F,ρ,r,h⟩:=h;refine ⟨F,ρ,r,PoT.bindV h λv F1 H1 d ρ1 a c1 c h1=>?_⟩;cases d with
 | bl k=>have c:Is C.K F1 v (.bl k):=c;cases c;exact ⟨k,rfl,h1 F1 H1 a .refl⟩
 | _=>exact h1.elim
theorem qE {g:D->D->Out D} (j:OpD X C .sh (iI op) g) (c:PE X a (tE C own ma fa)) (d:PE X b (tE C own mb fb)) (f:ma≠.any:=by decide)
  (k:lw op b=false:=by first | exact qdR _ | with_unfolding_all rfl):PT X (.Compare a [op] [b] pos) (tT C own (qC (d2 g fa fb))):=by
 refine qcm (qeM j c d k) λσ H Q h=>?_;exact Vl f (Gs h)
noncomputable def xK (ft:yA):yA:=λρ=>(ft ρ).bind λp=>.ok (!p.1,p.2)
theorem jk (h:PT X a (tT C own ft)):PT X (.UnaryOp .Not a pos) (tT C own (xK ft)):=by refine qcm (qgC h) λσ H Q ⟨F,ρ,p,h⟩=>⟨F,ρ,p,PoT.bindT h λF1 H1 b ρ1 r c1 h1=>h1 F1 H1 r .refl⟩
theorem qhc {e:Expr} {t t':TT} (h:PW X e t) (i:∀ σ H Q,t' σ H Q->t σ H Q):PW X e t':=⟨λw pins s σ H Q I a=>h w pins s σ H Q I (i σ H Q a)⟩
noncomputable def QM (ft fu:yA):yA:=λρ=>(ft ρ).bind λp=>if p.1=ir then fu p.2 else .ok (iq,p.2)
noncomputable def dOr (ft fu:yA):yA:=λρ=>(ft ρ).bind λp=>if p.1=ir then .ok (ir,p.2) else fu p.2
theorem jF {op} (h:PT X a (tT C own ft)):PW X (.BoolOp op [a] pos) (tT C own ft):=by
 cases op;·exact qeE h
 ·exact qgA h
theorem yB (g:PT X a (tT C own ft)) (d:PW X (.BoolOp .And (b::rest) pos) (tT C own fu)):PW X (.BoolOp .And (a::b::rest) pos) (tT C own (QM ft fu)):=by
 refine qhc (qgB g d) λσ H Q ⟨F,ρ,p,h⟩=>⟨F,ρ,p,PoT.bindT h λF1 H1 k ρ1 r c1 h1=>?_⟩
 cases k with
 | true=>exact ⟨F1,ρ1,r,h1⟩
 | false=>exact h1 F1 H1 r .refl
theorem wl (g:PT X a (tT C own ft)) (d:PW X (.BoolOp .Or (b::rest) pos) (tT C own fu)):PW X (.BoolOp .Or (a::b::rest) pos) (tT C own (dOr ft fu)):=by
 refine qhc (qiZ g d) λσ H Q ⟨F,ρ,p,h⟩=>⟨F,ρ,p,PoT.bindT h λF1 H1 k ρ1 r c1 h1=>?_⟩
 cases k with
 | true=>exact h1 F1 H1 r .refl
 | false=>exact ⟨F1,ρ1,r,h1⟩
noncomputable def Qw (fa fb:jl):jl:=λρ=>(fa ρ).bind λp=>match p.1 with
 | .bl ir=>fb p.2
 | .bl iq=>.ok (.bl iq,p.2)
 | _=>.bad
noncomputable def qki (fa fb:jl):jl:=λρ=>(fa ρ).bind λp=>match p.1 with
 | .bl ir=>.ok (.bl ir,p.2)
 | .bl iq=>fb p.2
 | _=>.bad
theorem QN {op} (h:PE X a (tE C own m f)):PE X (.BoolOp op [a] pos) (tE C own m f):=qgD h
theorem gq (g:PE X a (tE C own .sh fa)) (e:PE X (.BoolOp .And (b::rest) pos) (tE C own .sh fb)):PE X (.BoolOp .And (a::b::rest) pos) (tE C own .sh (Qw fa fb)):=by
 refine kf (qgE g e) λσ H Q ⟨F,ρ,p,h⟩=>⟨F,ρ,p,Po.bind h λv F1 H1 d ρ1 r c1 c h1=>?_⟩
 cases d with
 | bl k=>
  have c:Is C.K F1 v (.bl k):=c;cases c;refine ⟨k,rfl,?_⟩;cases k with
  | true=>exact ⟨F1,ρ1,r,h1⟩
  | false=>exact h1 _ F1 H1 r .refl (.bl _)
 | _=>exact h1.elim
noncomputable def dIf (ft:yA) (fa fb:jl):jl:=λρ=>(ft ρ).bind λp=>if p.1=ir then fa p.2 else fb p.2
theorem XQ (ht:PT X t (tT C own ft)) (g:PE X a (tE C own ma fa)) (d:PE X b (tE C own mb fb)) (h1:ma≠.any:=by decide) (h2:mb≠.any:=by decide):PE X (.IfExp t a b pos) (tE C own .sh (dIf ft fa fb)):=by
 refine kf (qb0 ht (uh g h1) (uh d h2)) λσ H Q ⟨F,ρ,p,h⟩=>⟨F,ρ,p,Po.bindT h λF1 H1 k ρ1 r c1 h1=>?_⟩
 cases k with
 | true=>exact ⟨F1,ρ1,r,h1⟩
 | false=>exact ⟨F1,ρ1,r,h1⟩
noncomputable def wV (g g':D->D->Out D) (fa fb fc:jl):jl:=λρ=>(fa ρ).bind λp=>(fb p.2).bind λq=>(g p.1 q.1).plain.bind λz=>match z with
 | .bl ir=>(fc q.2).bind λr=>(g' q.1 r.1).plain.bind λd=>.ok (d,r.2)
 | .bl iq=>.ok (.bl iq,q.2)
 | _=>.bad
theorem PoV.bind {o:Out D} {k:D->WL} {Q R:VK} (a:Rep C.K own F H σ ρ) (h:Po C own m σ F H (o.plain.bind k) Q)
  (e:∀ v F1 H1 d,Rep C.K own F1 H1 σ ρ->Chg No F H F1 H1->MoIs C.K ma H F1 H1 v d->Po C own m σ F1 H1 (k d) Q->R v H1):PoV C ma F H o R:=by
 cases o with
 | ok d=>exact λv F1 H1 s c b=>e v F1 H1 d (a.grow c s) c b (Po.shift (show Po C own m σ F H (k d) Q from h) c.ofNo)
 | exc c=>exact h.elim
 | bad=>exact h.elim
theorem Yu {g:D->D->Out D} {Q:VK} (s:ma≠.any) (l:mb≠.any) (h:tE C own .sh (wV g g' fa fb fc) σ H Q):ZV (λx y H Q=>∃ F dx n,Same F H/\TopIs C.K F H x dx/\TopIs C.K F H y n/\PoV C .sh F H (g dx n) Q) (λx y H Q=>∃ F dx n,Same F H/\TopIs C.K F H x dx/\TopIs C.K F H y n/\PoV C .sh F H (g' dx n) Q)
   (tE C own ma fa) (tE C own mb fb) (tE C own mc fc) σ H Q:=by
 obtain ⟨F,ρ,A,h⟩:=h;refine ⟨F,ρ,A,Po.bind h λv F1 H1 d ρ1 i c1 q h1=>⟨F1,ρ1,i,Po.bind h1 λw L H2 e ρ2 f c2 j h2=>?_⟩⟩;have oa:∀ x,OA own σ x->H x≠none:=λx z=>(A.OA_there z).1;have o:∀ x,OA own σ x->H1 x≠none:=λx z=>(i.OA_there z).1;refine ⟨L,d,e,f.sub,(q.grow s c2 oa).top,j.top,PoV.bind (m:=.sh) f h2 λz u I G c c3 a t=>?_⟩;cases G with
 | bl k=>
  have a:Is C.K u z (.bl k):=a;cases a;refine ⟨k,rfl,?_⟩;cases k with
  | true=>refine ⟨u,ρ2,c,Po.bind t λS J M r B b c4 p E=>?_⟩;exact ⟨J,e,r,b.sub,((j.grow l (c3.ofNo) o).grow l c4 o).top,p.top,PoV.of b E⟩
  | false=>exact t _ u I c .refl (.bl _)
 | _=>exact t.elim
theorem Yv {g:D->D->Out D} (j:OpD X C .sh (iI op) g) (d:OpD X C .sh (iI op') g') (k:PE X a (tE C own ma fa)) (i:PE X b (tE C own mb fb)) (e:PE X c (tE C own mc fc)) (f:ma≠.any:=by decide) (l:mb≠.any:=by decide)
  (m:lastMarks [op,op'] [b,c]=false:=by with_unfolding_all rfl):PE X (.Compare a [op,op'] [b,c] pos) (tE C own .sh (wV g g' fa fb fc)):=kf (qb6 j d k i e m) λ_ _ _ h=>Yu f l h
theorem yZ {g:D->D->Out D} (j:OpD X C .sh (iI op) g) (d:OpD X C .sh (iI op') g') (k:PE X a (tE C own ma fa)) (i:PE X b (tE C own mb fb)) (e:PE X c (tE C own mc fc)) (f:ma≠.any:=by decide) (l:mb≠.any:=by decide)
  (m:lastMarks [op,op'] [b,c]=false:=by with_unfolding_all rfl):PT X (.Compare a [op,op'] [b,c] pos) (tT C own (qC (wV g g' fa fb fc))):=qcm (qb7 j d k i e m) λ_ _ _ h=>Yu f l (Gs h)
theorem Gu:OpR X (iI .LtE) (λx y H Q=>∃ i j,x=.str i/\y=.str j/\Q (.bl (!vf j i)) H):=by intro pins s σ H x y v u Q I d c h;obtain ⟨i,j,rfl,rfl,q⟩:=h;obtain ⟨t,rfl⟩:=d;obtain ⟨t',rfl⟩:=c;exact PySem.P.le_str (Yl I q (by simp [vf]))
noncomputable def leD:D->D->Out D
 | .int i,.int j=>.ok (.bl (decide (i<=j)))
 | .str x,.str y=>.ok (.bl (!vf y x))
 | _,_=>.bad
theorem zN:OpD X C .sh (iI .LtE) leD:=by
 intro pins s σ H x y v u Q I d c h;obtain ⟨F,dx,a,b,tx,ty,po⟩:=h;cases dx <;> try exact po.elim
 ·cases a <;> try exact po.elim
  obtain rfl:=tx.int;obtain rfl:=ty.int;exact qja pins s σ H _ _ v u Q I d c ⟨_,_,rfl,rfl,po _ F H b .refl (.bl _)⟩
 ·cases a <;> try exact po.elim
  obtain ⟨rfl,_⟩:=tx.str;obtain ⟨rfl,_⟩:=ty.str;exact Gu pins s σ H _ _ v u Q I d c ⟨_,_,rfl,rfl,po _ F H b .refl (.bl _)⟩
noncomputable def gtD:D->D->Out D:=yz λi j=>.ok (.bl (decide (j < i)))
theorem qhd:OpD X C .sh (iI .Gt) gtD:=WY qjb λ_ _ _=>.bl _
noncomputable def geD:D->D->Out D:=yz λi j=>.ok (.bl (decide (j<=i)))
theorem qe8:OpD X C .sh (iI .GtE) geD:=WY qjc λ_ _ _=>.bl _
noncomputable def qbX:D->D->Out D
 | .non,.non=>.ok (.bl ir)
 | .raw _,.non=>.bad
 | _,.non=>.ok (.bl iq)
 | _,_=>.bad
noncomputable def zO:D->D->Out D
 | .non,.non=>.ok (.bl iq)
 | .raw _,.non=>.bad
 | _,.non=>.ok (.bl ir)
 | _,_=>.bad
theorem TopIs.notN (h:TopIs K F H v d) (h1:d≠.non) (h2:∀ u,d≠.raw u):v≠.non:=by
 rintro rfl;rcases h with h | ⟨a,e,_⟩
 ·cases h;·exact h1 rfl
  ·exact h2 _ rfl
 ·cases e
theorem Gv:OpD X C .sh (iI .Is) qbX:=by
 intro pins s σ H x y v u Q I r c h;obtain ⟨F,dx,d,b,tx,ty,po⟩:=h;have a:d=.non:=by cases d <;> first | rfl | (cases dx <;> exact po.elim)
 subst a;obtain rfl:=ty.non;refine qgQ pins s σ H x .non v u Q I r c ⟨rfl,?_⟩;cases dx with
 | non=>obtain rfl:=tx.non; exact po _ F H b .refl (.bl _)
 | raw _=>exact po.elim
 | _=>rw [Ac (tx.notN (by intro z; cases z) (by intro _ z; cases z))]; exact po _ F H b .refl (.bl _)
theorem Ub:OpD X C .sh (iI .IsNot) zO:=by
 intro pins s σ H x y v u Q I r c h;obtain ⟨F,dx,d,b,tx,ty,po⟩:=h;have a:d=.non:=by cases d <;> first | rfl | (cases dx <;> exact po.elim)
 subst a;obtain rfl:=ty.non;refine qeK pins s σ H x .non v u Q I r c ⟨rfl,?_⟩;cases dx with
 | non=>obtain rfl:=tx.non; exact po _ F H b .refl (.bl _)
 | raw _=>exact po.elim
 | _=>rw [Ac (tx.notN (by intro z; cases z) (by intro _ z; cases z))]; exact po _ F H b .refl (.bl _)
end
inductive Fl where
 | nx | rt (d:D) | bk | ct
structure Nx (C:Ct) (own own':List Nat) (σ:St) (F H:Hp) (ρ':Sl) (σ':St) (F' H':Hp):Prop where
 rep:Rep C.K own' F' H' σ' ρ'
 chg:Chg (OA own σ) F H F' H'
 oa:∀ b,OA own' σ' b->OA own σ b\/H b=ij
 io:∀ i∈C.io,σ'[i]?=σ[i]?
def PoS (C:Ct) (own own':List Nat) (σ:St) (F H:Hp) (r:Out (Fl×Sl)) (D:Ends):Prop:=match r with
 | .ok (.nx,ρ')=>∀ σ' F' H',Nx C own own' σ F H ρ' σ' F' H'->D.nx σ' H'
 | .ok (.rt d,ρ')=>∀ v σ' F' H',Same F' H'->ZK C.K C.io F' H' σ' ρ'->Chg (OA own σ) F H F' H'->(∀ i∈C.io,σ'[i]?=σ[i]?)->MoIs C.K C.mr H F' H' v d->D.rt v H'
 | .ok (.bk,ρ')=>∀ σ' F' H',Nx C own C.ol σ F H ρ' σ' F' H'->D.bk σ' H'
 | .ok (.ct,ρ')=>∀ σ' F' H',Nx C own C.ol σ F H ρ' σ' F' H'->D.ct σ' H'
 | .exc c ρ'=>∀ F' H',Same F' H'->ZK C.K C.ox F' H' σ ρ'->Chg (OA own σ) F H F' H'->C.E (C.cv c) ij H'
 | .bad=>False
abbrev qN:=Sl->Out (Fl×Sl)
def tSt (C:Ct) (own own':List Nat) (f:qN):TS:=λD σ H=>∃ F ρ,Rep C.K own F H σ ρ/\PoS C own own' σ F H (f ρ) D
variable {o1 o2 o3:List Nat} {σ1:St} {ρ1:Sl}
theorem Nx.then {c:St} {d H2:Hp} {ρ2:Sl} (a:Nx C o1 o2 σ F H ρ1 σ1 F1 H1) (b:Nx C o2 o3 σ1 F1 H1 ρ2 c d H2):Nx C o1 o3 σ F H ρ2 c d H2 where
 rep:=b.rep
 chg:=a.chg.trans b.chg a.oa
 oa:=λx h=>by
  rcases b.oa x h with z | z;·exact a.oa x z
  ·refine .inr ?_;cases q:H x with
   | none=>rfl
   | some o=>exact absurd z (a.chg.stay x (by rw [q]; simp))
 io:=λi hi=>(b.io i hi).trans (a.io i hi)
theorem PoS.shift {r:Out (Fl×Sl)} {D:Ends} (h:PoS C o1 o3 σ F H r D) (a:Nx C o1 o2 σ F H ρ1 σ1 F1 H1):PoS C o2 o3 σ1 F1 H1 r D:=by
 cases r with
 | ok p=>
  obtain ⟨l,ρ'⟩:=p;cases l with
  | nx=>exact λσ' F' H' n=>h σ' F' H' (a.then n)
  | rt d=>exact λv σ' F' H' s io c e o=>h v σ' F' H' s io (a.chg.trans c a.oa) (λi hi=>(e i hi).trans (a.io i hi)) (MoIs.back (Ha:=H1) a.chg o)
  | bk=>exact λσ' F' H' n=>h σ' F' H' (a.then n)
  | ct=>exact λσ' F' H' n=>h σ' F' H' (a.then n)
 | exc c=>exact λF' H' s io T=>h F' H' s (λi hi=>by obtain ⟨d,b,e1,e2,e3⟩:=io i hi;exact ⟨d,b,e1,by rw [<-a.io i (C.oxs i hi)]; exact e2,e3⟩) (a.chg.trans T a.oa)
 | bad=>exact h.elim
theorem Nx.ofE (r:Rep C.K own F1 H1 σ ρ1) (c:Chg (OA own σ) F H F1 H1):Nx C own own σ F H ρ1 σ F1 H1:=⟨r,c,λ_ h=>.inl h,λ_ _=>rfl⟩
variable {own':List Nat}
theorem PoS.bindE {m:Mo} {o:WL} {k:D×Sl->Out (Fl×Sl)} {D:Ends} {R:VK} (hp:PoS C own own' σ F H (o.bind k) D)
  (h:∀ v F1 H1 d ρ1,Rep C.K own F1 H1 σ ρ1->Chg (OA own σ) F H F1 H1->MoIs C.K m H F1 H1 v d->PoS C own own' σ F1 H1 (k (d,ρ1)) D->R v H1):Po C own m σ F H o R:=by
 cases o with
 | ok p=>obtain ⟨d,ρ1⟩:=p;exact λv F1 H1 a c b=>h v F1 H1 d ρ1 a c b (PoS.shift (show PoS C own own' σ F H (k (d,ρ1)) D from hp) (.ofE a c))
 | exc x=>exact hp
 | bad=>exact hp.elim
theorem PoS.bindT {k:Bool×Sl->Out (Fl×Sl)} {D:Ends} {R:Bool->Hp->Prop} (hp:PoS C own own' σ F H (o.bind k) D)
  (h:∀ F1 H1 b ρ1,Rep C.K own F1 H1 σ ρ1->Chg (OA own σ) F H F1 H1->PoS C own own' σ F1 H1 (k (b,ρ1)) D->R b H1):PoT C own σ F H o R:=by
 cases o with
 | ok p=>obtain ⟨d,ρ1⟩:=p;exact λF1 H1 a c=>h F1 H1 d ρ1 a c (PoS.shift (show PoS C own own' σ F H (k (d,ρ1)) D from hp) (.ofE a c))
 | exc x=>exact hp
 | bad=>exact hp.elim
variable {b a:Addr} {t':TS} {st:Stmt} {i:Nat} {x:Str} {pos':Pos}
section
variable {sts rest:List Stmt} {f g:qN} {fe:jl} {ft:yA}
theorem Ju {t:TS} (h:PS X st t) (i:∀ D σ H,t' D σ H->t D σ H):PS X st t':=⟨λpins s σ H D I w=>h pins s σ H D I (i D σ H w)⟩
theorem Gw {t:TS} (h:PSs X sts t) (i:∀ D σ H,t' D σ H->t D σ H):PSs X sts t':=⟨λpins s σ H D I w=>h pins s σ H D I (i D σ H w)⟩
noncomputable def qK:qN:=λρ=>.ok (.nx,ρ)
noncomputable def qD (f g:qN):qN:=λρ=>(f ρ).bind λp=>match p.1 with
 | .nx=>g p.2
 | fl=>.ok (fl,p.2)
theorem Nx.refl (r:Rep C.K own F H σ ρ):Nx C own own σ F H ρ σ F H:=.ofE r .refl
theorem qF:PSs X [] (tSt C own own qK):=Gw ZP λD σ H ⟨F,ρ,a,h⟩=>h σ F H (.refl a)
theorem qhe {D:Ends} (h:tSt C o1 o3 (qD f g) D σ H):tSt C o1 o2 f { D with nx:=tSt C o2 o3 g D } σ H:=by
 obtain ⟨F,ρ,a,h⟩:=h;refine ⟨F,ρ,a,?_⟩;unfold qD at h;cases q:f ρ with
 | ok p=>
  rw [q] at h;obtain ⟨l,ρ1⟩:=p;cases l with
  | nx=>exact λσ' F' H' n=>⟨F',ρ1,n.rep,PoS.shift (show PoS C o1 o3 σ F H (g ρ1) D from h) n⟩
  | rt d=>exact h
  | bk=>exact h
  | ct=>exact h
 | exc c=>rw [q] at h; exact h
 | bad=>rw [q] at h; exact h.elim
theorem qe (h1:PS X st (tSt C o1 o2 f)) (h2:PSs X rest (tSt C o2 o3 g)):PSs X (st::rest) (tSt C o1 o3 (qD f g)):=Gw (qb1 h1 h2) λD σ H h=>qhe h
theorem qf (h1:PS X st (tSt C o1 o2 f)):PSs X [st] (tSt C o1 o2 f):=qeF h1
theorem Rep.weak {K:Frag} {F H:Hp} {σ:St} {ρ:Sl}:∀ (drop:List Nat) {own own':List Nat},(∀ i,i∈own'↔i∈own/\i∉drop)->Rep K own F H σ ρ->∃ F',Rep K own' F' H σ ρ/\Chg (OA own σ) F H F' H
 | [],own,own',hs,rp=>⟨F,⟨rp.sub,rp.len,λi d hi=>rp.val i d λz=>hi ((hs i).mpr ⟨z,by simp⟩),λi d hi=>rp.ow i d ((hs i).mp hi).1,λi hi=>rp.opn i ((hs i).mp hi).1,λi j a hi D=>rp.dis i j a ((hs i).mp hi).1 ((hs j).mp D).1⟩,.refl⟩
 | k::r,own,own',hs,rp=>by
  obtain ⟨F1,c,c1⟩:=Rep.weak r (own:=own) (own':=own.filter λi=>decide (i∉r)) (λi=>by simp) rp;by_cases f:k∈own/\k∉r
  ·obtain ⟨d,hd⟩:=c.opn k (by simp [f.1,f.2]);obtain ⟨a,h1,h2,g⟩:=c.ow k d (by simp [f.1,f.2]) hd;obtain ⟨u,hu⟩:∃ u,H a=ii u:=by
    cases q:H a with
    | none=>exact absurd q g.there
    | some u=>exact ⟨u,rfl⟩
   have gr:Same F1 (upd F1 a u):=λb w e=>by rw [qA (qJ e h2)]; exact e
   refine ⟨upd F1 a u,⟨λb w e=>?_,c.len,λi d' hi e=>?_,λi d' hi e=>?_,λi hi=>?_,λi j b hi D=>?_⟩,?_⟩
   ·by_cases q:b=a;·subst q; rw [qu] at e; cases e; exact hu
    ·rw [qA q] at e; exact c.sub b w e
   ·by_cases q:i=k
    ·subst q;rw [hd] at e; cases e;refine ⟨_,h1,?_⟩;cases d with
     | lst ds=>obtain ⟨xs,e,t⟩:=g; rw [hu] at e; cases e; exact .lst (.inl (.inl qu)) (t.mono gr)
     | dct ds=>obtain ⟨xs,e,t⟩:=g; rw [hu] at e; cases e; exact .dct qu (t.mono gr)
     | ins C fs=>obtain ⟨dx,xs,e,t⟩:=g; rw [hu] at e; cases e; exact .ins qu (t.mono gr)
     | at_ b ds=>obtain ⟨G,xs,e,t⟩:=g; rw [hu] at e; cases e; subst G; exact .at_ (.inl (.inl qu)) (t.mono gr)
     | _=>exact g.elim
    ·obtain ⟨v,q1,n⟩:=c.val i d' (λz=>by simp at z; exact hi ((hs i).mpr ⟨z.1,by simp [q,z.2]⟩)) e;exact ⟨v,q1,n.mono gr⟩
   ·have h:=(hs i).mp hi;have o:i≠k:=λz=>h.2 (by simp [z]);have m:i∉r:=λz=>h.2 (by simp [z]);obtain ⟨b,q1,n,s⟩:=c.ow i d' (by simp [h.1,m]) e;refine ⟨b,q1,?_,s.grow gr λ_ z=>z⟩;have x:b≠a:=λz=>by subst z; exact o (c.dis i k b (by simp [h.1,m]) (by simp [f.1,f.2]) q1 h1)
    rw [qA x]; exact n
   ·have h:=(hs i).mp hi;exact c.opn i (by simp [h.1]; exact λz=>h.2 (by simp [z]))
   ·have h:=(hs i).mp hi;have l:=(hs j).mp D;exact c.dis i j b (by simp [h.1]; exact λz=>h.2 (by simp [z])) (by simp [l.1]; exact λz=>l.2 (by simp [z]))
   ·refine ⟨c1.keep,c1.stay,c1.grow.trans gr,λb p=>?_⟩;by_cases q:b=a;·exact .inr (.inr ⟨k,f.1,by rw [q]; exact h1⟩)
    ·rw [qA q] at p; exact c1.new b p
  ·refine ⟨F1,⟨c.sub,c.len,λi d hi=>c.val i d λz=>?_,λi d hi=>c.ow i d ?_,λi hi=>c.opn i ?_,λi j a hi D=>c.dis i j a ?_ ?_⟩,c1⟩;·simp at z;refine hi ((hs i).mpr ⟨z.1,?_⟩);simp only [ac,not_or];exact ⟨λq=>f (by subst q; exact z),z.2⟩
   all_goals
    first
     | (have q:=(hs _).mp hi; simp only [bV,decide_eq_true_eq]; exact ⟨q.1,λz=>q.2 (by simp [z])⟩)
     | (have q:=(hs _).mp D; simp only [bV,decide_eq_true_eq]; exact ⟨q.1,λz=>q.2 (by simp [z])⟩)
theorem OA.sub (h:∀ i∈own',i∈own) (q:OA own' σ b):OA own σ b:=let ⟨i,hi,e⟩:=q; ⟨i,h i hi,e⟩
theorem Nx.drop (drop:List Nat) (h:∀ i,i∈own'↔i∈own/\i∉drop) (r:Rep C.K own F H σ ρ):∃ F',Nx C own own' σ F H ρ σ F' H:=by obtain ⟨F',a,c⟩:=Rep.weak drop h r;exact ⟨F',a,c,λb q=>.inl (OA.sub (λi hi=>((h i).mp hi).1) q),λ_ _=>rfl⟩
noncomputable def vX (own drop:List Nat):List Nat:=own.filter λi=>decide (i∉drop)
theorem jn {own drop:List Nat} (i:Nat):i∈vX own drop↔i∈own/\i∉drop:=by simp [vX]
theorem kA (drop:List Nat) (h:PSs X sts (tSt C (vX own drop) o2 f)):PSs X sts (tSt C own o2 f):=Gw h λD σ H ⟨F,ρ,a,h⟩=>by obtain ⟨F',n⟩:=Nx.drop (C:=C) drop (λi=>jn (own:=own) i) a;exact ⟨F',ρ,n.rep,h.shift n⟩
noncomputable def sIf (ft:yA) (f g:qN):qN:=λρ=>(ft ρ).bind λp=>if p.1=ir then f p.2 else g p.2
theorem qL {a b:List Stmt} (d:PT X c (tT C own ft)) (i:PSs X a (tSt C own own' f)) (e:PSs X b (tSt C own own' g)):PS X (.If c a b pos) (tSt C own own' (sIf ft f g)):=by
 refine Ju (qi3 d i e) λD σ H ⟨F,ρ,p,h⟩=>⟨F,ρ,p,PoS.bindT h λF1 H1 k ρ1 r c1 h1=>?_⟩
 cases k with
 | true=>exact ⟨F1,ρ1,r,h1⟩
 | false=>exact ⟨F1,ρ1,r,h1⟩
noncomputable def kz (fe:jl):qN:=λρ=>(fe ρ).bind λp=>.ok (.nx,p.2)
theorem jq (i:PE X e (tE C own m fe)) (s:ll e ij pos.line X.env=pure false:=by rfl):PS X (.Expr e pos) (tSt C own own (kz fe)):=by refine Ju (qeG i s) λD σ H ⟨F,ρ,r,h⟩=>⟨F,ρ,r,PoS.bindE h λv F1 H1 d ρ1 a c1 c h1=>h1 σ F1 H1 (.refl a)⟩
noncomputable def jr (fe:jl):qN:=λρ=>(fe ρ).bind λp=>.ok (.rt p.1,p.2)
theorem qe9 (b:PE X e (tE C own C.mr fe)) (o:∀ i∈C.io,i∈own:=by exact ug rfl):PS X (.Return (ii e) pos) (tSt C own own' (jr fe)):=by
 refine Ju (qgF b) λD σ H ⟨F,ρ,r,h⟩=>⟨F,ρ,r,?_⟩
 unfold jr at h;cases q:fe ρ with
 | ok p=>rw [q] at h;obtain ⟨d,ρ1⟩:=p;exact λv F1 H1 a c1 m=>h v σ F1 H1 a.sub (a.ioIs o) c1 (λ_ _=>rfl) m
 | exc c=>rw [q] at h; exact h
 | bad=>rw [q] at h; exact h.elim
theorem ql (h:PE X e (tE C own m fe)) (c:m≠.any:=by decide) (hr:C.mr=.sh:=by rfl) (o:∀ i∈C.io,i∈own:=by exact ug rfl):PS X (.Return (ii e) pos) (tSt C own own' (jr fe)):=qe9 (by rw [hr]; exact uh h c) o
theorem Rep.put (r:Rep K own F H σ ρ) (hi:i < ρ.length) (is:Is K F v d):Rep K (vX own [i]) F H (σ.set i (ii v)) (ρ.set i (ii d)) where
 sub:=r.sub
 len:=by simp [r.len]
 val:=λj d' D e=>by
  by_cases q:j=i;·subst q;rw [aN hi] at e;cases e;exact ⟨v,aN (by rw [r.len]; exact hi),is⟩
  ·rw [aC (bw q)] at e;obtain ⟨w,h1,h2⟩:=r.val j d' (λz=>D ((jn j).mpr ⟨z,by simp [q]⟩)) e;exact ⟨w,by rw [aC (bw q)]; exact h1,h2⟩
 ow:=λj d' D e=>by have l:=(jn j).mp D;have q:j≠i:=λz=>l.2 (by simp [z]);rw [aC (bw q)] at e;obtain ⟨a,h1,h2⟩:=r.ow j d' l.1 e;exact ⟨a,by rw [aC (bw q)]; exact h1,h2⟩
 opn:=λj D=>by have l:=(jn j).mp D;have q:j≠i:=λz=>l.2 (by simp [z]);obtain ⟨d',e⟩:=r.opn j l.1;exact ⟨d',by rw [aC (bw q)]; exact e⟩
 dis:=λj k a D b e1 e2=>by have l:=(jn j).mp D;have h:=(jn k).mp b;rw [aC (λz=>l.2 (by simp [z]))] at e1;rw [aC (λz=>h.2 (by simp [z]))] at e2;exact r.dis j k a l.1 h.1 e1 e2
theorem OA.put (h:OA (vX own [i]) (σ.set i (ii v)) b):OA own σ b:=by obtain ⟨j,D,e⟩:=h;have l:=(jn j).mp D;rw [aC (λz=>l.2 (by simp [z]))] at e;exact ⟨j,l.1,e⟩
noncomputable def qU (i:Nat) (fe:jl):qN:=λρ=>(fe ρ).bind λp=>if i < p.2.length then .ok (.nx,p.2.set i (ii p.1)) else .bad
theorem qfa (n:X.N.Nodup) (hi:X.N[i]?=ii x) (hx:Loc X.env.scope x) (l:PE X e (tE C own m fe)) (f:m≠.any:=by decide) (o:i∉C.io:=by exact yX rfl) (s:ll e (ii (.Name x pos')) pos.line X.env=pure false:=by rfl)
  (k:X.fn x=ir\/X.env.scope.names.lookup x=ii .local:=by first | exact .inl rfl | exact .inr rfl):PS X (.Assign [.Name x pos'] e pos) (tSt C own (vX own [i]) (qU i fe)):=by
 refine Ju (qdQ n hi hx (uh l f) s k) λD σ H ⟨F,ρ,r,h⟩=>⟨F,ρ,r,PoS.bindE h λv F1 H1 d ρ1 a c1 c h1=>?_⟩
 by_cases q:i < ρ1.length;·have h1:PoS C own (vX own [i]) σ F1 H1 (if i < ρ1.length then .ok (.nx,ρ1.set i (ii d)) else .bad) D:=h1;rw [Aa q] at h1;exact h1 _ F1 H1 ⟨a.put q c,.refl,λb z=>.inl (OA.put z),λj g=>aC λz=>o (by rw [z]; exact g)⟩
 ·have h1:PoS C own (vX own [i]) σ F1 H1 (if i < ρ1.length then .ok (.nx,ρ1.set i (ii d)) else .bad) D:=h1;rw [Ab q] at h1;exact h1.elim
theorem Rep.putO (r:Rep K own F H σ ρ) (hi:i < ρ.length) (C:F a=ij) (n:¬OA own σ a) (o:OwnIs K F H a d):Rep K (i::vX own [i]) F H (σ.set i (ii (.ref a))) (ρ.set i (ii d)) where
 sub:=r.sub
 len:=by simp [r.len]
 val:=λj d' D e=>by have q:j≠i:=λz=>D (by simp [z]);rw [aC (bw q)] at e;obtain ⟨w,h1,h2⟩:=r.val j d' (λz=>D (af _ ((jn j).mpr ⟨z,by simp [q]⟩))) e;exact ⟨w,by rw [aC (bw q)]; exact h1,h2⟩
 ow:=λj d' D e=>by
  by_cases q:j=i;·subst q;rw [aN hi] at e;cases e;exact ⟨a,aN (by rw [r.len]; exact hi),C,o⟩
  ·have l:=(jn j).mp ((ac.mp D).resolve_left q);rw [aC (bw q)] at e;obtain ⟨b,h1,h2⟩:=r.ow j d' l.1 e;exact ⟨b,by rw [aC (bw q)]; exact h1,h2⟩
 opn:=λj D=>by
  by_cases q:j=i;·subst q; exact ⟨d,aN hi⟩
  ·have l:=(jn j).mp ((ac.mp D).resolve_left q);obtain ⟨d',e⟩:=r.opn j l.1;exact ⟨d',by rw [aC (bw q)]; exact e⟩
 dis:=λj k b D m e1 e2=>by
  have g:i < σ.length:=by rw [r.len]; exact hi
  by_cases f:j=i
  ·by_cases c:k=i;·rw [f,c]
   ·subst f;have h:=(jn k).mp ((ac.mp m).resolve_left c);rw [aN g] at e1;cases e1;rw [aC (bw c)] at e2;exact absurd ⟨k,h.1,e2⟩ n
  ·have l:=(jn j).mp ((ac.mp D).resolve_left f);by_cases c:k=i;·subst c;rw [aN g] at e2;cases e2;rw [aC (bw f)] at e1;exact absurd ⟨j,l.1,e1⟩ n
   ·have h:=(jn k).mp ((ac.mp m).resolve_left c);rw [aC (bw f)] at e1;rw [aC (bw c)] at e2;exact r.dis j k b l.1 h.1 e1 e2
theorem qcr (A:X.N.Nodup) (hi:X.N[i]?=ii x) (hx:Loc X.env.scope x) (w:PE X e (tE C own .fr fe)) (k:i∉C.io:=by exact yX rfl) (t:ll e (ii (.Name x pos')) pos.line X.env=pure false:=by rfl)
  (u:X.fn x=ir\/X.env.scope.names.lookup x=ii .local:=by first | exact .inl rfl | exact .inr rfl):PS X (.Assign [.Name x pos'] e pos) (tSt C own (i::vX own [i]) (qU i fe)):=by
 refine Ju (qdQ A hi hx w t u) λD σ H ⟨F,ρ,n,h⟩=>⟨F,ρ,n,?_⟩
 unfold qU at h;cases q:fe ρ with
 | ok p=>
  rw [q] at h;obtain ⟨d,ρ1⟩:=p;intro v F1 H1 r c1 m;obtain ⟨a,rfl,s,B,o⟩:=m;by_cases z:i < ρ1.length
  ·have h1:PoS C own (i::vX own [i]) σ F H (if i < ρ1.length then .ok (.nx,ρ1.set i (ii d)) else .bad) D:=h;rw [Aa z] at h1;refine h1 _ F1 H1 ⟨r.putO z B (λy=>(n.OA_there y).1 s) o,c1,λb y=>?_,λj g=>aC λy=>k (by rw [y]; exact g)⟩;obtain ⟨j,g,e⟩:=y;by_cases f:j=i;·subst f;rw [aN (by rw [r.len]; exact z)] at e;cases e;exact .inr s
   ·have l:=(jn j).mp ((ac.mp g).resolve_left f);rw [aC (bw f)] at e;exact .inl ⟨j,l.1,e⟩
  ·have h1:PoS C own (i::vX own [i]) σ F H (if i < ρ1.length then .ok (.nx,ρ1.set i (ii d)) else .bad) D:=h;rw [Ab z] at h1;exact h1.elim
 | exc c=>rw [q] at h; exact h
 | bad=>rw [q] at h; exact h.elim
end
inductive AK where
 | vl | sl (i:Nat) | fr
 deriving DecidableEq
def ArgV (K:Frag) (H0 F H:Hp) (σ:St):List AK->List V->List D->Prop
 | [],[],[]=>True
 | .vl::as,v::vs,d::ds=>Is K F v d/\ArgV K H0 F H σ as vs ds
 | .sl i::as,v::vs,d::ds=>σ[i]?=ii (ii v)/\d=.non/\ArgV K H0 F H σ as vs ds
 | .fr::as,v::vs,d::ds=>MoIs K .fr H0 F H v d/\ArgV K H0 F H σ as vs ds
 | _,_,_=>False
variable {H0 F' H':Hp}
theorem ArgV.grow {A:Addr->Prop} (c:Chg A F H F' H') (hA:∀ x,A x->H0 x≠ij):∀ {as:List AK} {vs:List V} {ds:List D},ArgV K H0 F H σ as vs ds->ArgV K H0 F' H' σ as vs ds
 | [],[],[],h=>trivial
 | .vl::as,v::vs,d::ds,h=>⟨h.1.mono c.grow,ArgV.grow c hA h.2⟩
 | .sl i::as,v::vs,d::ds,h=>⟨h.1,h.2.1,ArgV.grow c hA h.2.2⟩
 | .fr::as,v::vs,d::ds,h=>⟨h.1.grow (by decide) c hA,ArgV.grow c hA h.2⟩
 | [],_::_,_,h=>h.elim
 | [],[],_::_,h=>h.elim
 | .vl::_,[],_,h=>h.elim
 | .vl::_,_::_,[],h=>h.elim
 | .sl _::_,[],_,h=>h.elim
 | .sl _::_,_::_,[],h=>h.elim
 | .fr::_,[],_,h=>h.elim
 | .fr::_,_::_,[],h=>h.elim
theorem ArgV.back {A:Addr->Prop} {F0:Hp} (c:Chg A F0 H0 F1 H1):∀ {as:List AK} {vs:List V} {ds:List D},ArgV K H1 F H σ as vs ds->ArgV K H0 F H σ as vs ds
 | [],[],[],h=>trivial
 | .vl::as,v::vs,d::ds,h=>⟨h.1,ArgV.back c h.2⟩
 | .sl i::as,v::vs,d::ds,h=>⟨h.1,h.2.1,ArgV.back c h.2.2⟩
 | .fr::as,v::vs,d::ds,h=>⟨MoIs.back (Ha:=H1) c h.1,ArgV.back c h.2⟩
 | [],_::_,_,h=>h.elim
 | [],[],_::_,h=>h.elim
 | .vl::_,[],_,h=>h.elim
 | .vl::_,_::_,[],h=>h.elim
 | .sl _::_,[],_,h=>h.elim
 | .sl _::_,_::_,[],h=>h.elim
 | .fr::_,[],_,h=>h.elim
 | .fr::_,_::_,[],h=>h.elim
def PoA (C:Ct) (own:List Nat) (as:List AK) (σ:St) (F H:Hp) (r:Out (List D×Sl)) (Q:List V->Hp->Prop):Prop:=match r with
 | .ok (ds,ρ')=>∀ vs F' H',Rep C.K own F' H' σ ρ'->Chg (OA own σ) F H F' H'->ArgV C.K H F' H' σ as vs ds->Q vs H'
 | .exc c ρ'=>∀ F' H',Same F' H'->ZK C.K C.ox F' H' σ ρ'->Chg (OA own σ) F H F' H'->C.E (C.cv c) ij H'
 | .bad=>False
abbrev uj:=Sl->Out (List D×Sl)
def tAr (C:Ct) (own:List Nat) (as:List AK) (f:uj):TA:=λσ H Q=>∃ F ρ,Rep C.K own F H σ ρ/\PoA C own as σ F H (f ρ) Q
variable {as:List AK}
theorem PoA.bindV {ma:Mo} {o:WL} {k:D×Sl->Out (List D×Sl)} {Q:List V->Hp->Prop} {R:VK} (hp:PoA C own as σ F H (o.bind k) Q)
  (h:∀ v F1 H1 d ρ1,Rep C.K own F1 H1 σ ρ1->Chg (OA own σ) F H F1 H1->MoIs C.K ma H F1 H1 v d->PoA C own as σ F H (k (d,ρ1)) Q->R v H1):Po C own ma σ F H o R:=by
 cases o with
 | ok p=>obtain ⟨d,ρ1⟩:=p;exact λv F1 H1 a c m=>h v F1 H1 d ρ1 a c m hp
 | exc x=>exact hp
 | bad=>exact hp.elim
theorem Po.bindA {as:List AK} {o:Out (List D×Sl)} {k:List D×Sl->WL} {Q:VK} {R:List V->Hp->Prop} (hp:Po C own m σ F H (o.bind k) Q)
  (h:∀ vs F1 H1 ds ρ1,Rep C.K own F1 H1 σ ρ1->Chg (OA own σ) F H F1 H1->ArgV C.K H F1 H1 σ as vs ds->Po C own m σ F1 H1 (k (ds,ρ1)) Q->R vs H1):PoA C own as σ F H o R:=by
 cases o with
 | ok p=>obtain ⟨d,ρ1⟩:=p;exact λvs F1 H1 a c v=>h vs F1 H1 d ρ1 a c v (Po.shift (show Po C own m σ F H (k (d,ρ1)) Q from hp) c)
 | exc x=>exact hp
 | bad=>exact hp.elim
noncomputable def qr:uj:=λρ=>.ok ([],ρ)
noncomputable def qb (fe:jl) (fr:uj):uj:=λρ=>(fe ρ).bind λp=>(fr p.2).bind λq=>.ok (p.1::q.1,q.2)
noncomputable def qZ (fr:uj):uj:=λρ=>(fr ρ).bind λq=>.ok (D.non::q.1,q.2)
variable {es:List Expr} {p:Addr} {u:HO}
section
variable {fe:jl} {fr:uj}
theorem qcs {t t':TA} (h:PA X es t) (i:∀ σ H Q,t' σ H Q->t σ H Q):PA X es t':=⟨λpos pins s σ H Q I w=>h pos pins s σ H Q I (i σ H Q w)⟩
theorem qd:PA X [] (tAr C own [] qr):=qcs kM λσ H Q ⟨F,ρ,a,h⟩=>h [] F H a .refl trivial
theorem gu {a:AK} {Q:List V->Hp->Prop} {v:V} (h:∀ x,OA own σ x->H x≠ij) (e:Rep C.K own F1 H1 σ ρ1) (c1:Chg (OA own σ) F H F1 H1) (hp:PoA C own (a::as) σ F H ((fr ρ1).bind λq=>.ok (d::q.1,q.2)) Q)
  (g:∀ b H2 vs ds,Chg (OA own σ) F1 H1 b H2->ArgV C.K H b H2 σ as vs ds->ArgV C.K H b H2 σ (a::as) (v::vs) (d::ds)):tAr C own as fr σ H1 λxs H2=>Q (v::xs) H2:=by
 refine ⟨F1,ρ1,e,?_⟩;cases q:fr ρ1 with
 | ok p=>rw [q] at hp;obtain ⟨ds,ρ2⟩:=p;exact λvs b H2 r c2 f=>hp (v::vs) b H2 r (c1.trans' c2) (g b H2 vs ds c2 (ArgV.back c1 f))
 | exc c=>rw [q] at hp; exact λF' H' s io T=>hp F' H' s io (c1.trans' T)
 | bad=>rw [q] at hp; exact hp.elim
theorem qa (g:PE X e (tE C own m fe)) (hr:PA X es (tAr C own as fr)) (b:m≠.any:=by decide) (s:iA (e::es) X.env=(iq,eval e X.env)::iA es X.env:=by exact jS rfl):PA X (e::es) (tAr C own (.vl::as) (qb fe fr)):=by
 refine qcs (jt (uh g b) hr s) λσ H Q ⟨F,ρ,r,h⟩=>⟨F,ρ,r,PoA.bindV h λv F1 H1 d ρ1 a c1 c h1=>?_⟩
 exact gu (λx z=>(r.OA_there z).1) a c1 h1 λi H2 vs ds c2 f=>⟨Is.mono c2.grow c,f⟩
theorem Gx (g:PE X e (tE C own .fr fe)) (hr:PA X es (tAr C own as fr)) (s:iA (e::es) X.env=(iq,eval e X.env)::iA es X.env:=by exact jS rfl):PA X (e::es) (tAr C own (.fr::as) (qb fe fr)):=by
 refine qcs (jt g hr s) λσ H Q ⟨F,ρ,r,h⟩=>⟨F,ρ,r,PoA.bindV h λv F1 H1 d ρ1 a c1 c h1=>?_⟩
 have oa:∀ x,OA own σ x->H x≠none:=λx z=>(r.OA_there z).1;exact gu oa a c1 h1 λf H2 vs ds c2 b=>⟨c.grow (by decide) c2 oa,b⟩
theorem jy {px:Pos} (e:X.N[i]?=ii x) (c:Vis X.env.scope x) (j:i∈own) (hr:PA X es (tAr C own as fr)) (s:iA (.Name x px::es) X.env=(iq,eval (.Name x px) X.env)::iA es X.env:=by rfl)
  (hd:Dbg x:=by decide) (b:Cdk x:=by decide):PA X (.Name x px::es) (tAr C own (.sl i::as) (qZ fr)):=by
 refine qcs (jt (yR e c hd b) hr s) λσ H Q ⟨F,ρ,r,h⟩=>?_;obtain ⟨d,hd⟩:=r.opn i j;obtain ⟨a,h1,h2,g⟩:=r.ow i d j hd;exact ⟨_,h1,gu (λx z=>(r.OA_there z).1) r .refl h λf H2 vs ds c2 v=>⟨h1,rfl,v⟩⟩
theorem ArgV.isL:∀ {as:List AK} {vs:List V} {ds:List D},(as.all λa=>decide (a=.vl))=ir->ArgV K H0 F H σ as vs ds->IsL K F vs ds
 | [],[],[],_,_=>.nil
 | .vl::as,v::vs,d::ds,h,a=>.cons a.1 (ArgV.isL (by simpa using h) a.2)
 | .sl i::as,_,_,h,a=>by simp at h
 | .fr::as,_,_,h,a=>by simp at h
 | [],_::_,_,_,h=>h.elim
 | [],[],_::_,_,h=>h.elim
 | .vl::_,[],_,_,h=>h.elim
 | .vl::_,_::_,[],_,h=>h.elim
noncomputable def jT (fr:uj):jl:=λρ=>(fr ρ).bind λp=>if p.1.length<=sizeLine then .ok (.tup p.1,p.2) else .bad
noncomputable def kJ (fr:uj):jl:=λρ=>(fr ρ).bind λp=>if p.1.length<=sizeLine then .ok (.lst p.1,p.2) else .bad
theorem qhf (a:Rep C.K own F H σ ρ) (hp:H p=ij):Rep C.K own (upd F p u) (upd H p u) σ ρ/\Chg No F H (upd F p u) (upd H p u):=by
 have h:F p=none:=by
  cases q:F p with
  | none=>rfl
  | some o=>rw [a.sub p o q] at hp; cases hp
 have c:Chg No F H (upd F p u) (upd H p u):=⟨λb o e _=>by rw [qA (qJ e hp)]; exact e,λb e=>by
  by_cases q:b=p;·rw [q,qu]; simp
  ·rw [qA q]; exact e,λb o e=>by rw [qA (qJ e h)]; exact e,λb e=>by
  by_cases q:b=p;·exact .inr (.inl (by rw [q]; exact hp))
  ·rw [qA q] at e; exact .inl e⟩
 refine ⟨a.grow c λb o e=>?_,c⟩;by_cases q:b=p;·subst q; rw [qu] at e ⊢; exact e
 ·rw [qA q] at e ⊢; exact a.sub b o e
theorem Yw (a:Rep C.K own F H σ ρ) (hp:H p=ij):Rep C.K own F (upd H p u) σ ρ/\Chg No F H F (upd H p u)/\F p=none:=by
 have h:F p=none:=by
  cases q:F p with
  | none=>rfl
  | some o=>rw [a.sub p o q] at hp; cases hp
 have c:Chg No F H F (upd H p u):=⟨λb o e _=>by rw [qA (qJ e hp)]; exact e,λb e=>by
  by_cases q:b=p;·rw [q,qu]; simp
  ·rw [qA q]; exact e,Same.refl _,λb e=>.inl e⟩
 exact ⟨a.grow c λb o e=>by rw [qA (qJ e h)]; exact a.sub b o e,c,h⟩
theorem jm {x1} (h:PA X es (tAr C own as fr)) (g:(as.all λa=>decide (a=.vl))=true:=by decide):PE X (.Tuple es x1 pos) (tE C own .sh (jT fr)):=by
 refine kf (qgT h) λσ H Q ⟨F,ρ,c,h⟩=>⟨F,ρ,c,Po.bindA h λvs F1 H1 ds ρ1 b c1 v h1=>?_⟩
 have i:=v.isL g;have h1:Po C own .sh σ F1 H1 (if ds.length<=sizeLine then .ok (.tup ds,ρ1) else .bad) Q:=h1;by_cases z:ds.length<=sizeLine;·rw [Aa z] at h1;refine ⟨by rw [i.length]; exact z,λp hp=>?_⟩;obtain ⟨r,c2⟩:=qhf (u:=.tup vs) b hp;exact h1 _ _ _ r c2.ofNo (.tup (.inl (.inl qu)) (i.mono c2.grow))
 ·rw [Ab z] at h1; exact h1.elim
theorem jh (h:PA X es (tAr C own as fr)) (g:(as.all λa=>decide (a=.vl))=true:=by decide):PE X (.List es pos) (tE C own .fr (kJ fr)):=by
 refine kf (qgU h) λσ H Q ⟨F,ρ,c,h⟩=>⟨F,ρ,c,Po.bindA h λvs F1 H1 ds ρ1 b c1 v h1=>?_⟩
 have i:=v.isL g;have h1:Po C own .fr σ F1 H1 (if ds.length<=sizeLine then .ok (.lst ds,ρ1) else .bad) Q:=h1;by_cases z:ds.length<=sizeLine;·rw [Aa z] at h1;refine ⟨by rw [i.length]; exact z,λp hp=>?_⟩;obtain ⟨r,c2,d⟩:=Yw (u:=.lst vs) b hp;exact h1 _ _ _ r c2.ofNo ⟨p,rfl,hp,d,vs,qu,i⟩
 ·rw [Ab z] at h1; exact h1.elim
theorem Jv:PE X (.Dict [] [] pos) (tE C own .fr (dC (.dct []))):=by refine kf qch λσ H Q ⟨F,ρ,a,h⟩ p hp=>?_;obtain ⟨r,c2,b⟩:=Yw (u:=.dK []) a hp;exact h _ _ _ r c2.ofNo ⟨p,rfl,hp,b,[],qu,.nil⟩
noncomputable def ixD:D->D->Out D
 | .lst xs,.int i=>match atI xs i with
  | some d=>.ok d
  | none=>.bad
 | .tup xs,.int i=>match atI xs i with
  | some d=>.ok d
  | none=>.bad
 | .str x,.int i=>match atI x.cps.toList i with
  | some c=>.ok (.str ⟨#[c]⟩)
  | none=>.bad
 | .dct kvs,.str x=>match (kvs.find? λkv=>decide (kv.1=bn x)) with
  | some kv=>.ok kv.2
  | none=>.bad
 | .dct kvs,.int x=>match (kvs.find? λkv=>decide (kv.1=fm x)) with
  | some kv=>.ok kv.2
  | none=>.bad
 | _,_=>.bad
theorem IsL.atI {i:Int} (h:IsL K F vs ds) (e:L2.atI ds i=ii d):∃ v,L2.atI vs i=ii v/\Is K F v d:=by
 unfold L2.atI at e ⊢;rw [h.length];cases q:ixN ds.length i with
 | none=>rw [q] at e; cases e
 | some j=>rw [q] at e;exact h.getD e
theorem IsK.find {k:Key}:∀ {vs:List (Key×V)} {ds:List (Key×D)} {d:Key×D},IsK K F vs ds->(ds.find? λkv=>decide (kv.1=k))=ii d->∃ v,WT vs k=ii v/\Is K F v d.2
 | _,_,_,.nil,e=>by simp at e
 | _,_,d,.cons (k:=k') (vs:=vs) h t,e=>by
  by_cases q:k'=k;·rw [cF (by simp [q])] at e;cases e;exact ⟨_,zV q,h⟩
  ·rw [bR (by simp [q])] at e;obtain ⟨v,h1,h2⟩:=IsK.find t e;exact ⟨v,by rw [yW q]; exact h1,h2⟩
theorem Yx (c:Nat):(⟨#[c]⟩:Str).length<=sizeLine:=by show 1<=sizeLine;rw [iF]; decide
def qkj (K:Frag):R2:=λx y H Q=>rIx K x y H Q\/∃ a v,x=.ref a/\DGet H a y (ii v)/\Q v H
theorem qdU (f:X.A.units+1 < iX):IxR X (qkj X.K):=by
 refine IxR.or qgZ ?_;intro value e pins s σ H x y v u Q I d c h b;obtain ⟨a,w,rfl,g,q⟩:=h;cases d;obtain ⟨T,ht⟩:∃ T,s.TypeIs (.ref a) T/\T = "dict":=⟨_,WW I g,rfl⟩
 obtain ⟨ht,rfl⟩:=ht;exact mF ht PySem.slot_dict_getitem.lookup (Ge f I g c λS s' i r=>⟨w,H,i,r,q⟩) b
end
variable {T:String}
section
variable {a b:Expr} {f fa fb:jl}
theorem qdV {σ:St} {x y:V} {dx b:D} {Q:VK} (n:C.K=X.K) (s:Same F H) (tx:TopIs C.K F H x dx) (ty:TopIs C.K F H y b) (po:PoV C .sh F H (ixD dx b) Q):qkj X.K x y H Q:=by
 rw [n] at tx ty;cases dx with
 | lst xs=>
  cases b <;> try exact po.elim
  rename_i i;obtain rfl:=ty.int;obtain ⟨a,vs,rfl,p,t⟩:=tx.lst s;unfold ixD at po;cases e:L2.atI xs i with
  | none=>simp only [e] at po; exact po.elim
  | some d=>simp only [e] at po;obtain ⟨v,h1,h2⟩:=t.atI e;exact .inl (.inl ⟨a,vs,i,v,rfl,rfl,p,h1,po v F H s .refl (by rw [n]; exact h2)⟩)
 | tup xs=>
  cases b <;> try exact po.elim
  rename_i i;obtain rfl:=ty.int;obtain ⟨a,vs,rfl,p,t⟩:=tx.tup s;unfold ixD at po;cases e:L2.atI xs i with
  | none=>simp only [e] at po; exact po.elim
  | some d=>simp only [e] at po;obtain ⟨v,h1,h2⟩:=t.atI e;exact .inl (.inr (.inl ⟨a,vs,i,v,rfl,rfl,p,h1,po v F H s .refl (by rw [n]; exact h2)⟩))
 | str z=>
  cases b <;> try exact po.elim
  rename_i i;obtain rfl:=ty.int;obtain ⟨rfl,h⟩:=tx.str;unfold ixD at po;cases e:L2.atI z.cps.toList i with
  | none=>simp only [e] at po; exact po.elim
  | some c=>simp only [e] at po;exact .inl (.inr (.inr ⟨z,i,c,rfl,rfl,h,e,po _ F H s .refl (.str (Yx c))⟩))
 | dct kvs=>
  obtain ⟨a,kv,rfl,p,t⟩:=tx.dct s;cases b with
  | int i=>
   obtain rfl:=ty.int;unfold ixD at po;cases e:(kvs.find? λkv=>decide (kv.1=fm i)) with
   | none=>simp only [e] at po; exact po.elim
   | some d=>simp only [e] at po;obtain ⟨v,h1,h2⟩:=t.find e;exact .inr ⟨a,v,rfl,by rw [<-h1]; exact DGet.k (k:=fm i) p,po v F H s .refl (by rw [n]; exact h2)⟩
  | str z=>
   obtain ⟨rfl,_⟩:=ty.str;unfold ixD at po;cases e:(kvs.find? λkv=>decide (kv.1=bn z)) with
   | none=>simp only [e] at po; exact po.elim
   | some d=>simp only [e] at po;obtain ⟨v,h1,h2⟩:=t.find e;exact .inr ⟨a,v,rfl,by rw [<-h1]; exact DGet.k (k:=bn z) p,po v F H s .refl (by rw [n]; exact h2)⟩
  | _=>exact po.elim
 | _=>exact po.elim
theorem qjq (t:C.K=X.K) (B:X.A.units+64 < iX) (o:PE X a (tE C own ma fa)) (n:PE X b (tE C own mb fb)) (s:Jq b) (j:ma≠.any:=by decide):PE X (.Subscript a b pos) (tE C own .sh (d2 ixD fa fb)):=by
 refine kf (qgW (qdU (by lia)) o n s) λσ H Q h=>?_;obtain ⟨F,ρ,l,h⟩:=Vl (mb:=mb) j h;refine ⟨F,ρ,l,?_⟩;cases q:fa ρ with
 | ok p=>
  rw [q] at h;obtain ⟨d,ρ1⟩:=p;intro v F1 H1 f c1 i;obtain ⟨z,ρ2,e,h2⟩:=h v F1 H1 f c1 i;refine ⟨z,ρ2,e,?_⟩;cases g:fb ρ2 with
  | ok p=>rw [g] at h2;obtain ⟨d',k⟩:=p;intro w x u r c3 m;obtain ⟨J,dx,D,y,tx,ty,po⟩:=h2 w x u r c3 m;exact qdV (σ:=σ) t y tx ty po
  | exc c=>rw [g] at h2; exact h2
  | bad=>rw [g] at h2; exact h2.elim
 | exc c=>rw [q] at h; exact h
 | bad=>rw [q] at h; exact h.elim
def gx (X:Cx) (C:Ct) (m:Mo) (f:ip) (g:D->Out D):Prop:=yp X f (λxs H Q=>∃ x F dx,xs=[x]/\Same F H/\TopIs C.K F H x dx/\PoV C m F H (g dx) Q)
theorem xO {Q:VK} {g:D->Out D} (h:tE C own m (d1 g fa) σ H Q):qca (tE C own ma fa) qje σ H λxs H1=>∃ x F dx,xs=[x]/\Same F H1/\TopIs C.K F H1 x dx/\PoV C m F H1 (g dx) Q:=by
 obtain ⟨F,ρ,r,h⟩:=qcl (ma:=ma) h;refine ⟨F,ρ,r,?_⟩;cases q:fa ρ with
 | ok p=>rw [q] at h;obtain ⟨d,ρ1⟩:=p;intro v F1 H1 a c1 b;obtain ⟨e,dx,y,tx,po⟩:=h v F1 H1 a c1 b;exact ⟨v,e,dx,rfl,y,tx,po⟩
 | exc c=>rw [q] at h; exact h
 | bad=>rw [q] at h; exact h.elim
theorem qB {id:String} {p:Pos} {g:D->Out D} (d:gx X C m (.builtin id) g) (hg:Gl X x) (a:X.mg x=ij) (c:iC x=ii (.builtin id)) (f:PE X e (tE C own ma fa)) (hn:x ≠ "__name__":=by decide) (b:Dbg x:=by decide)
  (i:iA [e] X.env=[(iq,eval e X.env)]:=by exact qR rfl):PE X (.Call (.Name x p) [e] [] pos) (tE C own m (d1 g fa)):=
 kf (yU d hg a c (jt f kM i) hn b (by rw [i]; rfl) rfl) λ_ _ _ h=>xO h
theorem jJ {p:Pos} {g:D->Out D} (d:gx X C m (.type T) g) (hg:Gl X x) (a:X.mg x=ij) (c:iC x=ii (.type T)) (f:PE X e (tE C own ma fa)) (hn:x ≠ "__name__":=by decide) (b:Dbg x:=by decide)
  (i:iA [e] X.env=[(iq,eval e X.env)]:=by exact qR rfl):PE X (.Call (.Name x p) [e] [] pos) (tE C own m (d1 g fa)):=
 kf (ue d hg a c (jt f kM i) hn b (by rw [i]; rfl) rfl) λ_ _ _ h=>xO h
noncomputable def kZ:D->Out D
 | .str x=>.ok (.int x.length)
 | .lst xs=>.ok (.int xs.length)
 | .tup xs=>.ok (.int xs.length)
 | .dct xs=>.ok (.int xs.length)
 | _=>.bad
theorem IsK.length:∀ {vs:List (Key×V)} {ds:List (Key×D)},IsK K F vs ds->vs.length=ds.length
 | _,_,.nil=>rfl
 | _,_,.cons _ t=>congrArg (·+1) (IsK.length t)
theorem jD (n:C.K=X.K):gx X C .sh (.builtin "len") kZ:=by
 intro pins s σ H xs us Q I r h;obtain ⟨x,F,dx,rfl,y,tx,po⟩:=h;cases dx with
 | str z=>obtain ⟨rfl,b⟩:=tx.str;exact Jp pins s σ H _ us Q I r ⟨_,_,rfl,⟨b,rfl⟩,po _ F H y .refl (.int _)⟩
 | lst ds=>obtain ⟨a,vs,rfl,p,t⟩:=tx.lst y;exact Jp pins s σ H _ us Q I r ⟨_,ds.length,rfl,.inl ⟨vs,by rw [<-n]; exact p,t.length.symm⟩,po _ F H y .refl (.int _)⟩
 | tup ds=>obtain ⟨a,vs,rfl,p,t⟩:=tx.tup y;exact Jp pins s σ H _ us Q I r ⟨_,ds.length,rfl,.inr ⟨vs,by rw [<-n]; exact p,t.length.symm⟩,po _ F H y .refl (.int _)⟩
 | dct ds=>obtain ⟨a,vs,rfl,p,t⟩:=tx.dct y;refine Gh pins s σ H _ us Q I r ⟨a,vs,rfl,p,?_⟩;rw [t.length];exact po _ F H y .refl (.int _)
 | _=>exact po.elim
noncomputable def jL:D->D->Out D
 | .int i,.int j=>.ok (.int (i+j))
 | .str x,.str y=>if x.length+y.length<=sizeLine then .ok (.str (x++y)) else .bad
 | .lst xs,.lst ys=>if xs.length+ys.length<=sizeLine then .ok (.lst (xs++ys)) else .bad
 | .tup xs,.tup ys=>if xs.length+ys.length<=sizeLine then .ok (.tup (xs++ys)) else .bad
 | _,_=>.bad
theorem vY (y:Same F H) (hp:H p=ij):Same (upd F p u) (upd H p u)/\Chg No F H (upd F p u) (upd H p u):=by
 have C:F p=none:=by
  cases q:F p with
  | none=>rfl
  | some o=>rw [y p o q] at hp; cases hp
 refine ⟨λb o e=>?_,⟨λb o e _=>by rw [qA (qJ e hp)]; exact e,λb e=>?_,λb o e=>by rw [qA (qJ e C)]; exact e,λb e=>?_⟩⟩
 ·by_cases q:b=p;·subst q; rw [qu] at e ⊢; exact e
  ·rw [qA q] at e ⊢; exact y b o e
 ·by_cases q:b=p;·rw [q,qu]; simp
  ·rw [qA q]; exact e
 ·by_cases q:b=p;·exact .inr (.inl (by rw [q]; exact hp))
  ·rw [qA q] at e; exact .inl e
theorem vw (y:Same F H) (hp:H p=ij):Same F (upd H p u)/\Chg No F H F (upd H p u)/\F p=none:=by
 have C:F p=none:=by
  cases q:F p with
  | none=>rfl
  | some o=>rw [y p o q] at hp; cases hp
 refine ⟨λb o e=>by rw [qA (qJ e C)]; exact y b o e,⟨λb o e _=>by rw [qA (qJ e hp)]; exact e,λb e=>?_,Same.refl _,λb e=>.inl e⟩,C⟩;by_cases q:b=p;·rw [q,qu]; simp
 ·rw [qA q]; exact e
theorem Uc (x y:Str):(x++y).length=x.length+y.length:=by show (x.cps++y.cps).size=_;simp [fV]
theorem qfb:OpR X (iW .Add) (λx y H Q=>∃ l b xs zs,x=.ref l/\y=.ref b/\SqL X.K H l xs/\SqL X.K H b zs/\xs.length+zs.length<=sizeLine/\∀ p,H p=ij->Q (.ref p) (upd H p (.lst (xs++zs)))):=by
 intro pins s σ H x y v u Q I m r h;obtain ⟨l,b,xs,zs,rfl,rfl,h1,h2,z,q⟩:=h;cases m;cases r;obtain ⟨its,r1,p1,_⟩:=I.list h1;obtain ⟨i,r2,p2,_⟩:=I.list h2;obtain ⟨⟨cls,dd,data,sl⟩,j,f,n,hd⟩:=id p1.isList;obtain ⟨⟨k,e,g,d⟩,a,c,n2,hd2⟩:=id p2.isList;simp only at f hd c hd2;subst f hd c hd2;have t:=r1.length;have o:=r2.length;refine l8 ⟨_,j,rfl⟩ ⟨_,a,rfl⟩ noFill_list_add seq_list_add PySem.F.slot_list_add PySem.F.entry_list_add (PySem.F.args_list_add_2 _ _)
  (list_addW l b its.toArray i.toArray n n2 dd e sl d (by simp only [au]; lia)) ⟨j,a,?_⟩
 have w:its.toArray++i.toArray=(its++i).toArray:=by simp
 rw [w];exact ⟨.ref _,_,I.lnew (t':=s.toks) (r1.append r2) (by rw [ae]; exact z),rfl,q _ I.fresh⟩
theorem qfc:OpR X (iW .Add) (λx y H Q=>∃ a b ys,x=.ref a/\y=.ref b/\SqT X.K H a []/\SqT X.K H b ys/\Q (.ref b) H):=by
 intro pins s σ H x y v u Q I m r h;obtain ⟨a,b,ys,rfl,rfl,h1,h2,q⟩:=h;cases m;cases r;obtain ⟨its,r1,p1,_⟩:=I.tuple h1;obtain ⟨i,r2,p2,_⟩:=I.tuple h2;cases r1;obtain ⟨⟨cls,dd,data,sl⟩,j,k,n,hd⟩:=id p1;obtain ⟨⟨l,f,g,e⟩,c,d,n2,hd2⟩:=id p2;simp only at k hd d hd2;subst k hd d hd2;exact l8 ⟨_,j,rfl⟩ ⟨_,c,rfl⟩ noFill_tuple_add seq_tuple_add eG d8 (dU _ _)
  (tuple_addW0 a b _ _ n n2 dd f sl e rfl) ⟨j,c,⟨.ref b,H,I,rfl,q⟩⟩
theorem qV (n:C.K=X.K):OpD X C .sh (iW .Add) jL:=by
 intro pins s σ H x y v u Q I f r h;obtain ⟨F,dx,g,c,tx,ty,po⟩:=h;cases dx with
 | int i=>
  cases g <;> try exact po.elim
  obtain rfl:=tx.int;obtain rfl:=ty.int;exact qgL pins s σ H _ _ v u Q I f r ⟨_,_,rfl,rfl,po _ F H c .refl (.int _)⟩
 | str a=>
  cases g <;> try exact po.elim
  rename_i b;obtain ⟨rfl,_⟩:=tx.str;obtain ⟨rfl,_⟩:=ty.str;have po:PoV C .sh F H (if a.length+b.length<=sizeLine then .ok (.str (a++b)) else .bad) Q:=po;by_cases z:a.length+b.length<=sizeLine;·rw [Aa z] at po;exact XJ pins s σ H _ _ v u Q I f r ⟨_,_,rfl,rfl,z,po _ F H c .refl (.str (by rw [Uc]; exact z))⟩
  ·rw [Ab z] at po; exact po.elim
 | lst xs=>
  cases g <;> try exact po.elim
  rename_i ys;obtain ⟨a,vs,rfl,p1,d⟩:=tx.lst c;obtain ⟨b,ws,rfl,p2,t⟩:=ty.lst c;have po:PoV C .sh F H (if xs.length+ys.length<=sizeLine then .ok (.lst (xs++ys)) else .bad) Q:=po;by_cases z:xs.length+ys.length<=sizeLine;·rw [Aa z] at po;refine qfb pins s σ H _ _ v u Q I f r ⟨a,b,vs,ws,rfl,rfl,by rw [<-n]; exact p1,by rw [<-n]; exact p2,by rw [d.length,t.length]; exact z,λp hp=>?_⟩;obtain ⟨s2,c2⟩:=vY (u:=.lst (vs++ws)) c hp;exact po _ _ _ s2 c2 (.lst (.inl (.inl qu)) ((d.append t).mono c2.grow))
  ·rw [Ab z] at po; exact po.elim
 | tup xs=>
  cases g <;> try exact po.elim
  rename_i ys;obtain ⟨a,vs,rfl,p1,d⟩:=tx.tup c;obtain ⟨b,ws,rfl,p2,t⟩:=ty.tup c;have po:PoV C .sh F H (if xs.length+ys.length<=sizeLine then .ok (.tup (xs++ys)) else .bad) Q:=po;by_cases z:xs.length+ys.length<=sizeLine
  ·rw [Aa z] at po;cases vs with
   | nil=>
    cases d;rcases ty with ty | ⟨_,_,ty⟩
    ·exact qfc pins s σ H _ _ v u Q I f r ⟨a,b,ws,rfl,rfl,by rw [<-n]; exact p1,by rw [<-n]; exact p2,po _ F H c .refl ty⟩
    ·exact ty.elim
   | cons j vs=>
    refine qeT pins s σ H _ _ v u Q I f r ⟨a,b,j::vs,ws,rfl,rfl,by rw [<-n]; exact p1,by rw [<-n]; exact p2,by simp,by rw [d.length,t.length]; exact z,λe=>?_,λe p hp=>?_⟩
    ·subst e;cases t;rcases tx with tx | ⟨_,_,tx⟩
     ·refine po _ F H c .refl ?_;rw [be];exact tx
     ·exact tx.elim
    ·obtain ⟨s2,c2⟩:=vY (u:=.tup (j::vs++ws)) c hp;exact po _ _ _ s2 c2 (.tup (.inl (.inl qu)) ((d.append t).mono c2.grow))
  ·rw [Ab z] at po; exact po.elim
 | _=>exact po.elim
end
inductive PM where
 | val | io | tk
 deriving DecidableEq
noncomputable def zQ:List PM->List V->List Addr
 | .val::ms,_::vs=>zQ ms vs
 | .io::ms,.ref a::vs=>a::zQ ms vs
 | .tk::ms,.ref a::vs=>a::zQ ms vs
 | _::ms,_::vs=>zQ ms vs
 | _,_=>[]
def ArgsIs (K:Frag) (F H:Hp):List PM->List V->List D->Prop
 | [],[],[]=>True
 | .val::ms,v::vs,d::ds=>Is K F v d/\ArgsIs K F H ms vs ds
 | .io::ms,v::vs,d::ds=>(∃ a,v=.ref a/\F a=ij/\OwnIs K F H a d)/\ArgsIs K F H ms vs ds
 | .tk::ms,v::vs,d::ds=>(∃ a,v=.ref a/\F a=ij/\OwnIs K F H a d)/\ArgsIs K F H ms vs ds
 | _,_,_=>False
def xa (K:Frag) (F H:Hp):List PM->List V->List D->Prop
 | [],_,_=>True
 | .io::ms,v::vs,d::ds=>(∃ a,v=.ref a/\F a=ij/\OwnIs K F H a d)/\xa K F H ms vs ds
 | _::ms,_::vs,_::ds=>xa K F H ms vs ds
 | _,_,_=>False
abbrev LA (ms:List PM) (vs:List V):Addr->Prop:=λb=>b∈zQ ms vs
def PoG (K:Frag) (cv:Str->ip) (ms:List PM) (mr:Mo) (vs:List V) (F H:Hp) (Q:VK) (E:XK) (o:Out (D×List D)):Prop:=match o with
 | .ok (d,outs)=>∀ v F' H',Same F' H'->Chg (LA ms vs) F H F' H'->xa K F' H' ms vs outs->MoIs K mr H F' H' v d->Q v H'
 | .exc c o=>∀ F' H',Same F' H'->Chg (LA ms vs) F H F' H'->xa K F' H' ms vs (o.map (·.getD .non))->E (cv c) ij H'
 | .bad=>False
abbrev ko:=List D->Out (D×List D)
def spD (K:Frag) (cv:Str->ip) (ms:List PM) (mr:Mo) (G:ko):Sp:=λvs H Q E=>∃ F ds,Same F H/\ArgsIs K F H ms vs ds/\(zQ ms vs).Nodup/\PoG K cv ms mr vs F H Q E (G ds)
theorem ArgsIs.length:∀ {ms:List PM} {vs:List V} {ds:List D},ArgsIs K F H ms vs ds->vs.length=ms.length/\ds.length=ms.length
 | [],[],[],_=>⟨rfl,rfl⟩
 | .val::ms,v::vs,d::ds,h=>by have:=ArgsIs.length h.2; simp [this]
 | .io::ms,v::vs,d::ds,h=>by have:=ArgsIs.length h.2; simp [this]
 | .tk::ms,v::vs,d::ds,h=>by have:=ArgsIs.length h.2; simp [this]
 | [],_::_,_,h=>h.elim
 | [],[],_::_,h=>h.elim
 | .val::_,[],_,h=>h.elim
 | .val::_,_::_,[],h=>h.elim
 | .io::_,[],_,h=>h.elim
 | .io::_,_::_,[],h=>h.elim
 | .tk::_,[],_,h=>h.elim
 | .tk::_,_::_,[],h=>h.elim
noncomputable def kK (n:Nat):List PM->List Nat
 | []=>[]
 | .val::ms=>kK (n+1) ms
 | _::ms=>n::kK (n+1) ms
noncomputable def Yy (n:Nat):List PM->List Nat
 | []=>[]
 | .io::ms=>n::Yy (n+1) ms
 | _::ms=>Yy (n+1) ms
variable {n:Nat}
theorem xb:∀ {ms:List PM} {i:Nat},i∈kK n ms->n<=i/\i < n+ms.length:=by
 intro ms
 induction ms generalizing n with
 | nil=>intro i h; simp [kK] at h
 | cons m ms a=>
  intro i h;cases m with
  | val=>have:=a (n:=n+1) h; simp only [ah]; lia
  | io=>
   rcases ac.mp h with e | h;·simp only [ah]; lia
   ·have:=a (n:=n+1) h; simp only [ah]; lia
  | tk=>
   rcases ac.mp h with e | h;·simp only [ah]; lia
   ·have:=a (n:=n+1) h; simp only [ah]; lia
theorem qct:∀ {ms:List PM} {i:Nat},i∈Yy n ms->i∈kK n ms:=by
 intro ms
 induction ms generalizing n with
 | nil=>intro i h; simp [Yy] at h
 | cons m ms a=>
  intro i h;cases m with
  | val=>exact a (n:=n+1) h
  | io=>
   rcases ac.mp h with e | h;·exact ac.mpr (.inl e)
   ·exact af _ (a (n:=n+1) h)
  | tk=>exact af _ (a (n:=n+1) h)
theorem XR:∀ {ms:List PM} {vs:List V} {ds:List D} {n:Nat},ArgsIs K F H ms vs ds ->(∀ j d,ds[j]?=ii d->n+j∉kK n ms->∃ v,vs[j]?=ii v/\Is K F v d) /\
  (∀ j d,ds[j]?=ii d->n+j∈kK n ms->∃ a,vs[j]?=ii (.ref a)/\F a=ij/\OwnIs K F H a d):=by
 intro ms
 induction ms with
 | nil=>intro vs ds n h; cases vs <;> cases ds <;> first | exact h.elim | (refine ⟨λj d e=>?_,λj d e=>?_⟩ <;> simp at e)
 | cons m ms i=>
  intro vs ds n h;cases vs with
  | nil=>cases m <;> exact h.elim
  | cons v vs=>
   cases ds with
   | nil=>cases m <;> exact h.elim
   | cons d ds=>
    cases m with
    | val=>
     obtain ⟨h1,h2⟩:=h;obtain ⟨i1,i2⟩:=i (n:=n+1) h2;refine ⟨λj e b hn=>?_,λj e b hn=>?_⟩
     ·cases j with
      | zero=>simp at b; subst b; exact ⟨v,rfl,h1⟩
      | succ j=>simpa using i1 j e (by simpa using b) (by rw [show n+1+j=n+(j+1) by lia]; exact hn)
     ·cases j with
      | zero=>have:=xb (n:=n+1) hn; lia
      | succ j=>simpa using i2 j e (by simpa using b) (by rw [show n+1+j=n+(j+1) by lia]; exact hn)
    | io=>
     obtain ⟨⟨a,rfl,h1⟩,h2⟩:=h;obtain ⟨i1,i2⟩:=i (n:=n+1) h2;refine ⟨λj e b hn=>?_,λj e b hn=>?_⟩
     ·cases j with
      | zero=>exact absurd (ac.mpr (.inl rfl)) hn
      | succ j=>simpa using i1 j e (by simpa using b) (λz=>hn (af _ (by rw [show n+(j+1)=n+1+j by lia]; exact z)))
     ·cases j with
      | zero=>simp at b; subst b; exact ⟨a,rfl,h1⟩
      | succ j=>
       have c:n+1+j∈kK (n+1) ms:=by
        rcases ac.mp hn with z | z
        ·lia
        ·rw [show n+1+j=n+(j+1) by lia]; exact z
       simpa using i2 j e (by simpa using b) c
    | tk=>
     obtain ⟨⟨a,rfl,h1⟩,h2⟩:=h;obtain ⟨i1,i2⟩:=i (n:=n+1) h2;refine ⟨λj e b hn=>?_,λj e b hn=>?_⟩
     ·cases j with
      | zero=>exact absurd (ac.mpr (.inl rfl)) hn
      | succ j=>simpa using i1 j e (by simpa using b) (λz=>hn (af _ (by rw [show n+(j+1)=n+1+j by lia]; exact z)))
     ·cases j with
      | zero=>simp at b; subst b; exact ⟨a,rfl,h1⟩
      | succ j=>
       have c:n+1+j∈kK (n+1) ms:=by
        rcases ac.mp hn with z | z
        ·lia
        ·rw [show n+1+j=n+(j+1) by lia]; exact z
       simpa using i2 j e (by simpa using b) c
theorem Gy:∀ {ms:List PM} {vs:List V} {j:Nat} {a:Addr},n+j∈kK n ms->vs[j]?=ii (.ref a)->a∈zQ ms vs:=by
 intro ms
 induction ms generalizing n with
 | nil=>intro vs j a h; simp [kK] at h
 | cons m ms i=>
  intro vs j a h e;cases vs with
  | nil=>simp at e
  | cons v vs=>
   cases j with
   | zero=>
    simp at e; subst e;cases m with
    | val=>have:=xb (n:=n+1) h; omega
    | io=>exact ac.mpr (.inl rfl)
    | tk=>exact ac.mpr (.inl rfl)
   | succ j=>
    have b:vs[j]?=ii (.ref a):=by simpa using e
    have sub:n+1+j∈kK (n+1) ms:=by
     rw [show n+1+j=n+(j+1) by omega];cases m with
     | val=>exact h
     | io=>exact (ac.mp h).resolve_left (by omega)
     | tk=>exact (ac.mp h).resolve_left (by omega)
    have q:=i (n:=n+1) sub b;cases m <;> cases v <;> first | exact q | exact af _ q
theorem Gz:∀ {ms:List PM} {vs:List V} {a:Addr},a∈zQ ms vs->∃ j,n+j∈kK n ms/\vs[j]?=ii (.ref a):=by
 intro ms
 induction ms generalizing n with
 | nil=>intro vs a h; cases vs <;> simp [zQ] at h
 | cons m ms i=>
  intro vs a h;cases vs with
  | nil=>cases m <;> simp [zQ] at h
  | cons v vs=>
   have up:∀ {b},b∈zQ ms vs->∃ j,n+j∈kK n (m::ms)/\(v::vs)[j]?=ii (.ref b):=λd=>by
    obtain ⟨j,h1,h2⟩:=i (n:=n+1) d;refine ⟨j+1,?_,by simpa using h2⟩;rw [show n+(j+1)=n+1+j by lia];cases m with
    | val=>exact h1
    | io=>exact af _ h1
    | tk=>exact af _ h1
   cases m with
   | val=>exact up (by cases v <;> exact h)
   | io=>
    cases v with
    | ref c=>
     rcases ac.mp h with e | h;·subst e; exact ⟨0,ac.mpr (.inl rfl),rfl⟩
     ·exact up h
    | _=>exact up h
   | tk=>
    cases v with
    | ref c=>
     rcases ac.mp h with e | h;·subst e; exact ⟨0,ac.mpr (.inl rfl),rfl⟩
     ·exact up h
    | _=>exact up h
theorem qcu:∀ {ms:List PM} {vs:List V} {i j:Nat} {a:Addr},(zQ ms vs).Nodup->n+i∈kK n ms->n+j∈kK n ms->vs[i]?=ii (.ref a)->vs[j]?=ii (.ref a)->i=j:=by
 intro ms
 induction ms generalizing n with
 | nil=>intro vs i j a _ h; simp [kK] at h
 | cons m ms e=>
  intro vs i j a nd hi D e1 e2;cases vs with
  | nil=>simp at e1
  | cons v vs=>
   have sub:∀ {k},n+(k+1)∈kK n (m::ms)->n+1+k∈kK (n+1) ms:=λ{k} h=>by
    rw [show n+1+k=n+(k+1) by lia];cases m with
    | val=>exact h
    | io=>exact (ac.mp h).resolve_left (by lia)
    | tk=>exact (ac.mp h).resolve_left (by lia)
   have d:(zQ ms vs).Nodup:=by cases m <;> cases v <;> first | exact nd | exact (aR.mp nd).2
   have c:∀ {k b},n+0∈kK n (m::ms)->v=.ref b->n+(k+1)∈kK n (m::ms)->vs[k]?=ii (.ref b)->False:=λ{k b} l f g o=>by
    subst f;have q:=Gy (n:=n+1) (sub g) o;cases m with
    | val=>have:=xb (n:=n+1) l; lia
    | io=>exact (aR.mp nd).1 q
    | tk=>exact (aR.mp nd).1 q
   cases i with
   | zero=>
    cases j with
    | zero=>rfl
    | succ j=>exact (c hi (by simpa using e1) D (by simpa using e2)).elim
   | succ i=>
    cases j with
    | zero=>exact (c D (by simpa using e2) hi (by simpa using e1)).elim
    | succ j=>exact congrArg (·+1) (e (n:=n+1) d (sub hi) (sub D) (by simpa using e1) (by simpa using e2))
noncomputable def qv (N:List Str) (ds:List D):Sl:=ds.map ii++aJ (N.length - ds.length) ij
variable {α:Type} {N:List Str}
theorem ki {xs:List α} {x:α}:(xs.map ii++aJ (N.length - xs.length) ij)[i]?=ii (ii x)↔xs[i]?=ii x:=by
 by_cases h:i < xs.length
 ·rw [dO (by simpa using h),aG];cases e:xs[i]? with
  | none=>simp
  | some y=>simp
 ·rw [cH (by simpa using h),cq];have e:xs[i]?=none:=bX.mpr (by lia);rw [e];split <;> simp
variable {ms:List PM}
theorem GA (y:Same F H) (r:ArgsIs K F H ms vs ds) (nd:(zQ ms vs).Nodup):Rep K (kK 0 ms) F H (ud N vs) (qv N ds):=by
 obtain ⟨h1,h2⟩:=XR (n:=0) r;obtain ⟨c,l⟩:=r.length;refine ⟨y,by simp [ud,qv,c,l],λi d hi e=>?_,λi d hi e=>?_,λi hi=>?_,λi j a hi D e1 e2=>?_⟩;·obtain ⟨v,a,b⟩:=h1 i d (ki.mp e) (by simpa using hi);exact ⟨v,ki.mpr a,b⟩
 ·obtain ⟨v,a,b⟩:=h2 i d (ki.mp e) (by simpa using hi);exact ⟨v,ki.mpr a,b⟩
 ·have q:=xb hi;have hl:i < ds.length:=by lia
  exact ⟨ds[i],ki.mpr (by simp [hl])⟩
 ·exact qcu (n:=0) nd (by simpa using hi) (by simpa using D) (ki.mp e1) (ki.mp e2)
theorem qcv:OA (kK 0 ms) (ud N vs) b↔LA ms vs b:=by
 constructor;·rintro ⟨i,hi,e⟩;exact Gy (n:=0) (by simpa using hi) (ki.mp e)
 ·intro h;obtain ⟨j,h1,h2⟩:=Gz (n:=0) h;exact ⟨j,by simpa using h1,ki.mpr h2⟩
noncomputable def kj (ρ:Sl):Nat->List PM->List D
 | _,[]=>[]
 | n,.io::ms=>((ρ[n]?).getD ij).getD .non::kj ρ (n+1) ms
 | n,_::ms=>.non::kj ρ (n+1) ms
theorem qfd {σ:St} {N:List Str}:∀ {ms:List PM} {vs:List V} {n:Nat},vs.length=ms.length->(∀ i∈Yy n ms,∃ d a,ρ[i]?=ii (ii d)/\vs[i - n]?=ii (V.ref a)/\F a=ij/\OwnIs K F H a d)->xa K F H ms vs (kj ρ n ms):=by
 intro ms
 induction ms with
 | nil=>intro vs n _ _; trivial
 | cons m ms b=>
  intro vs n hl h;cases vs with
  | nil=>simp at hl
  | cons v vs=>
   have rest:(∀ i∈Yy (n+1) ms,i∈Yy n (m::ms))->xa K F H ms vs (kj ρ (n+1) ms):=λc=>by refine b (by simpa using hl) λi hi=>?_;obtain ⟨d,a,e1,e2,e3⟩:=h i (c i hi);have q:=xb (qct hi);refine ⟨d,a,e1,?_,e3⟩;rw [show i - n=(i - (n+1))+1 by lia] at e2;simpa using e2
   cases m with
   | val=>exact rest λi hi=>hi
   | io=>obtain ⟨d,a,e1,e2,e3⟩:=h n (ac.mpr (.inl rfl));refine ⟨⟨a,by simpa using e2,e3.1,?_⟩,rest λi hi=>af _ hi⟩;rw [e1];exact e3.2
   | tk=>exact rest λi hi=>hi
noncomputable def Fl.val:Fl->Option D
 | .nx=>ii .non
 | .rt d=>ii d
 | _=>ij
noncomputable def kn (N:List Str) (ms:List PM) (f:qN) (ds:List D):Out (D×List D):=match f (qv N ds) with
 | .ok (.nx,ρ)=>.ok (.non,kj ρ 0 ms)
 | .ok (.rt d,ρ)=>.ok (d,kj ρ 0 ms)
 | .ok _=>.bad
 | .exc c ρ=>.exc c ((kj ρ 0 ms).map ii)
 | .bad=>.bad
theorem Yz:∀ (l:List D),(l.map ii).map (λx:Option D=>x.getD .non)=l
 | []=>rfl
 | a::l=>congrArg (a::·) (Yz l)
def Out.le {α:Type} (a b:Out α):Prop:=a=.bad\/a=b
theorem qfe {f:qN} {Q:VK} {o:Out (D×List D)} (j:C.io=Yy 0 ms) (l:C.ox=C.io) (r:C.mr=.sh\/∀ ρ,(f (qv N ds))≠.ok (.nx,ρ)) (g:∀ i∈Yy 0 ms,i∈own') (y:Same F H) (m:ArgsIs C.K F H ms vs ds) (nd:(zQ ms vs).Nodup)
  (G:Out.le o (kn N ms f ds)) (h:PoG C.K C.cv ms C.mr vs F H Q C.E o):tSt C (kK 0 ms) own' f { nx:=λ_ H'=>Q .non H',rt:=Q } (ud N vs) H:=by
 refine ⟨F,qv N ds,GA y m nd,?_⟩;have hl:=m.length.1;have ch:∀ {F' H'},Chg (OA (kK 0 ms) (ud N vs)) F H F' H'->Chg (LA ms vs) F H F' H':=λc=>c.mono λx z=>qcv.mp z;have b:∀ {σ':St} {ρ':Sl} {F' H':Hp},ZK C.K C.io F' H' σ' ρ'->(∀ i∈C.io,σ'[i]?=(ud N vs)[i]?)->xa C.K F' H' ms vs (kj ρ' 0 ms):=λ{σ' ρ' F' H'} io e=>by
  refine qfd (N:=N) (σ:=σ') hl λi hi=>?_;have k:i∈C.io:=by rw [j]; exact hi
  obtain ⟨d,a,e1,e2,e3⟩:=io i k;refine ⟨d,a,e1,?_,e3⟩;rw [e i k] at e2;exact ki.mp e2
 rcases G with e | e;·subst e; exact h.elim
 ·subst e;unfold kn at h;cases q:f (qv N ds) with
  | ok p=>
   rw [q] at h;obtain ⟨w,ρ'⟩:=p;cases w with
   | nx=>have u:C.mr=.sh:=r.resolve_right λz=>z ρ' q;exact λσ' F' H' n=>h .non F' H' n.rep.sub (ch n.chg) (b (n.rep.ioIs (by rw [j]; exact g)) n.io) (by rw [u]; exact .non)
   | rt d=>exact λv σ' F' H' s io c e t=>h v F' H' s (ch c) (b io e) t
   | bk=>exact h.elim
   | ct=>exact h.elim
  | exc c ρ'=>rw [q] at h;exact λF' H' s io T=>h F' H' s (ch T) (by rw [Yz]; exact b (σ':=ud N vs) (by rw [<-l]; exact io) λ_ _=>rfl)
  | bad=>rw [q] at h; exact h.elim
def qiC (K:Frag) (cv:Str->ip) (E:XK) (ms:List PM) (mr:Mo):Ct:=⟨K,cv,E,Yy 0 ms,mr,[],Yy 0 ms,λ_ h=>h⟩
theorem qkk {P:iE} {w:iG} {K:Frag} {mg:Str->Option ip} {base:Heap} {CX:CXT} {x qual:Str} {st:Stmt} {f:Addr} {fd:li} {N ps:List Str} {k:Nat} {cv:Str->ip} {ms:List PM} {mr:Mo} {own':List Nat} {fb:qN} {G:ko}
  (F:Fun K x qual st f fd) (S:FnScope N ps (jg st)) (hl:ms.length=ps.length) (g:∀ i∈Yy 0 ms,i∈own') (r:mr=.sh\/∀ ds ρ,(fb (qv N ds))≠.ok (.nx,ρ))
  (a:∀ (cdv:ip) (A:iL) (outer:List Env) (s:iu) (H:Hp) (E:XK),Room k (A.deeper (lY qual (jg st) s.heap.objs.size f cdv)) ->PSs (qeO CX P w K mg base N qual (jg st) f cdv A outer s H E) (vt st) (tSt (qiC K cv E ms mr) (kK 0 ms) own' fb))
  (c:∀ ds,Out.le (G ds) (kn N ms fb ds)):FnOk P w K mg base CX (k+1) f fd ps (spD K cv ms mr G):=by
 obtain ⟨oc,od,kV,doc,pm,an,cdv,ct,osl,rfl,j,d⟩:=F.ex;refine qjg j d S (λvs H Q E h=>?_) λA outer s H vs Q E hr p=>?_;·obtain ⟨F,ds,_,b,_⟩:=h;rw [b.length.1,hl]
 ·obtain ⟨F1,ds,y,b,nd,h⟩:=p;refine ⟨_,a cdv A outer s H E hr,?_⟩;exact qfe (C:=qiC K cv E ms mr) rfl rfl (r.imp id λz ρ=>z ds ρ) g y b nd (c ds) h
noncomputable def KJ:AK->PM
 | .vl=>.val
 | .sl _=>.io
 | .fr=>.tk
noncomputable def vb:List AK->List D->Sl->Option (List D)
 | [],[],_=>ii []
 | .sl i::as,_::ds,ρ=>match ρ[i]? with
  | some (ii d)=>(vb as ds ρ).map (d::·)
  | _=>ij
 | .vl::as,d::ds,ρ=>(vb as ds ρ).map (d::·)
 | .fr::as,d::ds,ρ=>(vb as ds ρ).map (d::·)
 | _,_,_=>ij
noncomputable def zX:List AK->List D->Sl->Sl
 | .sl i::as,d::outs,ρ=>zX as outs (ρ.set i (ii d))
 | _::as,_::outs,ρ=>zX as outs ρ
 | _,_,ρ=>ρ
noncomputable def jz:List AK->List Nat
 | []=>[]
 | .sl i::as=>i::jz as
 | _::as=>jz as
noncomputable def frA:List AK->Nat
 | []=>0
 | .fr::as=>frA as+1
 | _::as=>frA as
section
theorem xc:∀ {as:List AK} {vs:List V} {ds f:List D},Rep K own F H σ ρ->(∀ i∈jz as,i∈own)->ArgV K H0 F H σ as vs ds->vb as ds ρ=ii f->ArgsIs K F H (as.map KJ) vs f
 | [],vs,ds,f,rp,hs,av,e=>by cases vs <;> cases ds <;> first | exact av.elim | (simp [vb] at e; subst e; trivial)
 | a::as,[],ds,f,rp,hs,av,e=>by cases a <;> exact av.elim
 | a::as,v::vs,[],f,rp,hs,av,e=>by cases a <;> exact av.elim
 | .vl::as,v::vs,d::ds,f,rp,hs,av,e=>by
  cases q:vb as ds ρ with
  | none=>simp [vb,q] at e
  | some l=>
   have e:d::l=f:=by simpa [vb,q] using e
   subst e;exact ⟨av.1,xc rp hs av.2 q⟩
 | .fr::as,v::vs,d::ds,f,rp,hs,av,e=>by
  cases q:vb as ds ρ with
  | none=>simp [vb,q] at e
  | some l=>
   have e:d::l=f:=by simpa [vb,q] using e
   subst e;obtain ⟨a,h1,_,h2,g⟩:=av.1;exact ⟨⟨a,h1,h2,g⟩,xc rp hs av.2 q⟩
 | .sl i::as,v::vs,d::ds,f,rp,hs,av,e=>by
  obtain ⟨h1,_,b⟩:=av;have hi:i∈own:=hs i (ac.mpr (.inl rfl));obtain ⟨d',hd⟩:=rp.opn i hi;obtain ⟨a,e1,e2,e3⟩:=rp.ow i d' hi hd;rw [h1] at e1;cases e1;cases q:vb as ds ρ with
  | none=>simp [vb,q,hd] at e
  | some l=>
   have e:d'::l=f:=by simpa [vb,q,hd] using e
   subst e;exact ⟨⟨a,rfl,e2,e3⟩,xc rp (λj h=>hs j (af _ h)) b q⟩
theorem vy:∀ {as:List AK} {vs:List V} {ds:List D} {b:Addr},ArgV K H0 F H σ as vs ds->b∈zQ (as.map KJ) vs->(∃ i∈jz as,σ[i]?=ii (ii (V.ref b)))\/(H0 b=ij/\frA as≠0/\H b≠ij/\F b=ij)
 | [],vs,ds,b,av,h=>by cases vs <;> simp [zQ] at h
 | a::as,[],ds,b,av,h=>by cases a <;> exact av.elim
 | a::as,v::vs,[],b,av,h=>by cases a <;> exact av.elim
 | .vl::as,v::vs,d::ds,b,av,h=>by
  have h:b∈zQ (as.map KJ) vs:=by cases v <;> exact h
  exact vy (as:=as) av.2 h
 | .fr::as,v::vs,d::ds,b,av,h=>by
  obtain ⟨⟨a,rfl,f,C,o⟩,c⟩:=av;have h:b∈a::zQ (as.map KJ) vs:=h;rcases ac.mp h with e | h;·subst e; exact .inr ⟨f,by simp [frA],o.there,C⟩
  ·rcases vy c h with z | ⟨z,_,z2⟩
   ·exact .inl z
   ·exact .inr ⟨z,by simp [frA],z2⟩
 | .sl i::as,v::vs,d::ds,b,av,h=>by
  obtain ⟨h1,_,c⟩:=av;have up:b∈zQ (as.map KJ) vs->(∃ j∈jz (.sl i::as),σ[j]?=ii (ii (V.ref b)))\/(H0 b=ij/\frA (.sl i::as)≠0/\H b≠ij/\F b=ij):=λh=>by
   rcases vy c h with ⟨j,hj,e⟩ | z;·exact .inl ⟨j,af _ hj,e⟩
   ·exact .inr z
  cases v with
  | ref a=>
   have h:b∈a::zQ (as.map KJ) vs:=h;rcases ac.mp h with e | h;·subst e; exact .inl ⟨i,ac.mpr (.inl rfl),h1⟩
   ·exact up h
  | _=>exact up h
theorem yb:∀ {as:List AK} {vs:List V} {ds:List D},Rep K own F H σ ρ->(∀ x,OA own σ x->H0 x≠ij)->(∀ i∈jz as,i∈own)->(jz as).Nodup->frA as<=1->ArgV K H0 F H σ as vs ds->(zQ (as.map KJ) vs).Nodup
 | [],vs,ds,rp,h0,hs,nd,hf,av=>by cases vs <;> simp [zQ]
 | a::as,[],ds,rp,h0,hs,nd,hf,av=>by cases a <;> exact av.elim
 | a::as,v::vs,[],rp,h0,hs,nd,hf,av=>by cases a <;> exact av.elim
 | .vl::as,v::vs,d::ds,rp,h0,hs,nd,hf,av=>by have q:=yb (as:=as) rp h0 hs nd hf av.2;cases v <;> exact q
 | .fr::as,v::vs,d::ds,rp,h0,hs,nd,hf,av=>by
  have g:frA as=0:=by simp only [frA] at hf; lia
  obtain ⟨⟨a,rfl,l,C,o⟩,b⟩:=av;show (a::zQ (as.map KJ) vs).Nodup;refine aR.mpr ⟨λz=>?_,yb rp h0 hs nd (by lia) b⟩;rcases vy b z with ⟨i,hi,e⟩ | ⟨_,n,_⟩
  ·exact h0 a ⟨i,hs i hi,e⟩ l
  ·exact n g
 | .sl i::as,v::vs,d::ds,rp,h0,hs,nd,hf,av=>by
  obtain ⟨h1,_,b⟩:=av;have h:∀ j∈jz as,j∈own:=λj c=>hs j (af _ c);have hi:i∈own:=hs i (ac.mpr (.inl rfl));obtain ⟨k,f⟩:=aR.mp nd;have q:=yb rp h0 h f hf b;cases v with
  | ref a=>
   show (a::zQ (as.map KJ) vs).Nodup;refine aR.mpr ⟨λz=>?_,q⟩;rcases vy b z with ⟨j,c,e⟩ | ⟨n,_⟩
   ·exact k (by rw [rp.dis i j a hi (h j c) h1 e]; exact c)
   ·exact h0 a ⟨i,hi,h1⟩ n
  | _=>exact q
theorem wy:∀ {as:List AK} {b:List D} {ρ:Sl} {i:Nat},i∉jz as->(zX as b ρ)[i]?=ρ[i]?
 | [],b,ρ,i,h=>by cases b <;> rfl
 | a::as,[],ρ,i,h=>by cases a <;> rfl
 | .vl::as,d::b,ρ,i,h=>wy (as:=as) h
 | .fr::as,d::b,ρ,i,h=>wy (as:=as) h
 | .sl j::as,d::b,ρ,i,h=>by
  have h':i≠j/\i∉jz as:=by simpa [jz] using h
  show (zX as b (ρ.set j (ii d)))[i]?=_;rw [wy h'.2,aC (bw h'.1)]
theorem zY:∀ {as:List AK} {b:List D} {ρ:Sl},(zX as b ρ).length=ρ.length
 | [],b,ρ=>by cases b <;> rfl
 | a::as,[],ρ=>by cases a <;> rfl
 | .vl::as,d::b,ρ=>zY (as:=as)
 | .fr::as,d::b,ρ=>zY (as:=as)
 | .sl j::as,d::b,ρ=>by show (zX as b (ρ.set j (ii d))).length=_;rw [zY,fz]
theorem Jw {F' H':Hp}:∀ {as:List AK} {vs:List V} {ds b:List D} {ρ:Sl},(jz as).Nodup->(∀ i∈jz as,i < ρ.length)->ArgV K H0 F H σ as vs ds->xa K F' H' (as.map KJ) vs b->∀ i∈jz as,∃ d a,(zX as b ρ)[i]?=ii (ii d)/\σ[i]?=ii (ii (V.ref a))/\F' a=ij/\OwnIs K F' H' a d
 | [],vs,ds,b,ρ,nd,hl,av,o,i,hi=>by simp [jz] at hi
 | a::as,[],ds,b,ρ,nd,hl,av,o,i,hi=>by cases a <;> exact av.elim
 | a::as,v::vs,[],b,ρ,nd,hl,av,o,i,hi=>by cases a <;> exact av.elim
 | a::as,v::vs,d::ds,[],ρ,nd,hl,av,o,i,hi=>by cases a <;> exact o.elim
 | .vl::as,v::vs,d::ds,u::b,ρ,nd,hl,av,o,i,hi=>Jw (as:=as) nd hl av.2 o i hi
 | .fr::as,v::vs,d::ds,u::b,ρ,nd,hl,av,o,i,hi=>Jw (as:=as) nd hl av.2 o i hi
 | .sl j::as,v::vs,d::ds,u::b,ρ,nd,hl,av,o,i,hi=>by
  obtain ⟨f,n⟩:=aR.mp nd;obtain ⟨h1,_,c⟩:=av;obtain ⟨⟨a,e,C,ow⟩,o2⟩:=o;subst e;rcases ac.mp hi with e | hi;·subst e;refine ⟨u,a,?_,h1,C,ow⟩;show (zX as b (ρ.set i (ii u)))[i]?=_;rw [wy f,aN (hl i (ac.mpr (.inl rfl)))]
  ·exact Jw (as:=as) (ρ:=ρ.set j (ii u)) n (λk h=>by rw [fz]; exact hl k (af _ h)) c o2 i hi
end
noncomputable def qm (as:List AK) (G:ko) (fr:uj):jl:=λρ=>(fr ρ).bind λp=>match vb as p.1 p.2 with
 | some ds=>match G ds with
  | .ok q=>.ok (q.1,zX as q.2 p.2)
  | .exc c o=>.exc c (zX as (o.map (·.getD .non)) p.2)
  | .bad=>.bad
 | none=>.bad
variable {mr:Mo} {f:Addr} {ps:List Str}
section
variable {G:ko} {fr:uj}
theorem YA {F' H':Hp} {b:List D} (r:Rep C.K own F H σ ρ) (p:∀ x,OA own σ x->H0 x≠ij) (h:∀ i∈jz as,i∈own) (nd:(jz as).Nodup) (m:ArgV C.K H0 F H σ as vs ds)
  (y:Same F' H') (c:Chg (LA (as.map KJ) vs) F H F' H') (o:xa C.K F' H' (as.map KJ) vs b):Rep C.K own F' H' σ (zX as b ρ):=by
 have pin:=Jw (ρ:=ρ) nd (λi hi=>by obtain ⟨d,e⟩:=r.opn i (h i hi);exact (aF.mp e).1) m o;refine ⟨y,by rw [zY]; exact r.len,λi d hi e=>?_,λi d hi e=>?_,λi hi=>?_,r.dis⟩;·rw [wy (λz=>hi (h i z))] at e;obtain ⟨v,h1,h2⟩:=r.val i d hi e;exact ⟨v,h1,h2.mono c.grow⟩
 ·by_cases q:i∈jz as;·obtain ⟨d',a,e1,e2,e3,s⟩:=pin i q;rw [e1] at e;cases e;exact ⟨a,e2,e3,s⟩
  ·rw [wy q] at e;obtain ⟨a,h1,h2,k⟩:=r.ow i d hi e;have l:¬LA (as.map KJ) vs a:=λz=>by
    rcases vy m z with ⟨j,f,t⟩ | ⟨n,_⟩
    ·exact q (by rw [r.dis i j a hi (h j f) h1 t]; exact f)
    ·exact p a ⟨i,hi,h1⟩ n
   refine ⟨a,h1,?_,k.grow c.grow λo' g=>c.keep a o' g l⟩;cases g:F' a with
   | none=>rfl
   | some u=>
    rcases c.new a (by rw [g]; simp) with z | z | z;·exact absurd h2 z
    ·exact absurd z k.there
    ·exact absurd z l
 ·by_cases q:i∈jz as;·obtain ⟨d',a,e1,_⟩:=pin i q;exact ⟨d',e1⟩
  ·rw [wy q];exact r.opn i hi
theorem qff {Q:VK} (l:∀ i∈C.ox,i∈own) (s:∀ i∈jz as,i∈own) (nd:(jz as).Nodup) (u:frA as<=1) (h:tE C own mr (qm as G fr) σ H Q):tAr C own as fr σ H λvs H1=>spD C.K C.cv (as.map KJ) mr G (vs++[]) H1 Q C.E:=by
 obtain ⟨F,ρ,r,h⟩:=h;have m:∀ x,OA own σ x->H x≠none:=λx z=>(r.OA_there z).1;refine ⟨F,ρ,r,?_⟩;unfold qm at h;cases k:fr ρ with
 | ok p=>
  rw [k] at h;obtain ⟨ds,ρ1⟩:=p;intro vs F1 H1 a c1 g;rw [be];have h1:Po C own mr σ F H (match vb as ds ρ1 with | some ds=>(match G ds with | .ok q=>.ok (q.1,zX as q.2 ρ1) | .exc c o=>.exc c (zX as (o.map (·.getD .non)) ρ1) | .bad=>.bad) | none=>.bad) Q:=h;cases q:vb as ds ρ1 with
  | none=>simp only [q] at h1; exact h1.elim
  | some f=>
   simp only [q] at h1;have lo:∀ x,LA (as.map KJ) vs x->OA own σ x\/H x=none:=λx z=>by
    rcases vy g z with ⟨i,hi,e⟩ | ⟨n,_⟩
    ·exact .inl ⟨i,s i hi,e⟩
    ·exact .inr n
   refine ⟨F1,f,a.sub,xc a s g q,yb a m s nd u g,?_⟩;cases j:G f with
   | ok p=>rw [j] at h1;obtain ⟨d,b⟩:=p;exact λv F' H' y c o t=>h1 v F' H' (YA a m s nd g y c o) (c1.trans c lo) (MoIs.back (Ha:=H1) c1 t)
   | exc x o=>rw [j] at h1; exact λF' H' y c b=>h1 F' H' y ((YA a m s nd g y c b).ioIs l) (c1.trans c lo)
   | bad=>rw [j] at h1; exact h1.elim
 | exc c=>rw [k] at h; exact h
 | bad=>rw [k] at h; exact h.elim
theorem qfg {CX:CXT} {k:Nat} {fd:li} {p pos:Pos} (F:FnOk X.prog X.w X.K X.mg X.base CX k f fd ps (spD C.K C.cv ms mr G)) (hr:Room k X.A) (hg:Gl X x) (m:X.mg x=ii (.ref f)) (a:keepIn X.K (.ref f)=ir) (j:Binds X.K fd ps []) (hx:yT CX X C.E)
  (n:PA X (e::es) (tAr C own as fr)) (s:ms=as.map KJ:=by rfl) (c:∀ i∈jz as,i∈own:=by decide) (nd:(jz as).Nodup:=by decide) (d:frA as<=1:=by decide) (o:∀ i∈C.ox,i∈own:=by exact ug rfl) (b:Dbg x:=by decide) (g:iA (e::es) X.env=(iq,eval e X.env)::iA es X.env:=by exact jS rfl)
  (l:(iZ pos (iA es X.env)).any (·.1)=false:=by exact zW rfl):PE X (.Call (.Name x p) (e::es) [] pos) (tE C own mr (qm as G fr)):=by
 subst s;exact kf (qeN F hr hg m a j .nil hx n b g l) λσ H Q h=>qff o c nd d h
end
structure ItIs (K:Frag) (F:Hp) (J:It) (ds:List D):Prop where
 go:∀ i H,i < ds.length->Same F H->J.go i H
 yld:∀ i Fi H x H' d,ds[i]?=ii d->Same F Fi->Same Fi H->J.yld i H x H'->∃ F',Chg No Fi H F' H'/\Same F' H'/\Is K F' x d
 stop:∀ i H,ds.length<=i->Same F H->J.stop i H
def PoI (C:Ct) (own:List Nat) (σ:St) (F H:Hp) (r:Out (List D×Sl)) (R:It->Hp->Prop):Prop:=match r with
 | .ok (ds,ρ')=>∀ J F' H',Rep C.K own F' H' σ ρ'->Chg (OA own σ) F H F' H'->ItIs C.K F' J ds->R J H'
 | .exc c ρ'=>∀ F' H',Same F' H'->ZK C.K C.ox F' H' σ ρ'->Chg (OA own σ) F H F' H'->C.E (C.cv c) ij H'
 | .bad=>False
def tIt (C:Ct) (own:List Nat) (f:uj):TI:=λσ H R=>∃ F ρ,Rep C.K own F H σ ρ/\PoI C own σ F H (f ρ) R
noncomputable def xf:D->Out (List D)
 | .lst xs=>.ok xs
 | .tup xs=>.ok xs
 | _=>.bad
noncomputable def qkU (f:jl):uj:=λρ=>(f ρ).bind λp=>(xf p.1).bind λds=>.ok (ds,p.2)
theorem PoI.bindV {m:Mo} {o:WL} {k:D×Sl->Out (List D×Sl)} {Q:It->Hp->Prop} {R:VK} (hp:PoI C own σ F H (o.bind k) Q)
  (h:∀ v F1 H1 d ρ1,Rep C.K own F1 H1 σ ρ1->Chg (OA own σ) F H F1 H1->MoIs C.K m H F1 H1 v d->PoI C own σ F H (k (d,ρ1)) Q->R v H1):Po C own m σ F H o R:=by
 cases o with
 | ok p=>exact λv F1 H1 a c b=>h v F1 H1 p.1 p.2 a c b hp
 | exc x=>exact hp
 | bad=>exact hp.elim
variable {g:D->Sl->Out Sl} {tg iter:Expr} {xs:List V} {gs:List D->Sl->Out Sl}
section
variable {f:jl}
theorem qcw {t t':TI} (h:PI X tg e t) (i:∀ σ H Q,t' σ H Q->t σ H Q):PI X tg e t':=⟨λpins s σ H R I w=>h pins s σ H R I (i σ H R w)⟩
theorem qhg (p:SqL K F a xs) (t:IsL K F xs ds):ItIs K F (Itl K a) ds where
 go:=λi H hi s=>by
  have hx:i < xs.length:=by rw [t.length]; exact hi
  exact ⟨xs,xs[i],s.seq p,by simp [hx]⟩
 yld:=λi Fi H x H' d e s1 s2 y=>by obtain ⟨rfl,y⟩:=y;obtain ⟨v,h1,h2⟩:=t.getD e;have q:=y xs ((s1.trans s2).seq p);rw [h1] at q;cases q;exact ⟨Fi,.refl,s2,h2.mono s1⟩
 stop:=λi H hi s=>⟨xs,s.seq p,by rw [t.length]; exact hi⟩
theorem qhh (p:SqT K F a xs) (t:IsL K F xs ds):ItIs K F (Itt K a) ds where
 go:=λi H hi s=>by
  have hx:i < xs.length:=by rw [t.length]; exact hi
  exact ⟨xs,xs[i],jj s p,by simp [hx]⟩
 yld:=λi Fi H x H' d e s1 s2 y=>by obtain ⟨rfl,y⟩:=y;obtain ⟨v,h1,h2⟩:=t.getD e;have q:=y xs (jj (s1.trans s2) p);rw [h1] at q;cases q;exact ⟨Fi,.refl,s2,h2.mono s1⟩
 stop:=λi H hi s=>⟨xs,jj s p,by rw [t.length]; exact hi⟩
noncomputable def yQ (lo:Int) (n:Nat):List D:=(aP n).map λk=>.int (lo+(k:Nat))
theorem qhi {lo:Int}:ItIs K F (Itr lo n) (yQ lo n) where
 go:=λi H hi _=>by
  have:i < n:=by simpa [yQ] using hi
  exact this
 yld:=λi Fi H x H' d e s1 s2 y=>by
  obtain ⟨rfl,rfl⟩:=y;have e:d=.int (lo+i):=by
   unfold yQ at e;rw [aG] at e;cases q:(aP n)[i]? with
   | none=>rw [q] at e; cases e
   | some k=>
    rw [q] at e;have h:k=i:=by have:=aF.mp q;obtain ⟨_,z⟩:=this;simpa using z.symm
    subst h;exact (aK.inj e).symm
  subst e;exact ⟨Fi,.refl,s2,.int _⟩
 stop:=λi H hi _=>by
  have:n<=i:=by simpa [yQ] using hi
  exact this
noncomputable def jA (f:jl):uj:=λρ=>(f ρ).bind λp=>match p.1 with
 | .int j=>if -(2 ^ 62)<=j/\j < 2 ^ 62 then .ok (yQ 0 j.toNat,p.2) else .bad
 | _=>.bad
theorem vm {p:Pos} (hg:Gl X "range") (b:X.mg "range"=ij) (h:PE X e (tE C own m f)) (s:iA [e] X.env=[(iq,eval e X.env)]:=by exact qR rfl):PI X tg (.Call (.Name "range" p) [e] [] pos) (tIt C own (jA f)):=by
 refine qcw (ZR hg b (jt h kM s) s) λσ H R ⟨F,ρ,r,h⟩=>⟨F,ρ,r,PoI.bindV h λv F1 H1 d ρ1 a c1 c h1=>?_⟩
 cases d with
 | int j=>
  obtain rfl:=c.top.int;have h1:PoI C own σ F H (if -(2 ^ 62)<=j/\j < 2 ^ 62 then .ok (yQ 0 j.toNat,ρ1) else .bad) R:=h1;by_cases z:-(2 ^ 62)<=j/\j < 2 ^ 62;·rw [Aa z] at h1;exact ⟨j,rfl,z.1,z.2,h1 _ F1 H1 a c1 qhi⟩
  ·rw [Ab z] at h1; exact h1.elim
 | _=>exact h1.elim
def tGd (C:Ct) (own:List Nat) (g:D->Sl->Out Sl):TG:=λv σ H Q=>∃ F ρ d,Rep C.K own F H σ ρ/\Is C.K F v d/\∃ ρ',g d ρ=.ok ρ'/\∀ σ',Rep C.K own F H σ' ρ'->(∀ b,OA own σ' b->OA own σ b)->(∀ i∈C.io,σ'[i]?=σ[i]?)->Q σ' H
def qiD (C:Ct) (own:List Nat) (g:List D->Sl->Out Sl):TGs:=λvs σ H Q=>∃ F ρ ds,Rep C.K own F H σ ρ/\IsL C.K F vs ds/\∃ ρ',g ds ρ=.ok ρ'/\∀ σ',Rep C.K own F H σ' ρ'->(∀ b,OA own σ' b->OA own σ b)->(∀ i∈C.io,σ'[i]?=σ[i]?)->Q σ' H
theorem qhj {t t':TG} (h:PG X e t) (i:∀ v σ H Q,t' v σ H Q->t v σ H Q):PG X e t':=⟨λpins s σ H v u Q I r w=>h pins s σ H v u Q I r (i v σ H Q w)⟩
theorem qdW {t t':TGs} (h:PGs X es t) (i:∀ v σ H Q,t' v σ H Q->t v σ H Q):PGs X es t':=⟨λpins s σ H v u Q I r w=>h pins s σ H v u Q I r (i v σ H Q w)⟩
noncomputable def gNm (i:Nat):D->Sl->Out Sl:=λd ρ=>if i < ρ.length then .ok (ρ.set i (ii d)) else .bad
theorem QO {own:List Nat} (h:i∉own):vX own [i]=own:=by unfold vX;rw [List.filter_eq_self];intro j D;simp only [aA,decide_eq_true_eq];exact λz=>h (by rw [<-z]; exact D)
theorem xg (c:X.N.Nodup) (hi:X.N[i]?=ii x) (hx:Loc X.env.scope x) (h:i∉own:=by decide) (o:i∉C.io:=by exact yX rfl) (f:X.fn x=ir\/X.env.scope.names.lookup x=ii .local:=by first | exact .inl rfl | exact .inr rfl):PG X (.Name x pos) (tGd C own (gNm i)):=by
 refine qhj (qeH c hi hx f) λv σ H Q ⟨F,ρ,d,a,is,ρ',e,k⟩=>?_;unfold gNm at e;by_cases z:i < ρ.length
 ·rw [Aa z] at e;cases e;have r2:=a.put z is;rw [QO h] at r2;refine k _ r2 (λb q=>?_) λj D=>aC λq=>o (by rw [q]; exact D);have g:OA (vX own [i]) (σ.set i (ii v)) b:=by rw [QO h]; exact q
  exact g.put
 ·rw [Ab z] at e; cases e
noncomputable def qW:List D->Sl->Out Sl
 | [],ρ=>.ok ρ
 | _::_,_=>.bad
noncomputable def qp (g:D->Sl->Out Sl) (gs:List D->Sl->Out Sl):List D->Sl->Out Sl
 | d::ds,ρ=>(g d ρ).bind λρ1=>gs ds ρ1
 | [],_=>.bad
theorem jG:PGs X [] (qiD C own qW):=by
 refine qdW qeI λvs σ H Q ⟨F,ρ,ds,a,is,ρ',e,k⟩=>?_;cases is with
 | nil=>cases e; exact ⟨rfl,k σ a (λ_ z=>z) λ_ _=>rfl⟩
 | cons _ _=>cases e
theorem qy (h1:PG X e (tGd C own g)) (h2:PGs X es (qiD C own gs)) (s:(i6 (e::es) X.env).map (·.2)=assign e X.env::(i6 es X.env).map (·.2):=by rfl):PGs X (e::es) (qiD C own (qp g gs)):=by
 refine qdW (qb2 h1 h2 s) λvs σ H Q ⟨F,ρ,ds,p,is,ρ',e,k⟩=>?_;cases is with
 | nil=>cases e
 | @cons v d vs ds a t=>
  have e:(g d ρ).bind (λρ1=>gs ds ρ1)=.ok ρ':=e;cases q:g d ρ with
  | ok ρ1=>rw [q] at e;exact ⟨v,vs,rfl,F,ρ,d,p,a,ρ1,q,λσ1 h j m=>⟨F,ρ1,ds,h,t,ρ',e,λf r o l=>k f r (λb z=>j b (o b z)) λi hi=>(l i hi).trans (m i hi)⟩⟩
  | exc c=>rw [q] at e; cases e
  | bad=>rw [q] at e; cases e
noncomputable def qX (n:Nat) (gs:List D->Sl->Out Sl):D->Sl->Out Sl
 | .tup ds,ρ=>if ds.length=n then gs ds ρ else .bad
 | _,_=>.bad
theorem kq {k:Nat} (f:C.K=X.K) (b:X.calm=ir) (h:PGs X es (qiD C own gs)) (hn:(i6 es X.env).length=n:=by rfl) (c:(i6 es X.env).findIdx? (·.1)=none:=by rfl):PG X (.Tuple es k pos) (tGd C own (qX n gs)):=by
 refine qhj (qgH b h hn c) λv σ H Q ⟨F,ρ,d,r,is,ρ',e,k⟩=>?_;cases is with
 | @tup a xs ds p t=>
  have e:(if ds.length=n then gs ds ρ else .bad)=.ok ρ':=e;by_cases z:ds.length=n;·rw [Aa z] at e;exact ⟨a,xs,rfl,by rw [<-f]; exact jj r.sub p,by rw [t.length]; exact z,F,ρ,ds,r,t,ρ',e,k⟩
  ·rw [Ab z] at e; cases e
 | _=>cases e
noncomputable def qdX (fe:jl) (g:D->Sl->Out Sl):qN:=λρ=>(fe ρ).bind λp=>match g p.1 p.2 with
 | .ok ρ'=>.ok (.nx,ρ')
 | _=>.bad
theorem Ud (k:PE X e (tE C own m f)) (hg:PG X tg (tGd C own g)) (j:m≠.any:=by decide) (s:swapsWithSole [tg] e pos.line X.env=pure false:=by rfl) (w:swappedStores [tg] e X.env=pure none:=by rfl)
  (h1:(i6 [tg] X.env).map (·.2)=[assign tg X.env]:=by rfl):PS X (.Assign [tg] e pos) (tSt C own own (qdX f g)):=by
 refine Ju (qgI (uh k j) hg s w h1) λD σ H ⟨F,ρ,p,h⟩=>⟨F,ρ,p,PoS.bindE h λv F1 H1 d ρ1 a c1 i h1=>?_⟩
 cases q:g d ρ1 with
 | ok ρ'=>simp only [q] at h1;exact ⟨F1,ρ1,d,a,i,ρ',q,λσ' r oa io=>h1 σ' F1 H1 ⟨r,.refl,λb z=>.inl (oa b z),io⟩⟩
 | exc c=>simp only [q] at h1; exact h1.elim
 | bad=>simp only [q] at h1; exact h1.elim
noncomputable def kO (g:D->Sl->Out Sl) (fb:qN):List D->qN
 | [],ρ=>.ok (.nx,ρ)
 | d::ds,ρ=>(g d ρ).plain.bind λρ1=>(fb ρ1).bind λp=>match p.1 with
  | .nx=>kO g fb ds p.2
  | .ct=>kO g fb ds p.2
  | .bk=>.ok (.nx,p.2)
  | .rt v=>.ok (.rt v,p.2)
noncomputable def wW (fi:uj) (g:D->Sl->Out Sl) (fb:qN):qN:=λρ=>(fi ρ).bind λp=>kO g fb p.1 p.2
theorem jH {body:List Stmt} {fi:uj} {fb:qN} (hp:PassesOwn (model X.prog X.w) X.A X.env X.xe) (S:X.calm=ir) (hi:PI X tg iter (tIt C own fi)) (hg:PG X tg (tGd C own g))
  (T:PSs X body (tSt { C with ol:=own } own own fb)) (Q:∀ x,j5 iter X.env x=pure x:=by intro _; rfl):PS X (.For tg iter body [] pos) (tSt C own own (wW fi g fb)):=by
 refine Ju (qgK hp S hi hg T Q) λD σ H ⟨F,ρ,O,h⟩=>⟨F,ρ,O,?_⟩
 unfold wW at h;cases I:fi ρ with
 | exc c=>rw [I] at h; exact h
 | bad=>rw [I] at h; exact h.elim
 | ok p=>
  rw [I] at h;obtain ⟨ds,ρ1⟩:=p;intro J F1 H1 E c1 it;have h:PoS C own own σ F H (kO g fb ds ρ1) D:=h;refine ⟨λi m σ' H'=>m=ds.length - i/\i<=ds.length/\∃ F' ρ',Nx C own own σ F H ρ' σ' F' H'/\Same F1 F'/\PoS C own own σ' F' H' (kO g fb (ds.drop i) ρ') D,⟨ds.length,by simp,bh _,F1,ρ1,.ofE E c1,Same.refl _,h.shift (.ofE E c1)⟩,?_⟩;rintro i m σ' H' ⟨rfl,R,F',ρ',nx,gr,po⟩;by_cases t:i < ds.length
  ·have hd:ds.drop i=ds[i]::ds.drop (i+1):=List.drop_eq_getElem_cons t;rw [hd] at po;have po:PoS C own own σ' F' H' ((g ds[i] ρ').plain.bind λρ1=>(fb ρ1).bind λp=>match p.1 with | .nx=>kO g fb (ds.drop (i+1)) p.2 | .ct=>kO g fb (ds.drop (i+1)) p.2 | .bk=>.ok (.nx,p.2) | .rt v=>.ok (.rt v,p.2)) D:=po;refine .inr ⟨it.go i H' t (gr.trans nx.rep.sub),λo H2=>ds.length - (i+1)=ds.length - (i+1)/\i+1<=ds.length/\∃ F' ρ',Nx C own own σ F H ρ' o F' H2/\Same F1 F'/\PoS C own own o F' H2 (kO g fb (ds.drop (i+1)) ρ') D,λo H2 q=>⟨ds.length - (i+1),by omega,q⟩,λx H2 y=>?_⟩;obtain ⟨r,c2,s2,M⟩:=it.yld i F' H' x H2 ds[i] (by simp [t]) gr nx.rep.sub y;cases q1:g ds[i] ρ' with
   | exc c=>rw [q1] at po; exact po.elim
   | bad=>rw [q1] at po; exact po.elim
   | ok ρ2=>
    rw [q1] at po;refine ⟨r,ρ',ds[i],nx.rep.grow c2 s2,M,ρ2,q1,λj u K N=>⟨r,ρ2,u,?_⟩⟩;have L:Nx C own own σ' F' H' ρ2 j r H2:=⟨u,c2.ofNo,λb z=>.inl (K b z),N⟩
    have a:=PoS.shift (show PoS C own own σ' F' H' ((fb ρ2).bind λp=>match p.1 with | .nx=>kO g fb (ds.drop (i+1)) p.2 | .ct=>kO g fb (ds.drop (i+1)) p.2 | .bk=>.ok (.nx,p.2) | .rt v=>.ok (.rt v,p.2)) D from po) L;have up:∀ {B f k l},Nx { C with ol:=own } own own j r H2 B f k l->Nx C own own j r H2 B f k l:=λz=>⟨z.rep,z.chg,z.oa,z.io⟩
    cases G:fb ρ2 with
    | exc c=>rw [G] at a; exact a
    | bad=>rw [G] at a; exact a.elim
    | ok p=>
     rw [G] at a;obtain ⟨U,B⟩:=p;cases U with
     | nx=>exact λf k l n=>⟨rfl,t,k,B,(nx.then L).then (up n),(gr.trans c2.grow).trans n.chg.grow,PoS.shift (show PoS C own own j r H2 (kO g fb (ds.drop (i+1)) B) D from a) (up n)⟩
     | ct=>exact λf k l n=>⟨rfl,t,k,B,(nx.then L).then (up n),(gr.trans c2.grow).trans n.chg.grow,PoS.shift (show PoS C own own j r H2 (kO g fb (ds.drop (i+1)) B) D from a) (up n)⟩
     | bk=>exact λf k l n=>a f k l (up n)
     | rt d=>exact λv f k l s io c e P=>a v f k l s io c e P
  ·have e:i=ds.length:=by omega
   subst e;rw [List.drop_length] at po;exact .inl ⟨it.stop _ H' (ax _) (gr.trans nx.rep.sub),po σ' F' H' (.refl nx.rep)⟩
noncomputable def kP (ft:yA) (fb:qN):Nat->qN
 | 0,_=>.bad
 | n+1,ρ=>(ft ρ).bind λq=>if q.1=ir then (fb q.2).bind λp=>match p.1 with
  | .nx=>kP ft fb n p.2
  | .ct=>kP ft fb n p.2
  | .bk=>.ok (.nx,p.2)
  | .rt v=>.ok (.rt v,p.2)
  else .ok (.nx,q.2)
theorem GB {body:List Stmt} {ft:yA} {fb:qN} (n:Nat) (hp:PassesOwn (model X.prog X.w) X.A X.env X.xe) (ht:PT X t (tT C own ft)) (y:PSs X body (tSt { C with ol:=own } own own fb)):PS X (.While t body [] pos) (tSt C own own (kP ft fb n)):=by
 refine Ju (qb3 hp ht y) λD σ H ⟨F,ρ,u,h⟩=>?_;refine ⟨λm σ' H'=>∃ F' ρ',Rep C.K own F' H' σ' ρ'/\PoS C own own σ' F' H' (kP ft fb m ρ') D,⟨n,F,ρ,u,h⟩,?_⟩;rintro m σ1 H1 ⟨F1,ρ1,j,po⟩;refine ⟨F1,ρ1,j,?_⟩;cases m with
 | zero=>exact po.elim
 | succ m=>
  have po:PoS C own own σ1 F1 H1 ((ft ρ1).bind λq=>if q.1=ir then (fb q.2).bind λp=>match p.1 with | .nx=>kP ft fb m p.2 | .ct=>kP ft fb m p.2 | .bk=>.ok (.nx,p.2) | .rt v=>.ok (.rt v,p.2) else .ok (.nx,q.2)) D:=po;refine PoS.bindT po λi H2 k ρ2 r c2 h2=>?_;cases k with
  | false=>exact h2 σ1 i H2 (.refl r)
  | true=>
   refine ⟨λb o=>∃ F' ρ',Rep C.K own F' o b ρ'/\PoS C own own b F' o (kP ft fb m ρ') D,λb o q=>⟨m,by omega,q⟩,i,ρ2,r,?_⟩;have h2:PoS C own own σ1 i H2 ((fb ρ2).bind λp=>match p.1 with | .nx=>kP ft fb m p.2 | .ct=>kP ft fb m p.2 | .bk=>.ok (.nx,p.2) | .rt v=>.ok (.rt v,p.2)) D:=h2;have up:∀ {B f J a},Nx { C with ol:=own } own own σ1 i H2 B f J a->Nx C own own σ1 i H2 B f J a:=λz=>⟨z.rep,z.chg,z.oa,z.io⟩
   cases l:fb ρ2 with
   | exc c=>rw [l] at h2; exact h2
   | bad=>rw [l] at h2; exact h2.elim
   | ok p=>
    rw [l] at h2;obtain ⟨E,B⟩:=p;cases E with
    | nx=>exact λf J a g=>⟨J,B,g.rep,PoS.shift (show PoS C own own σ1 i H2 (kP ft fb m B) D from h2) (up g)⟩
    | ct=>exact λf J a g=>⟨J,B,g.rep,PoS.shift (show PoS C own own σ1 i H2 (kP ft fb m B) D from h2) (up g)⟩
    | bk=>exact λf J a g=>h2 f J a (up g)
    | rt d=>exact λv f J a s io c e x=>h2 v f J a s io c e x
end
noncomputable def KK (cells:List (Str×Addr)):List (Str×la)->List (Str×Addr)->List (Str×Addr)
 | [],acc=>acc
 | (n,k)::r,acc=>if (k == .free)=ir then KK cells r ((n,(cells.lookup n).getD 0)::acc) else KK cells r acc
variable {env:Env}
theorem ul:∀ (names:List (Str×la)) (acc:List (Str×Addr)),(∀ x∈names,x.2=.free->∃ c,env.cells.lookup x.1=ii c) ->(forIn names acc λ(x:Str×la) (cs:List (Str×Addr))=>if (x.2 == bD)=ir then (do let a <-cellOf env x.1; pure (cx ((x.1,a)::cs))) else pure (cx cs):Sem (List (Str×Addr)))=pure (KK env.cells names acc)
 | [],acc,_=>rfl
 | (n,k)::r,acc,h=>by
  rw [fY];by_cases q:(k == bD)=ir
  ·obtain ⟨c,d⟩:=h (n,k) aq (by simpa using q);have e:cellOf env n=pure c:=by unfold cellOf; rw [d]
   simp only [q,if_true,e];have i:=ul r ((n,c)::acc) (λx hx=>h x (af _ hx));simp only [KK,q,if_true,d,Option.getD_some];exact i
  ·simp only [q,if_false,KK];exact ul r acc (λx hx=>h x (af _ hx))
variable {scope:lG}
theorem QP (h:∀ x∈scope.names,x.2=.free->∃ c,env.cells.lookup x.1=ii c):closureFor scope env=pure (KK env.cells scope.names []):=by have:=ul scope.names [] h;unfold closureFor;simp only [bind_pure];exact this
variable {cells:List (Str×Addr)}
theorem yC:∀ {names:List (Str×la)} {acc:List (Str×Addr)} {x:Str} {c:Addr},(∀ y∈names,y.2=.free->∃ c,cells.lookup y.1=ii c)->(KK cells names acc).lookup x=ii c->cells.lookup x=ii c\/acc.lookup x=ii c
 | [],acc,x,c,_,h=>.inr h
 | (n,k)::r,acc,x,c,hf,h=>by
  unfold KK at h;by_cases q:(k == bD)=ir
  ·rw [Aa q] at h;obtain ⟨T,d⟩:=hf (n,k) aq (by simpa using q);rcases yC (λy C=>hf y (af _ C)) h with z | z;·exact .inl z
   ·rw [bZ] at z;have d:cells.lookup n=ii T:=d;by_cases e:(x == n)=ir
    ·rw [e] at z;simp only [d,Option.getD_some] at z;have:x=n:=by simpa using e
     subst this;rw [d]; exact .inl z
    ·have e:(x == n)=false:=by simpa using e
     rw [e] at z;exact .inr z
  ·rw [Ab q] at h;exact yC (λy C=>hf y (af _ C)) h
theorem Jx:∀ {names:List (Str×la)} {acc:List (Str×Addr)} {x:Str},(∃ c,acc.lookup x=ii c)->∃ c,(KK cells names acc).lookup x=ii c
 | [],_,_,h=>h
 | (n,k)::r,acc,x,h=>by
  unfold KK;by_cases q:(k == bD)=ir
  ·rw [Aa q];refine Jx ?_;obtain ⟨c,d⟩:=h;rw [bZ];by_cases e:(x == n)=ir;·rw [e]; exact ⟨_,rfl⟩
   ·have e:(x == n)=false:=by simpa using e
    rw [e]; exact ⟨c,d⟩
  ·rw [Ab q]; exact Jx h
theorem zZ:∀ {names:List (Str×la)} {acc:List (Str×Addr)} {x:Str},(x,bD)∈names->∃ c,(KK cells names acc).lookup x=ii c
 | (n,k)::r,acc,x,h=>by
  unfold KK;rcases ac.mp h with e | h
  ·cases e;rw [Aa (by rfl)];refine Jx ?_;rw [bZ,beq_self_eq_true];exact ⟨_,rfl⟩
  ·by_cases q:(k == bD)=ir;·rw [Aa q]; exact zZ h
   ·rw [Ab q]; exact zZ h
noncomputable def jE (X:Cx) (scope:lG) (N:List Str) (fp:List Addr) (L:Addr) (s:iu) (H:Hp):Cx:=
 { X with N:=N,s₀:=s,H₀:=H,env:=compEnvC scope (KK X.env.cells scope.names []) L X.env,outer:=X.stack,stack:=X.stack,ex:=fp,fn:=λ_=>iq,pn:=[],xe:=λ_ _=>False }
structure ScOk (X:Cx) (scope:lG):Prop where
 kind:scope.kind=.function
 nocell:∀ y∈scope.names,y.2≠.cell
 names:∀ y∈scope.names,y.2=.local->scope.names.lookup y.1=ii .local
 free:∀ y∈scope.names,y.2=.free->X.env.kindOf y.1=ii .cell\/X.env.kindOf y.1=ii .free
 frl:∀ y∈scope.names,y.2=.free->scope.names.lookup y.1=ii .free
theorem yc {a:α}:∀ {l:List (Str×α)},l.lookup x=ii a->(x,a)∈l
 | [],h=>by simp at h
 | (n,k)::r,h=>by
  rw [bZ] at h;by_cases e:(x == n)=ir
  ·rw [e] at h;have h:ii k=ii a:=h;cases h;have:x=n:=by simpa using e
   subst this;exact aq
  ·have e:(x == n)=false:=by simpa using e
   rw [e] at h;exact af _ (yc h)
theorem zm {k:la} (h:(relabel scope env).names.lookup x=ii k) (a:k=.cell\/k=.free) (hn:∀ y∈scope.names,y.2≠.cell):(x,bD)∈scope.names:=by
 have m:=yc h;obtain ⟨⟨n,k'⟩,c,e⟩:=aw.mp m;dsimp only at e;by_cases q:(k' == bD&&env.scope.kind == .function&&env.kindOf n == ii .cell)=ir
 ·rw [Aa q] at e;cases e;have:k'=.free:=by rw [aS,aS] at q;simpa using q.1.1
  subst this;exact c
 ·rw [Ab q] at e;cases e;rcases a with rfl | rfl;·exact absurd rfl (hn _ c)
  ·exact c
theorem Vo (h:Vis (relabel scope env) x):∃ k,(x,k)∈scope.names:=by
 have go:∀ {k:la},(relabel scope env).names.lookup x=ii k->∃ k,(x,k)∈scope.names:=λ{k} h=>by
  obtain ⟨⟨n,k'⟩,c,e⟩:=aw.mp (yc h);dsimp only at e;by_cases q:(k' == bD&&env.scope.kind == .function&&env.kindOf n == ii .cell)=ir;·rw [Aa q] at e;cases e;exact ⟨_,c⟩
  ·rw [Ab q] at e;cases e;exact ⟨_,c⟩
 rcases h with h | h | h <;> exact go h
variable {pins:Pns} {σc:St} {s s':iu} {fp:List Addr} {h':Heap}
section
theorem gy (I:Inv X pins σ H s) (S:ScOk X scope):∀ y∈scope.names,y.2=.free->∃ c,X.env.cells.lookup y.1=ii c:=λy C e=>I.ok.has y.1 (S.free y C e)
theorem qcx (I:Inv X pins σ H s) (S:ScOk X scope) (J:∀ b∈fp,WK X pins H b) (R:∀ b∈fp,b < s.heap.objs.size) (C:h'.Ns s.heap.objs.size (λ_=>ij))
  (w:∀ b o,s.heap.get? b=ii o->h'.get? b=ii o) (hl:σc.length=N.length)
  (B:∀ (j:Nat) (x:Str) (v:V),N[j]?=ii x->σc[j]?=ii (ii v)->(∃ k,(x,k)∈scope.names)->∃ i:Nat,X.N[i]?=ii x/\σ[i]?=ii (ii v)/\Vis X.env.scope x/\(x,bD)∈scope.names) {t:Nat} :
  Inv (jE X scope N fp s.heap.objs.size s H) [] σc H { s with heap:=h',toks:=t }:=by
 have G:=gy I S;have cl:∀ x c,(KK X.env.cells scope.names []).lookup x=ii c->X.env.cells.lookup x=ii c:=λx c e=>(yC G e).resolve_right (by simp);have A:∀ b∈fp,b∉frs X.stack:=λb g z=>by
  obtain ⟨f0,f1,f2,_⟩:=J b g;rcases ac.mp (I.stkSub b z) with e | e;·exact f1 e
  ·exact f2 e
 refine ⟨⟨I.ok.mod,?_,I.ok.glob,I.ok.blt,ax _,λx y c h1 h2=>I.ok.inj x y c (cl x c h1) (cl y c h2),λx hx=>?_,λx c h=>absurd h (by show ¬(iq=ir); exact bC),I.ok.hd,I.ok.frames,.inl rfl,λb g=>⟨aD (R b g),λx c e z=>?_⟩,I.bs,bN I.ok.bsz I.sz,λb o e g=>?_,A,I.stack,I.stkFree⟩,rfl,I.bare,Un.kept w,⟨_,C,λj x v e1 e2 e3=>?_⟩,λx c e=>?_,I.hok.fresh (ax _),λx c e=>I.freeC x c (cl x c e),λp hp=>absurd (show p∈([]:Pns) from hp) (by simp),I.hok.kept w,hl⟩;·exact S.kind
 ·refine zZ ?_;rcases hx with hx | hx;·exact zm hx (.inl rfl) S.nocell
  ·exact zm hx (.inr rfl) S.nocell
 ·exact (J b g).2.2.2.2.1 x c (cl x c e) z
 ·rcases (J b g).2.2.2.1 with z | z;·exact I.ok.noex b o e z
  ·have D:=ay e;exact absurd (aI D (bN I.ok.bsz z)) (cg _)
 ·obtain ⟨i,g1,W,U,L⟩:=B j x v e1 e2 (Vo e3);obtain ⟨m,hn,E⟩:=I.loc;obtain ⟨u,r,l⟩:=E i x v g1 W U;refine ⟨u,r,?_⟩;obtain ⟨M,f⟩:=zZ (cells:=X.env.cells) (acc:=[]) L;have K:=cl x M f;have kd:(jE X scope N fp s.heap.objs.size s H).env.kindOf x=ii .cell\/(jE X scope N fp s.heap.objs.size s H).env.kindOf x=ii .free\/(jE X scope N fp s.heap.objs.size s H).env.kindOf x=ii .local:=by
   rcases e3 with z | z | z;·exact .inr (.inr z)
   ·exact .inl z
   ·exact .inr (.inl z)
  rcases l with ⟨k,_⟩ | ⟨k,c,P,z⟩
  ·rcases S.free _ L rfl with q | q;·have q:X.env.kindOf x=ii .cell:=q;rw [k] at q; cases q
   ·have q:X.env.kindOf x=ii .free:=q;rw [k] at q; cases q
  ·rw [K] at P;cases P;obtain ⟨oc,d,a⟩:=z;rcases kd with q | q | q;·exact .inr ⟨.inl q,M,f,⟨oc,w _ _ d,a⟩⟩
   ·exact .inr ⟨.inr q,M,f,⟨oc,w _ _ d,a⟩⟩
   ·refine absurd q ?_;intro q;have Q:=yc (show (relabel scope X.env).names.lookup x=ii .local from q);obtain ⟨⟨n,k'⟩,T,e⟩:=aw.mp Q;dsimp only at e;by_cases O:(k' == bD&&X.env.scope.kind == .function&&X.env.kindOf n == ii .cell)=ir;·rw [Aa O] at e; cases e
    ·rw [Ab O] at e;cases e;have e1:=S.names _ T rfl;have e2:=S.frl _ L rfl;have e1:scope.names.lookup x=ii .local:=e1;have e2:scope.names.lookup x=ii .free:=e2;rw [e1] at e2;cases e2
 ·obtain ⟨v,oc,d,a⟩:=I.cell x c (cl x c e);exact ⟨v,oc,w _ _ d,a⟩
theorem qcy {H1:Hp} {s1:iu} {L:Addr} (I:Inv X pins σ H s) (h:∀ b∈fp,WK X pins H b) (J:Inv (jE X scope N fp s.heap.objs.size s H) [] σc H' s') (y:bJ s.heap.objs.size s'.heap h'):Inv X pins σ H' { s' with heap:=h' }:=by
 have a:H' s.heap.objs.size=none:=J.free;have ne:∀ b o,s.heap.get? b=ii o->b≠s.heap.objs.size:=λb o e=>aD (ay e);have U:Un (frs X.stack) fp H H' s.heap s'.heap:=J.base;refine I.call' (s':={ s' with heap:=h' }) (ch:=fp) J.os ⟨λb o e n h1 h2=>(y.2 b (ne b o e)).trans (U.keep b o e n h1 h2),λb o e n h1 h2=>?_,U.free,λb o e h2=>?_,U.tups,U.frzs,U.tbls⟩ (λb u e=>?_) J.bare λb f=>?_;·obtain ⟨sl,q⟩:=U.slot b o e n h1 h2;exact ⟨sl,(y.2 b (ne b o e)).trans q⟩
 ·obtain ⟨o',q⟩:=U.there b o e h2;exact ⟨o',(y.2 b (ne b o e)).trans q⟩
 ·refine (J.hok b u e).stay (λc w d q=>(y.2 c ?_).trans q) (λ_ q=>q) λ_ _ q=>q;rintro rfl;rcases d with z | z;·rw [<-z,a] at e; cases e
  ·rw [a] at z; cases z
 ·obtain ⟨f0,f1,f2,f3,f4,g⟩:=h b f;exact ⟨f3,f1,f4,g⟩
end
theorem Jy {prog:iE} {w:iG} {A:iL} {R:Result->iu->Prop} {s:iu} {elt target iter:Expr} {ifs:List Expr} {scope:lG} {pos:Pos} {it acc:ip} {env:Env} (I:Nat->iu->Prop)
  (l:∀ n s,I n s->iy (model prog w) A (k9 it) (λr d=>match r with
   | none=>R (.ok .next) d
   | some v=>iy (model prog w) A (lO target it v) (λ_ e=>iy (model prog w) A (assign target env v) (λ_ i=>
     iy (model prog w) A (forIn ifs ir λc r=>if r=ir then do let ok <-isTrue c env (eval c env); pure (cx ok) else pure (cx r)) (λok b=>
      if ok=ir then iy (model prog w) A (eval elt env) (λx g=>
       iy (model prog w) A (call (.builtin "list.append") [acc,x]) (λ_ f=>∃ m,m < n/\I m f) (λ_ _=>False) g) (λ_ _=>False) b
      else ∃ m,m < n/\I m b) (λ_ _=>False) i) (λ_ _=>False) e) (λ_ _=>False) d) (λ_ _=>False) s)
  (n:Nat) (h:I n s):lz (model prog w) A (.compLoop (.ListComp elt [⟨target,iter,ifs,0⟩] scope pos) 0 it acc env) R s:=by
 have no:∀ {α:Type} {t:Sem α} {Q y:α->iu->Prop} {E:ip->iu->Prop} {s:iu},iy (model prog w) A t Q (λ_ _=>False) s->(∀ a s,Q a s->y a s)->iy (model prog w) A t y E s:=λh k=>j6 h k λ_ _ z=>z.elim;refine codeAny_loop rfl I (λn s B=>?_) n h;show iy _ A ((compTurn (.ListComp elt [⟨target,iter,ifs,0⟩] scope pos) 0 it acc env).onRaise (λx=>do noteFrame x env; theTreesLotGoes x)) _ _ s;refine wpAny_noted ?_;rw [compTurn_list];refine im (wpAny_standAt (im (no (l n s B) λr d h₁=>?_)));cases r with
 | none=>exact iw h₁
 | some v=>
  refine im (no h₁ λ_ e o=>im (no o λ_ i u=>im (no u λok b j=>?_)));cases ok with
  | false=>exact iw ⟨rfl,j⟩
  | true=>exact im (im (no j λx g q=>im (no q λ_ f p=>iw (iw ⟨rfl,p⟩))))
structure PTs (Y:Cx) (ifs:List Expr) (t:TT):Prop where
 run:∀ (pins:Pns) (s:iu) (σ:St) (H:Hp) (Q:Bool->Hp->Prop),Inv Y pins σ H s->t σ H Q ->iy (model Y.prog Y.w) Y.A (forIn ifs ir λc r=>if r=ir then do let ok <-isTrue c Y.env (eval c Y.env); pure (cx ok) else pure (cx r)) (TP Y pins σ Q) Y.xe s
instance {Y:Cx} {ifs:List Expr} {t:TT}:CoeFun (PTs Y ifs t) (λ_=>∀ (pins:Pns) (s:iu) (σ:St) (H:Hp) (Q:Bool->Hp->Prop),Inv Y pins σ H s->t σ H Q ->iy (model Y.prog Y.w) Y.A (forIn ifs ir λc r=>if r=ir then do let ok <-isTrue c Y.env (eval c Y.env); pure (cx ok) else pure (cx r)) (TP Y pins σ Q) Y.xe s):=⟨λh=>h.run⟩
variable {Y:Cx}
theorem qfh:PTs Y [] (λ_ H Q=>Q ir H):=⟨λ_ _ _ H _ I h=>wpAny_tests_nil ⟨H,I,h⟩⟩
theorem Jz {t:TT} (h:PT Y c t):PTs Y [c] t:=⟨λpins s σ H Q I q=>wpAny_tests_one (h pins s σ H Q I q)⟩
variable {ifs:List Expr} {te:TE} {E:ip->iu->Prop}
section
variable {it:Addr} {tn:Nat->Heap->Prop} {J:It} {elt:Expr} {g:TG} {tt:TT}
theorem qcz (I:Inv X pins σ H s) (P:X.calm=ir) (S:ScOk X scope) (T:Turn X.prog X.w X.K tg J fp it tn) (st0:tn 0 s.heap) (hf:∀ b∈fp,WK X pins H b)
  (hg:∀ fp L s' H',PG (jE X scope N fp L s' H') tg g) (ht:∀ fp L s' H',PTs (jE X scope N fp L s' H') ifs tt) (he:∀ fp L s' H',PE (jE X scope N fp L s' H') elt te) (hl:σc.length=N.length)
  (hσ:∀ (j:Nat) (x:Str) (v:V),N[j]?=ii x->σc[j]?=ii (ii v)->(∃ k,(x,k)∈scope.names)->∃ i:Nat,X.N[i]?=ii x/\σ[i]?=ii (ii v)/\Vis X.env.scope x/\(x,bD)∈scope.names)
  (W:Addr->Nat->Nat->St->Hp->Prop) (Fin:Addr->Hp->Prop) (w0:∀ p,H p=ij->∃ m,W p 0 m σc (upd H p (.lst [])))
  (F:∀ p i m σ1 H1,W p i m σ1 H1->(J.stop i H1/\Fin p H1)\/(J.go i H1/\∀ x H2,J.yld i H1 x H2->g x σ1 H2 λC H3=>tt C H3 λb H4=>if b=ir then te C H4 λy H5=>∃ xs,H5 p=ii (.lst xs)/\xs.length < sizeLine/\∃ f,f < m/\W p (i+1) f C (upd H5 p (.lst (xs++[y]))) else ∃ f,f < m/\W p (i+1) f C H4))
  (RR:ip->Addr->Result->iu->Prop)
  (hRR:∀ p L H' s',Fin p H'->(∃ m,s'.heap.Ns L m)->WK X pins H' L->(∀ h',bJ L s'.heap h'->Inv X pins σ H' { s' with heap:=h' })->RR (.ref p) L (.ok .next) s') :
  iy (model X.prog X.w) X.A (newList []) (λacc s₃=>iy (model X.prog X.w) X.A (newFunctionEnv scope X.env.globals (KK X.env.cells scope.names []) [] X.env.qual ij .none (ii X.env)) (λG s₄=>
   lz (model X.prog X.w) X.A (.compStart (.ListComp elt [⟨tg,iter,ifs,0⟩] scope pos) 0 (.ref it) acc { G with scope:=relabel scope X.env }) (RR acc G.locals) s₄) E s₃) E s:=by
 have hfo:∀ b∈fp,b < s.heap.objs.size:=λb h=>let ⟨o,e,_⟩:=T.obj 0 _ st0 b h; ay e;have D:=I.fresh;have I3:Inv X pins σ (upd H s.heap.objs.size (.lst [])) { s with heap:=s.heap.push { cls:=.type "list",data:=.seq ([]:List ip).toArray } }:=I.lnew (t':=s.toks) (ys:=[]) (its:=[]) .nil (bh _);have O:∀ b∈fp,WK X pins (upd H s.heap.objs.size (.lst [])) b:=λb h=>⟨by rw [qA (aD (hfo b h))]; exact (hf b h).1,(hf b h).2⟩
 have st3:tn 0 (s.heap.push { cls:=.type "list",data:=.seq ([]:List ip).toArray }):=T.keep 0 _ _ st0 λb h o e=>aa _ e;refine iH (wpAny_newFunctionEnv S.nocell (λy hy=>by simp at hy) (λh₁ c a=>?_) S.kind);dsimp only at c a ⊢;generalize hs3:({ s with heap:=s.heap.push { cls:=.type "list",data:=.seq ([]:List ip).toArray } }:iu)=s3 at I3;have e3:s3.heap=s.heap.push { cls:=.type "list",data:=.seq ([]:List ip).toArray }:=by rw [<-hs3]
 rw [<-e3] at c a st3 ⊢;have keep:∀ b o,s3.heap.get? b=ii o->h₁.get? b=ii o:=λb o e=>(a.2 b (aD (ay e))).trans (aa _ e);have ho3:∀ b∈fp,b < s3.heap.objs.size:=λb h=>by rw [e3,bu]; exact cr (hfo b h)
 have J1:Inv (jE X scope N fp s3.heap.objs.size s3 (upd H s.heap.objs.size (.lst []))) [] σc (upd H s.heap.objs.size (.lst [])) { s3 with heap:=h₁,toks:=s.toks+0 }:=
  qcx I3 S O ho3 (by simpa using c) keep hl hσ
 have st4:tn 0 h₁:=T.keep 0 _ _ st3 λb h o e=>keep b o e;have loop:∀ s4:iu,s4={ s3 with heap:=h₁,toks:=s.toks+0 }->lz (model X.prog X.w) X.A (.compLoop (.ListComp elt [⟨tg,iter,ifs,0⟩] scope pos) 0 (.ref it) (.ref s.heap.objs.size) (compEnvC scope (KK X.env.cells scope.names []) s3.heap.objs.size X.env)) (RR (.ref s.heap.objs.size) s3.heap.objs.size) s4:=by
  rintro s4 rfl;generalize B:jE X scope N fp s3.heap.objs.size s3 (upd H s.heap.objs.size (.lst []))=Y at J1;have eP:Y.prog=X.prog:=by rw [<-B]; rfl
  have ew:Y.w=X.w:=by rw [<-B]; rfl
  have eA:Y.A=X.A:=by rw [<-B]; rfl
  have ee:Y.env=compEnvC scope (KK X.env.cells scope.names []) s3.heap.objs.size X.env:=by rw [<-B]; rfl
  have eK:Y.K=X.K:=by rw [<-B]; rfl
  have ec:Y.calm=true:=by rw [<-B]; exact P
  have ex:Y.xe=λ_ _=>False:=by rw [<-B]; rfl
  have hgY:PG Y tg g:=by rw [<-B]; exact hg fp _ _ _
  have htY:PTs Y ifs tt:=by rw [<-B]; exact ht fp _ _ _
  have heY:PE Y elt te:=by rw [<-B]; exact he fp _ _ _
  have t:∀ {H1:Hp},(∀ b∈fp,H1 b=ij)->∀ b∈fp,WK Y [] H1 b:=λhn b h=>by have q:=J1.ok.exf b (by rw [<-B]; exact h);refine ⟨hn b h,q.1,J1.ok.exfs b (by rw [<-B]; exact h),.inl (by rw [<-B]; exact h),q.2,λp hp=>?_⟩;rw [<-B] at hp;exact absurd (show p∈([]:Pns) from hp) (by simp)
  obtain ⟨m0,hm0⟩:=w0 s.heap.objs.size D;refine Jy (λn s'=>∃ i σ1 H1,Inv Y [] σ1 H1 s'/\tn i s'.heap/\(∀ b∈fp,H1 b=ij)/\W s.heap.objs.size i n σ1 H1) ?_ m0 ⟨0,σc,_,J1,st4,λb h=>(O b h).1,hm0⟩;rintro n s5 ⟨i,σ1,H1,J5,st5,fr5,w5⟩;rw [<-eP,<-ew,<-eA,<-ee];have TY:Turn Y.prog Y.w Y.K tg J fp it tn:=by rw [eP,ew,eK]; exact T
  rcases F _ i n σ1 H1 w5 with ⟨stop,fin⟩ | ⟨go,step⟩
  ·refine thn (TY.done Y rfl rfl rfl ec i [] s5 σ1 H1 _ J5 (t fr5) st5 stop) λr s6 ⟨hr,J6⟩=>?_;subst hr;have Q:Inv (jE X scope N fp s3.heap.objs.size s3 (upd H s.heap.objs.size (.lst []))) [] σ1 H1 s6:=by rw [B]; exact J6
   exact hRR _ _ H1 s6 fin (let ⟨m,hn,_⟩:=Q.loc; ⟨m,hn⟩) (I3.fpOk (ax _) Q.free) λh' sb=>qcy (s1:=s6) (H1:=H1) (L:=0) I3 O Q sb
  ·refine thn (TY.item Y rfl rfl rfl ec i [] s5 σ1 H1 _ J5 (t fr5) st5 go) λr s6 ⟨u,hr,h6⟩=>?_;subst hr;refine thn h6 λ_ s7 ⟨x,H7,J7,r7,y7,M,fr7⟩=>?_;have J7':=J7.pinned (t fr7) (TY.obj _ _ M);have back:∀ {l:St} {Z:Hp} {R:iu},Inv Y ([]++KY fp s7.heap) l Z R->(∃ f,f < n/\W s.heap.objs.size (i+1) f l Z)->∃ m,m < n/\∃ i σ1 H1,Inv Y [] σ1 H1 R/\tn i R.heap/\(∀ b∈fp,H1 b=ij)/\W s.heap.objs.size i m σ1 H1:=λ{l Z R} U ⟨f,hm,w9⟩=>by refine ⟨f,hm,i+1,l,Z,U.unpinned,TY.keep _ _ _ M λb h o e=>(U.pin (b,o) (aV _ (aV _ (uZ h e)))).1,λb h=>?_,w9⟩;obtain ⟨o,e,d⟩:=TY.obj _ _ M b h;exact (U.pin (b,o) (aV _ (aV _ (uZ h e)))).2.1
   rw [<-ex];refine thn (hgY _ s7 σ1 H7 x u _ J7' r7 (step x H7 y7)) λ_ s8 ⟨z,H8,J8,q8⟩=>?_;refine thn (htY _ s8 z H8 _ J8 q8) λok R ⟨Z,U,q9⟩=>?_;cases ok with
   | false=>exact back U q9
   | true=>refine thn (heY _ R z Z _ U q9) λv s10 ⟨y,H10,J10,r10,xs,hx,hlen,q10⟩=>?_;exact thn (Vh _ s10 z H10 (.ref s.heap.objs.size) [y] (.ref s.heap.objs.size) [v] (λ_ H11=>∃ f,f < n/\W s.heap.objs.size (i+1) f z H11) J10 rfl (.cons r10 .nil) ⟨_,xs,y,rfl,rfl,hx,hlen,q10⟩) λ_ s11 ⟨_,H11,J11,_,q11⟩=>back J11 q11
 have e4:({ heap:=h₁,gens:=s.gens,drawn:=s.drawn,toks:=s.toks+([]:List (Str×ip)).length,os:=s.os }:iu)={ s3 with heap:=h₁,toks:=s.toks+0 }:=by rw [<-hs3]; rfl
 exact codeAny_compStart_list (loop _ e4) (T.self _ 0 _ _ _ st4 (loop _ e4))
end
noncomputable def kU (nt:Nat) (cap:List Nat) (ρ:List (Option α)):List (Option α):=aJ nt ij++cap.map λk=>(ρ[k]?).getD ij
noncomputable def ua (own:List Nat):Nat->List Nat->List Nat
 | _,[]=>[]
 | n,k::cap=>if k∈own then n::ua own (n+1) cap else ua own (n+1) cap
noncomputable def ioC (nt len:Nat):List Nat:=(aP len).map (nt + ·)
noncomputable def kl (own:List Nat) (ρc:Sl):Nat->List Nat->Sl->Sl
 | _,[],ρ=>ρ
 | n,k::cap,ρ=>if k∈own then kl own ρc (n+1) cap (ρ.set k ((ρc[n]?).getD ij)) else kl own ρc (n+1) cap ρ
variable {nt:Nat} {cap:List Nat}
theorem vz {ρ:List (Option α)} {d:α}:(kU nt cap ρ)[i]?=ii (ii d)↔∃ j k,i=nt+j/\cap[j]?=ii k/\ρ[k]?=ii (ii d):=by
 unfold kU;constructor
 ·intro h;by_cases hi:i < nt;·rw [dO (by simpa using hi),cq] at h;split at h <;> cases h
  ·rw [cH (by simpa using hi),e7,aG] at h;cases q:cap[i - nt]? with
   | none=>rw [q] at h; cases h
   | some k=>
    rw [q] at h;have h:(ρ[k]?).getD ij=ii d:=aK.inj h;refine ⟨i - nt,k,by lia,q,?_⟩;cases e:ρ[k]? with
    | none=>rw [e] at h; cases h
    | some o=>rw [e] at h; exact congrArg ii h
 ·rintro ⟨j,k,rfl,h1,h2⟩;rw [cH (by simp),e7,aG,show nt+j - nt=j by lia,h1];simp [h2]
theorem kB {own:List Nat}:∀ {n:Nat} {cap:List Nat} {i:Nat},i∈ua own n cap↔∃ j k,i=n+j/\cap[j]?=ii k/\k∈own
 | n,[],i=>by simp [ua]
 | n,k::cap,i=>by
  have a:=@kB own (n+1) cap i;unfold ua;by_cases h:k∈own
  ·rw [Aa h,ac,a];constructor
   ·rintro (rfl | ⟨j,k',e,h1,h2⟩);·exact ⟨0,k,rfl,rfl,h⟩
    ·exact ⟨j+1,k',by lia,by simpa using h1,h2⟩
   ·rintro ⟨j,k',e,h1,h2⟩;cases j with
    | zero=>exact .inl (by lia)
    | succ j=>exact .inr ⟨j,k',by lia,by simpa using h1,h2⟩
  ·rw [Ab h,a];constructor;·rintro ⟨j,k',e,h1,h2⟩;exact ⟨j+1,k',by lia,by simpa using h1,h2⟩
   ·rintro ⟨j,k',e,h1,h2⟩;cases j with
    | zero=>simp at h1; subst h1; exact absurd h2 h
    | succ j=>exact ⟨j,k',by lia,by simpa using h1,h2⟩
theorem JA {len:Nat}:i∈ioC nt len↔∃ j,j < len/\i=nt+j:=by
 unfold ioC;rw [aw];constructor;·rintro ⟨j,h1,h2⟩; exact ⟨j,cj.mp h1,h2.symm⟩
 ·rintro ⟨j,h1,h2⟩; exact ⟨j,cj.mpr h1,h2.symm⟩
variable {ρc:Sl}
theorem xP:∀ {n:Nat} {cap:List Nat} {ρ:Sl},(kl own ρc n cap ρ).length=ρ.length
 | _,[],_=>rfl
 | n,k::cap,ρ=>by
  unfold kl;by_cases h:k∈own;·rw [Aa h,xP,fz]
  ·rw [Ab h,xP]
theorem vn:∀ {n:Nat} {cap:List Nat} {ρ:Sl} {i:Nat},¬(i∈cap/\i∈own)->(kl own ρc n cap ρ)[i]?=ρ[i]?
 | _,[],_,_,_=>rfl
 | n,k::cap,ρ,i,h=>by
  unfold kl;have h':¬(i∈cap/\i∈own):=λz=>h ⟨af _ z.1,z.2⟩;by_cases a:k∈own;·rw [Aa a,vn h',aC (λe=>h ⟨ac.mpr (.inl e.symm),by rw [<-e]; exact a⟩)]
  ·rw [Ab a,vn h']
theorem xh:∀ {n:Nat} {cap:List Nat} {ρ:Sl} {j k:Nat} {d:D},cap.Nodup->cap[j]?=ii k->k∈own->k < ρ.length->ρc[n+j]?=ii (ii d)->(kl own ρc n cap ρ)[k]?=ii (ii d)
 | _,[],_,_,_,_,_,h,_,_,_=>by simp at h
 | n,k0::cap,ρ,0,k,d,nd,h,hk,hl,e=>by simp at h; subst h;obtain ⟨n1,n2⟩:=aR.mp nd;unfold kl;rw [Aa hk,vn (λz=>n1 z.1),aN hl];have e:ρc[n]?=ii (ii d):=e;rw [e]; rfl
 | n,k0::cap,ρ,j+1,k,d,nd,h,hk,hl,e=>by
  obtain ⟨n1,n2⟩:=aR.mp nd;have h:cap[j]?=ii k:=by simpa using h
  have e:ρc[n+1+j]?=ii (ii d):=by rw [show n+1+j=n+(j+1) by lia]; exact e
  unfold kl;by_cases a:k0∈own;·rw [Aa a]; exact xh n2 h hk (by rw [fz]; exact hl) e
  ·rw [Ab a]; exact xh n2 h hk hl e
section
theorem Ue {ρ:List (Option α)}:(kU nt cap ρ).length=nt+cap.length:=by simp [kU]
theorem GC {l:List Nat} (h:l.Nodup) {j k:Nat} (a:l[i]?=ii k) (b:l[j]?=ii k):i=j:=by obtain ⟨h1,e1⟩:=aF.mp a;obtain ⟨h2,e2⟩:=aF.mp b;exact (fR h).mp (e1.trans e2.symm)
theorem qfi (r:Rep K own F H σ ρ) (nd:cap.Nodup):Rep K (ua own nt cap) F H (kU nt cap σ) (kU nt cap ρ) where
 sub:=r.sub
 len:=by rw [Ue,Ue]
 val:=λi d hi e=>by obtain ⟨j,k,rfl,h1,h2⟩:=vz.mp e;obtain ⟨v,g1,W⟩:=r.val k d (λz=>hi (kB.mpr ⟨j,k,rfl,h1,z⟩)) h2;exact ⟨v,vz.mpr ⟨j,k,rfl,h1,g1⟩,W⟩
 ow:=λi d hi e=>by
  obtain ⟨j,k,rfl,h1,h2⟩:=vz.mp e;obtain ⟨f,k',m,c,h⟩:=kB.mp hi;have:j=f:=by lia
  subst this;rw [h1] at c; cases c;obtain ⟨a,g1,W⟩:=r.ow k d h h2;exact ⟨a,vz.mpr ⟨j,k,rfl,h1,g1⟩,W⟩
 opn:=λi hi=>by obtain ⟨j,k,rfl,h1,h2⟩:=kB.mp hi;obtain ⟨d,e⟩:=r.opn k h2;exact ⟨d,vz.mpr ⟨j,k,rfl,h1,e⟩⟩
 dis:=λi t a hi g e m=>by
  obtain ⟨j,k,rfl,h1,h2⟩:=kB.mp hi;obtain ⟨f,k',rfl,c,h⟩:=kB.mp g;obtain ⟨x,y,q1,l,o⟩:=vz.mp e;obtain ⟨n,s,p,q,b⟩:=vz.mp m;have:x=j:=by lia
  subst this;have:n=f:=by lia
  subst this;rw [h1] at l; cases l;rw [c] at q; cases q;have e:=r.dis k k' a h2 h o b;subst e;rw [GC nd h1 c]
theorem GD (o:∀ i∈ioC nt cap.length,σ1[i]?=(kU nt cap σ)[i]?) (h:OA (ua own nt cap) σ1 b):OA own σ b:=by
 obtain ⟨i,hi,e⟩:=h;obtain ⟨j,k,rfl,h1,h2⟩:=kB.mp hi;rw [o _ (JA.mpr ⟨j,(aF.mp h1).1,rfl⟩)] at e;obtain ⟨x,y,q1,q,a⟩:=vz.mp e;have:x=j:=by lia
 subst this;rw [h1] at q; cases q;exact ⟨k,h2,a⟩
theorem GE (p:Rep K own F H σ ρ) (nd:cap.Nodup) (r:Rep K (ua own nt cap) F' H' σ1 ρ1) (f:∀ i∈ioC nt cap.length,σ1[i]?=(kU nt cap σ)[i]?) (c:Chg (OA (ua own nt cap) σ1) F H F' H'):Rep K own F' H' σ (kl own ρ1 nt cap ρ) where
 sub:=r.sub
 len:=by rw [xP]; exact p.len
 val:=λi d hi e=>by rw [vn (λz=>hi z.2)] at e;obtain ⟨v,h1,h2⟩:=p.val i d hi e;exact ⟨v,h1,h2.mono c.grow⟩
 ow:=λi d hi e=>by
  by_cases q:i∈cap
  ·obtain ⟨j,D⟩:=fq q;have m:nt+j∈ua own nt cap:=kB.mpr ⟨j,i,rfl,D,hi⟩;obtain ⟨d',h⟩:=r.opn _ m;obtain ⟨t,hd0⟩:=p.opn i hi;rw [xh nd D hi (aF.mp hd0).1 h] at e;cases e;obtain ⟨a,h1,h2⟩:=r.ow _ _ m h;rw [f _ (JA.mpr ⟨j,(aF.mp D).1,rfl⟩)] at h1;obtain ⟨x,y,q1,b,g⟩:=vz.mp h1;have:x=j:=by lia
   subst this;rw [D] at b; cases b;exact ⟨a,g,h2⟩
  ·rw [vn (λz=>q z.1)] at e;obtain ⟨a,h1,h2,n⟩:=p.ow i d hi e;have na:¬OA (ua own nt cap) σ1 a:=λz=>by
    obtain ⟨w,l,s⟩:=z;obtain ⟨j,k,rfl,g1,W⟩:=kB.mp l;rw [f _ (JA.mpr ⟨j,(aF.mp g1).1,rfl⟩)] at s;obtain ⟨x,y,q1,b,g⟩:=vz.mp s;have:x=j:=by lia
    subst this;rw [g1] at b; cases b;have e:=p.dis i k a hi W h1 g;subst e;exact q (ck g1)
   refine ⟨a,h1,?_,n.grow c.grow λo z=>c.keep a o z na⟩;cases O:F' a with
   | none=>rfl
   | some u=>
    rcases c.new a (by rw [O]; simp) with z | z | z;·exact absurd h2 z
    ·exact absurd z n.there
    ·exact absurd z na
 opn:=λi hi=>by
  by_cases q:i∈cap;·obtain ⟨j,D⟩:=fq q;have m:nt+j∈ua own nt cap:=kB.mpr ⟨j,i,rfl,D,hi⟩;obtain ⟨d',h⟩:=r.opn _ m;obtain ⟨t,hd0⟩:=p.opn i hi;exact ⟨d',xh nd D hi (aF.mp hd0).1 h⟩
  ·rw [vn (λz=>q z.1)];exact p.opn i hi
 dis:=p.dis
end
noncomputable def xi (g:D->Sl->Out Sl) (ft:yA) (fe:jl) (d:D) (ρ:Sl):Out (Option D×Sl):=
 (g d ρ).plain.bind λρ1=>(ft ρ1).plain.bind λq=>if q.1=ir then (fe q.2).plain.bind λr=>.ok (ii r.1,r.2) else .ok (ij,q.2)
noncomputable def jw (g:D->Sl->Out Sl) (ft:yA) (fe:jl):List D->uj
 | [],ρ=>.ok ([],ρ)
 | d::ds,ρ=>(xi g ft fe d ρ).bind λp=>(jw g ft fe ds p.2).bind λq=>.ok (p.1.toList++q.1,q.2)
noncomputable def jo (own:List Nat) (nt:Nat) (cap:List Nat) (fi:uj) (g:D->Sl->Out Sl) (ft:yA) (fe:jl):jl:=λρ=>(fi ρ).bind λp=>
 if p.1.length<=sizeLine then (jw g ft fe p.1 (kU nt cap p.2)).bind λq=>.ok (.lst q.1,kl own q.2 nt cap p.2) else .bad
noncomputable def ctC (C:Ct) (nt len:Nat):Ct:=⟨C.K,C.cv,λ_ _ _=>False,ioC nt len,.sh,[],[],λ_ h=>absurd h (by simp)⟩
noncomputable def ftT:yA:=λρ=>.ok (ir,ρ)
theorem JB:PTs Y [] (tT C own ftT):=⟨λpins s σ H Q I ⟨F,ρ,a,h⟩=>qfh pins s σ H Q I (h F H a .refl)⟩
structure CW (C:Ct) (own:List Nat) (nt:Nat) (cap:List Nat) (σ:St) (F H F0:Hp) (g:D->Sl->Out Sl) (ft:yA) (fe:jl) (ds ys:List D) (ρe:Sl) (p:Addr) (i:Nat) (σ1:St) (H1:Hp) (F1:Hp) (ρi:Sl) (accD:List D) (xs:List V) (rest:List D):Prop where
 rep:Rep C.K (ua own nt cap) F1 H1 σ1 ρi
 io:∀ i∈ioC nt cap.length,σ1[i]?=(kU nt cap σ)[i]?
 chg:Chg (OA (ua own nt cap) σ1) F H F1 H1
 gr:Same F0 F1
 at_:H1 p=ii (.lst xs)
 nF:F1 p=ij
 is:IsL C.K F1 xs accD
 le:accD.length<=i
 run:jw g ft fe (ds.drop i) ρi=.ok (rest,ρe)
 all:accD++rest=ys
variable {ρe:Sl}
theorem XS {ft:yA} {fe:jl} {rest:List D} (h:jw g ft fe (d::ds) ρ=.ok (rest,ρe)):∃ ρ1,g d ρ=.ok ρ1/\∃ b ρ2,ft ρ1=.ok (b,ρ2)/\((b=ir/\∃ y k r,fe ρ2=.ok (y,k)/\jw g ft fe ds k=.ok (r,ρe)/\rest=y::r)\/(b=iq/\jw g ft fe ds ρ2=.ok (rest,ρe))):=by
 unfold jw xi at h;cases q1:g d ρ with
 | exc c=>rw [q1] at h; cases h
 | bad=>rw [q1] at h; cases h
 | ok ρ1=>
  rw [q1] at h;refine ⟨ρ1,rfl,?_⟩;simp only [Out.plain,Out.oj] at h;cases e:ft ρ1 with
  | exc c=>rw [e] at h; cases h
  | bad=>rw [e] at h; cases h
  | ok p=>
   obtain ⟨b,ρ2⟩:=p;rw [e] at h;refine ⟨b,ρ2,rfl,?_⟩;simp only [Out.plain,Out.oj] at h;cases b with
   | true=>
    refine .inl ⟨rfl,?_⟩;simp only [if_true] at h;cases q:fe ρ2 with
    | exc c=>rw [q] at h; cases h
    | bad=>rw [q] at h; cases h
    | ok p=>
     obtain ⟨y,k⟩:=p;rw [q] at h;simp only [Out.plain,Out.oj] at h;cases j:jw g ft fe ds k with
     | exc c=>rw [j] at h; cases h
     | bad=>rw [j] at h; cases h
     | ok p=>obtain ⟨r,B⟩:=p;rw [j] at h;simp only [Out.oj] at h;cases h;exact ⟨y,k,r,rfl,j,rfl⟩
   | false=>
    refine .inr ⟨rfl,?_⟩;simp only [fF,if_false,Out.oj] at h;cases j:jw g ft fe ds ρ2 with
    | exc c=>rw [j] at h; cases h
    | bad=>rw [j] at h; cases h
    | ok p=>obtain ⟨r,B⟩:=p;rw [j] at h;simp only [Out.oj] at h;cases h;rfl
section
variable {elt:Expr} {fi:uj} {ft:yA} {fe:jl} {me:Mo}
structure CapOk (X:Cx) (scope:lG) (N:List Str) (nt:Nat) (cap:List Nat):Prop where
 nd:cap.Nodup
 len:N.length=nt+cap.length
 at_:∀ (j k:Nat),cap[j]?=ii k->∃ x,N[nt+j]?=ii x/\X.N[k]?=ii x/\((Vis X.env.scope x/\(x,bD)∈scope.names)\/∀ k',(x,k')∉scope.names)
theorem Vp {F:Hp} {ρ1:Sl} {it:Addr} {fp:List Addr} {tn:Nat->Heap->Prop} {J:It} {E:ip->iu->Prop} {ds ys:List D} {ρe:Sl} (I:Inv X pins σ H s) (W:X.calm=ir) (S:ScOk X scope) (CO:CapOk X scope N nt cap)
  (T:Turn X.prog X.w X.K tg J fp it tn) (st0:tn 0 s.heap) (hf:∀ b∈fp,WK X pins H b) (rp:Rep C.K own F H σ ρ1) (O:ItIs C.K F J ds) (hz:ds.length<=sizeLine)
  (hg:∀ fp L s' H',PG (jE X scope N fp L s' H') tg (tGd (ctC C nt cap.length) (ua own nt cap) g)) (ht:∀ fp L s' H',PTs (jE X scope N fp L s' H') ifs (tT (ctC C nt cap.length) (ua own nt cap) ft))
  (he:∀ fp L s' H',PE (jE X scope N fp L s' H') elt (tE (ctC C nt cap.length) (ua own nt cap) me fe)) (hme:me≠.any)
  (hrun:jw g ft fe ds (kU nt cap ρ1)=.ok (ys,ρe)) (RR:ip->Addr->Result->iu->Prop)
  (hRR:∀ p L s' F' H',H p=ij->Rep C.K own F' H' σ (kl own ρe nt cap ρ1)->Chg (OA own σ) F H F' H'->F' p=ij->OwnIs C.K F' H' p (.lst ys)->(∃ m,s'.heap.Ns L m)->WK X pins H' L->(∀ h',bJ L s'.heap h'->Inv X pins σ H' { s' with heap:=h' })->RR (.ref p) L (.ok .next) s') :
  iy (model X.prog X.w) X.A (newList []) (λacc s₃=>iy (model X.prog X.w) X.A (newFunctionEnv scope X.env.globals (KK X.env.cells scope.names []) [] X.env.qual ij .none (ii X.env)) (λG s₄=>
   lz (model X.prog X.w) X.A (.compStart (.ListComp elt [⟨tg,iter,ifs,0⟩] scope pos) 0 (.ref it) acc { G with scope:=relabel scope X.env }) (RR acc G.locals) s₄) E s₃) E s:=by
 have oaH:∀ {σ1:St} {b:Addr},(∀ i∈ioC nt cap.length,σ1[i]?=(kU nt cap σ)[i]?)->OA (ua own nt cap) σ1 b->H b≠none:=λU z=>(rp.OA_there (GD U z)).1;refine qcz (σc:=kU nt cap σ) I W S T st0 hf hg ht (λfp L s' H'=>uh (he fp L s' H') hme) (by rw [Ue,CO.len]) (λj x v e1 e2 e3=>?_)
  (λp i m σ1 H1=>H p=ij/\m=ds.length - i/\i<=ds.length/\∃ F1 ρi accD xs rest,CW C own nt cap σ F H F g ft fe ds ys ρe p i σ1 H1 F1 ρi accD xs rest)
  (λp H1=>H p=ij/\∃ σ1 F1 xs,Rep C.K (ua own nt cap) F1 H1 σ1 ρe/\(∀ i∈ioC nt cap.length,σ1[i]?=(kU nt cap σ)[i]?)/\Chg (OA (ua own nt cap) σ1) F H F1 H1/\H1 p=ii (.lst xs)/\F1 p=ij/\IsL C.K F1 xs ys) (λp hp=>?_) ?_ RR ?_
 ·obtain ⟨j',k,rfl,h1,h2⟩:=vz.mp e2;obtain ⟨y,g1,g2,g3⟩:=CO.at_ j' k h1;rw [g1] at e1; cases e1;obtain ⟨k',hk'⟩:=e3;rcases g3 with ⟨g3,g4⟩ | g3;·exact ⟨k,g2,h2,g3,g4⟩
  ·exact absurd hk' (g3 k')
 ·obtain ⟨r1,c1,hF⟩:=Yw (C:=C) (u:=.lst []) (qfi (nt:=nt) rp CO.nd) hp;exact ⟨ds.length,hp,by simp,bh _,F,kU nt cap ρ1,[],[],ys,r1,λ_ _=>rfl,c1.ofNo,Same.refl _,qu,hF,.nil,ax _,by simpa using hrun,rfl⟩
 ·rintro p i m σ1 H1 ⟨hp,rfl,hle,F1,ρi,accD,xs,rest,w⟩;by_cases t:i < ds.length
  ·have hd:ds.drop i=ds[i]::ds.drop (i+1):=List.drop_eq_getElem_cons t;have run:=w.run;rw [hd] at run;obtain ⟨ρa,ea,b,Z,eb,R⟩:=XS run;have sub1:Same F H1:=w.gr.trans w.rep.sub;refine .inr ⟨O.go i H1 t sub1,λx H2 y=>?_⟩;obtain ⟨F2,c2,s2,is2⟩:=O.yld i F1 H1 x H2 ds[i] (by simp [t]) w.gr w.rep.sub y;have rp2:=w.rep.grow c2 s2;have M:∀ {Y:St},(∀ i∈ioC nt cap.length,Y[i]?=(kU nt cap σ)[i]?)->¬OA (ua own nt cap) Y p:=λU z=>oaH U z hp;have P:∀ {A:Addr->Prop} {Fa Ha Fb Hb:Hp} {zs:List V},Chg A Fa Ha Fb Hb->¬A p->Ha p=ii (.lst zs)->Fa p=ij->Hb p=ii (.lst zs)/\Fb p=none:=λ{A Fa Ha Fb Hb zs} c na e1 e2=>by
    refine ⟨c.keep p _ e1 na,?_⟩;cases q:Fb p with
    | none=>rfl
    | some u=>
     rcases c.new p (by rw [q]; simp) with z | z | z;·exact absurd e2 z
     ·rw [e1] at z; cases z
     ·exact absurd z na
   obtain ⟨at2,nF2⟩:=P c2 (λz=>z) w.at_ w.nF;refine ⟨F2,ρi,ds[i],rp2,is2,ρa,ea,λl rp3 oa3 io3=>?_⟩;have f:∀ i∈ioC nt cap.length,l[i]?=(kU nt cap σ)[i]?:=λi hi=>(io3 i hi).trans (w.io i hi);refine ⟨F2,ρa,rp3,?_⟩;rw [eb];intro F4 H4 rp4 c4;obtain ⟨at4,nF4⟩:=P c4 (M f) at2 nF2;have B:Chg (OA (ua own nt cap) l) F H F4 H4:=by
    have q1:Chg (OA own σ) F H F1 H1:=w.chg.mono λb z=>GD w.io z;have mv:∀ {b},OA (ua own nt cap) σ1 b->OA (ua own nt cap) l b:=λ{b} z=>by obtain ⟨i',hi',e'⟩:=z;obtain ⟨j,k,rfl,g1,g2⟩:=kB.mp hi';have hm:nt+j∈ioC nt cap.length:=JA.mpr ⟨j,(aF.mp g1).1,rfl⟩;exact ⟨nt+j,hi',by rw [f _ hm,<-w.io _ hm]; exact e'⟩
    exact ((w.chg.mono λb z=>mv z).trans' c2.ofNo).trans' c4
   have gr4:Same F F4:=(w.gr.trans c2.grow).trans c4.grow;have Q:IsL C.K F4 xs accD:=(w.is.mono c2.grow).mono c4.grow;rcases R with ⟨rfl,y',ρc,r,ec,er,hr⟩ | ⟨rfl,er⟩
   ·rw [Aa rfl];refine ⟨F4,Z,rp4,?_⟩;rw [ec];intro v F5 H5 h c5 mo5;obtain ⟨at5,nF5⟩:=P c5 (M f) at4 nF4;have hlen:xs.length=accD.length:=Q.length;refine ⟨xs,at5,by have:=w.le; lia,ds.length - (i+1),by lia,hp,rfl,t,F5,ρc,accD++[y'],xs++[v],r,?_⟩;have cp:Chg (λb=>b=p) F5 H5 F5 (upd H5 p (.lst (xs++[v]))):=⟨λb o e n=>by rw [qA n]; exact e,λb e=>by
     by_cases q:b=p;·rw [q,qu]; simp
     ·rw [qA q]; exact e,Same.refl _,λb e=>.inl e⟩
    have sb5:Same F5 (upd H5 p (.lst (xs++[v]))):=λb o e=>by rw [qA (qJ e nF5)]; exact h.sub b o e
    have rp6:Rep C.K (ua own nt cap) F5 (upd H5 p (.lst (xs++[v]))) l ρc:=by
     refine ⟨sb5,h.len,h.val,λi d hi e=>?_,h.opn,h.dis⟩;obtain ⟨a,h1,h2,h3⟩:=h.ow i d hi e;have na:a≠p:=λz=>by subst z; exact M f ⟨i,hi,h1⟩
     exact ⟨a,h1,h2,h3.grow (Same.refl _) λo z=>by rw [qA na]; exact z⟩
    refine ⟨rp6,f,?_,(gr4.trans c5.grow),qu,nF5,(Q.mono c5.grow).append (.cons mo5 .nil),by simp only [ae,ah,aQ]; have:=w.le; lia,er,?_⟩;·exact (B.trans' c5).trans cp λb z=>.inr (by rw [z]; exact hp)
    ·rw [aU,<-w.all,hr]; rfl
   ·rw [Ab bC];exact ⟨ds.length - (i+1),by lia,hp,rfl,t,F4,Z,accD,xs,rest,rp4,f,B,gr4,at4,nF4,Q,by have:=w.le; lia,er,w.all⟩
  ·have e:i=ds.length:=by lia
   subst e;have run:=w.run;rw [List.drop_length] at run;unfold jw at run;cases run;have ha:=w.all;rw [be] at ha;subst ha;exact .inl ⟨O.stop _ H1 (ax _) (w.gr.trans w.rep.sub),hp,σ1,F1,xs,w.rep,w.io,w.chg,w.at_,w.nF,w.is⟩
 ·rintro p L H' s' ⟨hp,σ1,F1,xs,r1,io1,c1,e1,n1,is1⟩ hns hfp hinv;exact hRR p L s' F1 H' hp (GE rp CO.nd r1 io1 c1) (c1.mono λb z=>GD io1 z) n1 ⟨xs,e1,is1⟩ hns hfp hinv
theorem Uf:∀ (ds:List D) (ρ:Sl) (c:Str) (o:Sl),jw g ft fe ds ρ≠.exc c o:=by
 intro ds
 induction ds with
 | nil=>intro ρ c o z; cases z
 | cons d ds i=>
  intro ρ c o z;unfold jw xi at z;cases q1:g d ρ with
  | exc c=>rw [q1] at z; cases z
  | bad=>rw [q1] at z; cases z
  | ok ρ1=>
   rw [q1] at z;simp only [Out.plain,Out.oj] at z;cases e:ft ρ1 with
   | exc c=>rw [e] at z; cases z
   | bad=>rw [e] at z; cases z
   | ok p=>
    rw [e] at z;simp only [Out.plain,Out.oj] at z;by_cases h:p.1=ir
    ·rw [Aa h] at z;cases q:fe p.2 with
     | exc c=>rw [q] at z; cases z
     | bad=>rw [q] at z; cases z
     | ok r=>
      rw [q] at z;simp only [Out.plain,Out.oj] at z;cases j:jw g ft fe ds r.2 with
      | exc c=>exact i _ _ _ j
      | bad=>rw [j] at z; cases z
      | ok t=>rw [j] at z; cases z
    ·rw [Ab h] at z;simp only [Out.oj] at z;cases j:jw g ft fe ds p.2 with
     | exc c=>exact i _ _ _ j
     | bad=>rw [j] at z; cases z
     | ok t=>rw [j] at z; cases z
theorem Vq {α:Type} {Z:WL->Prop} (r:Rep C.K own F H σ ρ) (d:¬Z .bad) (hx:∀ c ρ',Z (.exc c ρ')->∀ F' H',Same F' H'->ZK C.K C.ox F' H' σ ρ'->Chg (OA own σ) F H F' H'->C.E (C.cv c) ij H') (h:Z (jo own nt cap fi g ft fe ρ)):tIt C own fi σ H λJ H1=>∃ ds ρ1 ys ρe F1,ds.length<=sizeLine/\jw g ft fe ds (kU nt cap ρ1)=.ok (ys,ρe)/\Rep C.K own F1 H1 σ ρ1/\Chg (OA own σ) F H F1 H1/\ItIs C.K F1 J ds/\Z (.ok (.lst ys,kl own ρe nt cap ρ1)):=by
 refine ⟨F,ρ,r,?_⟩;unfold jo at h;cases q:fi ρ with
 | exc c=>rw [q] at h; exact hx c _ h
 | bad=>rw [q] at h; exact (d h).elim
 | ok p=>
  obtain ⟨ds,ρ1⟩:=p;rw [q] at h;have h:Z (if ds.length<=sizeLine then (jw g ft fe ds (kU nt cap ρ1)).bind λq=>.ok (.lst q.1,kl own q.2 nt cap ρ1) else .bad):=h;by_cases z:ds.length<=sizeLine
  ·rw [Aa z] at h;cases e:jw g ft fe ds (kU nt cap ρ1) with
   | exc c=>exact absurd e (Uf _ _ _ _)
   | bad=>rw [e] at h; exact (d h).elim
   | ok p=>obtain ⟨ys,ρe⟩:=p;rw [e] at h;exact λJ F1 H1 a c1 it=>⟨ds,ρ1,ys,ρe,F1,z,e,a,c1,it,h⟩
  ·rw [Ab z] at h; exact (d h).elim
theorem GG (P:X.calm=ir) (S:ScOk X scope) (M:CapOk X scope N nt cap) (hi:PI X tg iter (tIt C own fi))
  (hg:∀ fp L s' H',PG (jE X scope N fp L s' H') tg (tGd (ctC C nt cap.length) (ua own nt cap) g)) (ht:∀ fp L s' H',PTs (jE X scope N fp L s' H') ifs (tT (ctC C nt cap.length) (ua own nt cap) ft))
  (E:∀ fp L s' H',PE (jE X scope N fp L s' H') elt (tE (ctC C nt cap.length) (ua own nt cap) me fe)) (j:me≠.any:=by decide) (B:∀ x,j5 iter X.env x=pure x:=by intro _; rfl) :
  PE X (.ListComp elt [⟨tg,iter,ifs,0⟩] scope pos) (tE C own .fr (jo own nt cap fi g ft fe)):=by
 refine ⟨?_⟩;intro pins s σ H Q I ⟨F,ρ,k,h⟩;rw [eval_ListComp];have n:=Vq (α:=Unit) (Z:=λr=>Po C own .fr σ F H r Q) k (λz=>z) (λc _ z=>z) h;refine wpAny_comprehension_free (use:=ij) rfl B (QP (gy I S)) S.kind S.names (thn (hi pins s σ H _ I n) λU s1 h1=>thn h1 λl s2 h2=>?_);obtain ⟨it,fp,tn,J,H2,e,K,T,b,f2,ds,ρ1,ys,ρe,F1,t,a,d,c1,O,po⟩:=h2;subst e;refine Vp (RR:=λacc R=>compPost (model X.prog X.w) X.A X.xe ij (EP X pins σ Q) acc R) K P S M T b f2 d O t hg ht E j a λp L s' F' H' hp f G nF o i D v=>?_;obtain ⟨m,hn⟩:=i;refine ⟨m,hn,λh' y=>⟨.ref p,H',v h' y,rfl,?_⟩⟩;refine po (.ref p) F' H' f (c1.trans' G) ⟨p,rfl,?_,nF,o⟩;cases q:H p with
 | none=>rfl
 | some u=>exact absurd hp (c1.stay p (by rw [q]; simp))
theorem qcA {pos' spos:Pos} (hN:X.N.Nodup) (V:X.N[i]?=ii x) (hx:Loc X.env.scope x) (P:X.calm=ir) (S:ScOk X scope) (CO:CapOk X scope N nt cap) (hi:PI X tg iter (tIt C own fi))
  (hg:∀ fp L s' H',PG (jE X scope N fp L s' H') tg (tGd (ctC C nt cap.length) (ua own nt cap) g)) (ht:∀ fp L s' H',PTs (jE X scope N fp L s' H') ifs (tT (ctC C nt cap.length) (ua own nt cap) ft))
  (he:∀ fp L s' H',PE (jE X scope N fp L s' H') elt (tE (ctC C nt cap.length) (ua own nt cap) me fe)) (M:me≠.any:=by decide) (W:i∉C.io:=by exact yX rfl)
  (G:ll (.ListComp elt [⟨tg,iter,ifs,0⟩] scope pos) (ii (.Name x pos')) spos.line X.env=pure true:=by rfl) (hs:∀ x,j5 iter X.env x=pure x:=by intro _; rfl)
  (Y:X.fn x=ir\/X.env.scope.names.lookup x=ii .local:=by first | exact .inl rfl | exact .inr rfl) :
  PS X (.Assign [.Name x pos'] (.ListComp elt [⟨tg,iter,ifs,0⟩] scope pos) spos) (tSt C own (i::vX own [i]) (qU i (jo own nt cap fi g ft fe))):=by
 refine ⟨?_⟩;intro pins s σ H D I ⟨F,ρ,rp,h⟩;rw [exec_Assign_Name_used _ _ _ _ G];refine im (wpAny_standAt (im ?_));show iy _ X.A (do let _ <-comprehension (.ListComp elt [⟨tg,iter,ifs,0⟩] scope pos) scope X.env _ (newList []) iq (eval iter X.env) (ii (assign (.Name x pos') X.env))) _ _ s;have n:=Vq (α:=Unit) (Z:=λr=>PoS C own (i::vX own [i]) σ F H (r.bind λp=>if i < p.2.length then .ok (.nx,p.2.set i (ii p.1)) else .bad) D) rp (λz=>z) (λc _ z=>z) h;refine im (j6 (wpAny_comprehension_free (use:=ii (assign (.Name x pos') X.env)) (Q:=λ_ s'=>SP X pins D .next s') rfl hs (QP (gy I S)) S.kind S.names (thn (hi pins s σ H _ I n) λxv s1 h1=>thn h1 λitv s2 h2=>?_)) (λ_ s' hq=>iw (iw hq)) λ_ _ e=>e);obtain ⟨it,fp,tn,J,H2,e,I2,T,l,f2,ds,ρ1,ys,ρe,F1,hz,f,B,c1,O,po⟩:=h2;subst e;refine Vp (RR:=λacc C'=>compPost (model X.prog X.w) X.A X.xe (ii (assign (.Name x pos') X.env)) (λ_ s'=>SP X pins D .next s') acc C') I2 P S CO T l f2 B O hz hg ht he M f λp L s' F' H' hp d c' nF o K hfp k=>?_;obtain ⟨m,hn⟩:=K;have I3:Inv X pins σ H' s':=by simpa using k s'.heap (.refl ..)
 have hH:H p=none:=by
  cases q:H p with
  | none=>rfl
  | some u=>exact absurd hp (c1.stay p (by rw [q]; simp))
 show iy _ X.A (assign (.Name x pos') X.env (.ref p)) _ _ s';refine wpAny_assign_Name (KW I3 hN V hx (v:=.ref p) rfl (λs4 I4 ⟨a,t,ha⟩=>?_) Y);obtain ⟨f0,f1,f2',f3,f4,f5⟩:=hfp;have nL:L≠a:=by
  rcases ha with z | z;·rw [z]; exact f1
  ·exact λq=>f4 x a z q.symm
 refine ⟨m,hn.sameBut t nL,λh' sb=>?_⟩;have I5:Inv X pins (σ.set i (ii (.ref p))) H' { s4 with heap:=h' }:=by have:=I4.turned (h':=h') (t':=s4.toks) (it:=L) (λb o hb e=>(sb.2 b hb).trans e) f0 f1 f3 f4 f5;exact this
 refine ⟨_,H',I5,?_⟩;have po:PoS C own (i::vX own [i]) σ F H (if i < (kl own ρe nt cap ρ1).length then .ok (.nx,(kl own ρe nt cap ρ1).set i (ii (.lst ys))) else .bad) D:=po;by_cases z:i < (kl own ρe nt cap ρ1).length
 ·rw [Aa z] at po;refine po _ F' H' ⟨d.putO z nF (λy=>(rp.OA_there y).1 hH) o,c1.trans' c',λb y=>?_,λj U=>aC λy=>W (by rw [y]; exact U)⟩;obtain ⟨j,U,e⟩:=y;by_cases E:j=i;·subst E;rw [aN (by rw [d.len]; exact z)] at e;cases e;exact .inr hH
  ·have R:=(jn j).mp ((ac.mp U).resolve_left E);rw [aC (bw E)] at e;exact .inl ⟨j,R.1,e⟩
 ·rw [Ab z] at po; exact po.elim
end
def Fly (h:Heap) (ex T:Addr) (cls:ip):Prop:=∃ o vs a ts,h.get? ex=ii o/\o.cls=cls/\o.data=.fields vs/\vs[1]?=ii (.ref T)/\T≠ex/\h.get? T=ii a/\a.data=.fields ts/\ts[3]?=ii .none
def CXk (P:iE) (w:iG):CXT:=λouter H s E e s'=>∃ ex T C H',e=.ref ex/\s'.os=s.os/\lQ s'.gens/\Un (frs outer) [] H H' s.heap s'.heap/\HOk P w H' s'.heap/\Fly s'.heap ex T (.ref C)/\H' ex=ij/\H' T=ij/\s.heap.get? ex=ij/\s.heap.get? T=ij/\E (.ref C) ij H'
def InB (X:Cx) (H:Hp) (s:iu) (ex:Addr) (cls:ip):Prop:=H ex=ij/\X.s₀.heap.get? ex=ij /\
 ((∃ o vs,s.heap.get? ex=ii o/\o.cls=cls/\o.data=.fields vs/\vs[1]?=ii .none)\/∃ T,Fly s.heap ex T cls/\H T=ij/\X.s₀.heap.get? T=ij)
variable {ex:Addr} {T0:Option Addr} {h2:Heap}
section
variable {cls:ip}
noncomputable def xj (ex:Addr) (T:Option Addr) (X:Cx):List Addr:=ex::(T.toList++frs X.stack)
theorem xl (I:Inv X pins σ H s) (d:b∈frs X.stack):∃ o,s.heap.get? b=ii o/\∀ vs,o.data≠.fields vs:=(I.stack.mem d).2
theorem Vr (c:X.stack=X.env::X.outer):∀ env∈X.stack,∀ b,env.frame=ii b->b∈frs X.stack:=λenv i b d=>fE.mpr ⟨env,i,d⟩
structure Gone (X:Cx) (H:Hp) (s:iu) (ex:Addr) (cls:ip) (h2:Heap):Prop where
 keep:∀ b o,s.heap.get? b=ii o->H b≠ij\/(X.s₀.heap.get? b≠ij/\b∉frs X.stack)->h2.get? b=ii o
 slot:∀ b o,s.heap.get? b=ii o->b∈frs X.stack->∃ sl,h2.get? b=ii { o with slots:=sl }
 ok:HOk X.prog X.w H h2
 un:Un (frs X.stack) [] H H s.heap h2\/True
theorem GH {h2:Heap} (I:Inv X pins σ H s) (hex:H ex=ij) (hT:∀ T,T0=ii T->H T=ij) (n1:X.s₀.heap.get? ex=ij) (n2:∀ T,T0=ii T->X.s₀.heap.get? T=ij)
  (st:(bj s.heap (xj ex T0 X)).StaysIn h2) (sl:∀ b o,s.heap.get? b=ii o->(∀ vs,o.data≠.fields vs)->∃ sl,h2.get? b=ii { o with slots:=sl }):Gone X H s ex cls h2:=by
 have keep:∀ b o,s.heap.get? b=ii o->b≠ex->(∀ T,T0=ii T->b≠T)->b∉frs X.stack->h2.get? b=ii o:=λb o e h1 h2 g=>st b o (cX _ e λm=>by
  rcases ac.mp m with q | m;·exact h1 q
  ·rcases ao.mp m with q | q;·exact h2 b (Option.mem_toList.mp q) rfl
   ·exact g q)
 have k1:∀ b o,s.heap.get? b=ii o->H b≠ij->h2.get? b=ii o:=λb o e hn=>keep b o e (λq=>hn (by rw [q]; exact hex)) (λT h q=>hn (by rw [q]; exact hT T h)) λq=>hn (I.stkFree b q);refine ⟨λb o e d=>?_,λb o e d=>?_,λb u e=>?_,.inr trivial⟩
 ·rcases d with d | ⟨d,hf⟩
  ·exact k1 b o e d
  ·exact keep b o e (λq=>d (by rw [q]; exact n1)) (λT h q=>d (by rw [q]; exact n2 T h)) hf
 ·obtain ⟨o',a,t⟩:=xl I d;rw [e] at a; cases a;exact sl b o e t
 ·refine (I.hok b u e).stay (λc v f q=>k1 c v q ?_) (λ_ q=>q) λ_ _ q=>q;rcases f with z | z;·rw [z,e]; simp
  ·rw [z]; simp
theorem Vs (I:Inv X pins σ H s) (hT:∀ T,T0=ii T->H T=ij) (n2:∀ T,T0=ii T->X.s₀.heap.get? T=ij) (g:Gone X H s ex cls h2) (c:X.ex=[])
  (tr:h2.Traced (bj s.heap (xj ex T0 X)) ex cls):∃ T,Fly h2 ex T cls/\H T=ij/\X.s₀.heap.get? T=none:=by
 obtain ⟨k,vs,T,l,ts,D,B,A,x,p,a6,i,a8,w⟩:=tr;have a:∀ o,s.heap.get? T=ii o->(∃ q,T0=ii q/\T=q):=λo e=>by
  have m:T∈xj ex T0 X:=by refine bK λhn=>?_;rw [cX _ e hn] at p;cases p
  rcases ac.mp m with q | m;·exact absurd q a6
  ·rcases ao.mp m with q | q;·exact ⟨T,Option.mem_toList.mp q,rfl⟩
   ·obtain ⟨o',d,t⟩:=xl I q;obtain ⟨sl,e2⟩:=g.slot T o' d q;rw [i] at e2;cases e2;exact absurd a8 (t ts)
 refine ⟨T,⟨k,vs,l,ts,D,B,A,x,a6,i,a8,w⟩,?_,?_⟩
 ·cases q:H T with
  | none=>rfl
  | some u=>
   have r:=I.hok.lt q;obtain ⟨o,e⟩:∃ o,s.heap.get? T=ii o:=by
    have:=(I.hok T u q)
    have st:=this.stay (H':=H) (h':=s.heap) (λb v _ z=>z) (λ_ z=>z) λ_ _ z=>z;cases z:s.heap.get? T with
    | some o=>exact ⟨o,rfl⟩
    | none=>
     exfalso;cases u with
     | lst xs=>obtain ⟨_,_,_,_,e⟩:=st; rw [z] at e; cases e
     | tup xs=>obtain ⟨_,_,_,_,e,_⟩:=st; rw [z] at e; cases e
     | dK kvs=>obtain ⟨_,_,_,_,o,_,_,e,_⟩:=st; rw [z] at e; cases e
     | dT kvs=>obtain ⟨_,_,_,_,o,_,_,e,_⟩:=st; rw [z] at e; cases e
     | set S n=>obtain ⟨o,_,_,_,e,_⟩:=st; rw [z] at e; cases e
     | ins C dx fs=>obtain ⟨_,_,_,e,_⟩:=st; rw [z] at e; cases e
     | own y=>obtain ⟨_,e⟩:=st; rw [z] at e; cases e
     | xd fs=>obtain ⟨_,⟨_,_,_,e,_⟩,_⟩:=st; rw [z] at e; cases e
     | rng lo hi=>obtain ⟨_,_,_,e⟩:=st; rw [z] at e; cases e
     | frz E u=>obtain ⟨e,_⟩:=st; rw [z] at e; cases e
     | tbl ps=>have e:s.heap.get? T=ii _:=st; rw [z] at e; cases e
     | met f y=>have e:s.heap.get? T=ii _:=st; rw [z] at e; cases e
     | ext φ=>obtain ⟨_,⟨_,e⟩,_⟩:=st; rw [z] at e; cases e
   obtain ⟨j,h,rfl⟩:=a o e;rw [hT _ h] at q; cases q
 ·cases q:X.s₀.heap.get? T with
  | none=>rfl
  | some o=>obtain ⟨o',d⟩:=I.base.there T o q (by rw [c]; simp);obtain ⟨j,h,rfl⟩:=a o' d;rw [n2 _ h] at q; cases q
theorem XT {E:ip->iu->Prop} {Q:Unit->iu->Prop} (I:Inv X pins σ H s) (h:X.stack=X.env::X.outer) (r:X.env.frame=ii X.env.locals) (c:X.ex=[]) (x:InB X H s ex cls)
  (k:∀ h2 T,Gone X H s ex cls h2->Fly h2 ex T cls->H T=ij->X.s₀.heap.get? T=ij->Q () { s with heap:=h2 }):iy (model X.prog X.w) X.A (leaving X.env (.ref ex)) Q E s:=by
 obtain ⟨hex,n1,hx⟩:=x;have C:X.A.frames=ii (X.env::X.outer):=by rw [I.ok.frames,h]
 have hB:∀ as,(bj s.heap as).StaysIn s.heap:=λas b o e=>d6 as e;have hl:∀ T0,s.heap.FunFrames (bj s.heap (xj ex T0 X)) (X.env::X.outer):=λT0=>by rw [<-h];exact PySem.W.funFrames_hide I.stack λenv u b v=>af _ (aV _ (Vr h env u b v))
 have hn:∀ T0,(bj s.heap (xj ex T0 X)).get? ex=none:=λT0=>cO _ (ac.mpr (.inl rfl));rcases hx with ⟨l,vs,m,i,f,q⟩ | ⟨T,⟨l,vs,p,ts,m,i,f,q,B,a6,y,a8⟩,hT,n2⟩
 ·refine wpAny_leaving_first (base:=bj s.heap (xj ex ij X)) C (hl ij) r m (hB _) (hn ij) f q λh2 ⟨st,_,tr,sl⟩=>?_;have g:Gone X H s ex cls h2:=GH I hex (T0:=ij) (λ_ z=>nomatch z) n1 (λ_ z=>nomatch z) st sl;rw [i] at tr;obtain ⟨j,f1,f2,f3⟩:=Vs I (T0:=ij) (λ_ z=>nomatch z) (λ_ z=>nomatch z) g c tr;exact k h2 j g f1 f2 f3
 ·have d:∀ a,ii T=ii a->H a=none:=λa z=>by cases z; exact hT
  have n:∀ a,ii T=ii a->X.s₀.heap.get? a=none:=λa z=>by cases z; exact n2
  have t:s.heap.Traced (bj s.heap (xj ex (ii T) X)) ex cls:=⟨l,vs,T,p,ts,m,i,f,q,cO _ (af _ (bI _ (by simp))),B,a6,y,a8⟩
  refine wpAny_leaving_next (base:=bj s.heap (xj ex (ii T) X)) C (hl (ii T)) r t (hB _) (hn _) λh2 ⟨st,_,tr,sl⟩=>?_;have g:Gone X H s ex cls h2:=GH I hex d n1 n st sl;obtain ⟨j,f1,f2,f3⟩:=Vs I d n g c tr;exact k h2 j g f1 f2 f3
end
variable {A:iL} {P:iE} {w:iG} {base h:Heap} {qual:Str} {outer:List Env} {s0:iu}
section
variable {mg:Str->Option ip} {cd:ip} {E:XK}
abbrev cxk (P:iE) (w:iG) (K:Frag) (mg:Str->Option ip) (base:Heap) (N:List Str) (qual:Str) (scope:lG) (f:Addr) (cd:ip) (A:iL) (outer:List Env) (s0:iu) (H0:Hp) (E:XK):Cx:=qeO (CXk P w) P w K mg base N qual scope f cd A outer s0 H0 E
theorem qhk {C:Addr} (I:Inv (cxk P w K mg base N qual scope f cd A outer s0 H0 E) pins σ H s) (x:InB (cxk P w K mg base N qual scope f cd A outer s0 H0 E) H s ex (.ref C)) (k:E (.ref C) ij H):(cxk P w K mg base N qual scope f cd A outer s0 H0 E).xe (.ref ex) s:=by
 refine XT I rfl rfl rfl x λh2 T g l hT j=>?_;have a:=I.base;have L:∀ b o,s0.heap.get? b=ii o->b≠(cxk P w K mg base N qual scope f cd A outer s0 H0 E).env.locals:=λb o e=>aD (aI (ay e) I.ok.above);have t:∀ b o,s0.heap.get? b=ii o->b∉frs outer->b∉frs (cxk P w K mg base N qual scope f cd A outer s0 H0 E).stack:=λb o e d z=>by
  rcases ac.mp (I.stkSub b z) with q | q;·exact L b o e q
  ·exact d q
 have i:∀ b,b∈frs outer->b∈frs (cxk P w K mg base N qual scope f cd A outer s0 H0 E).stack:=λb d=>by show b∈frs (_::outer);unfold frs;rw [bq];exact af _ d
 refine ⟨ex,T,C,H,rfl,I.os,I.bare,⟨λb o e n d hx=>?_,λb o e n d hx=>?_,a.free,λb o e hx=>?_,a.tups,a.frzs,a.tbls⟩,g.ok,l,x.1,hT,x.2.1,j,k⟩;·exact g.keep b o (a.keep b o e n d hx) (.inr ⟨by show s0.heap.get? b≠ij; rw [e]; simp,t b o e d⟩)
 ·obtain ⟨sl,q⟩:=a.slot b o e n d hx;obtain ⟨c,h⟩:=g.slot b _ q (i b d);exact ⟨c,h⟩
 ·obtain ⟨o',q⟩:=a.there b o e hx;by_cases d:b∈frs (cxk P w K mg base N qual scope f cd A outer s0 H0 E).stack;·obtain ⟨sl,h⟩:=g.slot b o' q d;exact ⟨_,h⟩
  ·exact ⟨o',g.keep b o' q (.inr ⟨by show s0.heap.get? b≠ij; rw [e]; simp,d⟩)⟩
theorem qfj {e:ip} (c:X.ex=[]) (I:Inv X pins σ H s) (h:CXk X.prog X.w X.stack H s E e s'):∃ ex C H',e=.ref ex/\Inv X pins σ H' s'/\InB X H' s' ex (.ref C)/\E (.ref C) ij H':=by
 obtain ⟨ex,T,C,H',rfl,os,bare,un,hok,l,e1,e2,n1,n2,k⟩:=h;have old:∀ b,s.heap.get? b=ij->X.s₀.heap.get? b=none:=λb d=>by
  cases q:X.s₀.heap.get? b with
  | none=>rfl
  | some o=>obtain ⟨o',a⟩:=I.base.there b o q (by rw [c]; simp);rw [d] at a; cases a
 exact ⟨ex,C,H',rfl,I.call' (ch:=[]) os un hok bare (λb z=>absurd z (by simp)),⟨e1,old ex n1,.inr ⟨T,l,e2,old T n2⟩⟩,k⟩
theorem qjr:yT (CXk P w) (cxk P w K mg base N qual scope f cd A outer s0 H0 E) E:=λpins σ H s e s' I h=>by obtain ⟨ex,C,H',rfl,b,x,k⟩:=qfj rfl I h;exact qhk b x k
theorem qfk {C:Addr} {b:List ip} {d:String} (kin:K.In h) (c:mg x=ii (.ref C)) (q:dX K C b d=ir):OwnCls x C b d mg h:=by
 refine ⟨c,?_⟩;unfold dX at q;split at q
 case h_2=>cases q
 case h_1 dd cd sl lk=>
  split at q
  case h_2=>cases q
  case h_1 C' bm a0 a1 a2 a3 n a5 em es=>
   have g:=q;simp only [aS,beq_iff_eq,fL] at g;obtain ⟨⟨⟨⟨⟨e1,e2⟩,l⟩,tl⟩,k⟩,t⟩:=g;obtain ⟨nm,bs,mro,ns,a,hd,sn,sub,ab,col,del⟩:=cd;dsimp only at em l k t;obtain ⟨s⟩:=sl;dsimp only at es;subst em l es e1 e2;exact ⟨bm,ns,nm,a,bs,hd,sn,sub,ab,col,dd,a0,a1,a2,a3,a5,_,kin _ _ lk,.of_isNs (PySem.W.isNs_of_in kin k),PySem.W.nsMap_none_of_in kin k t,PySem.W.tail_of_in kin tl⟩
end
theorem qdY {T:Addr} (hok:HOk P w H h) (q:H T=ii u):∃ o,h.get? T=ii o:=by
 have st:=hok T u q;cases z:h.get? T with
 | some o=>exact ⟨o,rfl⟩
 | none=>
  exfalso;cases u with
  | lst xs=>obtain ⟨_,_,_,_,e⟩:=st; rw [z] at e; cases e
  | tup xs=>obtain ⟨_,_,_,_,e,_⟩:=st; rw [z] at e; cases e
  | dK kvs=>obtain ⟨_,_,_,_,o,_,_,e,_⟩:=st; rw [z] at e; cases e
  | dT kvs=>obtain ⟨_,_,_,_,o,_,_,e,_⟩:=st; rw [z] at e; cases e
  | set S n=>obtain ⟨o,_,_,_,e,_⟩:=st; rw [z] at e; cases e
  | ins C dx fs=>obtain ⟨_,_,_,e,_⟩:=st; rw [z] at e; cases e
  | own y=>obtain ⟨_,e⟩:=st; rw [z] at e; cases e
  | xd fs=>obtain ⟨_,⟨_,_,_,e,_⟩,_⟩:=st; rw [z] at e; cases e
  | rng lo hi=>obtain ⟨_,_,_,e⟩:=st; rw [z] at e; cases e
  | frz b u=>obtain ⟨e,_⟩:=st; rw [z] at e; cases e
  | tbl ps=>have e:h.get? T=ii _:=st; rw [z] at e; cases e
  | met f y=>have e:h.get? T=ii _:=st; rw [z] at e; cases e
  | ext φ=>obtain ⟨_,⟨_,e⟩,_⟩:=st; rw [z] at e; cases e
abbrev bmV:List ip:=[.type "ValueError",.type "Exception",.type "BaseException",.type "object"]
noncomputable def vc (x:Str) (fr:uj):qN:=λρ=>(fr ρ).bind λp=>.exc x p.2
theorem PoS.bindA {as:List AK} {o:Out (List D×Sl)} {k:List D×Sl->Out (Fl×Sl)} {D:Ends} {R:List V->Hp->Prop} (hp:PoS C own own' σ F H (o.bind k) D)
  (h:∀ vs F1 H1 ds ρ1,Rep C.K own F1 H1 σ ρ1->Chg (OA own σ) F H F1 H1->ArgV C.K H F1 H1 σ as vs ds->PoS C own own' σ F1 H1 (k (ds,ρ1)) D->R vs H1):PoA C own as σ F H o R:=by
 cases o with
 | ok p=>obtain ⟨ds,ρ1⟩:=p;exact λvs F1 H1 a c v=>h vs F1 H1 ds ρ1 a c v (PoS.shift (show PoS C own own' σ F H (k (ds,ρ1)) D from hp) (.ofE a c))
 | exc x=>exact hp
 | bad=>exact hp.elim
def YB (X:Cx) (C:Ct):Prop:=∀ (pins:Pns) (σ:St) (H:Hp) (s:iu) (ex A:Addr),Inv X pins σ H s->InB X H s ex (.ref A)->C.E (.ref A) ij H->X.xe (.ref ex) s
theorem qhl {mg:Str->Option ip} {cd:ip}:YB (cxk P w K mg base N qual scope f cd A outer s0 H0 C.E) C:=λpins σ H s ex A I x k=>qhk I x k
variable {Cc:Addr}
section
variable {fr:uj} {np cpos:Pos}
theorem ArgV.len:∀ {as:List AK} {vs:List V} {ds:List D},ArgV K H0 F H σ as vs ds->vs.length=as.length
 | [],[],[],_=>rfl
 | .vl::as,v::vs,d::ds,h=>congrArg (·+1) (ArgV.len h.2)
 | .sl i::as,v::vs,d::ds,h=>congrArg (·+1) (ArgV.len h.2.2)
 | .fr::as,v::vs,d::ds,h=>congrArg (·+1) (ArgV.len h.2)
 | [],_::_,_,h=>h.elim
 | [],[],_::_,h=>h.elim
 | .vl::_,[],_,h=>h.elim
 | .vl::_,_::_,[],h=>h.elim
 | .sl _::_,[],_,h=>h.elim
 | .sl _::_,_::_,[],h=>h.elim
 | .fr::_,[],_,h=>h.elim
 | .fr::_,_::_,[],h=>h.elim
theorem GI (c:X.ex=[]) (ht:YB X C) (P:X.calm=ir) (hg:Gl X x) (m:X.mg x=ii (.ref Cc)) (v:C.cv x=.ref Cc) (q:dX X.K Cc bmV "ValueError.__new__"=ir) (z:PA X (e::es) (tAr C own as fr)) (hsz:as.length<=1000:=by decide) (g:∀ i∈C.ox,i∈own:=by exact ug rfl) (hd:Dbg x:=by decide)
  (j:iA (e::es) X.env=(iq,eval e X.env)::iA es X.env:=by exact jS rfl) (l:(iZ cpos (iA es X.env)).any (·.1)=false:=by rfl) :
  PS X (.Raise (ii (.Call (.Name x np) (e::es) [] cpos)) ij pos) (tSt C own own' (vc x fr)):=by
 refine ⟨?_⟩;intro pins s σ H D I ⟨F,ρ,r,h⟩;obtain ⟨tl,N,nm,p,bs,hdct,sn,sub,ab,col,dd,k0,k1,k2,k3,k5,mN,hC,A,f,T⟩:=(qfk I.ok.mod.kin m q).obj;refine wpAny_Raise_call_subT (C:=Cc) (nm:=nm) (q:=p) (N:=N) (bs:=bs) (bm:=tl) (hdct:=hdct) (sn:=sn) (sub:=sub) (ab:=ab) (col:=col) (dd:=dd) (k0:=k0) (k1:=k1) (k2:=k2) (k3:=k3) (k5:=k5)
  PySem.F.excBase_ValueError (mN:=mN) (T.hasType PySem.F.excBase_ValueError.hasBase) (I.ok.hd P) (by rw [j]; show (iq||(iZ cpos (iA es X.env)).any (·.1))=iq; rw [l]; rfl) f (Jo I hg m ⟨rfl,?_⟩ hd)
 have n:tAr C own as fr σ H λvs H1=>vs.length<=sizeLine/\C.E (.ref Cc) ij H1:=by
  refine ⟨F,ρ,r,PoS.bindA h λvs F1 H1 ds ρ1 a c1 G h1=>⟨?_,?_⟩⟩;·rw [G.len]; exact bN hsz (by rw [iF]; decide)
  ·rw [<-v]; exact h1 F1 H1 a.sub (a.ioIs g) .refl
 have run:=z cpos pins s σ H _ I n;rw [j] at run ⊢;refine dI (j6 run (λus s2 ⟨vs,H2,d,r2,z2,B⟩=>?_) λ_ _ y=>y);refine ⟨rfl,by rw [<-r2.length]; exact z2,d.bk _ _ hC,A.keeps d.bk,T.keeps d.bk,λh' ex mk=>?_⟩;have J:Inv X pins σ H2 { s2 with heap:=h' }:=d.kept (t':=s2.toks) mk.keeps;obtain ⟨t,h1,h2,L⟩:=mk.there;refine ht pins σ H2 _ ex Cc J ⟨?_,?_,.inl ⟨_,_,h1,rfl,rfl,rfl⟩⟩ B
 ·cases b:H2 ex with
  | none=>rfl
  | some u=>have w:=d.hok.lt b;refine absurd mk.new ?_;obtain ⟨o,e⟩:=qdY d.hok b;rw [e]; simp
 ·cases b:X.s₀.heap.get? ex with
  | none=>rfl
  | some o=>obtain ⟨o',k⟩:=d.base.there ex o b (by rw [c]; simp);rw [mk.new] at k; cases k
end
structure Caught (X:Cx) (pins:Pns) (H:Hp) (s:iu) (ex T Cc:Addr):Prop where
 fly:Fly s.heap ex T (.ref Cc)
 hex:H ex=ij
 hT:H T=ij
 n1:X.s₀.heap.get? ex=ij
 n2:X.s₀.heap.get? T=ij
 pp:∀ p∈X.pn++pins,p.1≠ex/\p.1≠T
variable {xe:ip->iu->Prop}
section
variable {T:Addr}
theorem Caught.dex (c:Caught X pins H s ex T Cc):∃ o vs,s.heap.get? ex=ii o/\o.data=.fields vs:=let ⟨o,vs,a,ts,m,k,z,_⟩:=c.fly; ⟨o,vs,m,z⟩
theorem Caught.dT (c:Caught X pins H s ex T Cc):∃ o vs,s.heap.get? T=ii o/\o.data=.fields vs:=let ⟨o,vs,a,ts,m,k,z,q,p,a6,i,_⟩:=c.fly; ⟨a,ts,a6,i⟩
theorem YC {h2:Heap} (I:Inv X pins σ H s) (g:X.stack=X.env::X.outer) (j:X.env.frame=ii X.env.locals) (J:X.ex=[]) (c:Caught X pins H s ex T Cc)
  (keep:∀ b o,s.heap.get? b=ii o->b≠ex->b≠T->b∉frs X.stack->h2.get? b=ii o)
  (slot:∀ b o,s.heap.get? b=ii o->b∈frs X.stack->∃ sl,h2.get? b=ii { o with slots:=sl }):Inv X pins σ H { s with heap:=h2 }:=by
 obtain ⟨W,ve,M,P⟩:=c.dex;obtain ⟨Y,V,hT,dT⟩:=c.dT;have E:∀ b o,s.heap.get? b=ii o->(∀ vs,o.data≠.fields vs)->b≠ex/\b≠T:=λb o e n=>by
  constructor;·rintro rfl; rw [M] at e; cases e; exact n _ P
  ·rintro rfl; rw [hT] at e; cases e; exact n _ dT
 have U:X.env.locals∈frs X.stack:=by rw [g]; unfold frs; rw [bq,j]; exact aq
 have L:∀ b o,X.s₀.heap.get? b=ii o->b≠X.env.locals:=λb o e=>aD (aI (ay e) I.ok.above);have t:∀ b o,X.s₀.heap.get? b=ii o->b∉X.fs->b∉frs X.stack:=λb o e h z=>by
  rcases ac.mp (I.stkSub b z) with q | q;·exact L b o e q
  ·exact h q
 have w:∀ b,b∈X.fs->b∈frs X.stack:=λb h=>by rw [g]; unfold frs; rw [bq,j]; exact af _ h
 have f:∀ b o,X.s₀.heap.get? b=ii o->b≠ex/\b≠T:=λb o e=>⟨(by rintro rfl; rw [c.n1] at e; cases e),(by rintro rfl; rw [c.n2] at e; cases e)⟩
 have y:∀ {a:Addr} {v:Option ip},s.heap.IsCell a v->h2.IsCell a v:=λ{a v} ⟨oc,e1,e2⟩=>by
  have q:=E a oc e1 λvs z=>by rw [e2] at z; cases z
  by_cases h:a∈frs X.stack;·obtain ⟨sl,z⟩:=slot a oc e1 h;exact ⟨_,z,e2⟩
  ·exact ⟨oc,keep a oc e1 q.1 q.2 h,e2⟩
 refine ⟨I.ok,I.os,I.bare,⟨λb o e n h hx=>?_,λb o e n h hx=>?_,I.base.free,λb o e hx=>?_,I.base.tups,I.base.frzs,I.base.tbls⟩,?_,λx a e=>?_,I.free,I.freeC,λp hp=>?_,λb u e=>?_,I.len⟩;·exact keep b o (I.base.keep b o e n h hx) (f b o e).1 (f b o e).2 (t b o e h)
 ·obtain ⟨sl,q⟩:=I.base.slot b o e n h hx;obtain ⟨l,D⟩:=slot b _ q (w b h);exact ⟨l,D⟩
 ·obtain ⟨o',q⟩:=I.base.there b o e hx;by_cases h:b∈frs X.stack;·obtain ⟨sl,z⟩:=slot b o' q h;exact ⟨_,z⟩
  ·exact ⟨o',keep b o' q (f b o e).1 (f b o e).2 h⟩
 ·obtain ⟨m,⟨o,es,ep,K,r⟩,hl⟩:=I.loc;obtain ⟨sl,O⟩:=slot _ o K U;refine ⟨m,⟨_,es,ep,O,r⟩,λi x v e1 e2 e3=>?_⟩;obtain ⟨u,C,G⟩:=hl i x v e1 e2 e3;refine ⟨u,C,?_⟩;rcases G with z | ⟨k,a,e,z⟩
  ·exact .inl z
  ·exact .inr ⟨k,a,e,y z⟩
 ·obtain ⟨v,z⟩:=I.cell x a e;exact ⟨v,y z⟩
 ·obtain ⟨S,R,B,A,Q⟩:=I.pin p hp;refine ⟨keep p.1 p.2 S (c.pp p hp).1 (c.pp p hp).2 λz=>?_,R,B,A,Q⟩;rcases ac.mp (I.stkSub p.1 z) with q | q;·exact B q
  ·exact A q
 ·refine (I.hok b u e).stay (λd v N q=>?_) (λ_ q=>q) λ_ _ q=>q;have hd:H d≠none:=by
   rcases N with z | z;·rw [z,e]; simp
   ·rw [z]; simp
  exact keep d v q (λz=>hd (by rw [z]; exact c.hex)) (λz=>hd (by rw [z]; exact c.hT)) λz=>hd (I.stkFree d z)
theorem QQ {x:ip} (I:Inv X pins σ H s) (h:X.ex=[]) (c:Caught X pins H s ex T Cc) (slot:∀ b o,s.heap.get? b=ii o->b∈frs X.stack->∃ sl,h2.get? b=ii { o with slots:=sl })
  (tr:h2.TracedW (bj s.heap (xj ex (ii T) X)) ex (.ref Cc) x):∃ j,Caught X pins H { s with heap:=h2 } ex j Cc:=by
 obtain ⟨l,vs,j,n,ts,b1,⟨b2,_⟩,w,v,k,i,g,f,r⟩:=tr;have a:∀ o,s.heap.get? j=ii o->j=T:=λo e=>by
  have m:j∈xj ex (ii T) X:=by refine bK λhn=>?_;rw [cX _ e hn] at k;cases k
  rcases ac.mp m with q | m;·exact absurd q i
  ·rcases ao.mp m with q | q;·simpa using q
   ·obtain ⟨o',d,t⟩:=xl I q;obtain ⟨sl,e2⟩:=slot j o' d q;rw [g] at e2;cases e2;exact absurd f (t ts)
 refine ⟨j,⟨l,vs,n,ts,b1,b2,w,v,i,g,f,r⟩,c.hex,?_,c.n1,?_,λp hp=>⟨(c.pp p hp).1,?_⟩⟩
 ·cases q:H j with
  | none=>rfl
  | some u=>obtain ⟨o,e⟩:=qdY I.hok q;rw [a o e,c.hT] at q; cases q
 ·cases q:X.s₀.heap.get? j with
  | none=>rfl
  | some o=>obtain ⟨o',d⟩:=I.base.there j o q (by rw [h]; simp);rw [a o' d,c.n2] at q; cases q
 ·rintro rfl;exact (c.pp p hp).2 (a _ (I.pin p hp).1)
theorem QR (st:(bj s.heap (xj ex (ii T) X)).StaysIn h2):∀ b o,s.heap.get? b=ii o->b≠ex->b≠T->b∉frs X.stack->h2.get? b=ii o:=λb o e h1 h2 g=>st b o (cX _ e λc=>by
  rcases ac.mp c with q | c;·exact h1 q
  ·rcases ao.mp c with q | q;·exact h2 (by simpa using q)
   ·exact g q)
theorem Vt (c:Caught X pins H s ex T Cc):∃ x,s.heap.TracedW (bj s.heap (xj ex (ii T) X)) ex (.ref Cc) x:=by obtain ⟨o,vs,a,ts,m,k,b,q,p,a6,i,a8⟩:=c.fly;have z:0 < vs.size:=Nat.lt_of_succ_lt (Array.getElem?_eq_some_iff.mp q).1;exact ⟨vs[0],o,vs,T,a,ts,m,⟨k,by simp [z]⟩,b,q,cO _ (af _ (bI _ (by simp))),p,a6,i,a8⟩
theorem QS (I:Inv X pins σ H s) (h:X.stack=X.env::X.outer):s.heap.FunFrames (bj s.heap (xj ex (ii T) X)) (X.env::X.outer):=by rw [<-h];exact PySem.W.funFrames_hide I.stack λenv i b d=>af _ (aV _ (Vr h env i b d))
theorem GJ {E:ip->iu->Prop} {Q:Unit->iu->Prop} (hA:A.frames=ii X.stack) (I:Inv X pins σ H s) (h:X.stack=X.env::X.outer) (r:X.env.frame=ii X.env.locals) (a:X.ex=[]) (c:Caught X pins H s ex T Cc)
  (k:∀ s' j,Inv X pins σ H s'->Caught X pins H s' ex j Cc->Q () s'):iy (model X.prog X.w) A (noteFrame (.ref ex) X.env) (λ_ s1=>iy (model X.prog X.w) A (setFlight (.ref ex) ij) Q E s1) E s:=by
 obtain ⟨x,tr⟩:=Vt c;refine wpAny_looks_onW (by rw [hA,h]) r ⟨λb o e=>d6 _ e,cO _ (ac.mpr (.inl rfl)),QS I h,tr⟩ λh1 d i=>?_;refine wpAny_landsW d λh2 l u=>?_;have slot:∀ b o,s.heap.get? b=ii o->b∈frs X.stack->∃ sl,h2.get? b=ii { o with slots:=sl }:=λb o e n=>by obtain ⟨o',g,t⟩:=xl I n;rw [e] at g; cases g;obtain ⟨sl,q⟩:=i b o e t;obtain ⟨f,m⟩:=u b _ q t;exact ⟨f,m⟩
 obtain ⟨j,p⟩:=QQ I a c slot l.2.2.2;have v:Inv X pins σ H { s with heap:=h2 }:=YC I h r a c (QR l.1) slot;exact k { s with heap:=h2 } j v p
theorem Ug {A:iL} {E:ip->iu->Prop} {Q:Unit->iu->Prop} (I:Inv X pins σ H s) (h:X.stack=X.env::X.outer) (r:X.env.frame=ii X.env.locals) (a:X.ex=[]) (c:Caught X pins H s ex T Cc)
  (k:∀ s' j,Inv X pins σ H s'->Caught X pins H s' ex j Cc->Q () s'):iy (model X.prog X.w) A (setFlight (.ref ex) ij) Q E s:=by
 obtain ⟨x,tr⟩:=Vt c;refine wpAny_setFlight_noneW (base:=bj s.heap (xj ex (ii T) X)) (λb o e=>d6 _ e) (QS I h) tr λh2 st _ t kp=>?_;have slot:∀ b o,s.heap.get? b=ii o->b∈frs X.stack->∃ sl,h2.get? b=ii { o with slots:=sl }:=λb o e f=>by obtain ⟨o',d,n⟩:=xl I f;rw [e] at d; cases d;exact ⟨o.slots,kp b o e n⟩
 obtain ⟨j,g⟩:=QQ I a c slot t;exact k _ j (YC I h r a c (QR st) slot) g
theorem qjs (I:Inv X pins σ H s) (c:Caught X pins H s ex T Cc):Inv X pins σ (upd H ex (Yp ex Cc)) s:=by
 obtain ⟨g,vs,r,ts,f,l,h,_⟩:=c.fly;have t:∀ b o,s.heap.get? b=ii o->(∀ vs,o.data≠.fields vs)->b≠ex:=λb o e n=>by rintro rfl; rw [f] at e; cases e; exact n _ h
 have up:∀ {b:Addr} {u:HO},H b=ii u->upd H ex (Yp ex Cc) b=ii u:=λ{b u} e=>by rw [qA (qJ e c.hex)]; exact e
 refine ⟨I.ok,I.os,I.bare,⟨I.base.keep,I.base.slot,λb o e n hx=>?_,I.base.there,λb xs e=>up (I.base.tups b xs e),λb o u e=>up (I.base.frzs b o u e),λb ps e=>?_⟩,I.loc,I.cell,?_,λx a e=>?_,λp hp=>?_,λb u e=>?_,I.len⟩;·rw [qA (by rintro rfl; rw [c.n1] at e; cases e)]; exact I.base.free b o e n hx
 ·obtain ⟨more,z⟩:=I.base.tbls b ps e;exact ⟨more,up z⟩
 ·obtain ⟨m,⟨o,es,ep,j,hd,_⟩,_⟩:=I.loc;rw [qA (t _ o j λvs z=>by rw [hd] at z; cases z)]; exact I.free
 ·obtain ⟨v,oc,e1,e2⟩:=I.cell x a e;rw [qA (t _ oc e1 λvs z=>by rw [e2] at z; cases z)]; exact I.freeC x a e
 ·obtain ⟨b1,b2,w⟩:=I.pin p hp;refine ⟨b1,?_,w⟩;rw [qA (c.pp p hp).1]; exact b2
 ·by_cases q:b=ex;·subst q;rw [qu] at e; cases e;refine ⟨⟨g,vs,f,l,h⟩,⟨g,f⟩,λh1 h2 ⟨o1,i,e1,e2,e3⟩ k=>⟨o1,i,k _ e1,e2,e3⟩⟩
  ·rw [qA q] at e;exact (I.hok b u e).stay (λ_ _ _ z=>z) (λd z=>up z) λd xs z=>up z
def Uh (X:Cx) (pn:Pns) (xe:ip->iu->Prop):Cx:={ X with pn:=pn,xe:=xe }
theorem qfl (I:Inv X pins σ H s):Inv (Uh X (X.pn++pins) xe) [] σ H s:=
 ⟨⟨I.ok.mod,I.ok.kind,I.ok.glob,I.ok.blt,I.ok.above,I.ok.inj,I.ok.has,I.ok.cab,I.ok.hd,I.ok.frames,I.ok.stk,I.ok.exf,I.ok.bs,I.ok.bsz,I.ok.noex,I.ok.exfs,I.ok.funs,I.ok.frf⟩,I.os,I.bare,I.base,I.loc,I.cell,I.free,I.freeC,λp hp=>I.pin p (by simpa [Uh] using hp),I.hok,I.len⟩
theorem um {a:Pns} (I:Inv (Uh X (X.pn++pins) xe) a σ H s):Inv X pins σ H s:=
 ⟨⟨I.ok.mod,I.ok.kind,I.ok.glob,I.ok.blt,I.ok.above,I.ok.inj,I.ok.has,I.ok.cab,I.ok.hd,I.ok.frames,I.ok.stk,I.ok.exf,I.ok.bs,I.ok.bsz,I.ok.noex,I.ok.exfs,I.ok.funs,I.ok.frf⟩,I.os,I.bare,I.base,I.loc,I.cell,I.free,I.freeC,λp hp=>I.pin p (bI _ hp),I.hok,I.len⟩
noncomputable def qiE (X:Cx) (e:ip):Cx:={ X with A:=X.A.mark (ii e),calm:=iq,xe:=λ_ _=>False }
theorem qdZ {e:ip} (I:Inv X pins σ H s):Inv (qiE X e) pins σ H s:=
 ⟨⟨I.ok.mod,I.ok.kind,I.ok.glob,I.ok.blt,I.ok.above,I.ok.inj,I.ok.has,I.ok.cab,λz=>absurd z (by show ¬(iq=ir); exact bC),I.ok.frames,I.ok.stk,I.ok.exf,I.ok.bs,I.ok.bsz,I.ok.noex,I.ok.exfs,I.ok.funs,I.ok.frf⟩,I.os,I.bare,I.base,I.loc,I.cell,I.free,I.freeC,I.pin,I.hok,I.len⟩
theorem qfm {e:ip} (hok:X.Ok) (I:Inv (qiE X e) pins σ H s):Inv X pins σ H s:=
 ⟨hok,I.os,I.bare,I.base,I.loc,I.cell,I.free,I.freeC,I.pin,I.hok,I.len⟩
end
def qjt (C:Ct) (own:List Nat) (E:XK):Ct:=⟨C.K,C.cv,E,own,C.mr,C.ol,own,λ_ h=>h⟩
noncomputable def exC (C:Ct):Ct:=⟨C.K,C.cv,λ_ _ _=>False,[],C.mr,[],[],λ_ h=>h⟩
noncomputable def qfn (n:Nat) (j:Option Nat) (hit:Str->Option Addr) (fb fs:qN):qN:=λρ=>match fb ρ with
 | .exc c ρe=>match hit c with
  | some Cc=>match fs (match j with | some j=>(aJ n ij).set j (ii (.xcp Cc)) | none=>aJ n ij) with
   | .ok (.rt d,_)=>.ok (.rt d,ρe)
   | _=>.bad
  | none=>.bad
 | o=>o
def qju (C:Ct) (own:List Nat) (σ:St) (F H:Hp) (r:Out (Fl×Sl)):XK:=λcls _ H'=>∃ c ρe F',r=.exc c ρe/\cls=C.cv c/\Same F' H'/\ZK C.K own F' H' σ ρe/\Chg (OA own σ) F H F' H'
def qjv (X:Cx) (pins:Pns) (E:XK):ip->iu->Prop:=λe s'=>∃ σ ex T Cc H',e=.ref ex/\Inv X pins σ H' s'/\Caught X pins H' s' ex T Cc/\E (.ref Cc) ij H'
section
variable {fb fs:qN}
theorem XU {E:XK} (c:X.ex=[]):yT (CXk X.prog X.w) (Uh X (X.pn++pins) (qjv X pins E)) E:=λa σ H s e s' I h=>by
 obtain ⟨ex,T,Cc,H',rfl,os,bare,un,hok,l,e1,e2,n1,n2,k⟩:=h;have old:∀ b,s.heap.get? b=ij->X.s₀.heap.get? b=none:=λb f=>by
  cases q:X.s₀.heap.get? b with
  | none=>rfl
  | some o=>obtain ⟨o',d⟩:=I.base.there b o q (by show b∉X.ex; rw [c]; simp);rw [f] at d; cases d
 have g:Inv (Uh X (X.pn++pins) (qjv X pins E)) a σ H' s':=I.call' (ch:=[]) os un hok bare (λb z=>absurd z (by simp));refine ⟨σ,ex,T,Cc,H',rfl,um g,⟨l,e1,e2,old ex n1,old T n2,λp hp=>?_⟩,k⟩;have q:=(I.pin p (bI _ hp)).1;exact ⟨λz=>(by rw [z,n1] at q; cases q),λz=>(by rw [z,n2] at q; cases q)⟩
theorem Nx.untry {E:XK} {σ':St} {ρ':Sl} (g:∀ i∈C.io,i∈own) (n:Nx (qjt C own E) o1 o2 σ F H ρ' σ' F' H'):Nx C o1 o2 σ F H ρ' σ' F' H':=⟨n.rep,n.chg,n.oa,λi hi=>n.io i (g i hi)⟩
theorem qcB {D:Ends} {j:Option Nat} {hit:Str->Option Addr} (g:∀ i∈C.io,i∈own) (r:Rep C.K own F H σ ρ) (h:PoS C own own' σ F H (qfn n j hit fb fs ρ) D):tSt (qjt C own (qju C own σ F H (fb ρ))) own own' fb D σ H:=by
 refine ⟨F,ρ,r,?_⟩;unfold qfn at h;cases q:fb ρ with
 | ok p=>
  rw [q] at h;obtain ⟨l,ρ'⟩:=p;cases l with
  | nx=>exact λσ' F' H' a=>h σ' F' H' (a.untry g)
  | rt d=>exact λv σ' F' H' s io c e o=>h v σ' F' H' s (λi hi=>io i (g i hi)) c (λi hi=>e i (g i hi)) o
  | bk=>exact λσ' F' H' a=>h σ' F' H' (a.untry g)
  | ct=>exact λσ' F' H' a=>h σ' F' H' (a.untry g)
 | exc c ρe=>exact λF' H' s io ch=>⟨c,ρe,F',rfl,rfl,s,io,ch⟩
 | bad=>rw [q] at h; exact h.elim
theorem GK {f e:Hp} {Cc:Addr} {D:Ends} {d:D2.D} {v:V} {w:St} (g:∀ i∈C.io,i∈own) (h:PoS C own own' σ F H (.ok (.rt d,ρe)) D) (hn:H1 ex=ij) (y:Same F1 H1) (io:ZK C.K own F1 H1 σ ρe) (ch:Chg (OA own σ) F H F1 H1)
  (s3:Same f e) (c3:Chg (OA [] w) (upd F1 ex (Yp ex Cc)) (upd H1 ex (Yp ex Cc)) f e) (m:MoIs C.K C.mr (upd H1 ex (Yp ex Cc)) f e v d):D.rt v e:=by
 obtain ⟨k,c2⟩:=vY (u:=Yp ex Cc) y hn;have no:∀ {b},OA [] w b->False:=λ⟨i,hi,_⟩=>by simp at hi
 have j:Chg No (upd F1 ex (Yp ex Cc)) (upd H1 ex (Yp ex Cc)) f e:=c3.mono λx z=>no z;have c:Chg No F1 H1 f e:=c2.trans j λ_ z=>z.elim;refine h v σ f e s3 (λi hi=>?_) (ch.trans c λ_ z=>z.elim) (λ_ _=>rfl) (MoIs.back (Ha:=e) (ch.trans c2 λ_ z=>z.elim) m);obtain ⟨d',a,e1,e2,e3,s⟩:=io i (g i hi);refine ⟨d',a,e1,e2,?_,s.grow c.grow λo q=>c.keep a o q λz=>z⟩;cases q:f a with
 | none=>rfl
 | some u=>
  rcases c.new a (by rw [q]; simp) with z | z | z;·exact absurd e3 z
  ·exact absurd z s.there
  ·exact z.elim
theorem qcC {G:Str} {np y pos:Pos} {body b:List Stmt} {Z:Stmt} {cls:ip} {n:Nat} {hit:Str->Option Addr} {own2:List Nat} (m:X.ex=[]) (l:X.stack=X.env::X.outer) (B:X.env.frame=ii X.env.locals)
  (hg:Gl X G) (hm:X.mg G=ii cls) (A:∀ c Cc,hit c=ii Cc->C.cv c=.ref Cc/\bS X.K (.ref Cc) cls=ii ir) (hn:X.N.length=n)
  (hb:∀ pn xe E,yT (CXk X.prog X.w) (Uh X pn xe) E->PSs (Uh X pn xe) body (tSt (qjt C own E) own own' fb)) (hs:∀ e,PSs (qiE X e) (Z::b) (tSt (exC C) [] own2 fs)) (k:∀ i∈C.io,i∈own:=by exact ug rfl) (hd:Dbg G:=by decide) :
  PS X (.Try body [.ExceptHandler (ii (.Name G np)) ij (Z::b) y] [] [] pos) (tSt C own own' (qfn n ij hit fb fs)):=by
 refine ⟨?_⟩;intro pins s σ H D I ⟨F,ρ,rp,h⟩;have run:=hb (X.pn++pins) (qjv X pins (qju C own σ F H (fb ρ))) (qju C own σ F H (fb ρ)) (XU m) [] s σ H D (qfl I) (qcB k rp h);refine wpAny_Try_except (j6 run (λf s1 g=>?_) λe s1 he=>?_)
 ·cases f with
  | next=>obtain ⟨σ',H',o,q⟩:=g;exact ZP pins s1 σ' H' D (um o) q
  | brk=>obtain ⟨σ',H',o,q⟩:=g; exact ⟨σ',H',um o,q⟩
  | cont=>obtain ⟨σ',H',o,q⟩:=g; exact ⟨σ',H',um o,q⟩
  | ret u=>obtain ⟨v,σ',H',o,r,q⟩:=g; exact ⟨v,σ',H',um o,r,q⟩
 ·obtain ⟨σ1,ex,T,Cc,H1,rfl,I1,c1,c,ρe,F1,hr,O,t,R,V⟩:=he;refine GJ I1.ok.frames I1 l B m c1 λs2 T2 Y c2=>?_;unfold qfn at h;rw [hr] at h;cases Q:hit c with
  | none=>simp only [Q] at h; exact h.elim
  | some Ch=>
   simp only [Q] at h;obtain ⟨U,S⟩:=A c Ch Q;rw [U] at O;obtain rfl:Cc=Ch:=by injection O
   refine wpAny_handleBy_cons (codeAny_handlers_test (Jo (X:=qiE X (.ref ex)) (qdZ Y) hg hm ?_ hd)) (by intro q; cases q);obtain ⟨oe,vs,oT,ts,a1,a2,a3,_⟩:=id c2.fly;have LT:PySem.W.Looks (model X.prog X.w) s2.heap (typeOf (.ref ex)) (.ref Cc):=by rw [<-a2]; exact (PySem.W.Looks.ld a1).andThen .now
   refine (PySem.W.exm_one Y.kIn LT S) _ _ _ _ (λ_ _ z=>z) ?_;refine codeAny_handlers_suite (Ug Y l B m c2 λs3 T3 I3 c3=>?_);have I4:=qjs I3 c3;have I6:Inv X pins (aJ n ij) (upd H1 ex (Yp ex Cc)) s3:=I4.weak (by simp [I3.len,hn]) λi v e=>by rw [cq] at e;split at e <;> cases e
   obtain ⟨L,cc2⟩:=vY (u:=Yp ex Cc) t c1.hex;have M:Rep C.K [] (upd F1 ex (Yp ex Cc)) (upd H1 ex (Yp ex Cc)) (aJ n ij) (aJ n ij):=by refine ⟨L,by simp,λi d hi e=>?_,λi d hi=>by simp at hi,λi hi=>by simp at hi,λi j a hi=>by simp at hi⟩;rw [cq] at e;split at e <;> cases e
   have x:tSt (exC C) [] own2 fs { nx:=λ_ _=>False,rt:=D.rt } (aJ n ij) (upd H1 ex (Yp ex Cc)):=by
    refine ⟨_,_,M,?_⟩;cases P:fs (aJ n ij) with
    | ok p=>
     obtain ⟨fl,ρ5⟩:=p;rw [P] at h;cases fl with
     | rt d=>exact λv σ' F3 H3 s3 io c3 e mo=>GK (own':=own') (D:=D) (ex:=ex) (Cc:=Cc) k h c1.hex t R V s3 c3 mo
     | nx=>exact h.elim
     | bk=>exact h.elim
     | ct=>exact h.elim
    | exc _ _=>rw [P] at h; exact h.elim
    | bad=>rw [P] at h; exact h.elim
   refine j6 (hs (.ref ex) pins s3 _ _ _ (qdZ I6) x) (λf s7 g=>?_) λ_ _ z=>z.elim;cases f with
   | next=>obtain ⟨_,_,_,q⟩:=g; exact q.elim
   | brk=>obtain ⟨_,_,_,q⟩:=g; exact q.elim
   | cont=>obtain ⟨_,_,_,q⟩:=g; exact q.elim
   | ret u=>obtain ⟨v,J,H7,I7,r7,q7⟩:=g;exact ⟨v,J,H7,qfm I.ok I7,r7,q7⟩
end
def GL (P:iE) (w:iG) (K:Frag) (mg:Str->Option ip) (base:Heap) (cv:Str->ip) (k:Nat) (x:Str) (ps:List Str) (ms:List PM) (mr:Mo) (G:ko):Prop:=
 ∃ f fd,FnOk P w K mg base (CXk P w) k f fd ps (spD K cv ms mr G)/\mg x=ii (.ref f)/\keepIn K (.ref f)=ir/\Binds K fd ps []
def kL (K:Frag) (mg:Str->Option ip) (x:Str) (st:Stmt) (ps:List Str):Prop:=∃ f fd,Fun K x x st f fd/\mg x=ii (.ref f)/\Binds K fd ps []
theorem qhm {P:iE} {w:iG} {mg:Str->Option ip} {base:Heap} {cv:Str->ip} {k:Nat} {ms:List PM} {mr:Mo} {own':List Nat} {fb:qN} (T:kL K mg x st ps) (S:FnScope N ps (jg st))
  (a:∀ (cdv:ip) (f:Addr) (A:iL) (outer:List Env) (s:iu) (H:Hp) (E:XK),Room k (A.deeper (lY x (jg st) s.heap.objs.size f cdv)) ->PSs (cxk P w K mg base N x (jg st) f cdv A outer s H E) (vt st) (tSt (qiC K cv E ms mr) (kK 0 ms) own' fb))
  (hl:ms.length=ps.length:=by rfl) (g:∀ i∈Yy 0 ms,i∈own':=by exact ug rfl) (r:mr=.sh\/∀ ds ρ,(fb (qv N ds))≠.ok (.nx,ρ):=by exact .inl rfl):GL P w K mg base cv (k+1) x ps ms mr (kn N ms fb):=by
 obtain ⟨f,fd,F,c,d⟩:=T;exact ⟨f,fd,qkk F S hl g r (λcdv A outer s H E hr=>a cdv f A outer s H E hr) λ_=>.inr rfl,c,F.kp,d⟩
section
variable {G:ko} {fr:uj} {p:Pos} {k j:Nat} {cv:Str->ip}
theorem jv (F:GL X.prog X.w X.K X.mg X.base cv j x ps ms mr G) (hr:Room k X.A) (D:j<=k) (hx:yT (CXk X.prog X.w) X C.E) (hg:Gl X x) (q:PA X (e::es) (tAr C own as fr)) (v:C.cv=cv:=by rfl) (n:C.K=X.K:=by rfl) (s:ms=as.map KJ:=by rfl) (c:∀ i∈jz as,i∈own:=by decide) (nd:(jz as).Nodup:=by decide) (d:frA as<=1:=by decide) (o:∀ i∈C.ox,i∈own:=by exact ug rfl)
  (b:Dbg x:=by decide) (g:iA (e::es) X.env=(iq,eval e X.env)::iA es X.env:=by exact jS rfl) (l:(iZ pos (iA es X.env)).any (·.1)=false:=by exact zW rfl):PE X (.Call (.Name x p) (e::es) [] pos) (tE C own mr (qm as G fr)):=by
 subst v;obtain ⟨f,fd,F,h,a,m⟩:=F;rw [<-n] at F;exact qfg (by rw [<-n]; exact F) (hr.mono D) hg h a m hx q s c nd d o b g l
noncomputable def WN:D->Out D
 | .int i=>.ok (.int (-i))
 | _=>.bad
theorem zn:UnD X C .sh (unaryOp .USub) WN:=by
 intro pins s σ H x v Q I d h;obtain ⟨F,dx,y,tx,po⟩:=h;cases dx <;> try exact po.elim
 obtain rfl:=tx.int;exact qgP pins s σ H _ v Q I d ⟨_,rfl,po _ F H y .refl (.int _)⟩
end
noncomputable def uo:Option (Option D)->Bool
 | some (ii (.lst _))=>ir
 | _=>iq
noncomputable def gz (i:Nat) (g:List D->D->Out (List D)) (fe:jl):jl:=λρ=>if uo ρ[i]?=ir then (fe ρ).bind λp=>match p.2[i]? with
 | some (ii (.lst xs))=>match g xs p.1 with
  | .ok ys=>.ok (.non,p.2.set i (ii (.lst ys)))
  | _=>.bad
 | _=>.bad
 else .bad
noncomputable def ga (xs:List D) (d:D):Out (List D):=if xs.length < sizeLine then .ok (xs++[d]) else .bad
noncomputable def qfo (xs:List D):D->Out (List D)
 | .lst ys=>if xs.length+ys.length<=sizeLine then .ok (xs++ys) else .bad
 | .tup ys=>if xs.length+ys.length<=sizeLine then .ok (xs++ys) else .bad
 | _=>.bad
section
variable {fe:jl}
theorem Rep.write (r:Rep K own F H σ ρ) (hi:i∈own) (g:σ[i]?=ii (ii (V.ref a))) (ow:OwnIs K F (upd H a u) a d):Rep K own F (upd H a u) σ (ρ.set i (ii d))/\Chg (OA own σ) F H F (upd H a u):=by
 obtain ⟨t,hd0⟩:=r.opn i hi;obtain ⟨f,e1,C,c⟩:=r.ow i t hi hd0;rw [g] at e1; cases e1;have hl:i < ρ.length:=(aF.mp hd0).1;refine ⟨⟨λb o e=>by rw [qA (qJ e C)]; exact r.sub b o e,by simp [r.len],λj d' D e=>?_,λj d' D e=>?_,λj D=>?_,r.dis⟩,⟨λb o e n=>?_,λb e=>?_,Same.refl _,λb e=>.inl e⟩⟩;·rw [aC (λz=>D (by rw [<-z]; exact hi))] at e;exact r.val j d' D e
 ·by_cases q:j=i;·subst q;rw [aN hl] at e;cases e;exact ⟨a,g,C,ow⟩
  ·rw [aC (bw q)] at e;obtain ⟨b,h1,h2,h⟩:=r.ow j d' D e;have x:b≠a:=λz=>by subst z; exact q (r.dis j i b D hi h1 g)
   exact ⟨b,h1,h2,h.grow (Same.refl _) λo z=>by rw [qA x]; exact z⟩
 ·by_cases q:j=i;·subst q; exact ⟨d,aN hl⟩
  ·rw [aC (bw q)]; exact r.opn j D
 ·have x:b≠a:=λz=>n (by rw [z]; exact ⟨i,hi,g⟩);rw [qA x]; exact e
 ·by_cases q:b=a;·rw [q,qu]; simp
  ·rw [qA q]; exact e
theorem YD {o:Option (Option D)} (h:uo o=ir):∃ xs,o=ii (ii (.lst xs)):=by
 unfold uo at h;split at h;·exact ⟨_,rfl⟩
 ·cases h
theorem qcD {g:List D->D->Out (List D)} {R:V->V->Hp->VK->Prop} {σ:St} {H:Hp} {Q:VK} (j:i∈own) (l:m≠.any)
  (f:∀ (a:Addr) (xs:List V) (ds ys:List D) (v:V) (d:D) (F H:Hp),Same F H->H a=ii (.lst xs)->F a=ij->IsL C.K F xs ds->Is C.K F v d->g ds d=.ok ys->(∀ zs,IsL C.K F zs ys->Q .non (upd H a (.lst zs)))->R (.ref a) v H Q)
  (h:tE C own .sh (gz i g fe) σ H Q):∃ a xs,σ[i]?=ii (ii (V.ref a))/\H a=ii (.lst xs)/\tE C own .sh fe σ H λv H1=>R (.ref a) v H1 Q:=by
 obtain ⟨F,ρ,p,h⟩:=h;unfold gz at h;by_cases q:uo ρ[i]?=ir
 ·rw [Aa q] at h;obtain ⟨ds,hd⟩:=YD q;obtain ⟨a,h1,h2,xs,k,n⟩:=p.ow i _ j hd;refine ⟨a,xs,h1,k,F,ρ,p,Po.bind h λv F1 H1 d ρ1 r c1 b po=>?_⟩;cases q1:ρ1[i]? with
  | none=>simp only [q1] at po; exact po.elim
  | some o=>
   cases o with
   | none=>simp only [q1] at po; exact po.elim
   | some dd=>
    simp only [q1] at po;cases dd with
    | lst es=>
     simp only at po;cases e:g es d with
     | ok ys=>simp only [e] at po;obtain ⟨t,e1,e2,vs,e3,s⟩:=r.ow i _ j q1;rw [h1] at e1; cases e1;refine f a vs es ys v d F1 H1 r.sub e3 e2 s b e λzs z=>?_;obtain ⟨r2,c2⟩:=r.write (u:=.lst zs) (d:=.lst ys) j h1 ⟨zs,qu,z⟩;exact po .non F1 _ r2 c2 .non
     | exc c o=>simp only [e] at po; exact po.elim
     | bad=>simp only [e] at po; exact po.elim
    | _=>exact po.elim
 ·rw [Ab q] at h; exact h.elim
theorem vA {px apos cpos:Pos} (t:C.K=X.K) (q:X.N[i]?=ii x) (l:Vis X.env.scope x) (o:i∈own) (n:PE X e (tE C own m fe)) (j:m≠.any:=by decide)
  (hd:Dbg x:=by decide) (f:Cdk x:=by decide)
  (c:j7 (.Name x px) "append" X.env (eval (.Name x px) X.env)=eval (.Name x px) X.env:=by rfl)
  (w:((iZ cpos (iA [e] X.env)).all (λx=>!x.1)&&(lU cpos (lm [] X.env)).all (λx=>x.1.isSome)
   && decide ([e].length+([]:List k7).length+(if ([]:List k7).isEmpty then 0 else 1) < 30))=true:=by exact yY rfl)
  (b:(apos.endLine == cpos.line)=true:=by rfl) (s:iA [e] X.env=[(iq,eval e X.env)]:=by exact qR rfl) :
  PE X (.Call (.Attribute (.Name x px) "append" apos) [e] [] cpos) (tE C own .sh (gz i ga fe)):=by
 refine kf (qcc eh PySem.F.slot_list_append PySem.F.type_list_append Vh (yR q l hd f) (jt (uh n j) kM s) c w b s rfl) λσ H Q h=>?_;have p:∀ (a:Addr) (xs:List V) (ds ys:List D) (v:V) (d:D) (F H:Hp),Same F H->H a=ii (.lst xs)->F a=ij->IsL C.K F xs ds->Is C.K F v d->ga ds d=.ok ys->(∀ zs,IsL C.K F zs ys->Q .non (upd H a (.lst zs)))->WS (.ref a) [v] H Q:=λa xs ds ys v d F H y r u ix z g k=>by
  unfold ga at g;split at g;·cases g;exact ⟨a,xs,v,rfl,rfl,r,by rw [ix.length]; assumption,k _ (ix.append (.cons z .nil))⟩
  ·cases g
 obtain ⟨a,xs,h1,h2,k⟩:=qcD (R:=λx v H Q=>WS x [v] H Q) o j p h;exact ⟨.ref a,h1,.inl ⟨rfl,xs,.inl (.inl h2)⟩,k⟩
theorem Vu {px apos cpos:Pos} (G:X.N[i]?=ii x) (y:Vis X.env.scope x) (j:i∈own) (A:PE X e (tE C own .fr fe))
  (hd:Dbg x:=by decide) (g:Cdk x:=by decide)
  (f:j7 (.Name x px) "extend" X.env (eval (.Name x px) X.env)=eval (.Name x px) X.env:=by rfl)
  (w:((iZ cpos (iA [e] X.env)).all (λx=>!x.1)&&(lU cpos (lm [] X.env)).all (λx=>x.1.isSome)
   && decide ([e].length+([]:List k7).length+(if ([]:List k7).isEmpty then 0 else 1) < 30))=true:=by exact yY rfl)
  (c:(apos.endLine == cpos.line)=true:=by rfl) (s:iA [e] X.env=[(iq,eval e X.env)]:=by exact qR rfl) :
  PE X (.Call (.Attribute (.Name x px) "extend" apos) [e] [] cpos) (tE C own .sh (gz i qfo fe)):=by
 refine kf (qcc eh PySem.F.slot_list_extend PySem.F.type_list_extend Ga (yR G y hd g) (jt A kM s) f w c s rfl) λσ H Q ⟨F,ρ,p,h⟩=>?_;unfold gz at h;by_cases q:uo ρ[i]?=ir
 ·rw [Aa q] at h;obtain ⟨ds,hd⟩:=YD q;obtain ⟨a,h1,h2,xs,I,J⟩:=p.ow i _ j hd;refine ⟨.ref a,h1,.inl ⟨rfl,xs,.inl (.inl I)⟩,F,ρ,p,Po.bind h λv F1 H1 d ρ1 r c1 m po=>?_⟩;obtain ⟨b,rfl,E,B,k⟩:=m;cases q1:ρ1[i]? with
  | none=>simp only [q1] at po; exact po.elim
  | some o=>
   cases o with
   | none=>simp only [q1] at po; exact po.elim
   | some dd=>
    simp only [q1] at po;cases dd with
    | lst es=>
     simp only at po;obtain ⟨K,e1,e2,vs,e3,n⟩:=r.ow i _ j q1;rw [h1] at e1; cases e1;cases d with
     | lst ys=>
      obtain ⟨zs,t,l⟩:=k;have po:Po C own .sh σ F1 H1 (match (if es.length+ys.length<=sizeLine then .ok (es++ys) else .bad:Out (List D)) with | .ok ys=>.ok (.non,ρ1.set i (ii (.lst ys))) | _=>.bad) Q:=po;by_cases z:es.length+ys.length<=sizeLine;·rw [Aa z] at po;refine ⟨a,b,vs,zs,rfl,rfl,e3,t,by rw [n.length,l.length]; exact z,?_⟩;obtain ⟨r2,c2⟩:=r.write (u:=.lst (vs++zs)) (d:=.lst (es++ys)) j h1 ⟨_,qu,n.append l⟩;exact po .non F1 _ r2 c2 .non
      ·rw [Ab z] at po; exact po.elim
     | dct ys=>exact po.elim
     | ins _ _=>exact po.elim
     | at_ _ _=>exact po.elim
     | _=>exact k.elim
    | _=>exact po.elim
 ·rw [Ab q] at h; exact h.elim
end
noncomputable def scB (names:List (Str×la)) (scope:lG):Bool:=decide (scope.kind=.function)&&scope.names.all λy=>decide (y.2≠.cell)&&(!decide (y.2=.local)||decide (scope.names.lookup y.1=ii .local)) &&
 (!decide (y.2=.free)||((decide (names.lookup y.1=ii .cell)||decide (names.lookup y.1=ii .free))&&decide (scope.names.lookup y.1=ii .free)))
variable {names:List (Str×la)}
theorem qfp (h:X.env.scope.names=names) (b:scB names scope=ir):ScOk X scope:=by
 subst h;unfold scB at b;rw [aS,aL] at b;obtain ⟨Z,b1⟩:=b;refine ⟨Ae Z,λy C=>?_,λy C e=>?_,λy C e=>?_,λy C e=>?_⟩;all_goals
  have q:=b1 y C;simp only [aS,Bool.or_eq_true,fL,decide_eq_true_eq,decide_eq_false_iff_not] at q
 ·exact q.1.1
 ·exact q.1.2.resolve_left λz=>z e
 ·exact (q.2.resolve_left λz=>z e).1
 ·exact (q.2.resolve_left λz=>z e).2
noncomputable def qiF (names:List (Str×la)) (N:List Str) (scope:lG) (c:List Str) (nt:Nat) (cap:List Nat):Bool:=decide cap.Nodup&&decide (c.length=nt+cap.length)&&(aP cap.length).all λj=>match cap[j]? with
 | some k=>match c[nt+j]? with
  | some x=>decide (N[k]?=ii x)&&(((decide (names.lookup x=ii .local)||decide (names.lookup x=ii .cell)||decide (names.lookup x=ii .free))&&decide ((x,bD)∈scope.names))||scope.names.all λy=>decide (y.1≠x))
  | none=>iq
 | none=>iq
theorem GM {c:List Str} (a:X.env.scope.names=names) (d:X.N=N) (b:qiF names N scope c nt cap=ir):CapOk X scope c nt cap:=by
 subst a d;unfold qiF at b;rw [aS,aS,aL] at b;obtain ⟨⟨Z,b1⟩,b2⟩:=b;refine ⟨Ae Z,Ae b1,λj k D=>?_⟩;have q:=b2 j (cj.mpr (aF.mp D).1);rw [D] at q;cases e:c[nt+j]? with
 | none=>simp only [e] at q; cases q
 | some x=>
  simp only [e,aS,Bool.or_eq_true,decide_eq_true_eq] at q;refine ⟨x,rfl,q.1,?_⟩;rcases q.2 with ⟨z,q2⟩ | z
  ·refine .inl ⟨?_,q2⟩;rcases z with (z | z) | z;·exact .inl z
   ·exact .inr (.inl z)
   ·exact .inr (.inr z)
  ·refine .inr λk' h=>?_;rw [aL] at z;exact Ae (z (x,k') h) rfl
theorem yD:yT (CXk P w) X (λ_ _ _=>False):=λ_ _ _ _ _ _ _ h=>by obtain ⟨_,_,_,_,_,_,_,_,_,_,_,_,_,_,k⟩:=h;exact k.elim
noncomputable def qjw (f:jl):jl:=λρ=>(qC f ρ).bind λp=>.ok (.bl (!p.1),p.2)
section
variable {i:Int}
theorem yd (h:∃ t,X.mg x=ii (.int i t)) (hg:Gl X x) (hd:Dbg x:=by decide):PE X (.Name x pos) (tE C own .sh (dC (.int i))):=by obtain ⟨t,h⟩:=h;exact qe3 (v:=.int i) hg h ⟨t,rfl⟩ (λ_=>.int i) hd
end
variable {us:List ip}
section
variable {a b:Expr} {f fa fb:jl}
noncomputable def jU:D->Out D
 | .lst xs=>.ok (.tup xs)
 | .tup xs=>.ok (.tup xs)
 | _=>.bad
theorem wz (n:C.K=X.K):gx X C .sh (.type "tuple") jU:=by
 intro pins s σ H xs us Q I r h;obtain ⟨x,F,dx,rfl,y,tx,po⟩:=h;cases dx with
 | lst ds=>obtain ⟨p,vs,rfl,hq,t⟩:=tx.lst y;refine yV pins s σ H _ us Q I r ⟨p,vs,rfl,.inl ⟨by rw [<-n]; exact hq,λl hl=>?_⟩⟩;obtain ⟨s2,c2⟩:=vY (u:=.tup vs) y hl;exact po _ _ _ s2 c2 (.tup (.inl (.inl qu)) (t.mono c2.grow))
 | tup ds=>
  rcases tx with tx | ⟨_,_,tx⟩
  ·have a:=tx;cases tx with
   | tup hq t=>exact yV pins s σ H _ us Q I r ⟨_,_,rfl,.inr ⟨by rw [<-n]; exact jj y hq,po _ F H y .refl a⟩⟩
  ·exact tx.elim
 | _=>exact po.elim
def GN (X:Cx) (C:Ct) (m:Mo) (f:ip) (g:D->D->Out D):Prop:=yp X f (λxs H Q=>∃ x y F dx d,xs=[x,y]/\Same F H/\TopIs C.K F H x dx/\TopIs C.K F H y d/\PoV C m F H (g dx d) Q)
theorem qcE {Q:VK} {g:D->D->Out D} (k:ma≠.any) (h:tE C own m (d2 g fa fb) σ H Q):qca (tE C own ma fa) (qca (tE C own mb fb) qje) σ H λxs H1=>∃ x y F dx a,xs=[x,y]/\Same F H1/\TopIs C.K F H1 x dx/\TopIs C.K F H1 y a/\PoV C m F H1 (g dx a) Q:=by
 obtain ⟨F,ρ,n,h⟩:=Vl (mb:=mb) k h;refine ⟨F,ρ,n,?_⟩;cases q:fa ρ with
 | ok p=>
  rw [q] at h;obtain ⟨d,ρ1⟩:=p;intro v F1 H1 e c1 j;obtain ⟨s,ρ2,b,h2⟩:=h v F1 H1 e c1 j;refine ⟨s,ρ2,b,?_⟩;cases f:fb ρ2 with
  | ok p=>rw [f] at h2;obtain ⟨d',l⟩:=p;intro w u o r c3 i;obtain ⟨J,dx,a,z⟩:=h2 w u o r c3 i;exact ⟨v,w,J,dx,a,rfl,z⟩
  | exc c=>rw [f] at h2; exact h2
  | bad=>rw [f] at h2; exact h2.elim
 | exc c=>rw [q] at h; exact h
 | bad=>rw [q] at h; exact h.elim
theorem Vv {id:String} {p:Pos} {g:D->D->Out D} (e:GN X C m (.builtin id) g) (hg:Gl X x) (d:X.mg x=ij) (v:iC x=ii (.builtin id)) (j:PE X a (tE C own ma fa)) (i:PE X b (tE C own mb fb)) (f:ma≠.any:=by decide) (hn:x ≠ "__name__":=by decide) (c:Dbg x:=by decide)
  (h1:iA [a,b] X.env=(iq,eval a X.env)::iA [b] X.env:=by rfl) (h2:iA [b] X.env=[(iq,eval b X.env)]:=by exact qR rfl):PE X (.Call (.Name x p) [a,b] [] pos) (tE C own m (d2 g fa fb)):=
 kf (yU e hg d v (jt j (jt i kM h2) h1) hn c (by rw [h1]) (by rw [h2]; rfl)) λ_ _ _ h=>qcE f h
noncomputable def qiG:D->D->Out D:=yz λi j=>.ok (.int (if j > i then j else i))
noncomputable def qiH:D->D->Out D:=yz λi j=>.ok (.int (if j < i then j else i))
theorem qhn (d:X.calm=ir):GN X C .sh (.builtin "max") qiG:=by
 intro pins s σ H xs us Q I r h;obtain ⟨x,y,F,dx,a,rfl,b,tx,ty,po⟩:=h;cases dx <;> try exact po.elim
 cases a <;> try exact po.elim
 obtain rfl:=tx.int;obtain rfl:=ty.int;exact ZW d pins s σ H _ us Q I r ⟨_,_,rfl,po _ F H b .refl (.int _)⟩
theorem qho (d:X.calm=ir):GN X C .sh (.builtin "min") qiH:=by
 intro pins s σ H xs us Q I r h;obtain ⟨x,y,F,dx,a,rfl,b,tx,ty,po⟩:=h;cases dx <;> try exact po.elim
 cases a <;> try exact po.elim
 obtain rfl:=tx.int;obtain rfl:=ty.int;exact ZX d pins s σ H _ us Q I r ⟨_,_,rfl,po _ F H b .refl (.int _)⟩
noncomputable def km (a T:String):Option Bool:=if (g8 a == g8 T)=ir then ii ir else if PySem.W.kitMeta T=ir then (fastBuiltinMro a).map (·.contains (.type T)) else ij
theorem qcF (K:Frag) (a T:String):cI K (.type a) (.type T)=km a T:=rfl
noncomputable def tyN:D->Option String
 | .non=>ii "NoneType"
 | .bl _=>ii "bool"
 | .int _=>ii "int"
 | .str _=>ii "str"
 | .tup _=>ii "tuple"
 | .lst _=>ii "list"
 | .dct _=>ii "dict"
 | _=>ij
noncomputable def uq (T:String) (d:D):Out D:=match tyN d with
 | some a=>match km a T with
  | some b=>.ok (.bl b)
  | none=>.bad
 | none=>.bad
theorem qcG (i:C.K=X.K):yp X (.builtin "isinstance") (λxs H Q=>∃ x F d,xs=[x,.ty T]/\Same F H/\TopIs C.K F H x d/\PoV C .sh F H (uq T d) Q):=by
 intro pins s σ H xs us Q I r h;obtain ⟨x,F,d,rfl,f,tx,po⟩:=h;obtain ⟨u,c,rfl,A,j⟩:=qb9 r;cases j;cases q:tyN d with
 | none=>unfold uq at po; rw [q] at po; exact po.elim
 | some a=>
  cases g:km a T with
  | none=>unfold uq at po; rw [q] at po; simp only [g] at po; exact po.elim
  | some b=>
   have po:PoV C .sh F H (.ok (.bl b)) Q:=by unfold uq at po; rw [q] at po; simp only [g] at po; exact po
   have fin:∀ tk,EP X pins σ Q (.bool b) { s with toks:=tk }:=λtk=>⟨.bl b,H,I.tok tk,rfl,po _ F H f .refl (.bl b)⟩
   have e:cI X.K (.type a) (.type T)=ii b:=(qcF X.K a T).trans g;cases d with
   | non=>obtain rfl:=tx.non; cases A; cases q; exact cM PySem.W.kitx_none I.kIn cS e (λz=>nomatch z) fin
   | bl y=>obtain rfl:=tx.bl; cases A; cases q; exact cM PySem.W.kitx_bool I.kIn cS e (λz=>nomatch z) fin
   | int y=>obtain rfl:=tx.int; obtain ⟨t,rfl⟩:=A; cases q; exact cM PySem.W.kitx_int I.kIn cS e (λz=>nomatch z) fin
   | str y=>obtain ⟨rfl,_⟩:=tx.str; obtain ⟨t,rfl⟩:=A; cases q; exact cM PySem.W.kitx_str I.kIn cS e (λz=>nomatch z) fin
   | tup y=>obtain ⟨p,vs,rfl,hq,t⟩:=tx.tup f;cases A; cases q;obtain ⟨its,_,⟨o,h1,h2,_⟩,_⟩:=I.tuple (show SqT X.K H p vs by rw [<-i]; exact hq);exact cM PySem.W.kitx_tuple I.kIn ⟨o,h1,h2⟩ e (λz=>nomatch z) fin
   | lst y=>obtain ⟨p,vs,rfl,hq,t⟩:=tx.lst f;cases A; cases q;obtain ⟨its,_,⟨o,n,h1,h2,_⟩,_⟩:=I.list (show SqL X.K H p vs by rw [<-i]; exact hq);exact cM PySem.W.kitx_list I.kIn ⟨o,h1,h2⟩ e (λz=>nomatch z) fin
   | dct y=>
    obtain ⟨p,vs,rfl,hq,t⟩:=tx.dct f;cases A; cases q;obtain ⟨_,_,ws,_,o,es,ep,h1,h2,_⟩:=(show ObjOk X.prog X.w H s.heap p (.dK vs) from I.hok p _ hq)
    exact cM PySem.W.kitx_dict I.kIn ⟨o,h1,h2.1⟩ e (λz=>nomatch z) fin
   | _=>cases q
theorem wX {tn:Str} {p t:Pos} (n:C.K=X.K) (hg:Gl X "isinstance") (j:X.mg "isinstance"=ij) (i:iC "isinstance"=ii (.builtin "isinstance")) (ht:Gl X tn) (e:X.mg tn=ij) (b:iC tn=ii (.type T)) (k:PE X a (tE C own ma fa)) (hn:tn ≠ "__name__":=by decide) (f:Dbg tn:=by decide)
  (h1:iA [a,.Name tn t] X.env=(iq,eval a X.env)::iA [.Name tn t] X.env:=by rfl) (h2:iA [.Name tn t] X.env=[(iq,eval (.Name tn t) X.env)]:=by rfl):PE X (.Call (.Name "isinstance" p) [a,.Name tn t] [] pos) (tE C own .sh (d1 (uq T) fa)):=by
 refine kf (yU (qcG (T:=T) n) hg j i (jt k (jt (qeD (v:=.ty T) ht e b rfl hn f) kM h2) h1) (by decide) (by decide) (by rw [h1]) (by rw [h2]; rfl)) λσ H Q h=>?_;obtain ⟨F,ρ,g,h⟩:=qcl (ma:=ma) h;refine ⟨F,ρ,g,?_⟩;cases q:fa ρ with
 | ok p=>rw [q] at h;obtain ⟨d,ρ1⟩:=p;intro v F1 H1 r c1 m;obtain ⟨l,dx,z⟩:=h v F1 H1 r c1 m;exact ⟨v,l,dx,rfl,z⟩
 | exc c=>rw [q] at h; exact h
 | bad=>rw [q] at h; exact h.elim
noncomputable def zo:List D->Option (List Bool)
 | []=>ii []
 | .bl b::ds=>(zo ds).map (b::·)
 | _::_=>ij
noncomputable def Ui:D->Out D
 | .lst ds=>match zo ds with
  | some bs=>.ok (.bl (bs.all id))
  | none=>.bad
 | _=>.bad
theorem qcH {bs:List Bool} (a:IsL K F vs ds) (l:Vals vs us) (e:zo ds=ii bs):us=bs.map dG:=by
 induction ds generalizing vs us bs with
 | nil=>cases a;cases l;cases e;rfl
 | cons d ds h=>
  cases a with
  | cons i a=>
   cases l with
   | cons r l=>
    cases d with
    | bl b=>obtain ⟨c,e1,rfl⟩:=aT.mp (show (zo ds).map (b::·)=ii bs from e);cases i;cases r;rw [h a l e1];rfl
    | _=>cases e
theorem zp (n:C.K=X.K) (j:X.calm=ir):gx X C .sh (.builtin "all") Ui:=by
 intro pins s σ H xs us Q I r h;obtain ⟨x,F,dx,rfl,y,tx,po⟩:=h;cases dx <;> try exact po.elim
 rename_i ds;obtain ⟨p,vs,rfl,hq,t⟩:=tx.lst y;obtain ⟨u,rfl,g⟩:=yq r;cases g;unfold Ui at po;cases q:zo ds with
 | none=>simp only [q] at po; exact po.elim
 | some bs=>
  simp only [q] at po;obtain ⟨its,f,pl,z⟩:=I.list (show SqL X.K H p vs by rw [<-n]; exact hq);have G:=qcH t f q;subst G;have hp:p < s.heap.objs.size:=let ⟨o,h1,_⟩:=pl.isList; ay h1;refine call_all_walk (wpAny_pyIter_list pl.isList ?_);have W:Walks X.prog X.w X.A.in1 s.heap.objs.size [s.heap.objs.size,p] [s.heap.objs.size] (bs.map dG).toArray.size (λi v=>(bs.map dG).toArray[i]?=ii v) (λi h=>h.IsListIter s.heap.objs.size p i/\h.IsList p (bs.map dG).toArray):=Walks.list (A:=X.A.in1) (show X.A.in1.handled=ij from I.ok.hd j) s.heap.objs.size p (aD hp) _;have st:(s.heap.push { cls:=.type "list_iterator",data:=.fields #[.ref p,.int 0 0] }).IsListIter s.heap.objs.size p 0/\(s.heap.push { cls:=.type "list_iterator",data:=.fields #[.ref p,.int 0 0] }).IsList p (bs.map dG).toArray:=⟨⟨_,aj _ rfl,rfl,rfl⟩,let ⟨o,h1,h2⟩:=pl.isList; ⟨o,aa _ h1,h2⟩⟩
  refine ⟨_,_,_,_,_,_,λi=>(bs[i]?).getD iq,rfl,W,st,λi v s' l E m c=>?_,λh' tk kp=>?_⟩
  ·have m:(bs.map dG).toArray[i]?=ii v:=m;rw [e9,aG] at m;cases d:bs[i]? with
   | none=>rw [d] at m; cases m
   | some b=>have a:l ((bs[i]?).getD iq) s':=c;rw [d] at m a;cases m;exact iY a
  ·have e:(aP (bs.map dG).toArray.size).all (λi=>(bs[i]?).getD iq)=bs.all id:=by
    rw [au,aB,Bool.eq_iff_iff,aL,aL];constructor;·intro h b k;obtain ⟨i,hi,e⟩:=fy.mp k;have:=h i (cj.mpr hi);rw [aE hi,e] at this;exact this
    ·intro h i hi;have hi:=cj.mp hi;rw [aE hi];exact h _ (ce hi)
   rw [e];refine ⟨.bl (bs.all id),H,?_,rfl,po _ F H y .refl (.bl _)⟩;have k2:∀ b o,s.heap.get? b=ii o->h'.get? b=ii o:=λb o G=>kp b o (by simp; exact aD (ay G)) (aa _ G);exact I.kept (t':=tk) k2
end
noncomputable def wm (idx:List Nat) (xs:List α):List α:=idx.filterMap λk=>xs[k]?
theorem IsL.pick (h:IsL K F vs ds):∀ (idx:List Nat),IsL K F (wm idx vs) (wm idx ds)
 | []=>.nil
 | k::idx=>by
  unfold wm;rw [bq,bq];cases e:vs[k]? with
  | none=>have e2:ds[k]?=none:=bX.mpr (by rw [<-h.length]; exact bX.mp e);rw [e2];exact IsL.pick h idx
  | some v=>obtain ⟨d,e2,i⟩:=h.get e;rw [e2];exact .cons i (IsL.pick h idx)
theorem gA (h:Vals vs us):∀ (idx:List Nat),Vals (wm idx vs) (wm idx us)
 | []=>.nil
 | k::idx=>by
  unfold wm;rw [bq,bq];cases e:vs[k]? with
  | none=>rw [h.none_of e]; exact gA h idx
  | some v=>obtain ⟨u,e2,r⟩:=h.get e;rw [e2];exact .cons r (gA h idx)
theorem qcI (xs:List α):wm (aP xs.length) xs=xs:=by unfold wm;have:=PySem.W.krv_all xs.toArray;simpa using this
noncomputable def Vw (n:Nat) (lo hi:Option Int) (st:Int):List Nat:=(aP (dP (bz lo hi st n).1 (bz lo hi st n).2 st)).map λ(k:Nat)=>((bz lo hi st n).1+(k:Int) * st).toNat
noncomputable def QT (x:Str) (lo hi:Option Int) (st:Int):Str:=if (st == 1&&(dE lo hi st x.length).length == x.length)=ir then x else ⟨((dE lo hi st x.length).filterMap (x.cps[·]?)).toArray⟩
noncomputable def slD (lo hi st:Option Int):D->Out D
 | .tup xs=>if st.getD 1≠0/\(wm (Vw xs.length lo hi (st.getD 1)) xs).length<=sizeLine then .ok (.tup (wm (Vw xs.length lo hi (st.getD 1)) xs)) else .bad
 | .str x=>if st.getD 1≠0/\(QT x lo hi (st.getD 1)).length<=sizeLine then .ok (.str (QT x lo hi (st.getD 1))) else .bad
 | _=>.bad
def qjx (X:Cx) (r:V->Option Int->Option Int->Option Int->Hp->VK->Prop):Prop:=
 ∀ (pins:Pns) (s:iu) (σ:St) (H:Hp) (x:V) (v vl u k:ip) (lo hi st:Option Int) (sl:Addr) (Q:VK),Inv X pins σ H s->RelV x v->s.heap.IsSliceOf sl vl u k->lH vl lo->lH u hi->lH k st->r x lo hi st H Q ->∃ T id,lT (.type T) "__getitem__"=pure (ii (.builtin id))/\s.TypeIs v T/\iy (model X.prog X.w) X.A (mq v (.ref sl)) (EP X pins σ Q) X.xe s
section
variable {prog:iE}
theorem Qx {sl:Addr} {vl u k:ip} {lo hi st:Option Int} {n:Nat} {Q:Int×Int×Nat->iu->Prop} (c:s.heap.IsSliceOf sl vl u k) (pl:lH vl lo) (p:lH u hi) (pk:lH k st) (e:st.getD 1≠0)
  (h:Q ((bz lo hi (st.getD 1) n).1,st.getD 1,dP (bz lo hi (st.getD 1) n).1 (bz lo hi (st.getD 1) n).2 (st.getD 1)) s):iy (model prog w) A (Builtin.Slice.sliceApplied (.ref sl) (pure (n:Int))) Q E s:=by
 obtain ⟨os,a,d,b⟩:=id c;unfold Builtin.Slice.sliceApplied Builtin.Slice.sliceFields;refine im (im (iO a b (x:=vl) rfl (im (iO a b (x:=u) rfl (im (iO a b (x:=k) rfl (iw ?_)))))));refine im (HT.slicePart_ pk ?_);show iy _ _ (if (st.getD 1 == 0)=ir then _ else _) _ _ s;rw [Ab (by simpa using e)];refine im (HT.slicePart_ pl (im (HT.slicePart_ p (im (iw ?_)))));exact iw h
theorem gB {t sl:Addr} {items:Array ip} {vl u v:ip} {lo hi st:Option Int} {Q:ip->iu->Prop} (ht:IsTup s.heap t items) (g:s.heap.IsSliceOf sl vl u v) (pl:lH vl lo) (p:lH u hi) (pk:lH v st) (o:st.getD 1≠0)
  (j:Vw items.size lo hi (st.getD 1)=aP items.size->Q (.ref t) s)
  (h:Q (.ref s.heap.objs.size) { s with heap:=s.heap.push { cls:=.type "tuple",data:=.seq (wm (Vw items.size lo hi (st.getD 1)) items.toList).toArray } })
  (hsz:(wm (Vw items.size lo hi (st.getD 1)) items.toList).length<=sizeLine):iy (model prog w) A (mq (.ref t) (.ref sl)) Q E s:=by
 obtain ⟨os,b,d,l⟩:=id g;have f:s.TypeIs (.ref sl) "slice":=⟨os,b,d⟩
 unfold mq;try with_reducible refine iP ?_
 first | refine im (iw ?_) | skip
 refine im (wpAny_sequenceKey ht.typeIs (by decide) ?_);refine im (iK (name:=bg "__getitem__") ht.typeIs cV
  (iJ cV ht.typeIs entry_tuple_getitem ?_ (args_tuple_getitem _ _)))
 show iy _ _ (Builtin.Tuple.tupleItemsOf (.ref t) >>= _) _ _ s;refine im (tupleItemsOf_ ht ?_);refine im (lg f ?_);rw [Aa (by decide)];refine im (Qx g pl p pk o ?_);generalize hA:bz lo hi (st.getD 1) items.size=A0;generalize N:dP A0.1 A0.2 (st.getD 1)=N0;have ep:wm (Vw items.size lo hi (st.getD 1)) items.toList=(aP N0).filterMap λ(k:Nat)=>items[(A0.1+(k:Int) * st.getD 1).toNat]?:=by unfold wm Vw;rw [hA,N,List.filterMap_map];congr 1;funext k;simp
 rw [ep] at h hsz;by_cases c:(A0.1 == 0&&st.getD 1 == 1&&N0 == items.size)=ir
 ·have R:=c;rw [aS,aS] at R;have q1:A0.1=0:=eq_of_beq R.1.1;have i:st.getD 1=1:=eq_of_beq R.1.2;have q:N0=items.size:=eq_of_beq R.2;have whole:Vw items.size lo hi (st.getD 1)=aP items.size:=by
   unfold Vw;rw [hA,N,q1,i,q];have e:(λ(k:Nat)=>((0:Int)+(k:Int) * 1).toNat)=id:=by
    funext k;show ((0:Int)+(k:Int) * 1).toNat=k
    lia
   rw [e,List.map_id]
  have n:=j whole;show iy _ _ (if (A0.1 == 0&&st.getD 1 == 1&&N0 == items.size)=ir then _ else _) _ _ s;rw [Aa c];unfold Builtin.Tuple.tupleIsExact;refine im (im (lg ht.typeIs (iw ?_)));rw [Aa (by decide)];exact im (lq (iw ⟨_,rfl,iw n⟩))
 ·show iy _ _ (if (A0.1 == 0&&st.getD 1 == 1&&N0 == items.size)=ir then _ else _) _ _ s;rw [Ab c];have a:sizeOk (.seq ((aP N0).filterMap λ(k:Nat)=>items[(A0.1+(k:Int) * st.getD 1).toNat]?).toArray):=by show (((aP N0).filterMap λ(k:Nat)=>items[(A0.1+(k:Int) * st.getD 1).toNat]?).toArray).size<=sizeLine;rw [au]; exact hsz
  first
   | exact im (m:=cT _) (iH (iw ⟨_,rfl,iw h⟩) a)
   | exact im (m:=cT _) (iH (im (iw (iw ⟨_,rfl,iw h⟩))) a)
   | exact im (im (m:=cT _) (iH (iw (iw ⟨_,rfl,iw h⟩)) a))
   | exact im (im (m:=cT _) (iH (iw ⟨_,rfl,iw h⟩) a))
end
def PoO (C:Ct) (own:List Nat) (σ:St) (F H:Hp) (r:Out (Option Int×Sl)) (Q:Option Int->Hp->Prop):Prop:=match r with
 | .ok (b,ρ')=>∀ F' H',Rep C.K own F' H' σ ρ'->Chg (OA own σ) F H F' H'->Q b H'
 | .exc c ρ'=>∀ F' H',Same F' H'->ZK C.K C.ox F' H' σ ρ'->Chg (OA own σ) F H F' H'->C.E (C.cv c) ij H'
 | .bad=>False
def tO (C:Ct) (own:List Nat) (f:Sl->Out (Option Int×Sl)):TO:=λσ H Q=>∃ F ρ,Rep C.K own F H σ ρ/\PoO C own σ F H (f ρ) Q
noncomputable def vZ:Option (jl)->Sl->Out (Option Int×Sl)
 | none,ρ=>.ok (ij,ρ)
 | some f,ρ=>(f ρ).bind λp=>match p.1 with
  | .int i=>.ok (ii i,p.2)
  | _=>.bad
theorem Po.bindO {o:Out (Option Int×Sl)} {k:Option Int×Sl->WL} {Q:VK} {R:Option Int->Hp->Prop} (hp:Po C own m σ F H (o.bind k) Q)
  (h:∀ F1 H1 b ρ1,Rep C.K own F1 H1 σ ρ1->Chg (OA own σ) F H F1 H1->Po C own m σ F1 H1 (k (b,ρ1)) Q->R b H1):PoO C own σ F H o R:=by
 cases o with
 | ok p=>obtain ⟨d,ρ1⟩:=p;exact λF1 H1 a c=>h F1 H1 d ρ1 a c (Po.shift (show Po C own m σ F H (k (d,ρ1)) Q from hp) c)
 | exc x=>exact hp
 | bad=>exact hp.elim
noncomputable def YE (fa:jl) (l u k:Option (jl)):jl:=λρ=>(fa ρ).bind λp=>(vZ l p.2).bind λa=>(vZ u a.2).bind λb=>(vZ k b.2).bind λc=>(slD a.1 b.1 c.1 p.1).plain.bind λd=>.ok (d,c.2)
section
variable {a:Expr} {fa f:jl} {p2:Pos}
theorem kR:PO X ij (tO C own (vZ ij)):=by intro pins s σ H Q I ⟨F,ρ,a,h⟩;exact qeQ pins s σ H Q I (h F H a .refl)
theorem jY (h:PE X e (tE C own m f)):PO X (ii e) (tO C own (vZ (ii f))):=by
 intro pins s σ H Q I ⟨F,ρ,r,hp⟩;refine qeR h pins s σ H Q I ⟨F,ρ,r,?_⟩;have hp:PoO C own σ F H ((f ρ).bind λp=>match p.1 with | .int i=>.ok (ii i,p.2) | _=>.bad) Q:=hp;cases q:f ρ with
 | ok p=>
  rw [q] at hp;obtain ⟨d,ρ1⟩:=p;cases d with
  | int i=>exact λv F1 H1 a c1 b=>⟨i,b.top.int,hp F1 H1 a c1⟩
  | _=>exact hp.elim
 | exc c=>rw [q] at hp; exact hp
 | bad=>rw [q] at hp; exact hp.elim
theorem Vx {r:V->Option Int->Option Int->Option Int->Hp->VK->Prop} {tl th tk:TO} {lo hi st:Option Expr} (hr:qjx X r) (o:PE X e te) (hl:PO X lo tl) (m:PO X hi th) (n:PO X st tk):PE X (.Subscript e (.Slice lo hi st p2) pos) (λσ H Q=>te σ H λx H1=>tl σ H1 λl H2=>th σ H2 λu f=>tk σ f λk d=>r x l u k d Q):=by
 refine ⟨?_⟩;intro pins s σ H Q I h;refine Subscript_ (thn (o pins s σ H _ I h) λv s1 ⟨x,H1,B,r1,q1⟩=>?_);refine wpAny_Slice (thn (hl pins s1 σ H1 _ B q1) λvl s2 ⟨l,H2,z,pl,i⟩=>thn (m pins s2 σ H2 _ z i) λa s3 ⟨u,f,y,p,g⟩=>thn (n pins s3 σ f _ y g) λc s4 ⟨k,d,t,pk,j⟩=>?_);have D:Inv X pins σ d { s4 with heap:=s4.heap.push { cls:=.type "slice",data:=.fields #[vl,a,c] } }:=t.kept (t':=s4.toks) λb C q=>aa _ q;obtain ⟨T,id,hT,ht,hg⟩:=hr pins { s4 with heap:=s4.heap.push { cls:=.type "slice",data:=.fields #[vl,a,c] } } σ d x v vl a c l u k s4.heap.objs.size Q D r1 (Heap.IsSliceOf.new ..) pl p pk j;show iy (model X.prog X.w) X.A (subscriptTail e (.Slice lo hi st p2) v (.ref s4.heap.objs.size)) (EP X pins σ Q) X.xe { s4 with heap:=s4.heap.push { cls:=.type "slice",data:=.fields #[vl,a,c] } };cases st with
 | none=>exact mF (ops:=[.ref s4.heap.objs.size,v]) ht hT hg (by with_unfolding_all rfl)
 | some st=>exact mF (ops:=[v,.ref s4.heap.objs.size]) ht hT hg (by with_unfolding_all rfl)
theorem JC {v:ip} {o:Option Int} (h:lH v o):∃ l:Option (Int×Tok),v=partValue l/\l.map (·.1)=o:=by
 cases h with
 | none=>exact ⟨ij,rfl,rfl⟩
 | int i t=>exact ⟨ii (i,t),rfl,rfl⟩
theorem qkV (D:C.K=X.K):qjx X (λx lo hi st H Q=>∃ F d,Same F H/\Is C.K F x d/\PoV C .sh F H (slD lo hi st d) Q):=by
 intro pins s σ H x v vl G J lo hi st sl Q I m A pl w pk h;obtain ⟨F,d,y,is,po⟩:=h;cases d with
 | tup ds=>
  have f:=is;cases is with
  | @tup a xs _ hq t=>
   cases m;have g:SqT X.K H a xs:=by rw [<-D]; exact jj y hq
   obtain ⟨its,r,ht,M⟩:=I.tuple g;have n:its.length=ds.length:=r.length.symm.trans t.length;have po:PoV C .sh F H (if st.getD 1≠0/\(wm (Vw ds.length lo hi (st.getD 1)) ds).length<=sizeLine then .ok (.tup (wm (Vw ds.length lo hi (st.getD 1)) ds)) else .bad) Q:=po;by_cases c:st.getD 1≠0/\(wm (Vw ds.length lo hi (st.getD 1)) ds).length<=sizeLine
   ·rw [Aa c] at po;have i:=t.pick (Vw ds.length lo hi (st.getD 1));have p:=gA r (Vw ds.length lo hi (st.getD 1));refine ⟨"tuple",_,cV.lookup,ht.typeIs,gB ht A pl w pk c.1 (λe=>?_) ?_ ?_⟩;·rw [au,n] at e;refine ⟨.ref a,H,I,rfl,po _ F H y .refl ?_⟩;rw [e,qcI];exact f
    ·simp only [au,n];have j:(wm (Vw ds.length lo hi (st.getD 1)) xs).length<=sizeLine:=by rw [i.length]; exact c.2
     refine ⟨.ref s.heap.objs.size,_,I.laid (t':=s.toks) (o:=.tup (wm (Vw ds.length lo hi (st.getD 1)) xs)) (λb L q=>aa _ q) (ax _) ⟨⟨j,⟨_,aj _ rfl,rfl⟩⟩,_,p,IsTup.new _ _⟩,rfl,?_⟩;obtain ⟨s2,c2⟩:=vY (u:=.tup (wm (Vw ds.length lo hi (st.getD 1)) xs)) y (I.hok.fresh (ax _));exact po _ _ _ s2 c2 (.tup (.inl (.inl qu)) (i.mono c2.grow))
    ·simp only [au,n];rw [<-p.length,i.length];exact c.2
   ·rw [Ab c] at po; exact po.elim
 | str z=>
  cases is;obtain ⟨t,rfl⟩:=m;have po:PoV C .sh F H (if st.getD 1≠0/\(QT z lo hi (st.getD 1)).length<=sizeLine then .ok (.str (QT z lo hi (st.getD 1))) else .bad) Q:=po;by_cases c:st.getD 1≠0/\(QT z lo hi (st.getD 1)).length<=sizeLine
  ·rw [Aa c] at po;obtain ⟨l,rfl,el⟩:=JC pl;obtain ⟨u,rfl,E⟩:=JC w;obtain ⟨k,rfl,B⟩:=JC pk;refine ⟨"str",_,PySem.F.slot_str_getitem.lookup,typeIs_str s z t,wpAny_getItem_str_slice (l:=l) (u:=u) (st:=k) A (by rw [B]; simpa using c.1) ?_⟩;have c2:=c.2;unfold sliceMade slicePicked;rw [el,E,B];unfold QT at c2 po;by_cases q:(st.getD 1 == 1&&(dE lo hi (st.getD 1) z.length).length == z.length)=ir;·rw [Aa q] at c2 po ⊢;exact ⟨.str z,H,I,⟨t,rfl⟩,po _ F H y .refl (.str c2)⟩
   ·rw [Ab q] at c2 po ⊢;exact ⟨c2,.str _,H,I.tok _,⟨_,rfl⟩,po _ F H y .refl (.str c2)⟩
  ·rw [Ab c] at po; exact po.elim
 | _=>exact po.elim
theorem JD {lo hi st:Option Expr} {l u k:Option (jl)} (t:C.K=X.K) (s:PE X e (tE C own ma fa)) (hl:PO X lo (tO C own (vZ l))) (o:PO X hi (tO C own (vZ u))) (q:PO X st (tO C own (vZ k))) (n:ma≠.any:=by decide):PE X (.Subscript e (.Slice lo hi st p2) pos) (tE C own .sh (YE fa l u k)):=by
 refine kf (Vx (qkV (C:=C) t) (uh s n) hl o q) λσ H Q ⟨F,ρ,p,h⟩=>⟨F,ρ,p,Po.bind h λv F1 H1 d ρ1 j c1 m h1=>?_⟩
 refine ⟨F1,ρ1,j,Po.bindO h1 λz H2 a ρ2 i c2 h2=>⟨z,ρ2,i,Po.bindO h2 λy D b f g c3 x=>⟨y,f,g,Po.bindO x λJ A c B r c4 w=>?_⟩⟩⟩;exact ⟨J,d,r.sub,((m.mono c2.grow).mono c3.grow).mono c4.grow,PoV.of r w⟩
end
noncomputable def Its (x:Str):It:=⟨λi _=>i < x.cps.size,λi H v H'=>H'=H/\∃ c,x.cps[i]?=ii c/\v=.str ⟨#[c]⟩,λi _=>x.cps.size<=i⟩
noncomputable def Vy (x:Str):List D:=x.cps.toList.map λc=>.str ⟨#[c]⟩
theorem YF {P:iE} {w:iG} {K:Frag} {tg:Expr} (it:Addr) (x:Str) (t:Tok) (ty:String) (hn:["enumerate", "zip", "dict_itemiterator", "dict_reverseitemiterator", "odict_iterator", "itertools.zip_longest", "itertools.pairwise"].contains ty=iq)
  (W:∀ A:iL,A.handled=ij->Walks P w A it [it] [it] x.cps.size (SignAt x) (λi h=>h.IsStrIter it ty x t i)) (p:∀ (A:iL) (i:Nat) (s:iu) (Q:ip->iu->Prop) (E:ip->iu->Prop),s.heap.IsStrIter it ty x t i->Q (.ref it) s->iy (model P w) A (mB (.ref it)) Q E s) :
  Turn P w K tg (Its x) [it] it (λi h=>h.IsStrIter it ty x t i/\i<=x.cps.size) where
 mem:=by simp
 obj:=λi h st b a=>by
  have e:b=it:=by simpa using a
  subst e;obtain ⟨o,e,c,d⟩:=st.1;exact ⟨o,e,λv z=>by rw [d] at z; cases z⟩
 keep:=λi h h' st k=>by obtain ⟨⟨o,e,r⟩,hi⟩:=st;exact ⟨⟨o,k it (by simp) o e,r⟩,hi⟩
 item:=by
  intro X m j n l i pins s σ H E I f st hg;subst m j n;obtain ⟨f0,f1,f2,f3,f4,q⟩:=f it (by simp);refine (W X.A (I.ok.hd l)).item i s _ _ hg st.1 λv h' tk m g kp=>?_;have y:Inv X pins σ H { s with heap:=h',toks:=tk }:=I.turned (t':=tk) (λb o a e=>kp b o (by simpa using a) e) f0 f1 f3 f4 q;obtain ⟨o,e,c,d⟩:=id g;obtain ⟨T,u,h1,h2⟩:∃ T u,x.cps[i]?=ii T/\v=d7 ⟨#[T]⟩ u:=by
   unfold SignAt at m;first
    | exact m
    | (obtain ⟨T,u,h1,h2⟩:=m; exact ⟨T,u,h1,h2⟩)
    | (obtain ⟨T,h1,u,h2⟩:=m; exact ⟨T,u,h1,h2⟩)
    | (obtain ⟨u,T,h1,h2⟩:=m; exact ⟨T,u,h1,h2⟩)
  subst h2;exact ⟨_,rfl,qb4 (s:={ s with heap:=h',toks:=tk }) e c d hn ⟨.str ⟨#[T]⟩,H,y,⟨u,rfl⟩,⟨rfl,T,h1,rfl⟩,⟨g,hg⟩,λb a=>(f b a).1⟩⟩
 done:=by intro X m j n l i pins s σ H E I f st hg;subst m j n;obtain ⟨f0,f1,f2,f3,f4,q⟩:=f it (by simp);have hi:i=x.cps.size:=Nat.le_antisymm st.2 hg;subst hi;exact (W X.A (I.ok.hd l)).done s _ _ st.1 λh' tk kp=>⟨rfl,I.turned (t':=tk) (λb o a e=>kp b o (by simpa using a) e) f0 f1 f3 f4 q⟩
 self:=λA i s Q E st h=>p A i s Q E st.1 h
theorem qhp:ItIs K F (Its x) (Vy x) where
 go:=λi H hi _=>by
  have:i < x.cps.size:=by simpa [Vy] using hi
  exact this
 yld:=λi Fi H v H' d e s1 s2 y=>by
  obtain ⟨rfl,c,h1,rfl⟩:=y;have e:d=.str ⟨#[c]⟩:=by
   unfold Vy at e;rw [aG] at e;have h1:x.cps.toList[i]?=ii c:=by simpa using h1
   rw [h1] at e;exact (aK.inj e).symm
  subst e;exact ⟨Fi,.refl,s2,.str (Yx c)⟩
 stop:=λi H hi _=>by
  have:x.cps.size<=i:=by simpa [Vy] using hi
  exact this
noncomputable def jK:D->Out (List D)
 | .lst xs=>.ok xs
 | .tup xs=>.ok xs
 | .str x=>.ok (Vy x)
 | _=>.bad
noncomputable def jN (f:jl):uj:=λρ=>(f ρ).bind λp=>(jK p.1).bind λds=>.ok (ds,p.2)
section
variable {f:jl}
theorem qhq {l:Expr} {tl:TE} (hl:PE X l tl):PI X tg l (λσ H R=>tl σ H λx H1=>(∃ a,x=.ref a/\(((∃ xs,SqL X.K H1 a xs)/\R (Itl X.K a) H1)\/((∃ xs,SqT X.K H1 a xs)/\R (Itt X.K a) H1)))\/∃ z,x=.str z/\R (Its z) H1):=by
 refine ⟨?_⟩;intro pins s σ H R I h;refine thn (hl pins s σ H _ I h) λv s1 ⟨x,H1,d,r1,q1⟩=>?_;have fp:∀ b∈[s1.heap.objs.size],WK X pins H1 b:=λb f=>by
  have e:b=s1.heap.objs.size:=by simpa using f
  subst e;exact d.fpOk (ax _) (d.hok.fresh (ax _))
 rcases q1 with ⟨a,rfl,q⟩ | ⟨z,rfl,q⟩
 ·cases r1;rcases q with ⟨⟨xs,hq⟩,q⟩ | ⟨⟨xs,hq⟩,q⟩
  ·obtain ⟨its,r,p,c⟩:=d.list hq;refine wpAny_pyIter_list p.isList ?_;exact ⟨s1.heap.objs.size,[s1.heap.objs.size],_,_,H1,rfl,d.kept (t':=s1.toks) λb o e=>aa _ e,ZQ a _,⟨_,aj _ rfl,rfl,rfl⟩,fp,q⟩
  ·obtain ⟨its,r,p,c⟩:=d.tuple hq;refine lh (show s1.heap.IsTuple a its.toArray from p) ?_;exact ⟨s1.heap.objs.size,[s1.heap.objs.size],_,_,H1,rfl,d.kept (t':=s1.toks) λb o e=>aa _ e,XG a _,⟨_,aj _ rfl,rfl,rfl⟩,fp,q⟩
 ·obtain ⟨t,rfl⟩:=r1;cases g:z.cps.all (· < 128) with
  | true=>refine wpAny_pyIter_ascii g ?_;exact ⟨s1.heap.objs.size,[s1.heap.objs.size],_,_,H1,rfl,d.kept (t':=s1.toks) λb o e=>aa _ e,YF _ z t "str_ascii_iterator" (by decide) (λA hA=>Walks.strAscii hA _ z t) (λA i s Q E st h=>wpAny_pyIter_striter_ascii st h),⟨⟨_,aj _ rfl,rfl,rfl⟩,bh _⟩,fp,q⟩
  | false=>refine wpAny_pyIter_wide g ?_;exact ⟨s1.heap.objs.size,[s1.heap.objs.size],_,_,H1,rfl,d.kept (t':=s1.toks) λb o e=>aa _ e,YF _ z t "str_iterator" (by decide) (λA hA=>Walks.strWide hA _ z t) (λA i s Q E st h=>wpAny_pyIter_striter_wide st h),⟨⟨_,aj _ rfl,rfl,rfl⟩,bh _⟩,fp,q⟩
theorem qO (n:C.K=X.K) (h:PE X e (tE C own m f)) (b:m≠.any:=by decide):PI X tg e (tIt C own (jN f)):=by
 refine qcw (qhq (uh h b)) λσ H R ⟨F,ρ,r,h⟩=>⟨F,ρ,r,PoI.bindV h λv F1 H1 d ρ1 a c1 c h1=>?_⟩
 have c:Is C.K F1 v d:=c;cases c with
 | lst p t=>exact .inl ⟨_,rfl,.inl ⟨⟨_,by rw [<-n]; exact a.sub.seq p⟩,by rw [<-n]; exact h1 _ F1 H1 a c1 (qhg p t)⟩⟩
 | tup p t=>exact .inl ⟨_,rfl,.inr ⟨⟨_,by rw [<-n]; exact jj a.sub p⟩,by rw [<-n]; exact h1 _ F1 H1 a c1 (qhh p t)⟩⟩
 | str z=>exact .inr ⟨_,rfl,h1 _ F1 H1 a c1 qhp⟩
 | _=>exact h1.elim
end
end L2.D2
namespace L2.D2
open PySem PySem.Spec PySem.Calls PyProof.Rows PySem.W Builtin Builtin.ObjectAttr Builtin.Getset_descriptor
noncomputable def xcB (K:Frag) (C:Addr):Bool:=decide (subIn K (.ref C) (.type "BaseException")=ii ir)&&decide (findIn K (.ref C) "__getattribute__"=ii (ii (.builtin "BaseException.__getattribute__")))&&decide (findIn K (.ref C) "__getattr__"=ii ij) &&
 decide (findIn K (.ref C) "__class__"=ii (ii (.builtin "object.__class__")))&&decide (mroIn K C (.type "object")=ii ir)&&(clsIn K C).isSome
end L2.D2
namespace L2.D2
open PySem PySem.Spec PyProof.Rows
variable {P:iE} {w:iG} {K:Frag} {N:List Str} {A:iL} {C:Ct}
theorem qhr {mg:Str->Option ip} {base:Heap} {qual:Str} {scope:lG} {f:Addr} {cd:ip} {outer:List Env} {s0:iu} {H0:Hp} {E:XK} (h:C.E=E):YB (cxk P w K mg base N qual scope f cd A outer s0 H0 E) C:=by subst h;exact qhl
noncomputable def qhs (ca:Str->Addr) (cs:List Str) (c:Str):Option Addr:=if c∈cs then ii (ca c) else ij
structure Xs (K:Frag) (cv:Str->ip) (ca:Str->Addr) (cs:List Str) (top:Str):Prop where
 val:∀ c∈cs,cv c=.ref (ca c)
 own:∀ c∈cs,bS K (.ref (ca c)) (cv top)=ii ir
 cls:∀ c∈cs,xcB K (ca c)=ir
 kit:∀ c∈cs,∀ d∈cs,cI K (.ref (ca c)) (.ref (ca d))=ii (decide (ca c=ca d))
 ve:∀ c∈cs,cI K (.ref (ca c)) (.type "ValueError")=ii ir
inductive SK where
 | l | t
noncomputable def SK.itc:SK->String
 | .l => "list_iterator"
 | .t => "tuple_iterator"
def SeqK (h:Heap) (a:Addr):SK->Array ip->Prop
 | .l,xs=>h.IsList a xs
 | .t,xs=>h.IsTuple a xs
def ItK (h:Heap) (it a:Addr):SK->Nat->Prop
 | .l,i=>h.IsListIter it a i
 | .t,i=>h.IsTupleIter it a i
def SqK (K:Frag) (H:Hp) (a:Addr):SK->List V->Prop
 | .l,xs=>SqL K H a xs
 | .t,xs=>SqT K H a xs
variable {h h':Heap} {a:Addr} {xs:Array ip}
theorem SeqK.at:∀ {k:SK},SeqK h a k xs->(∀ o,h.get? a=ii o->h'.get? a=ii o)->SeqK h' a k xs
 | .l,⟨o,e,c⟩,k=>⟨o,k _ e,c⟩
 | .t,⟨o,e,c⟩,k=>⟨o,k _ e,c⟩
theorem SeqK.lt:∀ {k:SK},SeqK h a k xs->a < h.objs.size
 | .l,⟨o,e,c⟩=>ay e
 | .t,⟨o,e,c⟩=>ay e
variable {it:Addr} {i:Nat}
theorem ItK.obj:∀ {k:SK},ItK h it a k i->∃ o,h.get? it=ii o/\o.cls=.type k.itc/\o.data=.fields #[.ref a,.int i 0]
 | .l,⟨o,e,c,d⟩=>⟨o,e,c,d⟩
 | .t,⟨o,e,c,d⟩=>⟨o,e,c,d⟩
theorem ItK.of:∀ {k:SK},(∃ o,h.get? it=ii o/\o.cls=.type k.itc/\o.data=.fields #[.ref a,.int i 0])->ItK h it a k i
 | .l,⟨o,e,c,d⟩=>⟨o,e,c,d⟩
 | .t,⟨o,e,c,d⟩=>⟨o,e,c,d⟩
variable {E:ip->iu->Prop} {prog:iE} {s:iu} {Q:Option ip->iu->Prop} {l:Addr} {items:Array ip} {x:ip} {o:Obj} {n:Nat}
section
theorem qcJ {k:SK} {Q:ip->iu->Prop} (h:SeqK s.heap a k xs) (c:Q (.ref s.heap.objs.size) { s with heap:=s.heap.push { cls:=.type k.itc,data:=.fields #[.ref a,.int 0 0] } }):iy (model prog w) A (mB (.ref a)) Q E s:=by
 cases k with
 | l=>exact wpAny_pyIter_list h c
 | t=>exact lh h c
noncomputable def SK.cl:SK->String
 | .l => "list"
 | .t => "tuple"
theorem GO {k:SK} (a:A.handled=ij) (hi:ItK s.heap it l k i) (hl:SeqK s.heap l k items) (hx:items[i]?=ij) (c:∀ h',f9 it s.heap h'->Q ij { s with heap:=h' }):iy (model prog w) A (k9 (.ref it)) Q E s:=by
 cases k with
 | l=>exact wpAny_pyNext_list_end a hi hl hx c
 | t=>exact wpAny_pyNext_tuple_end a hi hl hx c
theorem XV {k:SK} (hi:ItK s.heap it l k i) (hl:SeqK s.heap l k items) (hx:items[i]?=ii x) (c:∀ h',ItK h' it l k (i+1)->bJ it s.heap h'->Q (ii x) { s with heap:=h' }):iy (model prog w) A (k9 (.ref it)) Q E s:=by
 cases k with
 | l=>exact wpAny_pyNext_list_item hi hl hx c
 | t=>exact wpAny_pyNext_tuple_item hi hl hx c
theorem SeqK.of (e:h.get? a=ii o) (d:o.data=.seq xs n):∀ {k:SK},o.cls=.type k.cl->SeqK h a k xs
 | .l,c=>⟨o,e,c,n,d⟩
 | .t,c=>⟨o,e,c,n,d⟩
end
variable {sk:SK}
section
theorem XW:lT (.type "tuple") "keys"=pure none:=by rw [lj,iV]; kernel_rfl
theorem Qy {k:Nat} {Q:Option ip->iu->Prop} (n:A.handled=ij) (hx:s.heap.get? a=ii o) (l:o.cls=.type "tuple") (t:o.data=.seq xs k) (hd:o.dict=ij)
  (h:∀ h' tk,(∀ b j,s.heap.get? b=ii j->h'.get? b=ii j)->Q ij { s with heap:=h',toks:=tk }):iy (model prog w) A (mG (.ref a) "keys") Q E s:=by
 obtain ⟨c,dct,q,sl⟩:=o;simp only at l t hd;subst l t hd;obtain ⟨hp,g,d,tk,os⟩:=s;have hT:∀ f,(⟨hp,g,d,f,os⟩:iu).TypeIs (.ref a) "tuple":=λ_=>⟨_,hx,rfl⟩
 have f1:=sub_AttributeError;have f3:=dQ.lookup;have f4:=dQ.bind (.ref a);have u:=am_tuple_getattr_none;have p:=XW;have m:(["__module__", "__name__", "__qualname__", "__doc__", "__annotations__"]:List Str).contains ("keys":Str)=false:=by decide +kernel
 have hsz:("keys":Str).length+100<=sizeLine:=by rw [iF]; decide +kernel
 unfold mG getAttrBy?;refine im (wpAny_mkText (im (j8 ?_)));unfold getAttrBy;repeat (any_goals (first | assumption | exact hT _ | ((with_reducible show iy _ _ (call (Value.builtin "tuple.__getattribute__") _ _) _ _ _); refine lI dQ (hT _) am_entry_tuple_getattribute (F.args_tuple_getattribute_2 _ _) (meets_getattribute_miss_tuple a xs k sl "keys" _ p m hsz) ⟨hx,n,λh' f e i=>?_⟩) | wp_step))
 obtain ⟨t',V,r⟩:=i.there;show iy _ _ (lA _ _ _ _ _ _ _) _ _ _;unfold lA;repeat (any_goals (first | assumption | wp_step))
 exact h h' f i.keeps
theorem XY:lT (.type "list") "keys"=pure none:=by rw [lj,iV]; kernel_rfl
theorem gD {k:Nat} {Q:Option ip->iu->Prop} (n:A.handled=ij) (hx:s.heap.get? a=ii o) (l:o.cls=.type "list") (t:o.data=.seq xs k) (hd:o.dict=ij)
  (h:∀ h' tk,(∀ b j,s.heap.get? b=ii j->h'.get? b=ii j)->Q ij { s with heap:=h',toks:=tk }):iy (model prog w) A (mG (.ref a) "keys") Q E s:=by
 obtain ⟨c,dct,q,sl⟩:=o;simp only at l t hd;subst l t hd;obtain ⟨hp,g,d,tk,os⟩:=s;have hT:∀ f,(⟨hp,g,d,f,os⟩:iu).TypeIs (.ref a) "list":=λ_=>⟨_,hx,rfl⟩
 have f1:=sub_AttributeError;have f3:=dY.lookup;have f4:=dY.bind (.ref a);have u:=am_list_getattr_none;have p:=XY;have m:(["__module__", "__name__", "__qualname__", "__doc__", "__annotations__"]:List Str).contains ("keys":Str)=false:=by decide +kernel
 have hsz:("keys":Str).length+100<=sizeLine:=by rw [iF]; decide +kernel
 unfold mG getAttrBy?;refine im (wpAny_mkText (im (j8 ?_)));unfold getAttrBy;repeat (any_goals (first | assumption | exact hT _ | ((with_reducible show iy _ _ (call (Value.builtin "list.__getattribute__") _ _) _ _ _); refine lI dY (hT _) am_entry_list_getattribute (F.args_list_getattribute_2 _ _) (meets_getattribute_miss_list a xs k sl "keys" _ p m hsz) ⟨hx,n,λh' f e i=>?_⟩) | wp_step))
 obtain ⟨t',V,r⟩:=i.there;show iy _ _ (lA _ _ _ _ _ _ _) _ _ _;unfold lA;repeat (any_goals (first | assumption | wp_step))
 exact h h' f i.keeps
theorem zq:entryFor table "dict.update.loop"=ii Builtin.«dict.update.loop»:=entryFor_of_tree (by kernel_rfl)
theorem kS:plainId "dict.update.loop"=true:=by decide +kernel
def GP (h:Heap) (v key val:ip):Prop:=∃ p o n,v=.ref p/\h.get? p=ii o/\o.cls=.type "tuple"/\o.data=.seq #[key,val] n
theorem qcK {sk:SK} {R:Result->iu->Prop} {d t:Addr} (hh:A.in1.handled=ij) (Q:d≠t) (u:d≠it) (M:t≠it):∀ (n i:Nat) (s:iu) (kvs:List (Key×ip)) (ps:List (Key×ip×ip)),items.size - i=n->i<=items.size ->ItK s.heap it t sk i->SeqK s.heap t sk items->s.heap.DictOf (qQ prog w) d kvs->ps.length=n->(∀ j p,ps[j]?=ii p->∃ v,items[i+j]?=ii v/\xM p.1 p.2.1=ir/\GP s.heap v p.2.1 p.2.2)->kvs.length+n<=sizeLine ->(∀ h' tk,h'.DictOf (qQ prog w) d (ps.foldl (λl p=>stored l p.1 p.2.2) kvs)->(∀ b o,b≠d->b≠it->s.heap.get? b=ii o->h'.get? b=ii o)->R (.ok (.ret .none)) { s with heap:=h',toks:=tk }) ->lz (model prog w) A (.builtin "dict.update.loop" ⟨[.ref d,.ref it,iR i,.none],[]⟩) R s:=by
 intro n
 induction n with
 | zero=>intro i s kvs ps hn hi st ht hd hl hp hz V;have e:ps=[]:=db.mp hl;subst e;refine iQ zq ?_;rw [bx kS _];show iy _ A.in1 (k9 (.ref it) >>= _) _ _ s;refine im (GO hh st ht (by simp; lia) λh' Y=>?_);show iy _ A.in1 (ret cw) _ _ _;refine iw (V h' s.toks ?_ λb o _ h2 e=>Y b o h2 e);obtain ⟨o,es,ep,D,r⟩:=hd;exact ⟨o,es,ep,Y d o u D,r⟩
 | succ n ih=>
  intro i s kvs ps hn hi st ht hd hl hp hz V;cases ps with
  | nil=>simp at hl
  | cons p ps=>
   obtain ⟨v,hv,hk,q,W,nq,rfl,hq,O,c⟩:=hp 0 p rfl;obtain ⟨od,es,ep,g,hdx,a⟩:=id hd;have F:q≠d:=λz=>by subst z;rw [hq] at g; cases g;rw [a.1] at c; cases c
   obtain ⟨oi,f,hic,E⟩:=st.obj;have J:q≠it:=λz=>by subst z;rw [hq] at f; cases f;rw [E] at c; cases c
   refine iQ zq ?_;rw [bx kS _];show iy _ A.in1 (k9 (.ref it) >>= _) _ _ s;refine im (XV st ht (x:=.ref q) (by simpa using hv) λh' H G=>?_);have C:h'.get? q=ii W:=(G.2 q J).trans hq;have U:fQ { s with heap:=h' } (.ref q) "tuple":=⟨W,C,O⟩
   have T:h'.DictOf (qQ prog w) d kvs:=by obtain ⟨o,es,ep,D,r⟩:=hd;exact ⟨o,es,ep,(G.2 d u).trans D,r⟩
   have N:SeqK h' t sk items:=ht.at λo D=>(G.2 t M).trans D;dsimp only;refine im (iP (im ?_));refine wpAny_tryCatch ?_;unfold Builtin.Dict.pairItems;refine im (lg U ?_);rw [Aa (by decide)];refine im (iM C c (iw ?_));show iy _ A.in1 (holding [p.2.1,p.2.2] (dictSet d p.2.1 p.2.2)) _ _ _;refine iP (wpAny_dictSet_pairs (knd:=qQ prog w) hk T (λh2 hd2 k=>?_) (by lia));have keep:∀ b o,b≠d->b≠it->s.heap.get? b=ii o->h2.get? b=ii o:=λb o n1 n2 e=>(k.2 b n1).trans ((G.2 b n2).trans e);have X:(stored kvs p.1 p.2.2).length<=kvs.length+1:=by unfold stored;split <;> simp
   refine iw ⟨j9 kS _,?_⟩;have ec:iR ((i:Int)+1)=iR ((i+1:Nat):Int):=by push_cast; rfl
   rw [ec];refine ih (i+1) _ (stored kvs p.1 p.2.2) ps (by lia) (by lia) ?_ ?_ hd2 (by simpa using hl) (λj Z e=>?_) (by lia) λh3 tk S k3=>?_;·obtain ⟨o,e,r⟩:=H.obj;exact .of ⟨o,(k.2 it (bw u)).trans e,r⟩
   ·exact N.at λo e=>(k.2 t (bw Q)).trans e
   ·obtain ⟨v',L,P,I,y,K,rfl,m,B,h⟩:=hp (j+1) Z (by simpa using e);refine ⟨.ref I,by rw [show i+1+j=i+(j+1) by lia]; exact L,P,I,y,K,rfl,keep I y (λz=>?_) (λz=>?_) m,B,h⟩;·subst z;rw [m] at g; cases g;rw [a.1] at h; cases h
    ·subst z;rw [m] at f; cases f;rw [E] at h; cases h
   ·exact V h3 tk S λb o n1 n2 e=>k3 b o n1 n2 (keep b o n1 n2 e)
theorem gE {t:Addr} {ps:List (Key×ip×ip)} {Q:ip->iu->Prop} (I:A.handled=ij) {ot:Obj} {nt:Nat} (y:s.heap.get? t=ii ot) (d:ot.cls=.type sk.cl) (m:ot.dict=ij) (f:ot.data=.seq items nt)
  (hl:ps.length=items.size) (hp:∀ (j:Nat) (p:Key×ip×ip),ps[j]?=ii p->∃ v,items[j]?=ii v/\xM p.1 p.2.1=ir/\GP s.heap v p.2.1 p.2.2) (M:items.size<=sizeLine)
  (h:∀ h' tk,h'.DictOf (qQ prog w) s.heap.objs.size (ps.foldl (λl p=>stored l p.1 p.2.2) [])->(∀ b o,s.heap.get? b=ii o->h'.get? b=ii o)->Q (.ref s.heap.objs.size) { s with heap:=h',toks:=tk }) :
  iy (model prog w) A (call (.type "dict") [.ref t]) Q E s:=by
 refine callType_codes (Q₁:=λobj k=>obj=.ref s.heap.objs.size/\k={ s with heap:=s.heap.push { cls:=.type "dict",data:=.dict #[] } }) F.kt_called_dict (F.kt_typeCall_dict_1 _) F.entry_dict_init (kt_code_dict_new _ ⟨rfl,rfl⟩) ?_;rintro obj k ⟨rfl,rfl⟩;have i:(s.heap.push { cls:=.type "dict",data:=.dict #[] }).DictOf (qQ prog w) s.heap.objs.size []:=Heap.DictOf.new s.heap;refine ⟨i.typeIs,F.args_dict_init_2 _ _,?_⟩;unfold Builtin.«dict.__init__»;refine im ?_;unfold Builtin.Dict.selfAndRest;refine im (wpAny_notOrdered_dict i.typeIs ?_);show iy _ _ (pure (s.heap.objs.size,[aX t])) _ _ _;refine iw ?_;show iy _ _ (Builtin.Dict.updateFrom "dict.__init__" s.heap.objs.size (.ref t) [] .none) _ _ _;unfold Builtin.Dict.updateFrom;have g:(s.heap.push { cls:=.type "dict",data:=.dict #[] }).get? t=ii ot:=aa _ y;have B:t < s.heap.objs.size:=ay y;refine im (lg (T:=sk.cl) ⟨ot,g,d⟩ ?_);rw [Aa (by cases sk <;> decide)];have P:∀ {K:Option ip->iu->Prop} {A1:iL} {R:ip->iu->Prop} {s1:iu},A1.handled=ij->s1.heap.get? t=ii ot->(∀ h' tk,(∀ b H,s1.heap.get? b=ii H->h'.get? b=ii H)->K ij { s1 with heap:=h',toks:=tk })->iy (model prog w) A1 (mG (.ref t) "keys") K R s1:=λa b c=>by
  cases sk with
  | l=>exact gD a b d f m c
  | t=>exact Qy a b d f m c
 refine im (P (by exact I) g λh1 G k1=>?_);rw [Aa (show (ij:Option ip).isNone=ir from rfl)];refine im (lq ?_);have x:h1.get? t=ii ot:=k1 _ _ g;have C:h1.DictOf (qQ prog w) s.heap.objs.size []:=by obtain ⟨o,es,ep,z,r⟩:=i;exact ⟨o,es,ep,k1 _ _ z,r⟩
 have u:SeqK h1 t sk items:=.of x f d;refine im (qcJ (s:={ s with heap:=h1,toks:=G }) u ?_);have n:s.heap.objs.size < h1.objs.size:=let ⟨o,es,ep,z,r⟩:=C; ay z;have up:∀ b o,s.heap.get? b=ii o->(h1.push { cls:=.type sk.itc,data:=.fields #[.ref t,.int 0 0] }).get? b=ii o:=λb o e=>aa _ (k1 _ _ (aa _ e));refine iw ⟨j9 kS _,?_⟩;refine qcK (items:=items) (t:=t) (A:=A.in1) (show A.in1.in1.handled=ij from I) (ci B) (aD n) (aD (eJ B n)) items.size 0 _ [] ps (by lia) (bh _) (.of ⟨_,aj _ rfl,rfl,rfl⟩) ?_ ?_ hl (λj p e=>?_) (by simpa using M) λh2 D hd2 k2=>⟨rfl,h h2 D hd2 λb o e=>?_⟩
 ·exact .of (aa _ x) f d
 ·obtain ⟨o,es,ep,z,r⟩:=C;exact ⟨o,es,ep,aa _ z,r⟩
 ·obtain ⟨v,N,O,q,W,L,rfl,hq,r⟩:=hp j p e;exact ⟨.ref q,by simpa using N,O,q,W,L,rfl,up q W hq,r⟩
 ·have J:=ay e;exact k2 b o (aD J) (aD (eJ J n)) (up b o e)
end
noncomputable def xQ:D->Option Key
 | .int i=>ii (.inl i)
 | .str x=>ii (.inr x)
 | _=>ij
noncomputable def zR (kvs:List (Key×D)) (k:Key) (d:D):List (Key×D):=if kvs.any (λp=>decide (p.1=k)) then kvs.map λp=>if p.1=k then (p.1,d) else p else kvs++[(k,d)]
noncomputable def qcL:D->Option (Key×D)
 | .tup [k,v]=>(xQ k).map λk=>(k,v)
 | _=>ij
noncomputable def ur:List D->Option (List (Key×D))
 | []=>ii []
 | d::ds=>match qcL d,ur ds with
  | some p,ii ps=>ii (p::ps)
  | _,_=>ij
noncomputable def Uj:D->Out D
 | .tup ds=>match ur ds with
  | some ps=>.ok (.dct (ps.foldl (λl p=>zR l p.1 p.2) []))
  | none=>.bad
 | _=>.bad
noncomputable def qht (d:D):Out D:=(xf d).bind λds=>match ur ds with
 | some ps=>.ok (.dct (ps.foldl (λl p=>zR l p.1 p.2) []))
 | none=>.bad
variable {d:D} {F H:Hp} {v:V} {ds:List D}
theorem qd0 (y:Same F H) (h:TopIs K F H v d) (e:xf d=.ok ds):∃ a k xs,v=.ref a/\SqK K H a k xs/\IsL K F xs ds:=by
 cases d with
 | lst es=>cases e; obtain ⟨a,xs,rfl,q,t⟩:=h.lst y; exact ⟨a,.l,xs,rfl,q,t⟩
 | tup es=>cases e; obtain ⟨a,xs,rfl,q,t⟩:=h.tup y; exact ⟨a,.t,xs,rfl,q,t⟩
 | _=>cases e
theorem IsK.any {k:Key}:∀ {kv:List (Key×V)} {ks:List (Key×D)},IsK K F kv ks->(kv.any λp=>decide (p.1=k))=(ks.any λp=>decide (p.1=k))
 | _,_,.nil=>rfl
 | _,_,.cons h t=>by rw [cG,cG,IsK.any t]
theorem IsK.repl {k:Key} (i:Is K F v d):∀ {kv:List (Key×V)} {ks:List (Key×D)},IsK K F kv ks->IsK K F (kv.map λp=>if p.1=k then (p.1,v) else p) (ks.map λp=>if p.1=k then (p.1,d) else p)
 | _,_,.nil=>.nil
 | _,_,.cons (k:=k') h t=>by
  rw [aH,aH];by_cases e:k'=k;·simp only [e,if_true]; exact .cons i (IsK.repl i t)
  ·simp only [e,if_false]; exact .cons h (IsK.repl i t)
theorem IsK.snoc {k:Key} (i:Is K F v d):∀ {kv:List (Key×V)} {ks:List (Key×D)},IsK K F kv ks->IsK K F (kv++[(k,v)]) (ks++[(k,d)])
 | _,_,.nil=>.cons i .nil
 | _,_,.cons h t=>.cons h (IsK.snoc i t)
variable {kv:List (Key×V)}
theorem IsK.put {k:Key} {ks:List (Key×D)} (h:IsK K F kv ks) (i:Is K F v d):IsK K F (zL kv k v) (zR ks k d):=by
 unfold zL zR;rw [h.any];by_cases e:(ks.any λp=>decide (p.1=k))=ir;·rw [Aa e,Aa e]; exact IsK.repl i h
 ·rw [Ab e,Ab e]; exact IsK.snoc i h
theorem YG:∀ {v:List (Key×V)} {ps:List (Key×D)} {kv:List (Key×V)} {ks:List (Key×D)},IsK K F v ps->IsK K F kv ks->IsK K F (v.foldl (λl p=>zL l p.1 p.2) kv) (ps.foldl (λl p=>zR l p.1 p.2) ks)
 | _,_,_,_,.nil,h=>h
 | _,_,_,_,.cons i t,h=>by rw [cy,cy];exact YG t (h.put i)
def qkl (p:Key×V) (q:Key×ip×ip):Prop:=p.1=q.1/\RelV p.2 q.2.2
theorem GQ:∀ {v:List (Key×V)} {tr:List (Key×ip×ip)} {kv:List (Key×V)} {vs:List (Key×ip)},mj qkl v tr->KV kv vs->KV (v.foldl (λl p=>zL l p.1 p.2) kv) (tr.foldl (λl p=>stored l p.1 p.2.2) vs)
 | _,_,_,_,.nil,h=>h
 | _,_,_,_,.cons r t,h=>by rw [cy,cy];refine GQ t ?_;rw [r.1];exact h.put _ r.2
theorem YH:∀ {v:List (Key×V)} {kv:List (Key×V)},(v.foldl (λl p=>zL l p.1 p.2) kv).length<=kv.length+v.length
 | [],kv=>ax _
 | p::v,kv=>by
  have h1:=@YH v (zL kv p.1 p.2);have h2:=ww kv p.1 p.2;rw [cy,ah]
  lia
variable {X:Cx} {pins:Pns} {σ:St} {u:ip} {vs:List V}
section
theorem zi {k:Key} (i:Is C.K F v d) (r:RelV v u) (e:xQ d=ii k):xM k u=true:=by
 cases d with
 | int z=>cases i; cases e; obtain ⟨t,rfl⟩:=r; exact KS z t
 | str z=>cases i; cases e; obtain ⟨t,rfl⟩:=r; exact KU z t
 | _=>cases e
theorem YI (f:C.K=X.K) (I:Inv X pins σ H s) (y:Same F H):∀ {vs:List V} {us:List ip} {ds:List D} {ps:List (Key×D)},IsL C.K F vs ds->Vals vs us->ur ds=ii ps ->∃ (c:List (Key×V)) (tr:List (Key×ip×ip)),IsK C.K F c ps/\mj qkl c tr/\tr.length=us.length/\c.length=us.length/\∀ (j:Nat) (p:Key×ip×ip),tr[j]?=ii p->∃ v,us[j]?=ii v/\xM p.1 p.2.1=ir/\GP s.heap v p.2.1 p.2.2
 | _,_,_,_,.nil,.nil,e=>by cases e; exact ⟨[],[],.nil,.nil,rfl,rfl,λj p e=>by simp at e⟩
 | _,_,_,_,.cons (d:=d) (ds:=ds) i t,.cons (b:=u) r rs,e=>by
  unfold ur at e;cases q1:qcL d with
  | none=>rw [q1] at e; cases e
  | some kd=>
   cases q:ur ds with
   | none=>rw [q1,q] at e; cases e
   | some rest=>
    rw [q1,q] at e;cases e;obtain ⟨c,tr,h1,h2,z,h,x⟩:=YI f I y t rs q;unfold qcL at q1;split at q1
    ·rename_i B A;obtain ⟨k,m,rfl⟩:=aT.mp q1;cases i with
     | @tup a xs _ hq il=>
      cases il with
      | @cons xk _ xr _ ik il2=>
       cases il2 with
       | @cons xv _ xr2 _ iv il3=>
        cases il3;cases r;obtain ⟨its,g,⟨o,l,w,n,hd⟩,_⟩:=I.tuple (show SqT X.K H a [xk,xv] by rw [<-f]; exact jj y hq);cases g with
        | @cons _ uk _ _ rk rv2=>
         cases rv2 with
         | @cons _ uv _ _ rv3 rv4=>
          cases rv4;refine ⟨(k,xv)::c,(k,uk,uv)::tr,.cons iv h1,.cons ⟨rfl,rv3⟩ h2,by simp [z],by simp [h],λj p e=>?_⟩;cases j with
          | zero=>simp at e;subst e;exact ⟨_,rfl,zi ik rk m,a,o,n,rfl,l,w,hd⟩
          | succ j=>simpa using x j p (by simpa using e)
    ·cases q1
theorem Vz (I:Inv X pins σ H s):∀ {k:SK},SqK X.K H a k vs->∃ its o n,Vals vs its/\s.heap.get? a=ii o/\o.cls=.type k.cl/\o.dict=ij/\o.data=.seq its.toArray n/\vs.length<=sizeLine
 | .l,h=>let ⟨its,r,⟨o,n,j,c,b,hd⟩,z⟩:=I.list h; ⟨its,o,n,r,j,c,b,hd,z⟩
 | .t,h=>by obtain ⟨its,r,⟨o,j,c,n,hd⟩,z⟩:=I.tuple h;obtain ⟨o2,d,b⟩:=I.tupleN h;rw [j] at d; cases d;exact ⟨its,o,n,r,j,c,b,hd,z⟩
theorem YJ (w:C.K=X.K) (B:X.calm=ir):gx X C .fr (.type "dict") qht:=by
  intro pins s σ H xs us Q I r h;obtain ⟨x,F,dx,rfl,y,tx,po⟩:=h;unfold qht at po;cases e:xf dx with
  | bad=>rw [e] at po; exact po.elim
  | exc c o=>cases dx <;> cases e
  | ok ds=>
   rw [e] at po;have po:PoV C .fr F H (match ur ds with | some ps=>.ok (.dct (ps.foldl (λl p=>zR l p.1 p.2) [])) | none=>.bad) Q:=po;cases q:ur ds with
   | none=>simp only [q] at po; exact po.elim
   | some ps=>
    simp only [q] at po;obtain ⟨a,sk,vs,rfl,hq,t⟩:=qd0 y tx e;obtain ⟨u,rfl,A⟩:=yq r;cases A;rw [w] at hq;obtain ⟨its,o,n,k,z,i,f,hd,L⟩:=Vz I hq;obtain ⟨d,tr,h1,h2,J,G,E⟩:=YI w I y t k q;have m:=k.length;refine gE (ps:=tr) (I.ok.hd B) z i f hd (by simp [J]) (λj p e=>?_) (by simp; lia) λh' tk g kp=>?_;· obtain ⟨v,e1,e2⟩:=E j p e;exact ⟨v,by simpa using e1,e2⟩
    · have hp:H s.heap.objs.size=none:=I.hok.fresh (ax _);obtain ⟨s2,c2,D⟩:=vw (u:=.dK (d.foldl (λl p=>zL l p.1 p.2) [])) y hp;have hl:(d.foldl (λl p=>zL l p.1 p.2) ([]:List (Key×V))).length<=sizeLine:=by
        have:=@YH d [];simp at this
        lia
      have b:(s.heap.objs.size == i5)=false:=beq_eq_false_iff_ne.mpr (ci I.big);refine ⟨.ref s.heap.objs.size,_,I.laid (o:=.dK (d.foldl (λl p=>zL l p.1 p.2) [])) (t':=tk) kp (ax _) (Yn hl b (GQ h2 .nil) g),rfl,po _ F _ s2 c2 ⟨_,rfl,hp,D,_,qu,YG h1 .nil⟩⟩
theorem GR (n:C.K=X.K) (d:X.calm=ir):gx X C .fr (.type "dict") Uj:=by
 intro pins s σ H xs us Q I r h;obtain ⟨x,F,dx,rfl,y,tx,po⟩:=h;cases dx <;> try exact po.elim
 exact YJ n d pins s σ H _ us Q I r ⟨x,F,_,rfl,y,tx,po⟩
noncomputable def XZ (kvs:List (Key×D)) (k:Key):Bool:=kvs.any λp=>decide (p.1=k)
noncomputable def inA:D->D->Out D
 | x,.dct kvs=>match xQ x with
  | some k=>.ok (.bl (XZ kvs k))
  | none=>.bad
 | x,y=>qiB x y
noncomputable def ub:D->D->Out D
 | x,.dct kvs=>match xQ x with
  | some k=>.ok (.bl (!XZ kvs k))
  | none=>.bad
 | x,y=>XO x y
theorem YK {ks:List (Key×D)} {k:Key} (h:IsK K F kv ks):(WT kv k).isSome=XZ ks k:=by rw [<-Js,h.any]; rfl
theorem qhu {k:Key} (h:TopIs C.K F H v d) (e:xQ d=ii k):v=kV k:=by
 cases d with
 | int z=>cases e; exact h.int
 | str z=>cases e; exact h.str.1
 | _=>cases e
theorem QU (n:C.K=X.K) (f:X.A.units+64 < iX):OpD X C .sh (iI .In) inA:=by
 intro pins s σ H x y v u Q I r c h;obtain ⟨F,dx,d,b,tx,ty,po⟩:=h;by_cases hd:∃ kvs,d=.dct kvs
 ·obtain ⟨kvs,rfl⟩:=hd;cases q:xQ dx with
  | none=>unfold inA at po; simp only [q] at po; exact po.elim
  | some k=>
   unfold inA at po;simp only [q] at po;obtain ⟨a,kv,rfl,g,i⟩:=ty.dct b;cases c;have ex:=qhu tx q;subst ex;refine qkT (by lia) I (DGet.k (k:=k) g) r λs' j=>⟨.bl _,H,j,rfl,?_⟩
   rw [YK i];exact po _ F H b .refl (.bl _)
 ·have e:inA dx d=qiB dx d:=by cases d <;> first | rfl | exact absurd ⟨_,rfl⟩ hd
  rw [e] at po;exact qjp n f pins s σ H x y v u Q I r c ⟨F,dx,d,b,tx,ty,po⟩
theorem kC (n:C.K=X.K) (f:X.A.units+64 < iX):OpD X C .sh (iI .NotIn) ub:=by
 intro pins s σ H x y v u Q I r c h;obtain ⟨F,dx,d,b,tx,ty,po⟩:=h;by_cases hd:∃ kvs,d=.dct kvs
 ·obtain ⟨kvs,rfl⟩:=hd;cases q:xQ dx with
  | none=>unfold ub at po; simp only [q] at po; exact po.elim
  | some k=>
   unfold ub at po;simp only [q] at po;obtain ⟨a,kv,rfl,g,i⟩:=ty.dct b;cases c;have ex:=qhu tx q;subst ex;refine qeZ (by lia) I (DGet.k (k:=k) g) r λs' j=>⟨.bl _,H,j,rfl,?_⟩
   rw [YK i];exact po _ F H b .refl (.bl _)
 ·have e:ub dx d=XO dx d:=by cases d <;> first | rfl | exact absurd ⟨_,rfl⟩ hd
  rw [e] at po;exact qcq n f pins s σ H x y v u Q I r c ⟨F,dx,d,b,tx,ty,po⟩
end
theorem qfq (t:lL) (es:Array (Int×ip)) (h:Int) (x:ip):(layNew t es h x).2.1.led=t.led:=by
 unfold layNew;cases t.freeSlot h with
 | none=>rfl
 | some p=>obtain ⟨sl,w⟩:=p;show (SetTable.orStandIn (t.put sl).1 _).led=t.led;unfold SetTable.orStandIn;split <;> rfl
variable {t:lL}
theorem qfr {m f v:Nat} {l p:Bool} {c:Array Int} {o:Array Nat} (h:g0 m f v l p c=ii (t,o)):t.led=l/\t.plain=p:=by
 unfold g0 at h;cases e:SetTable.layClean m c with
 | none=>rw [e] at h;cases h
 | some ow=>rw [e] at h;have h2:=congrArg Prod.fst (aK.inj h);subst h2;exact ⟨rfl,rfl⟩
theorem Uk (t:lL) (es:Array (Int×ip)) (n:Nat):(l5 t es n).2.1.led=t.led/\(t.plain=iq->(l5 t es n).2.1.plain=iq):=by
 unfold l5;cases e:t.relaid (es.map (·.1)) n with
 | none=>exact ⟨rfl,λ_=>rfl⟩
 | some q=>
  obtain ⟨t',o⟩:=q;have k:=qfr (show g0 _ _ _ _ _ _=ii (t',o) from e);dsimp only;split;·exact ⟨k.1,λz=>k.2.trans z⟩
  ·exact ⟨rfl,λ_=>rfl⟩
variable {κ:Type}
noncomputable def xL [DecidableEq κ] (ks:List κ) (x:κ):List κ:=if x∈ks then ks else ks++[x]
noncomputable def xm (ks:List Str) (x:Str):List Str:=if x∈ks then ks else ks++[x]
noncomputable def kE (es:Array (Int×ip)) (ep:Nat) (t:lL):Obj:={ cls:=.type "set",dict:=ij,data:=.set es ep t,slots:=#[] }
structure KP (κ:Type) [DecidableEq κ] where
 kd:∀ (p:iE) (w:iG),PySem.KeyKind p w κ
 of:ip->κ
 pb:Bool
 ofi:∀ {p:iE} {w:iG} {x:κ} {v:ip},(kd p w).is x v=ir->of v=x
 sc:∀ {p:iE} {w:iG} {x:κ} {v:ip},(kd p w).is x v=ir->v.scannable=ir
 pl:∀ {p:iE} {w:iG} {x:κ} {v:ip},(kd p w).is x v=ir->pb=ir->plainKind v=iq
noncomputable def KpS:KP Str where
 kd:=PySem.strKind
 of:=strOf
 pb:=ir
 ofi:=λh=>let ⟨_,e⟩:=cW h; by rw [e]; rfl
 sc:=λh=>let ⟨_,e⟩:=cW h; by rw [e]; rfl
 pl:=λh _=>let ⟨_,e⟩:=cW h; by rw [e]; rfl
structure SetG {κ:Type} [DecidableEq κ] (T:KP κ) (prog:iE) (w:iG) (es:Array (Int×ip)) (t:lL) (ks:List κ):Prop where
 el:ElemsOf (T.kd prog w) es.toList
 perm:(es.toList.map λe=>T.of e.2).Perm ks
 nd:ks.Nodup
 bd:es.size < lJ
 fits:t.fits es.size=ir
 led:t.led=!(w.params.followText "set-order")
 plain:T.pb=ir->ks≠[]->t.plain=iq
def SetK {κ:Type} [DecidableEq κ] (T:KP κ) (prog:iE) (w:iG) (h:Heap) (a:Addr) (ks:List κ):Prop:=∃ es ep t,h.get? a=ii (kE es ep t)/\SetG T prog w es t ks
variable {es:Array (Int×ip)} {ep:Nat}
section
theorem qhv {l:List (Int×ip)} (h:ElemsOf (PySem.strKind prog w) l) {e:Int×ip} (i:e∈l):∃ x t,e.2=.str x t:=by obtain ⟨⟨k,a,_⟩,_⟩:=h e i;obtain ⟨t,ht⟩:=cW a;exact ⟨k,t,ht⟩
variable [DecidableEq κ] {T:KP κ}
theorem SetG.mem {ks:List κ} (h:SetG T prog w es t ks) {x:κ}:x∈ks↔∃ e∈es.toList,(T.kd prog w).is x e.2=true:=by
 rw [<-h.perm.mem_iff,aw];constructor;·rintro ⟨e,i,z⟩;obtain ⟨⟨k,a,_⟩,_⟩:=h.el e i;rw [T.ofi a] at z;exact ⟨e,i,z ▸ a⟩
 ·rintro ⟨e,i,z⟩;exact ⟨e,i,T.ofi z⟩
theorem SetG.size {ks:List κ} (h:SetG T prog w es t ks):es.size=ks.length:=by have e:=h.perm.length_eq;simpa using e
theorem qd1 {es':Array (Int×ip)} {t':lL} (j:h.get? a=ii (kE es ep t)):(h.update a (g9 es' t')).get? a=ii (kE es' (ep+1) t'):=by have e:=bp (g9 es' t') j (by rw [putSet_of (o:=kE es ep t) es' t' rfl]; rfl);rw [putSet_of (o:=kE es ep t) es' t' rfl] at e;exact e
theorem SetG.more {e:Array (Int×ip)} {c:lL} {ks:List κ} {x:κ} {v:ip} (h:SetG T prog w es t ks) (d:(T.kd prog w).is x v=ir) (nx:x∉ks) (hr:ks.length+1 < lJ)
  (hp:e.toList.Perm (es.toList++[((T.kd prog w).hash x,v)])) (g:c.fits e.size=ir) (hl:c.led=t.led) (hq:T.pb=ir->c.plain=iq):SetG T prog w e c (xL ks x):=by
 have ex:xL ks x=ks++[x]:=Ab nx;have f:e.size=ks.length+1:=by rw [<-bE,hp.length_eq,ae,bE,h.size];rfl
 rw [ex];refine ⟨(h.el.push d (T.sc d)).perm hp,?_,?_,?_,g,hl.trans h.led,λb _=>hq b⟩;·refine (hp.map _).trans ?_;rw [fA,List.map_singleton,T.ofi d];exact h.perm.append (cJ _)
 ·exact bT.mpr ⟨h.nd,by simp,λa j b i=>by rw [aA.mp i]; exact λz=>nx (z ▸ j)⟩
 ·rw [f];exact hr
theorem qfs {ks:List κ} {x:κ} {v:ip} {Q:Bool->iu->Prop} (m:(T.kd prog w).is x v=ir) (S:SetK T prog w s.heap a ks) (hr:ks.length+1 < lJ)
  (h:∀ h' b,bJ a s.heap h'->SetK T prog w h' a (xL ks x)->Q b { s with heap:=h' }):iy (model prog w) A (setAddHashed a v ((T.kd prog w).hash x)) Q E s:=by
 obtain ⟨es,ep,t,o,d⟩:=S;unfold setAddHashed setAddHashedIn;refine iP (im (iU o rfl d.fits ?_));dsimp only;rw [byScan_of (T.sc m) d.bd d.el,Aa rfl];unfold setAddByScan;refine im (im (lq (im (wpAny_setScan_of m o rfl d.fits d.el ?_))));cases hq:es.toList.findIdx? (λe=>(T.kd prog w).is x e.2) with
 | some j=>obtain ⟨M,hp,_⟩:=List.findIdx?_eq_some_iff_getElem.mp hq;have hx:x∈ks:=d.mem.mpr ⟨_,ce M,hp⟩;have q:=h s.heap iq (Heap.SameBut.refl a s.heap) ⟨es,ep,t,o,by rw [show xL ks x=ks from Aa hx]; exact d⟩;dsimp only;exact iw (iw q)
 | none=>
  have hx:x∉ks:=λz=>by obtain ⟨e,N,q⟩:=d.mem.mp z;have:=List.findIdx?_eq_none_iff.mp hq e N;rw [q] at this;cases this
  dsimp only;have hp:=layNew_perm t es ((T.kd prog w).hash x) v;have n:=layNew_fits t es ((T.kd prog w).hash x) v;have hl:=qfq t es ((T.kd prog w).hash x) v;generalize layNew t es ((T.kd prog w).hash x) v=L at hp n hl ⊢;obtain ⟨c,u,K,P⟩:=L;dsimp only at hp n hl ⊢;rw [Array.toList_push] at hp;have l:∀ f:lL,f.fits c.size=ir->f.led=t.led->(T.pb=ir->f.plain=iq)->iy (model prog w) A (do
    storeSet a c f
    if (!K&&f.tooFull)=ir then do
      (match (l5 f c (df c.size)).2.2 with | true=>rule "set.scan.the-table-gave-way" | false=>pure ())
      storeSet a (l5 f c (df c.size)).1 (l5 f c (df c.size)).2.1
      pure (ii ir)
     else pure (ii ir)) (λr s'=>∃ h',s'={ s with heap:=h' }/\r=ii ir/\bJ a s.heap h'/\SetK T prog w h' a (xL ks x)) E s:=by
   intro f f2 I p2;have d2:=d.more m hx hr hp f2 I p2;refine im (wpAny_storeSet_of o rfl ?_ (lF d2.bd));have i:=qd1 (es':=c) (t':=f) o;have y:=bt s.heap a (g9 c f);split
   ·have C:=relayAll_perm f c (df c.size);have D:=relayAll_fits f c (df c.size);have B:=Uk f c (df c.size);generalize l5 f c (df c.size)=R at C D B ⊢;obtain ⟨p,H,W⟩:=R;dsimp only at C D B ⊢;have J:=d.more m hx hr (C.trans hp) D (B.1.trans I) (λb=>B.2 (p2 b));refine im ?_;have go:iy (model prog w) A (storeSet a p H >>= λ_=>pure (ii ir)) (λr s'=>∃ h',s'={ s with heap:=h' }/\r=ii ir/\bJ a s.heap h'/\SetK T prog w h' a (xL ks x)) E { s with heap:=s.heap.update a (g9 c f) }:=
     im (wpAny_storeSet_of i rfl (iw ⟨_,rfl,rfl,y.trans (bt _ a _),p,_,H,qd1 i,J⟩) (lF J.bd))
    cases W;·exact iw go
    ·exact lq go
   ·exact iw ⟨_,rfl,rfl,y,c,_,f,i,d2⟩
  have fin:∀ (r:Option Bool) (s':iu),(∃ h',s'={ s with heap:=h' }/\r=ii ir/\bJ a s.heap h'/\SetK T prog w h' a (xL ks x)) ->iy (model prog w) A (match r with | some k=>pure k | none=>setAddHashedIn a v ((T.kd prog w).hash x) 99999) Q E s':=by rintro r s' ⟨h',rfl,rfl,y,S⟩;exact iw (h h' ir y S)
  have O:∀ (b:Bool) {g:iu} {G:Unit->iu->Prop},G () g->iy (model prog w) A (match b with | true=>rule "set.scan.the-table-gave-way" | false=>pure ()) G E g:=λb g G q=>by
   cases b;·exact iw q
   ·exact lq q
  refine im (O _ ?_);cases e1:u.plain with
  | true=>rw [Aa rfl,hashByValue_scannable 8 (T.sc m)];refine im (iw ?_);exact j6 (l (if plainKind v=ir then u else { u with plain:=iq }) (by split; exact n; exact SetTable.fits_plain_off n) (by split <;> exact hl) (λb=>by rw [T.pl m b]; rfl)) fin λ_ _ z=>z
  | false=>rw [Ab (by simp)];refine im (iw ?_);exact j6 (l u n hl λ_=>e1) fin λ_ _ z=>z
end
theorem qcM [DecidableEq κ] (ks:List κ) (x:κ):(xL ks x).length<=ks.length+1:=by
 unfold xL;split
 ·lia
 ·rw [ae];exact ax _
theorem xn [DecidableEq κ]:∀ (l ks:List κ),(l.foldl xL ks).length<=ks.length+l.length
 | [],ks=>ax _
 | x::l,ks=>by
  have h1:=xn l (xL ks x);have h2:=qcM ks x;rw [cy,ah]
  lia
theorem YL:(xL:List Str->Str->List Str)=xm:=by funext ks x;unfold xL xm;congr
theorem gF (l ks:List Str):(l.foldl xm ks).length<=ks.length+l.length:=by rw [<-YL];exact xn l ks
theorem SetK.at [DecidableEq κ] {T:KP κ} {ks:List κ} (S:SetK T prog w h a ks) (k:∀ o,h.get? a=ii o->h'.get? a=ii o):SetK T prog w h' a ks:=
 let ⟨es,ep,t,j,d⟩:=S; ⟨es,ep,t,k _ j,d⟩
section
variable [DecidableEq κ] {T:KP κ} {R:Result->iu->Prop} {I:Addr} {fp wr:List Addr} {P:Nat->ip->Prop} {St:Nat->iu->Prop}
theorem qcN {G:Array mD->Array mD->Prop} (W:WalksS prog w A.in1 I fp wr G n P St) (S:Addr) (j:S∉fp) (ss:List κ) (hn:ss.length=n) (J:∀ i v,P i v->∃ x,ss[i]?=ii x/\(T.kd prog w).is x v=ir) (d:n+1 < lJ):∀ (k i:Nat) (s:iu),n - i=k->i<=n->St i s->SetK T prog w s.heap S ((ss.take i).foldl xL []) ->(∀ s',Moved (S::wr) G s s'->SetK T prog w s'.heap S (ss.foldl xL [])->R (.ok (.ret .none)) s')->lz (model prog w) A (.builtin "set.update.loop" ⟨[.ref S,.ref I],[]⟩) R s:=by
 have E:S∉wr:=λh=>j (W.sub _ h);have up:∀ b∈wr,b∈S::wr:=λb d=>af _ d;intro k
 induction k with
 | zero=>
  intro i s q hi c r C;have y:i=n:=by lia
  subst y;refine iQ F.entry_set_update_loop ?_;rw [bx ei _]; show iy _ A.in1 (k9 (.ref I) >>= _) _ _ s;refine im (W.done s _ _ c λs' g=>iw (C s' (g.mono up) ?_));rw [List.take_of_length_le (fW hn)] at r;exact r.at λo e=>g.heap S o E e
 | succ k H=>
  intro i s q hi c r C;have t:i < n:=by lia
  refine iQ F.entry_set_update_loop ?_;rw [bx ei _]; show iy _ A.in1 (k9 (.ref I) >>= _) _ _ s;refine im (W.item i s _ _ t c λv s' K a g=>?_);obtain ⟨x,hx,q⟩:=J i v K;have B:SetK T prog w s'.heap S ((ss.take i).foldl xL []):=r.at λo e=>g.heap S o E e;show iy _ A.in1 (holding [v] (setAdd S v) >>= _) _ _ s';refine im (iP ?_);unfold setAdd;refine iP (im ((T.kd prog w).pyHash q ?_));have m:((ss.take i).foldl xL []).length+1 < lJ:=by
   have h1:=xn (ss.take i) [];rw [fg,aQ] at h1
   lia
  refine qfs (s:={ s' with toks:=s'.toks+1 }) q B m λh' b D l=>?_;have e2:xL ((ss.take i).foldl xL []) x=(ss.take (i+1)).foldl xL []:=by rw [List.take_add_one,hx,List.foldl_append];rfl
  rw [e2] at l;refine iw ⟨j9 ei _,H (i+1) _ (by lia) t (W.frame _ s' _ _ a (fJ _) λb d o e=>?_) l λu f p=>?_⟩;·rw [D.2 b λz:b=S=>j (z ▸ d)];exact e
  ·refine C u (Moved.trans W.gtrans ((g.mono up).then_heap (fJ _) λb o d e=>?_) f) p;rw [D.2 b λz:b=S=>d (z ▸ aq)];exact e
end
section
variable [DecidableEq κ] {T:KP κ}
abbrev qhw (w:iG):Obj:=kE #[] 0 (.fresh 0 0 (!(w.params.followText "set-order")))
theorem GS (e:h.get? a=ii (qhw w)):SetK T prog w h a []:=
 ⟨_,_,_,e,⟨λe i=>by simp at i,by simp,cm,by decide,by rfl,rfl,λ_ z=>absurd rfl z⟩⟩
theorem qft (a:ip) {Q₁:ip->iu->Prop} (h:Q₁ (.ref s.heap.objs.size) { s with heap:=s.heap.push (qhw w) }):lz (model prog w) A (.call (.builtin "set.__new__") ⟨[.type "set",a],[]⟩) (wants Q₁ E) s:=by
 refine codeAny_of_tree ?_; show iy _ A.in1 (do checkBuiltinCall "set.__new__" ⟨[.type "set",a],[]⟩; again (.builtin "set.__new__" ⟨[.type "set",a],[]⟩)) _ _ s;refine im (ml (PySem.F.newCall_set_1 a) (iw ⟨j9 PySem.F.plain_set_new _,iQ PySem.F.entry_set_new ?_⟩)); rw [bx PySem.F.plain_set_new _];unfold Builtin.«set.__new__» Builtin.Frozenset.newClass; have b:=sub_set_self; obtain ⟨hp,g,d,tk,os⟩:=s; dsimp only; wp_walk
 refine iS (iw ?_); dsimp only; simp only [newObj];exact im (wpAny_alloc (iw (iw h)))
theorem Ul:isSubtype (.type "tuple") (.type "set")=pure false:=by rw [lr]; kernel_rfl
theorem Qz:isSubtype (.type "tuple") (.type "frozenset")=pure false:=by rw [lr]; kernel_rfl
theorem qcO:∀ sk:SK,isSubtype (.type sk.cl) (.type "set")=pure iq
 | .l=>PySem.F.sub_list_set
 | .t=>Ul
theorem Um:∀ sk:SK,isSubtype (.type sk.cl) (.type "frozenset")=pure iq
 | .l=>PySem.F.sub_list_frozenset
 | .t=>Qz
theorem qhx (a:A.handled=ij) (sk:SK) (it l:Addr) (e:l≠it) (items:Array ip):Walks prog w A it [it,l] [it] items.size (λi v=>items[i]?=ii v) (λi h=>ItK h it l sk i/\SeqK h l sk items):=by
 cases sk with
 | l=>exact Walks.list a it l e items
 | t=>exact Walks.tuple a it l e items
theorem SeqK.ty:∀ {sk:SK},SeqK s.heap a sk xs->s.TypeIs (.ref a) sk.cl
 | .l,⟨o,e,c,_⟩=>⟨o,e,c⟩
 | .t,⟨o,e,c,_⟩=>⟨o,e,c⟩
theorem qkW {S:Addr} {ss:List κ} {Q:Unit->iu->Prop} (q:A.handled=ij) (k:SetK T prog w s.heap S []) (hl:SeqK s.heap l sk items) (hn:ss.length=items.size) (hi:∀ (i:Nat) (v:ip),items[i]?=ii v->∃ x,ss[i]?=ii x/\(T.kd prog w).is x v=ir) (j:items.size+1 < lJ) (g:l≠S)
  (h:∀ h' tk,SetK T prog w h' S (ss.foldl xL [])->(∀ b o,b≠S->s.heap.get? b=ii o->h'.get? b=ii o)->Q () { s with heap:=h',toks:=tk }) :
  iy (model prog w) A (cz "set.__init__" S (.ref l)) Q E s:=by
 have hT:=hl.ty;unfold cz;refine im (m:=Builtin.Frozenset.isAnySet _) ?_;unfold Builtin.Frozenset.isAnySet;refine im (i4 hT (qcO sk) ?_);refine i4 hT (Um sk) ?_;rw [Ab (by decide)];refine im (lg hT ?_);rw [Ab (by cases sk <;> decide)];refine im (qcJ hl ?_);have n:s.heap.objs.size≠S:=λz=>by obtain ⟨es,ep,t,p,_⟩:=k;exact cg _ (z ▸ ay p)
 have d:l≠s.heap.objs.size:=aD hl.lt;refine im (wpAny_runValue (qcN ((qhx (A:=A.in1) q sk _ l d items).toS) S ?_ ss hn hi j items.size 0 _ (by lia) (bh _) ⟨.of ⟨_,aj _ rfl,rfl,rfl⟩,hl.at λo e=>aa _ e⟩ ?_ ?_))
 ·intro z;rcases ac.mp z with z | z;·exact n z.symm
  ·exact g (aA.mp z).symm
 ·exact k.at λo e=>aa _ e
 ·intro s' c B;obtain ⟨h',g',d',f,a⟩:=s';have u:g'=s.gens:=c.gens;have y:d'=s.drawn:=c.drawn;have r:a=s.os:=c.os;subst u y r;refine iw (h h' f B λb o j e=>c.heap b o ?_ (aa _ e));intro z;rcases ac.mp z with z | z;·exact j z
  ·rw [aA.mp z] at e;exact cg _ (ay e)
set_option maxHeartbeats 3200000 in
theorem GT {l:Addr} {ks:List κ} {Q:ip->iu->Prop}
  (p:∀ (A1:iL) (K:Unit->iu->Prop) (C:ip->iu->Prop),A1.handled=A.handled->(∀ h' tk,SetK T prog w h' s.heap.objs.size ks->(∀ b o,s.heap.get? b=ii o->h'.get? b=ii o)->K () { s with heap:=h',toks:=tk }) ->iy (model prog w) A1 (cz "set.__init__" s.heap.objs.size (.ref l)) K C { s with heap:=s.heap.push (qhw w) })
  (h:∀ h' tk,SetK T prog w h' s.heap.objs.size ks->(∀ b o,s.heap.get? b=ii o->h'.get? b=ii o)->Q (.ref s.heap.objs.size) { s with heap:=h',toks:=tk }) :
  iy (model prog w) A (call (.type "set") [.ref l]) Q E s:=by
 have i:∀ {Q₁:ip->iu->Prop},Q₁ (.ref s.heap.objs.size) { s with heap:=s.heap.push (qhw w) }->lz (model prog w) A.in1 (.call (.builtin "set.__new__") ⟨[.type "set",.ref l],[]⟩) (wants Q₁ E) s:=λh=>qft (.ref l) h;unfold qhw kE at i p;generalize (!(w.params.followText "set-order"))=led at i p;obtain ⟨c,tl,q⟩:=bP.mro;have k:=bP.made;have n:=bP.sub;refine wpAny_call (codeAny_of_tree ?_); show iy _ _ (callAny (.type "set") _) _ _ _;refine iw ⟨Code.quiet_builtin _ (by decide +kernel),iQ PySem.F.entry_type_call ?_⟩; rw [Around.under_plain (weight_type_call_type "set" [.ref l] []) rfl];have h1:=bP.notType;have h2:=bP.canCreate;have v:=PySem.F.typeCall_set_1 (.ref l);repeat (any_goals (first | assumption | wp_step))
 refine lR (i (Q₁:=λobj f=>obj=.ref s.heap.objs.size/\f={ s with heap:=s.heap.push { cls:=.type "set",dict:=ij,data:=.set #[] 0 (.fresh 0 0 led) } }) ⟨rfl,rfl⟩) λr f hr=>?_;cases r with
 | error e=>exact hr
 | ok z=>
  cases z with
  | ret obj=>
   obtain ⟨rfl,rfl⟩:=hr;have S:(s.heap.push { cls:=.type "set",dict:=ij,data:=.set #[] 0 (.fresh 0 0 led) }).get? s.heap.objs.size=ii { cls:=.type "set",dict:=ij,data:=.set #[] 0 (.fresh 0 0 led) }:=aj _ rfl;have hT:fQ { s with heap:=s.heap.push { cls:=.type "set",dict:=ij,data:=.set #[] 0 (.fresh 0 0 led) } } (.ref s.heap.objs.size) "set":=⟨_,S,rfl⟩
   have t:=bP.init.lookup;have x:=bP.init.bind (.ref s.heap.objs.size);repeat (any_goals (first | assumption | wp_step))
   refine lR (codeAny_call_builtin (R:=wants (λr d=>r=.none/\∃ h' tk,d={ s with heap:=h',toks:=tk }/\SetK T prog w h' s.heap.objs.size ks/\(∀ b o,s.heap.get? b=ii o->h'.get? b=ii o)) E) bP.init.plain PySem.F.entry_set_init (check_set_init_1 hT ?_)) λj d a=>?_
   ·unfold Builtin.«set.__init__» noKeywords;generalize y:cz=U;wp_walk
    subst y;refine p _ _ _ rfl λh' tk B u=>?_;exact iw ⟨rfl,h',tk,rfl,B,u⟩
   ·cases j with
    | error e=>exact a
    | ok g=>
     cases g with
     | ret r=>
      obtain ⟨rfl,h',tk,rfl,B,m⟩:=a;repeat (any_goals (first | assumption | wp_step))
      exact h _ _ B m
     | _=>exact a.elim
  | _=>exact hr.elim
end
theorem xR {α:Type}:∀ {xs:List α} {i:Nat} (h:i < xs.length),(xs[i]::xs.eraseIdx i).Perm xs
 | [],_,h=>absurd h (Nat.not_lt_zero _)
 | x::xs,0,h=>cJ _
 | x::xs,i+1,h=>(List.Perm.swap _ _ _).trans ((xR (xs:=xs) (i:=i) (Nat.lt_of_succ_lt_succ h)).cons x)
variable {M:Model}
theorem Za {c:Source} {Q:Nat->iu->Prop} (hn:n≠0) (h:∀ i d',i < n->Q i { s with drawn:=d' }):iy M A (choose c n) Q E s:=
 λ_ _ _=>⟨hn,h _ _ (Nat.mod_lt _ (Nat.pos_of_ne_zero hn))⟩
variable {α:Type}
theorem GU:∀ (n:Nat) (xs:List α) (s:iu) {Q:List α->iu->Prop},n=xs.length->(∀ ys d',ys.Perm xs->Q ys { s with drawn:=d' })->iy M A (drawOrder n xs) Q E s
 | 0,xs,s,Q,hn,h=>by
  cases xs with
  | nil=>exact iw (h [] s.drawn (cJ _))
  | cons x l=>cases hn
 | n+1,[],s,Q,hn,h=>by cases hn
 | n+1,x::l,s,Q,hn,h=>by show iy M A (choose .order (x::l).length >>= _) Q E s;refine im (Za (by simp) λi d' hi=>?_);have e:(x::l)[i]?=ii (x::l)[i]:=aE hi;rw [e];refine im (GU n _ _ (by rw [List.length_eraseIdx_of_lt hi]; simp only [ah] at hn ⊢; lia) λys d2 hp=>iw (h _ d2 ?_));exact (hp.cons _).trans (xR hi)
theorem GV (next:Nat->Nat):∀ (f k:Nat) (left:List α) (out:Array α),f=left.length->(pickOrder.go next f k left out).toList.Perm (out.toList++left)
 | 0,k,left,out,hf=>by
  cases left with
  | nil=>rw [be];exact cJ _
  | cons x l=>cases hf
 | f+1,k,left,out,hf=>by have t:next k % left.length < left.length:=Nat.mod_lt _ (by lia);have e:left[next k % left.length]?=ii left[next k % left.length]:=aE t;unfold pickOrder.go;rw [e];refine (GV next f (k+1) _ _ (by rw [List.length_eraseIdx_of_lt t]; lia)).trans ?_;rw [Array.toList_push,aU];exact List.Perm.append_left _ (xR t)
theorem gG (next:Nat->Nat) (xs:Array α):(lE next xs).toList.Perm xs.toList:=by unfold lE;exact GV next _ _ _ _ (by simp)
noncomputable def ut (first:ip) (i:Nat) (a:Addr) (n ep:Nat):Obj:={ cls:=.type "set_iterator",data:=.fields #[first,iR i,.ref a,iR n,iR ep] }
theorem qS:Slot "set_iterator" "__next__" "set_iterator.__next__":=
 .of (owner := "set_iterator") (n := "__next__") (by rw [lj,iV]; kernel_rfl) (by decide +kernel) (by decide +kernel) (by decide +kernel) (by first | exact .inl (by decide +kernel) | exact .inr (by decide +kernel)) (by rw [lr]; kernel_rfl)
theorem zr:Slot "set_iterator" "__iter__" "set_iterator.__iter__":=
 .of (owner := "set_iterator") (n := "__iter__") (by rw [lj,iV]; kernel_rfl) (by decide +kernel) (by decide +kernel) (by decide +kernel) (by first | exact .inl (by decide +kernel) | exact .inr (by decide +kernel)) (by rw [lr]; kernel_rfl)
theorem vM (a:ip):argsOk "set_iterator.__next__" ⟨[a],[]⟩:=by unfold argsOk; kernel_rfl
theorem VA (a:ip):argsOk "set_iterator.__iter__" ⟨[a],[]⟩:=by unfold argsOk; kernel_rfl
theorem vg:entryFor table "set_iterator.__next__"=ii Builtin.«set_iterator.__next__»:=entryFor_of_tree (by kernel_rfl)
theorem JE:entryFor table "set_iterator.__iter__"=ii Builtin.«dict_keyiterator.__iter__»:=entryFor_alias (id' := "dict_keyiterator.__iter__") (by kernel_rfl) rfl (by decide +kernel) (by kernel_rfl)
theorem VB:entryFor table "set.__iter__"=ii Builtin.«frozenset.__iter__»:=entryFor_alias (id' := "frozenset.__iter__") (by kernel_rfl) rfl (by decide +kernel) (by kernel_rfl)
variable {ks:List Str} {p:Addr} {b:Bool} {ps:List Nat}
section
theorem vB (d:w.params.followText "set-order"=b):({ program:=(model prog w).prog,params:=(model prog w).w.params }:Setting).params.followText "set-order"=b:=d
theorem VC {sl nx:Nat} {x:ip} {Q:Option ip->iu->Prop} (hi:s.heap.get? it=ii (ut (iR sl) i a n ep)) (g:s.heap.get? a=ii (kE es ep t)) (h:t.fits es.size=ir) (z:es.size=n)
  (hn:∀ (A1:iL) (K:Option (ip×Nat)->iu->Prop) (R:ip->iu->Prop),K (ii (x,nx)) s->iy (model prog w) A1 (md a sl i ep) K R s)
  (c:∀ h',h'.get? it=ii (ut (iR nx) (i+1) a n ep)->bJ it s.heap h'->Q (ii x) { s with heap:=h' }):iy (model prog w) A (k9 (.ref it)) Q E s:=by
 have hT:s.TypeIs (.ref it) "set_iterator":=⟨_,hi,rfl⟩
 unfold k9;refine im (j8 (iK (name:=bg "__next__") hT qS (iJ qS hT vg ?_ (vM _))));show iy _ _ (fieldsOf (.ref it) >>= _) _ _ s;refine im (lV hi rfl ?_);show iy _ _ (mC a >>= _) _ _ s;refine im (k8 g rfl h ?_);rw [Ab (by rw [z]; simp)];show iy _ _ (md a sl i ep >>= _) _ _ s;refine im (hn _ _ _ ?_);show iy _ _ (setField (.ref it) 0 (iR nx) >>= _) _ _ s;refine im (i8 hi rfl (by simp) ?_);have h1:(s.heap.update it (Obj.mapFields (·.setIfInBounds 0 (iR nx)))).get? it=ii (ut (iR nx) i a n ep):=bp _ hi rfl;refine im (i8 h1 rfl (by simp) (iw ⟨x,rfl,iw (c _ ?_ ((bt ..).trans (bt ..)))⟩));exact bp _ h1 rfl
theorem VD {sl:Nat} {Q:Option ip->iu->Prop} (h:A.handled=ij) (hi:s.heap.get? it=ii (ut (iR sl) i a n ep)) (g:s.heap.get? a=ii (kE es ep t)) (f:t.fits es.size=ir) (z:es.size=n)
  (hn:∀ (A1:iL) (K:Option (ip×Nat)->iu->Prop) (R:ip->iu->Prop),K ij s->iy (model prog w) A1 (md a sl i ep) K R s)
  (c:∀ h',f9 it s.heap h'->Q ij { s with heap:=h' }):iy (model prog w) A (k9 (.ref it)) Q E s:=by
 have hT:s.TypeIs (.ref it) "set_iterator":=⟨_,hi,rfl⟩
 unfold k9;refine im (j8 (iK (name:=bg "__next__") hT qS (iJ qS hT vg ?_ (vM _))));show iy _ _ (fieldsOf (.ref it) >>= _) _ _ s;refine im (lV hi rfl ?_);show iy _ _ (mC a >>= _) _ _ s;refine im (k8 g rfl f ?_);rw [Ab (by rw [z]; simp)];show iy _ _ (md a sl i ep >>= _) _ _ s;refine im (hn _ _ _ ?_);show iy _ _ (setField (.ref it) 2 cw >>= _) _ _ s;refine im (i8 hi rfl (by simp) ?_); show iy _ _ (newExc (.type "StopIteration") [] >>= _) _ _ _;refine im ?_; simp only [newExc,newTuple]; refine im (iH ?_ (by size_fits));refine im (m:=lu _ _) (ml (a:=cw) (by first | rfl | (simp only [lu]; rfl)) ?_); refine iH ?_ (by size_fits); simp only [raiseNew];refine im (wpAny_handled ?_); first | rw [show A.in1.handled=ij from h] | rw [h]
 refine im (iw (wpAny_throw ?_)); refine im (i4 (T := "StopIteration") (b:=ir) ⟨_,aj _ rfl,rfl⟩ isSubtype_stop ?_);exact iw (c _ (((bt ..).extBut.push _).push _))
theorem Zb {pl m:Nat} {hx:Int} {x:ip} {ps:Array ip} {Q:Option ip->iu->Prop} (hi:s.heap.get? it=ii (ut (.ref p) i a n ep)) (g:s.heap.get? a=ii (kE es ep t)) (h:t.fits es.size=ir) (z:es.size=n)
  (hp:s.heap.get? p=ii { cls:=.type "tuple",data:=.seq ps m }) (l:ps[i]?=ii (iR pl)) (hx:es[pl]?=ii (hx,x))
  (c:∀ h',h'.get? it=ii (ut (.ref p) (i+1) a n ep)->bJ it s.heap h'->Q (ii x) { s with heap:=h' }):iy (model prog w) A (k9 (.ref it)) Q E s:=by
 have hT:s.TypeIs (.ref it) "set_iterator":=⟨_,hi,rfl⟩
 unfold k9;refine im (j8 (iK (name:=bg "__next__") hT qS (iJ qS hT vg ?_ (vM _))));show iy _ _ (fieldsOf (.ref it) >>= _) _ _ s;refine im (lV hi rfl ?_);show iy _ _ (mC a >>= _) _ _ s;refine im (k8 g rfl h ?_);rw [Ab (by rw [z]; simp)];show iy _ _ (seqItems? (.ref p) >>= _) _ _ s;refine im (iM hp rfl ?_);dsimp only;rw [show ps[Int.toNat (i:Int)]?=ii (iR pl) from l];show iy _ _ (setNextDrawn a pl ep >>= _) _ _ s;refine im ?_;unfold setNextDrawn;refine im (iU g rfl h ?_);dsimp only;rw [Ab (by simp),hx];refine iw ?_;show iy _ _ (setField (.ref it) 1 (iR (i+1)) >>= _) _ _ s;refine im (i8 hi rfl (by simp) (iw ⟨x,rfl,iw (c _ ?_ (bt ..))⟩));exact bp _ hi rfl
theorem GW {m:Nat} {ps:Array ip} {Q:Option ip->iu->Prop} (h:A.handled=ij) (hi:s.heap.get? it=ii (ut (.ref p) i a n ep)) (g:s.heap.get? a=ii (kE es ep t)) (f:t.fits es.size=ir) (z:es.size=n)
  (hp:s.heap.get? p=ii { cls:=.type "tuple",data:=.seq ps m }) (l:ps[i]?=ij)
  (c:∀ h',f9 it s.heap h'->Q ij { s with heap:=h' }):iy (model prog w) A (k9 (.ref it)) Q E s:=by
 have hT:s.TypeIs (.ref it) "set_iterator":=⟨_,hi,rfl⟩
 unfold k9;refine im (j8 (iK (name:=bg "__next__") hT qS (iJ qS hT vg ?_ (vM _))));show iy _ _ (fieldsOf (.ref it) >>= _) _ _ s;refine im (lV hi rfl ?_);show iy _ _ (mC a >>= _) _ _ s;refine im (k8 g rfl f ?_);rw [Ab (by rw [z]; simp)];show iy _ _ (seqItems? (.ref p) >>= _) _ _ s;refine im (iM hp rfl ?_);dsimp only;rw [show ps[Int.toNat (i:Int)]?=ij from l];show iy _ _ (setField (.ref it) 0 (iR 0) >>= _) _ _ s;refine im (i8 hi rfl (by simp) ?_);have h1:(s.heap.update it (Obj.mapFields (·.setIfInBounds 0 (iR 0)))).get? it=ii (ut (iR 0) i a n ep):=bp _ hi rfl;refine im (i8 h1 rfl (by simp) ?_); show iy _ _ (newExc (.type "StopIteration") [] >>= _) _ _ _;refine im ?_; simp only [newExc,newTuple]; refine im (iH ?_ (by size_fits));refine im (m:=lu _ _) (ml (a:=cw) (by first | rfl | (simp only [lu]; rfl)) ?_); refine iH ?_ (by size_fits); simp only [raiseNew];refine im (wpAny_handled ?_); first | rw [show A.in1.handled=ij from h] | rw [h]
 refine im (iw (wpAny_throw ?_)); refine im (i4 (T := "StopIteration") (b:=ir) ⟨_,aj _ rfl,rfl⟩ isSubtype_stop ?_);exact iw (c _ (((((bt ..).trans (bt ..))).extBut.push _).push _))
theorem gH {Q:ip->iu->Prop} (hi:s.heap.get? it=ii o) (d:o.cls=.type "set_iterator") (h:Q (.ref it) s):iy (model prog w) A (mB (.ref it)) Q E s:=by
 have hT:s.TypeIs (.ref it) "set_iterator":=⟨_,hi,d⟩
 refine wpAny_pyIter_slot hT zr (iJ zr hT JE ?_ (VA _)); show iy _ _ (ret (.ref it)) _ _ s;exact iw ⟨_,rfl, "set_iterator",_,hT,qS.lookup,h⟩
theorem GX {ep:Nat} (u:A.handled=ij) (d:w.params.followText "set-order"=ir) (f:t.fits es.size=ir) (j:a≠it):Walks prog w A it [it,a] [it] es.size (λi v=>((lE (w.params.setOrder a ep) es).toList.map (·.2))[i]?=ii v) (λi h=>h.get? it=ii (ut (iR 0) i a es.size ep)/\h.get? a=ii (kE es ep t)) where
 sub:=λb d=>by simp at d; simp [d]
 frame:=λ_ _ _ st p=>⟨p it (by simp) _ st.1,p a (by simp) _ st.2⟩
 item:=λi s Q E hi st c=>by
  have n:(lE (w.params.setOrder a ep) es).size=es.size:=by have:=(gG (w.params.setOrder a ep) es).length_eq;simpa using this
  have k:i < (lE (w.params.setOrder a ep) es).size:=by lia
  obtain ⟨e,he⟩:∃ e,(lE (w.params.setOrder a ep) es)[i]?=ii e:=⟨_,bL k⟩
  refine VC (x:=e.2) (nx:=0) st.1 st.2 f rfl (λA1 K R q=>?_) λh' l y=>c e.2 h' s.toks ?_ ⟨l,?_⟩ λb o g r=>?_;·unfold md;refine im (iU st.2 rfl f ?_);dsimp only;refine im (m:=lW) (im (iS (iw ?_)));rw [vB d,Aa rfl,Ab (by simp)];refine im ?_;unfold setWalk;refine im (iU st.2 rfl f ?_);dsimp only;refine im (m:=lW) (im (iS (iw ?_)));rw [vB d,Aa rfl];refine im (iS (iw ?_));refine iw ?_;rw [show (lE ((⟨(model prog w).prog,(model prog w).w.params⟩:Setting).params.setOrder a ep) es)[i]?=ii e from he];exact q
  ·rw [aG,bF,he];rfl
  ·rw [y.2 a j];exact st.2
  ·rw [y.2 b (λz=>g (by simp [z]))];exact r
 done:=λs Q E st c=>by
  have n:(lE (w.params.setOrder a ep) es).size=es.size:=by have:=(gG (w.params.setOrder a ep) es).length_eq;simpa using this
  refine VD u st.1 st.2 f rfl (λA1 K R q=>?_) λh' G=>c h' s.toks λb o g r=>G b o (λz=>g (by simp [z])) r;unfold md;refine im (iU st.2 rfl f ?_);dsimp only;refine im (m:=lW) (im (iS (iw ?_)));rw [vB d,Aa rfl,Ab (by simp)];refine im ?_;unfold setWalk;refine im (iU st.2 rfl f ?_);dsimp only;refine im (m:=lW) (im (iS (iw ?_)));rw [vB d,Aa rfl];refine im (iS (iw ?_));refine iw ?_;rw [show (lE ((⟨(model prog w).prog,(model prog w).w.params⟩:Setting).params.setOrder a ep) es)[es.size]?=ij from dn (fW n)];exact q
 self:=λi s Q E st c=>gH st.1 rfl c
noncomputable def yE (t:lL) (i:Nat):Nat:=if i=0 then 0 else t.place.getD 0 0+1
theorem VE (j k:Nat):bv #[j] k=if j < k then 1 else 0:=by unfold bv;show bv.go #[j] k 1 0 1=_;unfold bv.go;rw [Aa (by lia)];show (if (#[j]:Array Nat).getD 0 k < k then bv.go #[j] k 0 1 1 else bv.go #[j] k 0 0 0)=_;show (if j < k then bv.go #[j] k 0 1 1 else bv.go #[j] k 0 0 0)=_;split <;> rfl
theorem YM {Q:Option (ip×Nat)->iu->Prop} (d:w.params.followText "set-order"=iq) (f:t.fits es.size=ir) (hl:t.led=ir) (c:es.size<=1) (g:s.heap.get? a=ii (kE es ep t)) (hi:i<=es.size)
  (q:Q (match es[i]? with | some e=>ii (e.2,yE t (i+1)) | none=>ij) s):iy (model prog w) A (md a (yE t i) i ep) Q E s:=by
 have h:t.place.size=es.size:=by have:=f;simp only [SetTable.fits,aS,beq_iff_eq] at this;exact this.1
 unfold md;refine im (iU g rfl f ?_);dsimp only;refine im (m:=lW) (im (iS (iw ?_)));rw [vB d,Ab (by simp)];show iy _ _ (if (!t.plain&&decide (es.size > 1))=ir then _ else _) _ _ _;rw [Ab (by simp; intro _; lia)];refine im ?_;show iy _ _ (if (!t.led&&!es.isEmpty)=ir then _ else _) _ _ _;rw [hl,Ab (by simp)];refine iw (iw ?_);have e:(match es[bv t.place (yE t i)]?,t.place[bv t.place (yE t i)]? with | some (_,x),ii j=>ii (x,j+1) | _,_=>ij)=(match es[i]? with | some e=>ii (e.2,yE t (i+1)) | none=>ij:Option (ip×Nat)):=by
  obtain ⟨l⟩:=es;obtain ⟨k,⟨pl⟩,u,fi,le,o,pn⟩:=t;cases l with
  | nil=>simp
  | cons e0 l=>
   cases l with
   | cons _ _=>exact absurd c (by simp)
   | nil=>
    cases pl with
    | nil=>exact absurd h (by simp)
    | cons j pl=>
     cases pl with
     | cons _ _=>exact absurd h (by simp)
     | nil=>
      have b:i=0\/i=1:=by simp at hi; lia
      rcases b with rfl | rfl;·show (match (#[e0]:Array (Int×ip))[bv #[j] 0]?,(#[j]:Array Nat)[bv #[j] 0]? with | some (_,x),ii j=>ii (x,j+1) | _,_=>ij)=ii (e0.2,j+1);rw [VE,Ab (by lia)];rfl
      ·show (match (#[e0]:Array (Int×ip))[bv #[j] (j+1)]?,(#[j]:Array Nat)[bv #[j] (j+1)]? with | some (_,x),ii j=>ii (x,j+1) | _,_=>ij)=ij;rw [VE,Aa (by lia)];rfl
 exact Eq.mp (congrArg (λz=>Q z s) e.symm) q
theorem qcP {ep:Nat} (m:A.handled=ij) (d:w.params.followText "set-order"=iq) (f:t.fits es.size=ir) (hl:t.led=ir) (j:es.size<=1) (e:a≠it):Walks prog w A it [it,a] [it] es.size (λi v=>(es.toList.map (·.2))[i]?=ii v) (λi h=>h.get? it=ii (ut (iR (yE t i)) i a es.size ep)/\h.get? a=ii (kE es ep t)) where
 sub:=λb d=>by simp at d; simp [d]
 frame:=λ_ _ _ st k=>⟨k it (by simp) _ st.1,k a (by simp) _ st.2⟩
 item:=λi s Q E hi st c=>by
  have l:es[i]?=ii es[i]:=bL hi;refine VC (x:=es[i].2) (nx:=yE t (i+1)) st.1 st.2 f rfl (λA1 K R q=>YM d f hl j st.2 (dJ hi) (by rw [l]; exact q)) λh' g y=>c es[i].2 h' s.toks ?_ ⟨g,?_⟩ λb o n r=>?_;·rw [aG,bF,l];rfl
  ·rw [y.2 a e];exact st.2
  ·rw [y.2 b (λz=>n (by simp [z]))];exact r
 done:=λs Q E st c=>VD m st.1 st.2 f rfl (λA1 K R q=>YM d f hl j st.2 (ax _) (by rw [dn (ax _)]; exact q)) λh' G=>c h' s.toks λb o n r=>G b o (λz=>n (by simp [z])) r
 self:=λi s Q E st c=>gH st.1 rfl c
noncomputable def qhy (es:Array (Int×ip)) (ps:List Nat):List ip:=ps.map λk=>(es[k]?.map (·.2)).getD .none
theorem GY (h:ps.Perm (aP es.size)):(qhy es ps).Perm (es.toList.map (·.2)):=by
 have e:qhy es (aP es.size)=es.toList.map (·.2):=by
  apply eX;intro i;unfold qhy;rw [aG,aG,show es.toList[i]?=es[i]? from bF];by_cases hi:i < es.size;·rw [List.getElem?_range hi,bL hi];simp [hi]
  ·rw [bY (by rw [cu]; lia),dn (by lia)];rfl
 rw [<-e];exact h.map _
theorem Zc {ep m:Nat} (B:A.handled=ij) (j:t.fits es.size=ir) (hp:ps.Perm (aP es.size)) (f:a≠it) (e:p≠it):Walks prog w A it [it,a,p] [it] es.size (λi v=>(qhy es ps)[i]?=ii v) (λi h=>h.get? it=ii (ut (.ref p) i a es.size ep)/\h.get? a=ii (kE es ep t)/\h.get? p=ii { cls:=.type "tuple",data:=.seq (ps.map λ(i:Nat)=>iR i).toArray m }) where
 sub:=λb u=>by simp at u; simp [u]
 frame:=λ_ _ _ st k=>⟨k it (by simp) _ st.1,k a (by simp) _ st.2.1,k p (by simp) _ st.2.2⟩
 item:=λi s Q E hi st c=>by
  have n:ps.length=es.size:=by rw [hp.length_eq,cu]
  have l:i < ps.length:=by lia
  have k:ps[i] < es.size:=cj.mp (hp.mem_iff.mp (ce l));have q:es[ps[i]]?=ii es[ps[i]]:=bL k;refine Zb (x:=es[ps[i]].2) (hx:=es[ps[i]].1) (pl:=ps[i]) st.1 st.2.1 j rfl st.2.2 ?_ q λh' g y=>c es[ps[i]].2 h' s.toks ?_ ⟨g,?_,?_⟩ λb o d r=>?_;·rw [e9,aG,aE l];rfl
  ·unfold qhy;rw [aG,aE l];simp [q]
  ·rw [y.2 a f];exact st.2.1
  ·rw [y.2 p e];exact st.2.2
  ·rw [y.2 b (λz=>d (by simp [z]))];exact r
 done:=λs Q E st c=>by
  have n:ps.length=es.size:=by rw [hp.length_eq,cu]
  refine GW B st.1 st.2.1 j rfl st.2.2 ?_ λh' G=>c h' s.toks λb o d r=>G b o (λz=>d (by simp [z])) r;rw [e9,bY (by simp; lia)]
 self:=λi s Q E st c=>gH st.1 rfl c
theorem qcQ {A1:iL} {Q:ip->iu->Prop} (n:A1.handled=ij) (g:s.heap.get? a=ii (kE es ep t)) (d:SetG KpS prog w es t ks)
  (q:∀ (it:Addr) (h':Heap) (dr:Drawn) (ord:List ip) (fp:List Addr) (St:Nat->Heap->Prop),(∀ b o,s.heap.get? b=ii o->h'.get? b=ii o)->ord.Perm (es.toList.map (·.2))->Walks prog w A1 it fp [it] es.size (λi v=>ord[i]?=ii v) St->St 0 h' ->(∀ b∈fp,b=a\/s.heap.objs.size<=b)->s.heap.objs.size<=it->Q (.ref it) { s with heap:=h',drawn:=dr }):iy (model prog w) A (mB (.ref a)) Q E s:=by
 have hT:s.TypeIs (.ref a) "set":=⟨_,g,rfl⟩
 have f:a < s.heap.objs.size:=ay g;refine wpAny_pyIter_slot hT PySem.F.slot_set_iter (iJ PySem.F.slot_set_iter hT VB ?_ (PySem.F.args_set_iter_1 _));show iy _ _ (Builtin.Frozenset.sizeOf a >>= _) _ _ s;refine im (m:=Builtin.Frozenset.sizeOf a) (im (k8 g rfl d.fits (iw ?_)));refine im (m:=setDrawn a) ?_;unfold setDrawn;refine im (iU g rfl d.fits ?_);dsimp only;refine im (m:=lW) (im (iS (iw ?_)));refine iw ?_;cases h:w.params.followText "set-order" with
 | true=>
  rw [vB h,Ab (by simp)];refine im (iw ?_);refine im (m:=setEpoch a) (wpAny_setEpoch_of g rfl d.fits ?_);refine im (iH (iw ⟨_,rfl, "set_iterator",_,⟨_,aj _ rfl,rfl⟩,qS.lookup,?_⟩));refine q _ _ s.drawn _ _ _ (λb o e=>aa _ e) ((gG (w.params.setOrder a ep) es).map _) (GX n h d.fits (aD f)) ⟨aj _ rfl,aa _ g⟩ ?_ (ax _);intro b h;rcases ac.mp h with z | z;·exact .inr (z ▸ ax _)
  ·exact .inl (aA.mp z)
 | false=>
  have k:t.led=true:=by rw [d.led,h]; rfl
  rw [vB h];show iy _ _ (if (!false&&(!t.plain&&decide (es.size > 1)))=ir then _ else _) _ _ _;by_cases hn:es.size<=1
  ·rw [Ab (by simp; intro _; lia)];refine im (iw ?_);refine im (m:=setEpoch a) (wpAny_setEpoch_of g rfl d.fits ?_);refine im (iH (iw ⟨_,rfl, "set_iterator",_,⟨_,aj _ rfl,rfl⟩,qS.lookup,?_⟩));refine q _ _ s.drawn _ _ _ (λb o e=>aa _ e) (cJ _) (qcP n h d.fits k hn (aD f)) ⟨aj _ rfl,aa _ g⟩ ?_ (ax _);intro b h;rcases ac.mp h with z | z;·exact .inr (z ▸ ax _)
   ·exact .inl (aA.mp z)
  ·have l:t.plain=false:=d.plain rfl λz=>by
    have r:=d.size;rw [z,aQ] at r
    lia
   rw [Aa (by rw [l]; simp; lia)];refine im (GU es.size (aP es.size) s (by simp) λps dr hp=>?_);have j:ps.length=es.size:=by rw [hp.length_eq,cu]
   have hsz:(ps.map λ(i:Nat)=>iR i).length<=sizeLine:=by rw [aB,j]; exact lF d.bd
   refine im (wpAny_newTuple ?_ hsz);refine im (m:=setEpoch a) (wpAny_setEpoch_of (aa _ g) rfl d.fits ?_);refine im (iH (iw ⟨_,rfl, "set_iterator",_,⟨_,aj _ rfl,rfl⟩,qS.lookup,?_⟩));have c:s.heap.objs.size < (s.heap.push ({ cls:=.type "tuple",data:=.seq (ps.map λ(i:Nat)=>iR i).toArray }:Obj)).objs.size:=by rw [bu]; exact Nat.lt_succ_self _
   refine q _ _ dr _ _ _ (λb o e=>aa _ (aa _ e)) (GY hp) (Zc (p:=s.heap.objs.size) n d.fits hp (aD (eJ f c)) (aD c)) ⟨aj _ rfl,aa _ (aa _ g),aa _ (aj _ rfl)⟩ ?_ (dJ c);intro b h;rcases ac.mp h with z | z;·exact .inr (z ▸ dJ c)
   ·rcases ac.mp z with z | z;·exact .inl z
    ·exact .inr (fW (aA.mp z).symm)
end
section
theorem qcR {ord:List ip} {acc:Array ip} (hl:ord.length=n) (h:mH (λi v=>ord[i]?=ii v) acc n):acc.toList=ord:=by
 apply eX;intro i;rw [show acc.toList[i]?=acc[i]? from bF];by_cases hi:i < acc.size;·rw [bL hi];exact (h.2 i _ (bL hi)).symm
 ·rw [dn (by lia),bY (by have:=h.1; lia)]
theorem Uo {Q:List ip->iu->Prop} (L:A.handled=ij) (I:s.heap.get? a=ii (kE es ep t)) (d:SetG KpS prog w es t ks)
  (M:∀ h' dr tk ord,(∀ b o,s.heap.get? b=ii o->h'.get? b=ii o)->ord.Perm (es.toList.map (·.2))->Q ord { s with heap:=h',drawn:=dr,toks:=tk }):iy (model prog w) A (collect (.ref a)) Q E s:=by
 have n:a < s.heap.objs.size:=ay I;unfold collect;refine im (wpAny_runValue (iQ PySem.F.entry_proto_collect ?_)); rw [bx PySem.F.plain_proto_collect _];show iy _ A.in1 (newList [] >>= λl=>again (.builtin "list.__iadd__" ⟨[l,.ref a],[]⟩)) _ _ s; refine im (iH ?_);refine iw ⟨j9 PySem.F.plain_list_iadd _,iQ PySem.F.entry_list_iadd ?_⟩; rw [bx PySem.F.plain_list_iadd _];have g:(s.heap.push { cls:=.type "list",data:=.seq ([]:List ip).toArray }).get? a=ii (kE es ep t):=aa _ I;have hT:fQ { s with heap:=s.heap.push { cls:=.type "list",data:=.seq ([]:List ip).toArray } } (.ref a) "set":=⟨_,g,rfl⟩
 show iy _ A.in1 (bo (.ref s.heap.objs.size) (.ref a) (.ref s.heap.objs.size)) _ _ _; unfold bo;refine im (lg hT ?_);have h1:cU (.ref s.heap.objs.size) (.ref a)=false:=by simp [cU,ci n]
 rw [Ab (by rw [h1]; decide)];refine im (qcQ (A1:=A.in1) L g d λit h2 dr ord fp St k2 hp W B D hit=>?_);have u:h2.get? s.heap.objs.size=ii { cls:=.type "list",data:=.seq ([]:List ip).toArray }:=k2 _ _ (aj _ rfl);have C:h2.get? a=ii (kE es ep t):=k2 _ _ g;refine im (iP ?_);unfold Builtin.List.listLengthHint;have i:fQ { s with heap:=h2,drawn:=dr } (.ref a) "set":=⟨_,C,rfl⟩
 refine im (wpAny_specialOf i PySem.F.slot_set_len.lookup ?_)
 (generalize f:("set.__len__":String)=id0; (fail_if_success (clear f id0)); wp_delta; rw [show splitId id0=ii ("set", "__len__") from by subst f; decide +kernel]; subst f)
 refine im (i4 (b:=ir) i (by rw [lr]; kernel_rfl) ?_);refine im (m:=typeOf (.ref a)) (lg i ?_);refine iw ?_;show iy _ A.in1 (rule "list.extend.makes-room" >>= λ_=>Builtin.List.listTouch (.ref s.heap.objs.size) >>= λ_=>again (.builtin "list.extend.loop" ⟨[.ref s.heap.objs.size,.ref it,.ref s.heap.objs.size],[]⟩)) _ _ _;refine im (lq (im ?_)); show iy _ A.in1 (updateSeq s.heap.objs.size (·.push .none) >>= λ_=>updateSeq s.heap.objs.size (·.pop)) _ _ _;refine im (wpAny_updateSeq u rfl ?_); have h:=bp (bQ (·.push cw)) u rfl;refine wpAny_updateSeq h rfl ?_; have j:=bp (bQ (·.pop)) h rfl;have k:(s.heap.push ({ cls:=.type "list",data:=.seq ([]:List ip).toArray }:Obj)).objs.size=s.heap.objs.size+1:=bu ..;have oth:∀ b o,b≠s.heap.objs.size->h2.get? b=ii o->((h2.update s.heap.objs.size (bQ (·.push cw))).update s.heap.objs.size (bQ (·.pop))).get? b=ii o:=λb o c e=>(dm _ _ (bw c)).trans ((dm _ _ (bw c)).trans e);have H:s.heap.objs.size∉fp:=λz=>by
  rcases D _ z with q | q;·exact ci n q
  ·exact Nat.not_succ_le_self _ (k ▸ q)
 have p:ord.length=es.size:=by rw [hp.length_eq];simp
 refine iw ⟨j9 PySem.F.plain_extend_loop _,codeAny_extend_loopS W.toS (lF d.bd) _ H _ es.size 0 _ _ _ rfl (bh _) (W.frame 0 h2 _ B λb c o e=>oth b o (λz=>H (z ▸ c)) e) j (ItemsOf.nil _) λs' K T v G r=>?_⟩;show iy _ A (load s.heap.objs.size >>= _) _ _ s';refine im (wpAny_load G (iw ?_));rw [qcR p r];obtain ⟨h',g',d',x,y⟩:=s';have O:g'=s.gens:=v.gens;have P:d'=dr:=v.drawn;have N:y=s.os:=v.os;subst O P N;refine M h' d' x ord (λb o e=>?_) hp;have c:=ay e;refine v.heap b o (λz=>?_) (oth b o (aD c) (k2 b o (aa _ e)));rcases ac.mp z with z | z;·exact aD c z
 ·have J:s.heap.objs.size+1<=it:=k ▸ hit;rw [<-aA.mp z] at J;exact cg _ (eJ c J)
theorem Zd {Q:ip->iu->Prop} (q:A.handled=ij) (S:SetK KpS prog w s.heap a ks) (j:ks.length < 64)
  (u:∀ (h1 h':Heap) dr tk vs e ss,(∀ b o,s.heap.get? b=ii o->h1.get? b=ii o)->(∀ b o,h1.get? b=ii o->h'.get? b=ii o)->h'.get? h1.objs.size=ii (iT "list" vs e)->mh vs.toList ss->ss.Perm ks->sortedS ss=ir->Q (.ref h1.objs.size) { s with heap:=h',drawn:=dr,toks:=tk }) :
  iy (model prog w) A (call (.builtin "sorted") [.ref a]) Q E s:=by
 obtain ⟨es,ep,t,r,d⟩:=S;refine dR kind_sorted plain_sorted entry_sorted (args_sorted1 _) ?_; unfold Builtin.«sorted»;refine im (m:=checkCount "sorted" 1 1 _) (iw ?_);refine im (Uo (by exact q) r d λh1 dr tk ord k1 hp=>?_);have c:mh ord (ord.map strOf):=strsAre_map ord λv p=>by obtain ⟨e,i,rfl⟩:=aw.mp (hp.mem_iff.mp p);exact qhv d.el i
 have h:(ord.map strOf).Perm ks:=(hp.map strOf).trans (by rw [bH]; exact d.perm);have n:ord.length=ks.length:=by have:=h.length_eq;rwa [aB] at this
 refine im (lZ ?_ (by rw [n,iF]; lia));have Y:(h1.push (iT "list" ord.toArray 0)).get? h1.objs.size=ii (iT "list" ord.toArray 0):=aj _ rfl;refine im (iP (iJ slot_list_sort (s:={ s with heap:=h1.push (iT "list" ord.toArray 0),drawn:=dr,toks:=tk }) ⟨_,Y,rfl⟩ entry_list_sort (list_sort_treeK strKind_oneLt Y c.keysOf (λv₁ k rest e=>keyKind_strs (by rw [<-e]; exact c)) (by rw [n]; exact j) λg z y=>⟨_,rfl,?_⟩) (args_list_sort _)));obtain ⟨f,b1,b2,x⟩:=sorted_out_str c z y;obtain ⟨e,i⟩:=sortedHeap_at (out:=(arrOf g).map (·.2)) Y;refine iw ⟨_,rfl,u h1 _ dr tk _ e f k1 (λb o G=>?_) i b1 (b2.trans h) x⟩;have l:=ay G;rw [sortedHeap_old (aD l) (by rw [bu]; exact cr l)];exact aa _ G
end
section
theorem VF {Q:ip->iu->Prop} (hit:s.heap.IsTupleIter it l i) (hl:s.heap.IsTuple l items) (hx:items[i]?=ii x)
  (c:∀ h',h'.IsTupleIter it l (i+1)->bJ it s.heap h'->Q x { s with heap:=h' }):iy (model prog w) A (bi (.ref it)) Q E s:=by
 obtain ⟨o,j,d,hd⟩:=id hit;obtain ⟨ol,h,_,n,a⟩:=hl;unfold bi;refine im (iK (name:=bg "__next__") hit.typeIs bU (iJ bU hit.typeIs PySem.F.entry_tuple_iterator_next ?_ (PySem.F.args_tuple_iterator_next_1 _))); show iy _ _ (field (.ref it) 0 >>= _) _ _ s;refine im (iO j hd (x:=.ref l) rfl ?_); show iy _ _ (if (aX l == cw)=ir then _ else _) _ _ s;rw [Ab (show ¬((aX l == cw)=ir) from bC)]; show iy _ _ (field (.ref it) 1 >>= _) _ _ s;refine im (iO j hd (x:=.int i 0) rfl ?_); show iy _ _ (seqItems? (.ref l) >>= _) _ _ s;refine im (iM h a ?_); simp only [Int.toNat_natCast,hx];refine im (i8 j hd (by simp) (iw ⟨x,rfl,iw (c _ ?_ (bt ..))⟩)); exact ⟨_,bp _ j (Obj.isFreed_of_fields (Obj.data_mapFields hd _)),(Obj.cls_mapFields ..).trans d,by rw [Obj.data_mapFields hd]; simp [iR]⟩
theorem zS {Q:ip->iu->Prop} (c:A.handled=ij) (hit:s.heap.IsTupleIter it l i) (hl:s.heap.IsTuple l items) (hx:items[i]?=ij)
  (k:∀ h' e,f9 it s.heap h'->(∃ o,h'.get? e=ii o/\o.cls=.type "StopIteration")->E (.ref e) { s with heap:=h' }):iy (model prog w) A (bi (.ref it)) Q E s:=by
 obtain ⟨o,j,d,hd⟩:=id hit;obtain ⟨ol,h,_,n,b⟩:=hl;unfold bi;refine im (iK (name:=bg "__next__") hit.typeIs bU (iJ bU hit.typeIs PySem.F.entry_tuple_iterator_next ?_ (PySem.F.args_tuple_iterator_next_1 _))); show iy _ _ (field (.ref it) 0 >>= _) _ _ s;refine im (iO j hd (x:=.ref l) rfl ?_); show iy _ _ (if (aX l == cw)=ir then _ else _) _ _ s;rw [Ab (show ¬((aX l == cw)=ir) from bC)]; show iy _ _ (field (.ref it) 1 >>= _) _ _ s;refine im (iO j hd (x:=.int i 0) rfl ?_); show iy _ _ (seqItems? (.ref l) >>= _) _ _ s;refine im (iM h b ?_); simp only [Int.toNat_natCast,hx];refine im (lq (im (i8 j hd (by simp) ?_))); show iy _ _ (newExc (.type "StopIteration") [] >>= _) _ _ _;refine im ?_; simp only [newExc,newTuple]; refine im (iH ?_ (by size_fits));refine im (m:=lu _ _) (ml (a:=cw) (by first | rfl | (simp only [lu]; rfl)) ?_); refine iH ?_ (by size_fits); simp only [raiseNew];refine im (wpAny_handled ?_); first | rw [show A.in1.handled=ij from c] | rw [c]
 refine im (iw (wpAny_throw ?_)); exact k _ _ (((bt ..).extBut.push _).push _) ⟨_,aj _ rfl,rfl⟩
theorem Up (f:A.handled=ij) (it l:Addr) (d:l≠it) (items:Array ip):Draws prog w A it [it,l] items.size (λi v=>items[i]?=ii v) (λi h=>h.IsTupleIter it l i/\h.IsTuple l items) where
 live:=λ_ _ st=>let ⟨o,j,_⟩:=st.1; ⟨o,j⟩
 frame:=λ_ _ _ st k=>⟨st.1.at λo e=>k it (by simp) o e,let ⟨o,e,c⟩:=st.2; ⟨o,k l (by simp) o e,c⟩⟩
 item:=λi s Q E hi st g=>by refine VF st.1 st.2 (x:=items[i]) (by simp [hi]) λh' b a=>g _ h' s.toks (by simp [hi]) ⟨b,?_⟩ a;obtain ⟨o,e,c⟩:=st.2;exact ⟨o,(a.2 l d).trans e,c⟩
 done:=λs Q E st m=>zS f st.1 st.2 (by simp) m
structure Apart2 (z TI TO i1 i2:Addr) (fp1 fp2:List Addr):Prop where
 TIz:TI≠z
 TOz:TO≠z
 i1z:i1≠z
 i2z:i2≠z
 TITO:TI≠TO
 TIi1:TI≠i1
 TIi2:TI≠i2
 TOi1:TO≠i1
 TOi2:TO≠i2
 i12:i1≠i2
 z1:z∉fp1
 z2:z∉fp2
 o1:TO∉fp1
 o2:TO∉fp2
 a12:i1∉fp2
 a21:i2∉fp1
variable {z TI TO i1 i2:Addr} {fp1 fp2:List Addr} {n1 n2:Nat} {P1 P2:Nat->ip->Prop} {S1 S2:Nat->Heap->Prop} {a b:ip}
theorem qcS {Q:ip->iu->Prop} (D:Apart2 z TI TO i1 i2 fp1 fp2) (F:Draws prog w A i1 fp1 n1 P1 S1) (Z:Draws prog w A i2 fp2 n2 P2 S2)
  (V:lX s.heap z TI TO .none) (Y:k6 s.heap TI (.ref i1) (.ref i2)) (X:k6 s.heap TO a b) (h1:S1 i s.heap) (h2:S2 i s.heap) (l1:i < n1) (l2:i < n2)
  (hQ:∀ x y h' tk,P1 i x->P2 i y->lX h' z TI TO (iR s.heap.objs.size)->k6 h' TO x y->S1 (i+1) h'->S2 (i+1) h'->k6 h' s.heap.objs.size x y ->(∀ c o,c≠z->c≠TO->c≠i1->c≠i2->s.heap.get? c=ii o->h'.get? c=ii o)->Q (.ref s.heap.objs.size) { s with heap:=h',toks:=tk }) :
  iy (model prog w) A (Builtin.«zip.__next__» ⟨[.ref z],[]⟩) (λfin s'=>∃ v,fin=.done (.ret v)/\Q v s') E s:=by
 show iy _ _ (field (.ref z) 2 >>= _) _ _ _; refine im (iO V rfl (x:=.bool iq) rfl ?_);show iy _ _ (field (.ref z) 3 >>= _) _ _ _; refine im (iO V rfl (x:=.ref TI) rfl ?_); refine im (iM Y rfl ?_);show iy _ _ (bM (.ref z) >>= _) _ _ _; refine im ?_; unfold bM;refine im (iO V rfl (x:=.none) rfl (iw ?_)); simp only [if_true];refine im (lq ?_); refine im (iO V rfl (x:=.ref TO) rfl ?_);refine im (i9 V (by simp) λh₁ r k=>?_); replace r:lX h₁ z TI TO .ellipsis:=r;refine im ?_; simp only [dL,List.zipIdx_nil,fY,List.forIn_nil];refine im (im (l0 ?_)); show iy _ _ (bi (.ref i1) >>= _) _ _ _;refine im (F.item i _ _ _ l1 (F.frame _ _ _ h1 λc C o e=>k.extBut _ _ (λq=>D.z1 (q ▸ C)) e) λx U W hx N j=>iw ?_);have B:k6 U TO a b:=(j.2 _ D.TOi1).trans (k.extBut _ _ D.TOz X);refine im (iM B rfl ?_); refine im (wpAny_updateSeq_pair B λT m g=>?_);replace m:k6 T TO x b:=m; refine im (mm (iw ?_));refine im (im (l0 ?_)); show iy _ _ (bi (.ref i2) >>= _) _ _ _;refine im (Z.item i _ _ _ l2 (Z.frame _ _ _ h2 λc C o e=>(g.extBut _ _ (λq=>D.o2 (q ▸ C)) ((j.2 _ (λq=>D.a12 (q ▸ C))).trans (k.extBut _ _ (λq=>D.z2 (q ▸ C)) e)))) λy S L hy M f=>iw ?_);have u:k6 S TO x b:=(f.2 _ D.TOi2).trans m;refine im (iM u rfl ?_); refine im (wpAny_updateSeq_pair u λp h d=>?_);replace h:k6 p TO x y:=h; refine im (mm (iw (iw ?_)));refine im (iM h rfl ?_); refine im (wpAny_newTuple ?_);have hsz:p.objs.size=s.heap.objs.size:=by rw [d.1,f.1,g.1,j.1,k.1]
 have G:lX p z TI TO .ellipsis:=d.extBut _ _ D.TOz.symm ((f.2 _ D.i2z.symm).trans (g.extBut _ _ D.TOz.symm ((j.2 _ D.i1z.symm).trans r)));have P:∀ c o,c≠z->c≠TO->c≠i1->c≠i2->s.heap.get? c=ii o->p.get? c=ii o:=λc o c1 c2 c3 c4 e=>d.extBut _ _ c2 ((f.2 _ c4).trans (g.extBut _ _ c2 ((j.2 _ c3).trans (k.extBut _ _ c1 e))));have K:z < p.objs.size:=ay G;show iy _ _ (Builtin.SmallTypes.ownedTupleHandOut (.ref z) (.ref p.objs.size) >>= _) _ _ _; refine im ?_; unfold Builtin.SmallTypes.ownedTupleHandOut;have O:lX (p.push { cls:=.type "tuple",data:=.seq #[x,y] }) z TI TO .ellipsis:=aa _ G;refine im (i9 O (by simp) λR n I=>?_); replace n:lX R z TI TO (iR p.objs.size):=n;refine i9 n (by simp) λt l H=>?_; replace l:lX t z TI TO (iR p.objs.size):=l;have up:∀ c o,c≠z->p.get? c=ii o->t.get? c=ii o:=λc o c1 e=>H.extBut _ _ c1 (I.extBut _ _ c1 (aa _ e));have J:k6 t p.objs.size x y:=H.extBut _ _ (ci K) (I.extBut _ _ (ci K) (aj _ rfl));rw [hsz] at l J;refine iw ⟨_,rfl,?_⟩;show Q (.ref p.objs.size) _;rw [hsz];refine hQ x y t L hx hy l (up _ _ D.TOz h) (F.frame _ _ _ N λc C o e=>up _ _ (λq=>D.z1 (q ▸ C)) (d.extBut _ _ (λq=>D.o1 (q ▸ C)) ((f.2 _ (λq=>D.a21 (q ▸ C))).trans (g.extBut _ _ (λq=>D.o1 (q ▸ C)) e))))
  (Z.frame _ _ _ M λc C o e=>up _ _ (λq=>D.z2 (q ▸ C)) (d.extBut _ _ (λq=>D.o2 (q ▸ C)) e)) J λc o c1 c2 c3 c4 e=>up c o c1 (P c o c1 c2 c3 c4 e)
theorem qfu {Q:Fin->iu->Prop} (D:Apart2 z TI TO i1 i2 fp1 fp2) (F:Draws prog w A i1 fp1 n1 P1 S1) (Z:Draws prog w A i2 fp2 n2 P2 S2)
  (y:lX s.heap z TI TO .none) (Y:k6 s.heap TI (.ref i1) (.ref i2)) (X:k6 s.heap TO a b) (h1:S1 i s.heap) (h2:S2 i s.heap) (C:i=n1\/(i < n1/\i=n2))
  (L:∀ h' tk e,(∀ c o,c≠z->c≠TO->c≠i1->c≠i2->s.heap.get? c=ii o->h'.get? c=ii o)->(∃ o,h'.get? e=ii o/\o.cls=.type "StopIteration")->E (.ref e) { s with heap:=h',toks:=tk }) :
  iy (model prog w) A (Builtin.«zip.__next__» ⟨[.ref z],[]⟩) Q E s:=by
 show iy _ _ (field (.ref z) 2 >>= _) _ _ _; refine im (iO y rfl (x:=.bool iq) rfl ?_);show iy _ _ (field (.ref z) 3 >>= _) _ _ _; refine im (iO y rfl (x:=.ref TI) rfl ?_); refine im (iM Y rfl ?_);show iy _ _ (bM (.ref z) >>= _) _ _ _; refine im ?_; unfold bM;refine im (iO y rfl (x:=.none) rfl (iw ?_)); simp only [if_true];refine im (lq ?_); refine im (iO y rfl (x:=.ref TO) rfl ?_);refine im (i9 y (by simp) λh₁ r k=>?_); replace r:lX h₁ z TI TO .ellipsis:=r;refine im ?_; simp only [dL,List.zipIdx_nil,fY,List.forIn_nil];refine im (im (l0 ?_)); show iy _ _ (bi (.ref i1) >>= _) _ _ _;have f1:S1 i h₁:=F.frame _ _ _ h1 λc G o e=>k.extBut _ _ (λq=>D.z1 (q ▸ G)) e;rcases C with rfl | ⟨hlt,rfl⟩
 ·refine im (F.done _ _ _ f1 λu e j J=>?_);obtain ⟨I,h,K⟩:=J;have f:lX u z TI TO .ellipsis:=j _ _ D.i1z.symm r;have p:e≠z:=λx=>by subst x; rw [f] at h; cases h; simp at K
  exact i9 f (by simp) λn _ g=>L n s.toks e (λc o c1 _ c3 _ x=>g.extBut _ _ c1 (j _ _ c3 (k.extBut _ _ c1 x))) ⟨I,g.extBut _ _ p h,K⟩
 ·refine im (F.item i _ _ _ hlt f1 λx u W hx N j=>iw ?_);have B:k6 u TO a b:=(j.2 _ D.TOi1).trans (k.extBut _ _ D.TOz X);refine im (iM B rfl ?_); refine im (wpAny_updateSeq_pair B λn H g=>?_);refine im (mm (iw ?_)); refine im (im (l0 ?_)); show iy _ _ (bi (.ref i2) >>= _) _ _ _;refine im (Z.done _ _ _ (Z.frame _ _ _ h2 λc G o e=>(g.extBut _ _ (λq=>D.o2 (q ▸ G)) ((j.2 _ (λq=>D.a12 (q ▸ G))).trans (k.extBut _ _ (λq=>D.z2 (q ▸ G)) e)))) λv e m J=>?_);obtain ⟨I,h,K⟩:=J;have d:lX v z TI TO .ellipsis:=m _ _ D.i2z.symm (g.extBut _ _ D.TOz.symm ((j.2 _ D.i1z.symm).trans r));have p:e≠z:=λx=>by subst x; rw [d] at h; cases h; simp at K
  exact i9 d (by simp) λt _ l=>L t W e (λc o c1 c2 c3 c4 x=>l.extBut _ _ c1 (m _ _ c4 (g.extBut _ _ c2 ((j.2 _ c3).trans (k.extBut _ _ c1 x))))) ⟨I,l.extBut _ _ p h,K⟩
theorem Uq {Q:Option ip->iu->Prop} (D:Apart2 z TI TO i1 i2 fp1 fp2) (j:Draws prog w A.in1 i1 fp1 n1 P1 S1) (Z:Draws prog w A.in1 i2 fp2 n2 P2 S2)
  (h:lX s.heap z TI TO .none) (Y:k6 s.heap TI (.ref i1) (.ref i2)) (X:k6 s.heap TO a b) (h1:S1 i s.heap) (h2:S2 i s.heap) (d:i < n1) (l:i < n2)
  (e:∀ x y h' tk,P1 i x->P2 i y->lX h' z TI TO (iR s.heap.objs.size)->k6 h' TO x y->S1 (i+1) h'->S2 (i+1) h'->k6 h' s.heap.objs.size x y ->(∀ c o,c≠z->c≠TO->c≠i1->c≠i2->s.heap.get? c=ii o->h'.get? c=ii o)->Q (ii (.ref s.heap.objs.size)) { s with heap:=h',toks:=tk }):iy (model prog w) A (k9 (.ref z)) Q E s:=by
 have hT:s.TypeIs (.ref z) "zip":=⟨_,h,rfl⟩
 unfold k9;exact im (j8 (iK (name:=bg "__next__") hT dD (iJ dD hT PySem.F.entry_zip_next
  (qcS D j Z h Y X h1 h2 d l λx y h' tk m k g q p a6 f a8=>iw (e x y h' tk m k g q p a6 f a8)) (PySem.F.args_zip_next_1 _))))
theorem Ze {Q:Option ip->iu->Prop} (D:Apart2 z TI TO i1 i2 fp1 fp2) (l:Draws prog w A.in1 i1 fp1 n1 P1 S1) (Z:Draws prog w A.in1 i2 fp2 n2 P2 S2)
  (h:lX s.heap z TI TO .none) (Y:k6 s.heap TI (.ref i1) (.ref i2)) (X:k6 s.heap TO a b) (h1:S1 i s.heap) (h2:S2 i s.heap) (C:i=n1\/(i < n1/\i=n2))
  (g:∀ h' tk,(∀ c o,c≠z->c≠TO->c≠i1->c≠i2->s.heap.get? c=ii o->h'.get? c=ii o)->Q ij { s with heap:=h',toks:=tk }):iy (model prog w) A (k9 (.ref z)) Q E s:=by
 have hT:s.TypeIs (.ref z) "zip":=⟨_,h,rfl⟩
 unfold k9;refine im (j8 (iK (name:=bg "__next__") hT dD (iJ dD hT PySem.F.entry_zip_next (qfu D l Z h Y X h1 h2 C λh' tk e k d=>?_) (PySem.F.args_zip_next_1 _))));obtain ⟨o,j,f⟩:=d;refine im (i4 (T := "StopIteration") (b:=ir) ⟨o,j,f⟩ isSubtype_stop ?_);exact iw (g _ _ k)
end
section
theorem QV (a:A.handled=ij) (k:SK) (it l:Addr) (e:l≠it) (items:Array ip):Draws prog w A it [it,l] items.size (λi v=>items[i]?=ii v) (λi h=>ItK h it l k i/\SeqK h l k items):=by
 cases k with
 | l=>exact Draws.list a it l e items
 | t=>exact Up a it l e items
end
abbrev zH1 (k1:SK) (h:Heap) (i:Addr):Heap:=h.push { cls:=.type k1.itc,data:=.fields #[.ref i,.int 0 0] }
abbrev zH2 (k1 k2:SK) (h:Heap) (i l:Addr):Heap:=(zH1 k1 h i).push { cls:=.type k2.itc,data:=.fields #[.ref l,.int 0 0] }
abbrev zH3 (k1 k2:SK) (h:Heap) (i l:Addr):Heap:=(zH2 k1 k2 h i l).push { cls:=.type "tuple",data:=.seq #[.ref h.objs.size,.ref (zH1 k1 h i).objs.size] }
abbrev zH4 (k1 k2:SK) (h:Heap) (i l:Addr):Heap:=(zH3 k1 k2 h i l).push { cls:=.type "tuple",data:=.seq #[.none,.none] }
abbrev zH5 (k1 k2:SK) (h:Heap) (i l:Addr):Heap:=(zH4 k1 k2 h i l).push { cls:=.type "zip",data:=.fields #[.none,.bool iq,.bool iq,.ref (zH2 k1 k2 h i l).objs.size,.ref (zH3 k1 k2 h i l).objs.size] }
theorem GZ (k1 k2:SK) (i l:Addr) (xs ys:Array ip):Meets (Builtin.«zip.__new__» ⟨[.type "zip",.ref i,.ref l],[]⟩) (λ_ R s=>SeqK s.heap i k1 xs/\SeqK s.heap l k2 ys/\R (.ok (.ret (.ref (zH4 k1 k2 s.heap i l).objs.size))) { s with heap:=zH5 k1 k2 s.heap i l }):=
 .of_wp λprog w A R s h=>by
  obtain ⟨hp,g,d,tk,os⟩:=s; obtain ⟨t,f,h⟩:=h;have c:=sub_zip;have b:SeqK (hZ ⟨hp,g,d,tk,os⟩) i k1 xs:=t;have a:SeqK (hZ ⟨hp.push { cls:=.type k1.itc,data:=.fields #[.ref i,.int 0 0] },g,d,tk,os⟩) l k2 ys:=SeqK.at f λo e=>aa _ e;wp_walk using qcJ b,qcJ a
  exact ⟨_,rfl,h⟩
variable {k1 k2:SK}
section
theorem qaa {i l:Addr} {ys:Array ip} {Q:ip->iu->Prop} (t:SeqK s.heap i k1 xs) (f:SeqK s.heap l k2 ys)
  (h:∀ h',lX h' (s.heap.objs.size+4) (s.heap.objs.size+2) (s.heap.objs.size+3) .none->k6 h' (s.heap.objs.size+2) (.ref s.heap.objs.size) (.ref (s.heap.objs.size+1)) ->k6 h' (s.heap.objs.size+3) .none .none->ItK h' s.heap.objs.size i k1 0->ItK h' (s.heap.objs.size+1) l k2 0->(∀ c o,s.heap.get? c=ii o->h'.get? c=ii o)->Q (.ref (s.heap.objs.size+4)) { s with heap:=h' }) :
  iy (model prog w) A (call (.type "zip") [.ref i,.ref l]) Q E s:=by
 refine callType_new PySem.F.called_zip (by decide) (PySem.F.typeCall_zip_2 _ _) (PySem.F.newCall_zip_2 _ _) (λobj=>PySem.F.args_object_init_3 obj _ _) PySem.F.entry_zip_new (GZ k1 k2 i l xs ys) ⟨t,f,?_⟩;have z1:(zH1 k1 s.heap i).objs.size=s.heap.objs.size+1:=bu ..;have z2:(zH2 k1 k2 s.heap i l).objs.size=s.heap.objs.size+2:=by rw [bu,z1]
 have z:(zH3 k1 k2 s.heap i l).objs.size=s.heap.objs.size+3:=by rw [bu,z2]
 have a:(zH4 k1 k2 s.heap i l).objs.size=s.heap.objs.size+4:=by rw [bu,z]
 have g:(zH5 k1 k2 s.heap i l).get? (zH4 k1 k2 s.heap i l).objs.size=ii _:=aj _ rfl;have L:(zH5 k1 k2 s.heap i l).get? (zH3 k1 k2 s.heap i l).objs.size=ii _:=aa _ (aj _ rfl);have U:(zH5 k1 k2 s.heap i l).get? (zH2 k1 k2 s.heap i l).objs.size=ii _:=aa _ (aa _ (aj _ rfl));have W:(zH5 k1 k2 s.heap i l).get? (zH1 k1 s.heap i).objs.size=ii _:=aa _ (aa _ (aa _ (aj _ rfl)));have g1:(zH5 k1 k2 s.heap i l).get? s.heap.objs.size=ii _:=aa _ (aa _ (aa _ (aa _ (aj _ rfl))));show _/\_;rw [z2,z,a] at g;rw [z1,z2] at U;rw [z] at L;rw [z1] at W;rw [a];exact ⟨⟨_,g,rfl⟩,h _ g U L (.of ⟨_,g1,rfl,rfl⟩) (.of ⟨_,W,rfl,rfl⟩) λc o x=>aa _ (aa _ (aa _ (aa _ (aa _ x))))⟩
end
variable {t':Nat}
section
theorem JF {ch:List Addr} (I:Inv X pins σ H s) (k:∀ b o,b∉ch->s.heap.get? b=ii o->h'.get? b=ii o) (h:∀ b∈ch,WK X pins H b):Inv X pins σ H { s with heap:=h',toks:=t' }:=by
 have t:∀ b u,H b=ii u->b∉ch:=λb u e z=>by rw [(h b z).1] at e;cases e
 refine I.step (g':=s.gens) (d':=s.drawn) (ch:=ch) (λb f=>?_) (λb o _ _ d e _=>k b o d e) (λb o _ _ d e _=>⟨o.slots,k b o d e⟩) (λ_ _ _ _ n=>n) (λb o d e=>⟨o,k b o d e⟩) (λ_ _ e=>e) (λ_ _ _ e=>e) (λb ps e=>⟨#[],by rw [e]; simp⟩) (λm a=>?_) (λb u e=>?_) I.bare;·obtain ⟨f0,f1,f2,f3,f4,g⟩:=h b f;exact ⟨f3,f1,f4,g⟩
 ·obtain ⟨o,es,ep,j,r⟩:=a;exact ⟨o,es,ep,k _ o (λz=>(h _ z).2.1 rfl) j,r⟩
 ·refine (I.hok b u e).stay (λc v d q=>k c v ?_ q) (λ_ q=>q) λ_ _ q=>q;rcases d with z | z
  ·rw [z];exact t b u e
  ·exact t c _ z
theorem qkX {d':Drawn} (I:Inv X pins σ H s) (k:∀ b u,s.heap.get? b=ii u->h'.get? b=ii u):Inv X pins σ H { s with heap:=h',drawn:=d',toks:=t' }:=by refine I.step (g':=s.gens) (d':=d') (ch:=[]) (λ_ z=>nomatch z) (λb o _ _ _ e _=>k b o e) (λb o _ _ _ e _=>⟨o.slots,k b o e⟩) (λ_ _ _ _ n=>n) (λb o _ e=>⟨o,k b o e⟩) (λ_ _ e=>e) (λ_ _ _ e=>e) (λb ps e=>⟨#[],by rw [e]; simp⟩) (λm c=>?_) (I.hok.kept k) I.bare;obtain ⟨o,es,ep,j,r⟩:=c;exact ⟨o,es,ep,k _ o j,r⟩
theorem xS {xs:List V} (I:Inv X pins σ H s):∀ {k:SK},SqK X.K H a k xs->∃ its:List ip,Vals xs its/\SeqK s.heap a k its.toArray
 | .l,h=>let ⟨its,r,p,_⟩:=I.list h; ⟨its,r,p.isList⟩
 | .t,h=>let ⟨its,r,p,_⟩:=I.tuple h; ⟨its,r,p⟩
end
noncomputable def Itz (K:Frag) (m k:Addr) (k1 k2:SK) (xs ys:List V):It:=
 ⟨λi H=>i < xs.length/\i < ys.length/\SqK K H m k1 xs/\SqK K H k k2 ys,λi H v H'=>∃ x y p,xs[i]?=ii x/\ys[i]?=ii y/\H p=ij/\v=.ref p/\H'=upd H p (.tup [x,y]),λi H=>(xs.length<=i\/ys.length<=i)/\SqK K H m k1 xs/\SqK K H k k2 ys⟩
variable {us:List ip}
theorem gI {xs:List V} (r:Vals xs us) (h:us[i]?=ii u):∃ x,xs[i]?=ii x/\RelV x u:=by
 have hi:i < us.length:=(aF.mp h).1;have hx:i < xs.length:=by rw [r.length]; exact hi
 obtain ⟨a,h1,h2⟩:=r.get (aE hx);rw [h] at h1;cases h1;exact ⟨xs[i],aE hx,h2⟩
theorem VG (b m k:Nat) (h1:m < b) (h2:k < b):Apart2 (b+4) (b+2) (b+3) b (b+1) [b,m] [b+1,k]:=by have ne:∀ x y:Nat,x≠y->x≠y:=λ_ _ h=>h;have n:∀ x a c:Nat,x≠a->x≠c->x∉[a,c]:=λx a c n1 n2 h=>(ac.mp h).elim n1 λh=>n2 (aA.mp h);exact ⟨ne _ _ (by lia),ne _ _ (by lia),ne _ _ (by lia),ne _ _ (by lia),ne _ _ (by lia),ne _ _ (by lia),ne _ _ (by lia),ne _ _ (by lia),ne _ _ (by lia),ne _ _ (by lia),n _ _ _ (by lia) (by lia),n _ _ _ (by lia) (by lia),n _ _ _ (by lia) (by lia),n _ _ _ (by lia) (by lia),n _ _ _ (by lia) (by lia),n _ _ _ (by lia) (by lia)⟩
theorem qcT {P:iE} {w:iG} {K:Frag} {L:List Expr} {x1} {pos:Pos} {k1 k2:SK} (b B r:Nat) (xs ys:List V) (h1:B < b) (h2:r < b):Turn P w K (.Tuple L x1 pos) (Itz K B r k1 k2 xs ys) [b+4,b+2,b+3,b,b+1] (b+4)
   (λi h=>lX h (b+4) (b+2) (b+3) .none/\k6 h (b+2) (.ref b) (.ref (b+1))/\(∃ a c,k6 h (b+3) a c)/\ItK h b B k1 i/\ItK h (b+1) r k2 i/\i<=xs.length/\i<=ys.length) where
 mem:=by simp
 obj:=λi h st c f=>by
  obtain ⟨p,hi,⟨a,c',U⟩,q,t,_⟩:=st;simp only [ac,aM,or_false] at f;rcases f with rfl | rfl | rfl | rfl | rfl;·exact ⟨_,p,λv z=>by cases z⟩
  ·exact ⟨_,hi,λv z=>by cases z⟩
  ·exact ⟨_,U,λv z=>by cases z⟩
  ·obtain ⟨o,e,_,d⟩:=q.obj;exact ⟨o,e,λv z=>by rw [d] at z; cases z⟩
  ·obtain ⟨o,e,_,d⟩:=t.obj;exact ⟨o,e,λv z=>by rw [d] at z; cases z⟩
 keep:=λi h h' st k=>by
  obtain ⟨p,hi,⟨a,c',U⟩,q,t,n⟩:=st;refine ⟨k _ (by simp) _ p,k _ (by simp) _ hi,⟨a,c',k _ (by simp) _ U⟩,?_,?_,n⟩;·obtain ⟨o,e,c,d⟩:=q.obj;exact .of ⟨o,k _ (by simp) _ e,c,d⟩
  ·obtain ⟨o,e,c,d⟩:=t.obj;exact .of ⟨o,k _ (by simp) _ e,c,d⟩
 item:=by
  intro X W T Z f i pins s σ H E I J st hg;subst W T Z;obtain ⟨p,Y,⟨oa,ob,O⟩,q,t,n1,n2⟩:=st;obtain ⟨S,F,q1,Q⟩:=hg;obtain ⟨l,r1,p1⟩:=xS I q1;obtain ⟨M,r2,p2⟩:=xS I Q;have e1:l.toArray.size=xs.length:=by rw [au,r1.length]
  have e2:M.toArray.size=ys.length:=by rw [au,r2.length]
  have D:=VG b B r h1 h2;have G:X.A.in1.handled=none:=I.ok.hd f;refine Uq (A:=X.A) D (QV (prog:=X.prog) (w:=X.w) (A:=X.A.in1) G k1 b B (aD h1) l.toArray) (QV (prog:=X.prog) (w:=X.w) (A:=X.A.in1) G k2 (b+1) r (aD (cr h2)) M.toArray) p Y O ⟨q,p1⟩ ⟨t,p2⟩ (by rw [e1]; exact S) (by rw [e2]; exact F) λu v h' tk hu hv z' N s1 s2 tp kp=>?_;refine ⟨_,rfl,wpAny_letOwnedTupleGo_zip z' λhq z2 j=>?_⟩;obtain ⟨x,hx,rx⟩:=gI r1 (by simpa using hu);obtain ⟨y,hy,ry⟩:=gI r2 (by simpa using hv);have hT:H s.heap.objs.size=none:=I.hok.fresh (ax _);have R:b+4 < s.heap.objs.size:=ay p;have fT:∀ c∈[b+4,b+2,b+3,b,b+1],c≠s.heap.objs.size:=λc f=>by
   simp only [ac,aM,or_false] at f;have C:b+4 < s.heap.objs.size:=R;generalize s.heap.objs.size=m at C;intro z
   lia
  have I1:Inv X pins σ (upd H s.heap.objs.size (.tup [x,y])) { s with heap:=s.heap.push { cls:=.type "tuple",data:=.seq #[u,v] } }:=
   I.laid (t':=s.toks) (λ_ _ e=>aa _ e) (ax _) ⟨⟨by simp only [ah,aQ]; rw [iF]; decide,_,aj _ rfl,rfl⟩,[u,v],.cons rx (.cons ry .nil),⟨_,aj _ rfl,rfl,_,rfl⟩⟩
  have I2:Inv X pins σ (upd H s.heap.objs.size (.tup [x,y])) { s with heap:=hq,toks:=tk }:=by
   refine JF (s:={ s with heap:=s.heap.push { cls:=.type "tuple",data:=.seq #[u,v] } }) (ch:=[b+4,b+2,b+3,b,b+1]) I1 (λc o g e=>?_) λc f=>⟨by rw [qA (fT c f)]; exact (J c f).1,(J c f).2⟩
   simp only [ac,aM,or_false,not_or] at g;rw [j.2 c g.1];by_cases ec:c=s.heap.objs.size;·subst ec;have e3:(s.heap.push ({ cls:=.type "tuple",data:=.seq #[u,v] }:Obj)).get? s.heap.objs.size=ii { cls:=.type "tuple",data:=.seq #[u,v] }:=aj _ rfl;rw [show (s.heap.push ({ cls:=.type "tuple",data:=.seq #[u,v] }:Obj)).get? s.heap.objs.size=ii o from e] at e3;rw [e3];exact tp
   ·have e4:s.heap.get? c=ii o:=by have:=e;rwa [show (s.heap.push ({ cls:=.type "tuple",data:=.seq #[u,v] }:Obj)).get? c=s.heap.get? c from eY _ _ _ ec] at this
    exact kp c o g.1 g.2.2.1 g.2.2.2.1 g.2.2.2.2 e4
  refine ⟨.ref s.heap.objs.size,_,I2,rfl,⟨x,y,_,hx,hy,hT,rfl,rfl⟩,⟨z2,?_,⟨u,v,?_⟩,?_,?_,S,F⟩,λc f=>by rw [qA (fT c f)]; exact (J c f).1⟩;·exact (j.2 _ D.TIz).trans (kp _ _ D.TIz D.TITO D.TIi1 D.TIi2 Y)
  ·exact (j.2 _ D.TOz).trans N
  ·obtain ⟨o,e,c,d⟩:=s1.1.obj;exact .of ⟨o,(j.2 _ D.i1z).trans e,c,d⟩
  ·obtain ⟨o,e,c,d⟩:=s2.1.obj;exact .of ⟨o,(j.2 _ D.i2z).trans e,c,d⟩
 done:=by
  intro X W T Z f i pins s σ H E I J st hg;subst W T Z;obtain ⟨p,Y,⟨oa,ob,O⟩,q,t,n1,n2⟩:=st;obtain ⟨S,q1,Q⟩:=hg;obtain ⟨l,r1,p1⟩:=xS I q1;obtain ⟨M,r2,p2⟩:=xS I Q;have e1:l.toArray.size=xs.length:=by rw [au,r1.length]
  have e2:M.toArray.size=ys.length:=by rw [au,r2.length]
  have D:=VG b B r h1 h2;have G:X.A.in1.handled=none:=I.ok.hd f;refine Ze (A:=X.A) D (QV (prog:=X.prog) (w:=X.w) (A:=X.A.in1) G k1 b B (aD h1) l.toArray) (QV (prog:=X.prog) (w:=X.w) (A:=X.A.in1) G k2 (b+1) r (aD (cr h2)) M.toArray) p Y O ⟨q,p1⟩ ⟨t,p2⟩ (by rw [e1,e2]; lia) λh' tk kp=>⟨rfl,JF (ch:=[b+4,b+2,b+3,b,b+1]) I (λc o g e=>?_) J⟩
  simp only [ac,aM,or_false,not_or] at g;exact kp c o g.1 g.2.2.1 g.2.2.2.1 g.2.2.2.2 e
 self:=λ_ _ _ _ _ st h=>wpAny_pyIter_zip st.1 h
theorem qab:iC "zip"=ii (.type "zip"):=by decide +kernel
variable {own:List Nat} {ma:Mo} {pos:Pos}
section
variable {a c:Expr} {fa fb:jl} {mb:Mo}
theorem qhz {ta:TA} {p tpos:Pos} {L:List Expr} {x1} (hg:Gl X "zip") (n:X.mg "zip"=ij) (o:PA X [a,c] ta) (j:iA [a,c] X.env=[(iq,eval a X.env),(iq,eval c X.env)]) (d:iA [c] X.env=[(iq,eval c X.env)]):PI X (.Tuple L x1 tpos) (.Call (.Name "zip" p) [a,c] [] pos) (λσ H R=>ta σ H λvs H1=>∃ m k k1 k2 xs ys,vs=[.ref m,.ref k]/\SqK X.K H1 m k1 xs/\SqK X.K H1 k k2 ys/\R (Itz X.K m k k1 k2 xs ys) H1):=by
 refine ⟨?_⟩;intro pins s σ H R I h;refine Call_ (yS I hg n qab (bG (thn (o pos pins s σ H _ I h) λus s1 ⟨vs,H1,f,r1,q1⟩=>?_) (by rw [j,d]) (by rw [d]; rfl)));obtain ⟨m,k,k1,k2,xs,ys,rfl,w1,w2,q⟩:=q1;obtain ⟨w,u,rfl,e1,e2⟩:=qb9 r1;cases e1;cases e2;obtain ⟨l,r,p1⟩:=xS f w1;obtain ⟨M,v,p2⟩:=xS f w2;refine qaa p1 p2 λh' z Y O i t kp=>?_;refine wpAny_pyIter_zip z ?_;refine ⟨s1.heap.objs.size+4,_,_,Itz X.K m k k1 k2 xs ys,H1,rfl,f.kept (t':=s1.toks) kp,qcT s1.heap.objs.size m k xs ys p1.lt p2.lt,⟨z,Y,⟨_,_,O⟩,i,t,bh _,bh _⟩,λb g=>?_,q⟩;have e:s1.heap.objs.size<=b:=by
  simp only [ac,aM,or_false] at g;rcases g with rfl | rfl | rfl | rfl | rfl;·exact dM _ _
  ·exact dM _ _
  ·exact dM _ _
  ·exact ax _
  ·exact dM _ _
 exact f.fpOk e (f.hok.fresh e)
theorem PoI.bindA {as:List AK} {o:Out (List D×Sl)} {k:List D×Sl->Out (List D×Sl)} {R:It->Hp->Prop} {Q:List V->Hp->Prop} (hp:PoI C own σ F H (o.bind k) R)
  (h:∀ vs F1 H1 ds ρ1,Rep C.K own F1 H1 σ ρ1->Chg (OA own σ) F H F1 H1->ArgV C.K H F1 H1 σ as vs ds->PoI C own σ F H (k (ds,ρ1)) R->Q vs H1):PoA C own as σ F H o Q:=by
 cases o with
 | ok p=>obtain ⟨ds,ρ1⟩:=p;exact λvs F1 H1 a c v=>h vs F1 H1 ds ρ1 a c v hp
 | exc e=>exact hp
 | bad=>exact hp.elim
noncomputable def KL (xs ys:List D):List D:=List.zipWith (λx y=>.tup [x,y]) xs ys
noncomputable def qd2 (fr:uj):uj:=λρ=>(fr ρ).bind λp=>match p.1 with
 | [x,y]=>(xf x).bind λxs=>(xf y).bind λys=>.ok (KL xs ys,p.2)
 | _=>.bad
theorem qd3 (h:Is K F v d) (e:xf d=.ok ds):∃ a k xs,v=.ref a/\(∀ H,Same F H->SqK K H a k xs)/\IsL K F xs ds:=by
 cases h with
 | @lst a xs ds' p t=>cases e;exact ⟨_,.l,_,rfl,λH s=>s.seq p,t⟩
 | @tup a xs ds' p t=>cases e;exact ⟨_,.t,_,rfl,λH s=>jj s p,t⟩
 | _=>cases e
theorem qhA {m k:Addr} {xs ys:List V} {es:List D} (p1:∀ H,Same F H->SqK K H m k1 xs) (p2:∀ H,Same F H->SqK K H k k2 ys) (c:IsL K F xs ds) (t:IsL K F ys es):ItIs K F (Itz K m k k1 k2 xs ys) (KL ds es) where
 go:=λi H hi s=>by unfold KL at hi;rw [fC] at hi;exact ⟨by rw [c.length]; lia,by rw [t.length]; lia,p1 H s,p2 H s⟩
 yld:=λi Fi H v H' d e s1 s2 y=>by
  obtain ⟨x,y,p,hx,C,hn,rfl,rfl⟩:=y;obtain ⟨d1,e1,i1⟩:=c.get hx;obtain ⟨d2,e2,i2⟩:=t.get C;have o:d=.tup [d1,d2]:=by unfold KL at e;rw [List.getElem?_zipWith,e1,e2] at e;exact (aK.inj e).symm
  subst o;obtain ⟨g1,W⟩:=vY (u:=.tup [x,y]) s2 hn;exact ⟨_,W,g1,.tup (.of qu) (.cons ((i1.mono s1).mono W.grow) (.cons ((i2.mono s1).mono W.grow) .nil))⟩
 stop:=λi H hi s=>by unfold KL at hi;rw [fC] at hi;exact ⟨by rw [c.length,t.length]; lia,p1 H s,p2 H s⟩
theorem qac {p tpos:Pos} {L:List Expr} {x1} (n:C.K=X.K) (hg:Gl X "zip") (m:X.mg "zip"=ij) (j:PE X a (tE C own ma fa)) (g:PE X c (tE C own mb fb)) (h1:ma≠.any:=by decide) (h2:mb≠.any:=by decide) (s:iA [a,c] X.env=[(iq,eval a X.env),(iq,eval c X.env)]:=by exact qck rfl rfl) (b:iA [c] X.env=[(iq,eval c X.env)]:=by exact qR rfl):PI X (.Tuple L x1 tpos) (.Call (.Name "zip" p) [a,c] [] pos) (tIt C own (qd2 (qb fa (qb fb qr)))):=by
 refine qcw (qhz hg m (qa j (qa g qd h2 (by rw [b]; rfl)) h1 (by rw [s,b])) s b) λσ H R ⟨F,ρ,f,h⟩=>⟨F,ρ,f,PoI.bindA h λvs F1 H1 ds ρ1 r c1 k h1=>?_⟩
 have i:=ArgV.isL (by decide) k;cases i with
 | nil=>exact h1.elim
 | @cons v d vs ds i1 i=>
  cases i with
  | nil=>exact h1.elim
  | @cons v2 d2 vs ds i2 i=>
   cases i with
   | cons=>exact h1.elim
   | nil=>
    have h1:PoI C own σ F H ((xf d).bind λxs=>(xf d2).bind λys=>.ok (KL xs ys,ρ1)) R:=h1;cases e1:xf d with
    | bad=>rw [e1] at h1; exact h1.elim
    | exc c=>cases d <;> cases e1
    | ok xs=>
     cases e2:xf d2 with
     | bad=>rw [e1,e2] at h1; exact h1.elim
     | exc c=>cases d2 <;> cases e2
     | ok ys=>rw [e1,e2] at h1;obtain ⟨o,k1,ws,rfl,p1,e⟩:=qd3 i1 e1;obtain ⟨l,k2,w,rfl,p2,t⟩:=qd3 i2 e2;refine ⟨o,l,k1,k2,ws,w,rfl,n ▸ p1 H1 r.sub,n ▸ p2 H1 r.sub,?_⟩;rw [<-n];exact h1 _ F1 H1 r c1 (qhA p1 p2 e t)
end
def leS (x y:Str):Prop:=¬y.cps.toList < x.cps.toList
noncomputable def qgp (x:Str):List Str->List Str
 | []=>[x]
 | y::l=>if vf y x=ir then y::qgp x l else x::y::l
noncomputable def kg:List Str->List Str
 | []=>[]
 | x::l=>qgp x (kg l)
variable {y:Str}
theorem gJ {x z:Str} (a:leS x y) (b:leS y z):leS x z:=List.le_trans (α:=Nat) a b
theorem VH (x y:Str):leS x y\/leS y x:=List.le_total (α:=Nat) x.cps.toList y.cps.toList
theorem JG {x:Str} (a:leS x y) (b:leS y x):x=y:=by have e:=List.le_antisymm (α:=Nat) (as:=x.cps.toList) (bs:=y.cps.toList) a b;obtain ⟨⟨l⟩⟩:=x;obtain ⟨⟨m⟩⟩:=y;simp at e;rw [e]
theorem yF {x:Str}:vf y x=iq↔leS x y:=by unfold vf leS;exact decide_eq_false_iff_not
theorem gK (x:Str):∀ l,(qgp x l).Perm (x::l)
 | []=>cJ _
 | y::l=>by
  unfold qgp;split;·exact ((gK x l).cons y).trans (List.Perm.swap _ _ _)
  ·exact cJ _
theorem qI:∀ l,(kg l).Perm l
 | []=>cJ _
 | x::l=>(gK x _).trans ((qI l).cons x)
theorem gL (x:Str):∀ l,l.Pairwise leS->(qgp x l).Pairwise leS
 | [],_=>ej _ _
 | y::l,h=>by
  have d:=bf.mp h;unfold qgp;split
  ·rename_i t;have c:leS y x:=by
    rcases VH y x with q | q;·exact q
    ·rw [<-yF] at q;rw [q] at t;cases t
   refine bf.mpr ⟨λz a=>?_,gL x l d.2⟩;rcases ac.mp ((gK x l).mem_iff.mp a) with rfl | a;·exact c
   ·exact d.1 z a
  ·rename_i t;have b:leS x y:=yF.mp (by cases e:vf y x with | true=>exact absurd e t | false=>rfl);refine bf.mpr ⟨λz a=>?_,h⟩;rcases ac.mp a with rfl | a;·exact b
   ·exact gJ b (d.1 z a)
theorem qT:∀ l,(kg l).Pairwise leS
 | []=>eI
 | x::l=>gL x _ (qT l)
theorem uu:∀ {l m:List Str},l.Perm m->l.Pairwise leS->m.Pairwise leS->l=m
 | [],m,p,_,_=>p.nil_eq
 | x::l,[],p,_,_=>absurd p.length_eq (by simp)
 | x::l,y::m,p,hl,hm=>by
  have a:=bf.mp hl;have b:=bf.mp hm;have c:x=y:=by
   have h1:y∈x::l:=p.mem_iff.mpr (aq ..);have h2:x∈y::m:=p.mem_iff.mp (aq ..);rcases ac.mp h1 with e | e;·exact e.symm
   ·rcases ac.mp h2 with d | d;·exact d
    ·exact JG (a.1 y e) (b.1 x d)
  subst c;rw [uu p.cons_inv a.2 b.2]
theorem QW:∀ (x:Str) (l:List Str),risingS x l=ir->(x::l).Pairwise leS
 | x,[],_=>ej _ _
 | x,y::l,h=>by
  have h:(!ltCps y.cps.toList x.cps.toList&&risingS y l)=true:=h;rw [aS] at h;have i:=QW y l h.2;have b:leS x y:=by have h1:=h.1;rw [ltCps_eq] at h1;unfold leS;simpa using h1
  refine bf.mpr ⟨λz a=>?_,i⟩;rcases ac.mp a with rfl | a;·exact b
  ·exact gJ b ((bf.mp i).1 z a)
theorem Ur:∀ (l:List Str),sortedS l=ir->l.Pairwise leS
 | [],_=>eI
 | x::l,h=>QW x l h
variable {ss:List Str}
theorem VI (p:ss.Perm ks) (h:sortedS ss=ir):ss=kg ks:=uu (p.trans (qI ks).symm) (Ur ss h) (qT ks)
noncomputable def VJ:List D->Option (List Str)
 | []=>ii []
 | .str x::l=>(VJ l).map (x::·)
 | _::_=>ij
noncomputable def yt:D->Option (List Str)
 | .lst ds=>VJ ds
 | .tup ds=>VJ ds
 | _=>ij
noncomputable def qgq [DecidableEq κ] (T:KP κ) (P:iE) (w:iG) (p:Addr) (ks:List κ):HO:=.ext λh=>SetK T P w h p ks
theorem qfv [DecidableEq κ] {T:KP κ} {ks:List κ} (x:SetK T P w h p ks):ObjOk P w H h p (qgq T P w p ks):=
 ⟨x,let ⟨_,_,_,e,_⟩:=x; ⟨_,e⟩,λ_ _ a k=>a.at k⟩
structure KD {κ:Type} [DecidableEq κ] (T:KP κ) where
 sqd:D->Option (List κ)
 ok:κ->Prop
 get:∀ {K:Frag} {F:Hp} {dx:D} {ss:List κ},sqd dx=ii ss->∃ ds,xf dx=.ok ds/\∀ {vs:List V} {us:List ip},IsL K F vs ds->Vals vs us->us.length=ss.length/\(∀ (i:Nat) (v:ip),us[i]?=ii v->∃ x,ss[i]?=ii x/\∀ p w,(T.kd p w).is x v=ir)/\∀ x∈ss,ok x
theorem qfw (a:IsL K F vs ds) (l:Vals vs us) (e:VJ ds=ii ss):mh us ss/\∀ x∈ss,x.length<=sizeLine:=by
 induction ds generalizing vs us ss with
 | nil=>cases a;cases l;cases e;exact ⟨.nil,λx h=>nomatch h⟩
 | cons d ds b=>
  cases a with
  | cons i a=>
   cases l with
   | cons r l=>
    cases d with
    | str x=>
     obtain ⟨sl,q,rfl⟩:=aT.mp (show (VJ ds).map (x::·)=ii ss from e);cases i with
     | str c=>obtain ⟨t,rfl⟩:=r;obtain ⟨i1,i2⟩:=b a l q;exact ⟨.cons x t i1,λy C=>(ac.mp C).elim (λz=>z ▸ c) (i2 y)⟩
    | _=>cases e
section
variable {e:Expr} {fa:jl}
theorem VL:∀ (l ks:List Str) {x:Str},x∈l.foldl xm ks->x∈ks\/x∈l
 | [],ks,x,h=>.inl h
 | y::l,ks,x,h=>by
  rcases VL l (xm ks y) h with q | q
  ·unfold xm at q;split at q;·exact .inl q
   ·rcases ao.mp q with q | q;·exact .inl q
    ·exact .inr (by rw [aA.mp q]; exact aq ..)
  ·exact .inr (af _ q)
theorem YN (e:VJ ds=ii ss) (l:IsL K F vs ds) (d:Vals vs us):us.length=ss.length/\(∀ (i:Nat) (v:ip),us[i]?=ii v->∃ x,ss[i]?=ii x/\∀ p w,(KpS.kd p w).is x v=ir)/\∀ x∈ss,x.length<=sizeLine:=by obtain ⟨st,C⟩:=qfw l d e;refine ⟨st.length,λi v h=>?_,C⟩;obtain ⟨y,t,e1,e2⟩:=st.item i v h;refine ⟨y,e2,λp w=>?_⟩;rw [e1];show fN y (.str y t)=ir;simp [fN]
noncomputable def KdS:KD KpS where
 sqd:=yt
 ok:=λy=>y.length<=sizeLine
 get:=λ{K F dx ss} e=>by
  cases dx with
  | lst ds=>exact ⟨ds,rfl,YN e⟩
  | tup ds=>exact ⟨ds,rfl,YN e⟩
  | _=>cases e
theorem qd4 [DecidableEq κ] {T:KP κ} (U:KD T) (z:C.K=X.K) (t:X.calm=ir):yp X (.type "set") (λxs H Q=>∃ x F dx ss,xs=[x]/\Same F H/\TopIs C.K F H x dx/\U.sqd dx=ii ss/\ss.length < 4000/\((∀ y∈ss,U.ok y)->∀ p,H p=ij->Q (.ref p) (upd H p (qgq T X.prog X.w p (ss.foldl xL []))))):=by
 intro pins s σ H xs us Q I r h;obtain ⟨x,F,dx,ss,rfl,d,tx,es,hl,q⟩:=h;obtain ⟨u,rfl,A⟩:=yq r;obtain ⟨ds,e,hg⟩:=U.get (K:=C.K) (F:=F) es;obtain ⟨a,sk,vs,rfl,hq,l⟩:=qd0 d tx e;cases A;rw [z] at hq;obtain ⟨its,o,n,f,j,c,m,hd,B⟩:=Vz I hq;obtain ⟨hn,hi,g⟩:=hg l f;refine GT (T:=T) (λA1 D R hA k=>?_) λh' tk S kp=>⟨.ref s.heap.objs.size,_,I.laid (t':=tk) kp (ax _) (qfv S),rfl,q g _ (I.hok.fresh (ax _))⟩
 exact qkW (sk:=sk) (items:=its.toArray) (hA.trans (I.ok.hd t)) (GS (aj _ rfl)) (.of (aa _ j) hd c) (by simp [hn]) (λi v e=>(hi i v (by simpa using e)).imp λx h=>⟨h.1,h.2 _ _⟩) (by rw [au,hn]; unfold lJ; lia) (aD (ay j)) λh' tk S kp=>k h' tk S λb o G=>kp b o (aD (ay G)) (aa _ G)
theorem xo:∀ {us:List ip} {ss:List Str},mh us ss->Vals (ss.map V.str) us
 | _,_,.nil=>.nil
 | _,_,.cons y t h=>.cons ⟨t,rfl⟩ (xo h)
theorem qad (c:X.calm=ir):yp X (.builtin "sorted") (λxs H Q=>∃ a ks,xs=[.ref a]/\H a=ii (qgq KpS X.prog X.w a ks)/\ks.length < 64/\∀ p,H p=ij->Q (.ref p) (upd H p (.lst ((kg ks).map V.str)))):=by
 intro pins s σ H xs us Q I r h;obtain ⟨a,ks,rfl,g,j,q⟩:=h;obtain ⟨u,rfl,A⟩:=yq r;cases A;have S:SetK KpS X.prog X.w s.heap a ks:=(I.hok a _ g).1;refine Zd (I.ok.hd c) S j λh1 h' dr tk vs e ss k1 k2 hp st pm so=>?_;rw [VI pm so] at st;have d:Inv X pins σ H { s with heap:=h1,drawn:=dr,toks:=tk }:=qkX I k1;have z:(kg ks).length<=sizeLine:=by
  rw [(qI ks).length_eq,iF]
  lia
 refine ⟨.ref h1.objs.size,_,d.laid (t':=tk) (o:=.lst ((kg ks).map V.str)) k2 (ax _) ⟨by rw [aB]; exact z,vs.toList,e,xo st,by simpa [iT] using hp⟩,rfl,q _ (d.hok.fresh (ax _))⟩
theorem qfx [DecidableEq κ] {T:KP κ}:yp X (.builtin "len") (λxs H Q=>∃ a ks,xs=[.ref a]/\H a=ii (qgq T X.prog X.w a ks)/\Q (.int ks.length) H):=by intro pins s σ H xs us Q I r h;obtain ⟨a,ks,rfl,g,q⟩:=h;obtain ⟨u,rfl,A⟩:=yq r;cases A;obtain ⟨es,ep,t,j,d⟩:SetK T X.prog X.w s.heap a ks:=(I.hok a _ g).1;have b:=d.bd;refine call_len_set j ⟨rfl,rfl,rfl⟩ rfl d.fits (by unfold lJ at b; lia) ?_;exact ⟨.int ks.length,H,I.tok _,⟨_,by rw [d.size]⟩,q⟩
theorem Us {m:Mo} {f:jl} {Q R:VK} (h:tE C own m f σ H Q) (i:∀ v H1,Q v H1->R v H1):tE C own m f σ H R:=by
 obtain ⟨F,ρ,r,po⟩:=h;refine ⟨F,ρ,r,?_⟩;cases q:f ρ with
 | ok p=>rw [q] at po;obtain ⟨d,ρ1⟩:=p;exact λv F1 H1 a b c=>i _ _ (po v F1 H1 a b c)
 | exc c ρ1=>rw [q] at po;exact po
 | bad=>rw [q] at po;exact po.elim
noncomputable def vN (d:D):Out D:=match yt d with
 | some ss=>if ss.length < 64 then .ok (.lst ((kg (ss.foldl xm [])).map D.str)) else .bad
 | none=>.bad
noncomputable def gM (d:D):Out D:=match yt d with
 | some ss=>if ss.length < 4000 then .ok (.int (ss.foldl xm []).length) else .bad
 | none=>.bad
theorem gb:∀ {ss:List Str},(∀ x∈ss,x.length<=sizeLine)->IsL K F (ss.map V.str) (ss.map D.str)
 | [],_=>.nil
 | x::l,h=>.cons (.str (h x (aq ..))) (gb λy C=>h y (af _ C))
theorem xT {p p2 a:Pos} (r:C.K=X.K) (k:X.calm=ir) (hg:Gl X "sorted") (n:X.mg "sorted"=ij) (v:iC "sorted"=ii (.builtin "sorted")) (i:Gl X "set") (g:X.mg "set"=ij) (d:iC "set"=ii (.type "set")) (o:PE X e (tE C own ma fa))
  (j:iA [e] X.env=[(iq,eval e X.env)]:=by exact qR rfl) (c:iA [.Call (.Name "set" p2) [e] [] a] X.env=[(iq,eval (.Call (.Name "set" p2) [e] [] a) X.env)]:=by exact qR rfl) :
  PE X (.Call (.Name "sorted" p) [.Call (.Name "set" p2) [e] [] a] [] pos) (tE C own .fr (d1 vN fa)):=by
 refine kf (yU (qad k) hg n v (jt (ue (qd4 KdS r k) i g d (jt o kM j) (by decide) (by decide) (by rw [j]; rfl) rfl) kM c) (by decide) (by decide) (by rw [c]; rfl) rfl) λσ H Q h=>?_;refine Us (xO (ma:=ma) h) λx H1 ⟨A,F,dx,ex,s,tx,po⟩=>?_;cases ex;unfold vN at po;cases es:yt dx with
 | none=>rw [es] at po;exact po.elim
 | some ss=>
  rw [es] at po;by_cases hl:ss.length < 64
  ·have po:PoV C .fr F H1 (if ss.length < 64 then .ok (.lst ((kg (ss.foldl xm [])).map D.str)) else .bad) Q:=po;rw [Aa hl,<-YL] at po;refine ⟨x,F,dx,ss,rfl,s,tx,es,by lia,λm q hq=>⟨q,_,rfl,qu,?_,λl f=>?_⟩⟩
   ·have:=xn ss [];rw [aQ] at this
    lia
   ·obtain ⟨s1,c1,f1⟩:=vw (u:=qgq KpS X.prog X.w q (ss.foldl xL [])) s hq;obtain ⟨s2,c2,f2⟩:=vw (u:=.lst ((kg (ss.foldl xL [])).map V.str)) s1 f;have t:H1 l=none:=by
     by_cases z:l=q;·rw [z] at f;rw [qu] at f;cases f
     ·rwa [qA z] at f
    refine po _ _ _ s2 (c1.trans' c2) ⟨l,rfl,t,f2,_,qu,gb λy b=>m y ?_⟩;rw [YL] at b;rcases VL ss [] ((qI _).mem_iff.mp b) with z | z;·cases z
    ·exact z
  ·have po:PoV C .fr F H1 (if ss.length < 64 then .ok (.lst ((kg (ss.foldl xm [])).map D.str)) else .bad) Q:=po;rw [Ab hl] at po;exact po.elim
noncomputable def qiI [DecidableEq κ] {T:KP κ} (U:KD T) (add:List κ->κ->List κ) (d:D):Out D:=match U.sqd d with
 | some ss=>if ss.length < 4000 then .ok (.int (ss.foldl add []).length) else .bad
 | none=>.bad
theorem Zf [DecidableEq κ] {T:KP κ} (U:KD T) {p p2 a:Pos} (n:C.K=X.K) (f:X.calm=ir) (hg:Gl X "len") (m:X.mg "len"=ij) (v:iC "len"=ii (.builtin "len")) (i:Gl X "set") (g:X.mg "set"=ij) (d:iC "set"=ii (.type "set")) (j:PE X e (tE C own ma fa))
  (b:iA [e] X.env=[(iq,eval e X.env)]:=by exact qR rfl) (c:iA [.Call (.Name "set" p2) [e] [] a] X.env=[(iq,eval (.Call (.Name "set" p2) [e] [] a) X.env)]:=by exact qR rfl) :
  PE X (.Call (.Name "len" p) [.Call (.Name "set" p2) [e] [] a] [] pos) (tE C own .sh (d1 (qiI U xL) fa)):=by
 refine kf (yU (qfx (T:=T)) hg m v (jt (ue (qd4 U n f) i g d (jt j kM b) (by decide) (by decide) (by rw [b]; rfl) rfl) kM c) (by decide) (by decide) (by rw [c]; rfl) rfl) λσ H Q h=>?_;refine Us (xO (ma:=ma) h) λx H1 ⟨k,F,dx,ex,y,tx,po⟩=>?_;cases ex;unfold qiI at po;cases es:U.sqd dx with
 | none=>rw [es] at po;exact po.elim
 | some ss=>
  rw [es] at po;have po:PoV C .sh F H1 (if ss.length < 4000 then .ok (.int (ss.foldl xL []).length) else .bad) Q:=po;by_cases hl:ss.length < 4000;·rw [Aa hl] at po;refine ⟨x,F,dx,ss,rfl,y,tx,es,hl,λl q hq=>⟨q,_,rfl,qu,?_⟩⟩;obtain ⟨s1,c1,f1⟩:=vw (u:=qgq T X.prog X.w q (ss.foldl xL [])) y hq;exact po _ _ _ s1 c1 (.int _)
  ·rw [Ab hl] at po;exact po.elim
theorem qae {p p2 a:Pos} (n:C.K=X.K) (f:X.calm=ir) (hg:Gl X "len") (m:X.mg "len"=ij) (v:iC "len"=ii (.builtin "len")) (i:Gl X "set") (g:X.mg "set"=ij) (h:iC "set"=ii (.type "set")) (j:PE X e (tE C own ma fa))
  (b:iA [e] X.env=[(iq,eval e X.env)]:=by exact qR rfl) (c:iA [.Call (.Name "set" p2) [e] [] a] X.env=[(iq,eval (.Call (.Name "set" p2) [e] [] a) X.env)]:=by exact qR rfl) :
  PE X (.Call (.Name "len" p) [.Call (.Name "set" p2) [e] [] a] [] pos) (tE C own .sh (d1 gM fa)):=by
 rw [show gM=qiI KdS xL by rw [YL];funext d;have q:KdS.sqd d=yt d:=rfl;unfold gM qiI;rw [q];cases yt d <;> rfl];exact Zf KdS n f hg m v i g h j b c
end
variable {β:Type}
@[simp] theorem jR {a:α} {k:α->Out β}:(Out.ok a).bind k=k a:=rfl
@[simp] theorem qkm {c:Str} {o:Sl} {k:α->Out β}:(Out.exc c o:Out α).bind k=.exc c o:=rfl
@[simp] theorem qkn {k:α->Out β}:(Out.bad:Out α).bind k=.bad:=rfl
@[simp] theorem qjy {a:α}:(Out.ok a).plain=.ok a:=rfl
@[simp] theorem qko:(Out.bad:Out α).plain=.bad:=rfl
variable {c:Prop}
@[simp] theorem qkp [Decidable c] {a b:Out α} {k:α->Out β}:(if c then a else b).bind k=if c then a.bind k else b.bind k:=by split <;> rfl
@[simp] theorem qkq [Decidable c] {a b:Out α}:(if c then a else b).plain=if c then a.plain else b.plain:=by split <;> rfl
noncomputable def qcU (d:D) (A B:Out α):Out α:=match d with
 | .bl b=>if b=ir then A else B
 | _=>.bad
@[simp] theorem qiJ {A B:Out α}:qcU (.bl b) A B=if b=ir then A else B:=rfl
noncomputable def qjz (p:D×Sl):Out (Bool×Sl):=match p.1 with
 | .bl b=>.ok (b,p.2)
 | _=>.bad
variable {ρ:Sl}
@[simp] theorem qjA:qjz (.bl b,ρ)=.ok (b,ρ):=rfl
noncomputable def KM (ms:List PM):Out (Fl×Sl)->Out (D×List D)
 | .ok (.nx,ρ)=>.ok (.non,kj ρ 0 ms)
 | .ok (.rt d,ρ)=>.ok (d,kj ρ 0 ms)
 | .ok _=>.bad
 | .exc c ρ=>.exc c ((kj ρ 0 ms).map ii)
 | .bad=>.bad
variable {ms:List PM}
theorem qw {f:qN}:kn N ms f ds=KM ms (f (qv N ds)):=by unfold kn KM;rfl
@[simp] theorem qkr:KM ms (.ok (.rt d,ρ))=.ok (d,kj ρ 0 ms):=rfl
@[simp] theorem qks:KM ms (.ok (.nx,ρ))=.ok (.non,kj ρ 0 ms):=rfl
@[simp] theorem qjB {c:Str}:KM ms (.exc c ρ)=.exc c ((kj ρ 0 ms).map ii):=rfl
@[simp] theorem qjC [Decidable c] {a b:Out (Fl×Sl)}:KM ms (if c then a else b)=if c then KM ms a else KM ms b:=by split <;> rfl
noncomputable def Zg (as:List AK) (ρ:Sl):Out (D×List D)->WL
 | .ok q=>.ok (q.1,zX as q.2 ρ)
 | .exc c o=>.exc c (zX as (o.map (·.getD .non)) ρ)
 | .bad=>.bad
variable {as:List AK}
@[simp] theorem qiK {q:D×List D}:Zg as ρ (.ok q)=.ok (q.1,zX as q.2 ρ):=rfl
@[simp] theorem qhB {c:Str} {o:Sl}:Zg as ρ (.exc c o)=.exc c (zX as (o.map (·.getD .non)) ρ):=rfl
@[simp] theorem qhC [Decidable c] {a b:Out (D×List D)}:Zg as ρ (if c then a else b)=if c then Zg as ρ a else Zg as ρ b:=by split <;> rfl
variable {ρ:Sl}
@[simp] theorem qaf:qc i ρ=match ρ[i]? with | some (ii d)=>.ok (d,ρ) | _=>.bad:=rfl
@[simp] theorem qjD:dC d ρ=.ok (d,ρ):=rfl
variable {gg:D->Sl->Out Sl}
section
variable {g g':D->D->Out D} {g1:D->Out D} {fa fb fc f:jl} {ft fu:yA} {fr:uj} {fs ft1:qN} {fi:uj} {G:ko}
@[simp] theorem qag:d1 g1 fa ρ=(fa ρ).bind λp=>(g1 p.1).plain.bind λd=>.ok (d,p.2):=rfl
@[simp] theorem qfy:d2 g fa fb ρ=(fa ρ).bind λp=>(fb p.2).bind λq=>(g p.1 q.1).plain.bind λd=>.ok (d,q.2):=rfl
@[simp] theorem qjE:ui f ρ=(f ρ).bind λp=>(ZL p.1).bind λb=>.ok (b,p.2):=rfl
@[simp] theorem qcV:qC f ρ=(f ρ).bind qjz:=rfl
@[simp] theorem qjF:xK ft ρ=(ft ρ).bind λp=>.ok (!p.1,p.2):=rfl
@[simp] theorem qiL:qjw f ρ=(qC f ρ).bind λp=>.ok (.bl (!p.1),p.2):=rfl
@[simp] theorem qjG:QM ft fu ρ=(ft ρ).bind λp=>if p.1=ir then fu p.2 else .ok (iq,p.2):=rfl
@[simp] theorem qkt:dOr ft fu ρ=(ft ρ).bind λp=>if p.1=ir then .ok (ir,p.2) else fu p.2:=rfl
@[simp] theorem qiM:Qw fa fb ρ=(fa ρ).bind λp=>qcU p.1 (fb p.2) (.ok (.bl iq,p.2)):=by
 unfold Qw;cases fa ρ with
 | ok p=>
  obtain ⟨d,r⟩:=p;cases d <;> try rfl
  rename_i b;cases b <;> rfl
 | exc c o=>rfl
 | bad=>rfl
@[simp] theorem qjH:qki fa fb ρ=(fa ρ).bind λp=>qcU p.1 (.ok (.bl ir,p.2)) (fb p.2):=by
 unfold qki;cases fa ρ with
 | ok p=>
  obtain ⟨d,r⟩:=p;cases d <;> try rfl
  rename_i b;cases b <;> rfl
 | exc c o=>rfl
 | bad=>rfl
@[simp] theorem qku:dIf ft fa fb ρ=(ft ρ).bind λp=>if p.1=ir then fa p.2 else fb p.2:=rfl
@[simp] theorem qhD:wV g g' fa fb fc ρ=(fa ρ).bind λp=>(fb p.2).bind λq=>(g p.1 q.1).plain.bind λz=>qcU z ((fc q.2).bind λr=>(g' q.1 r.1).plain.bind λd=>.ok (d,r.2)) (.ok (.bl iq,q.2)):=by
 unfold wV;congr 1;funext p;congr 1;funext q;congr 1;funext z;cases z <;> try rfl
 rename_i b;cases b <;> rfl
@[simp] theorem qjI:qr ρ=.ok ([],ρ):=rfl
@[simp] theorem qiN:qb fa fr ρ=(fa ρ).bind λp=>(fr p.2).bind λq=>.ok (p.1::q.1,q.2):=rfl
@[simp] theorem qiO:qZ fr ρ=(fr ρ).bind λq=>.ok (D.non::q.1,q.2):=rfl
@[simp] theorem qjJ:jT fr ρ=(fr ρ).bind λp=>if p.1.length<=sizeLine then .ok (.tup p.1,p.2) else .bad:=rfl
@[simp] theorem qjK:kJ fr ρ=(fr ρ).bind λp=>if p.1.length<=sizeLine then .ok (.lst p.1,p.2) else .bad:=rfl
@[simp] theorem qiP:qK ρ=.ok (.nx,ρ):=rfl
@[simp] theorem yG:qD fs ft1 ρ=(fs ρ).bind λp=>match p.1 with | .nx=>ft1 p.2 | _=>.ok p:=by
 show _=_;unfold qD;cases fs ρ with
 | ok p=>obtain ⟨l,r⟩:=p; cases l <;> rfl
 | exc c o=>rfl
 | bad=>rfl
@[simp] theorem qah:sIf ft fs ft1 ρ=(ft ρ).bind λp=>if p.1=ir then fs p.2 else ft1 p.2:=rfl
@[simp] theorem qiQ:kz f ρ=(f ρ).bind λp=>.ok (.nx,p.2):=rfl
@[simp] theorem JH:jr f ρ=(f ρ).bind λp=>.ok (.rt p.1,p.2):=rfl
@[simp] theorem gN:qU i f ρ=(f ρ).bind λp=>if i < p.2.length then .ok (.nx,p.2.set i (ii p.1)) else .bad:=rfl
@[simp] theorem qiR:qm as G fr ρ=(fr ρ).bind λp=>match vb as p.1 p.2 with | some ds=>Zg as p.2 (G ds) | none=>.bad:=rfl
@[simp] theorem qjL:qkU f ρ=(f ρ).bind λp=>(xf p.1).bind λds=>.ok (ds,p.2):=rfl
@[simp] theorem qjM:jN f ρ=(f ρ).bind λp=>(jK p.1).bind λds=>.ok (ds,p.2):=rfl
@[simp] theorem qkv:gNm i d ρ=if i < ρ.length then .ok (ρ.set i (ii d)) else .bad:=rfl
@[simp] theorem jI:wW fi gg fs ρ=(fi ρ).bind λp=>kO gg fs p.1 p.2:=rfl
@[simp] theorem qjN:qdX f gg ρ=(f ρ).bind λp=>match gg p.1 p.2 with | .ok ρ'=>.ok (.nx,ρ') | _=>.bad:=rfl
@[simp] theorem qjO {gg:List D->D->Out (List D)}:gz i gg f ρ=if uo ρ[i]?=ir then (f ρ).bind λp=>(match p.2[i]? with | some (ii (.lst xs))=>(match gg xs p.1 with | .ok ys=>.ok (.non,p.2.set i (ii (.lst ys))) | _=>.bad) | _=>.bad) else .bad:=rfl
@[simp] theorem qkw:ftT ρ=.ok (ir,ρ):=rfl
end
end L2.D2
namespace L2.D2
open PySem PySem.Spec PyProof.Rows
def qke (i j:Int):Prop:=(0<=j/\j<=64)/\-4611686018427387904 < i/\i < 4611686018427387904
instance:∀ i j,Decidable (qke i j):=λi j=>inferInstanceAs (Decidable (_/\_))
theorem YO {xs:List V} {us:List ip} (r:Vals xs us):∀ n:Nat,Vals (aJ n xs).flatten (aJ n us).flatten
 | 0=>.nil
 | n+1=>by rw [cZ,cZ,dF,dF];exact r.append (YO r n)
variable {K:Frag} {F:Hp}
theorem qai {vs:List V} {ds:List D} (r:IsL K F vs ds):∀ n:Nat,IsL K F (aJ n vs).flatten (aJ n ds).flatten
 | 0=>.nil
 | n+1=>by rw [cZ,cZ,dF,dF];exact r.append (qai r n)
theorem qaj {α:Type} (l:List α):∀ n:Nat,(aJ n l).flatten.length=l.length * n
 | 0=>by simp
 | n+1=>by rw [cZ,dF,ae,qaj l n,Nat.mul_succ,Nat.add_comm]
noncomputable def Ut:D->D->Out D
 | .lst ds,.int n=>if (0<=n/\n<=100000)/\ds.length * n.toNat<=1000000 then .ok (.lst (aJ n.toNat ds).flatten) else .bad
 | _,_=>.bad
variable {X:Cx} {C:Ct}
section
theorem JI (A:C.K=X.K):OpD X C .fr (iW .Mult) Ut:=by
 intro pins s σ H x y v u Q I q m h;obtain ⟨F,dx,B,g,tx,ty,po⟩:=h;cases dx <;> try exact po.elim
 cases B <;> try exact po.elim
 rename_i ds n;unfold Ut at po;by_cases z:(0<=n/\n<=100000)/\ds.length * n.toNat<=1000000
 ·simp only [Aa z] at po;obtain ⟨a,xs,rfl,p,i⟩:=tx.lst g;obtain rfl:=ty.int;cases q;obtain ⟨t,rfl⟩:=m;rw [A] at p;obtain ⟨its,r,pl,_⟩:=I.list p;have c:its.length=ds.length:=by rw [<-r.length,i.length]
  obtain ⟨⟨cls,d,data,sl⟩,k,j,l,hd,f⟩:=pl;simp only at l hd f;subst l f;have hq:H s.heap.objs.size=none:=I.hok.fresh (ax _);obtain ⟨s2,c2,f2⟩:=vw (u:=.lst (aJ n.toNat xs).flatten) g hq;have w:(aJ n.toNat xs).flatten.length<=sizeLine:=by rw [qaj,i.length,iF]; lia
  refine wpAny_binaryOp_repeat_ref (T := "list") (U := "int") (by decide) ⟨_,j,rfl⟩ (λs'=>typeIs_int s' n t) noFill_list_mul PySem.F.fills_int_mul PySem.F.slot_int_rmul repeat_list PySem.F.slot_int_index.lookup
   (lI PySem.F.slot_int_rmul (typeIs_int s n t) PySem.F.entry_int_rmul (PySem.F.args_int_rmul_2 _ _) (lm_int_rmul_list_any n t a its.toArray k d sl)
    ⟨j,rfl,⟨_,j,rfl⟩,lI PySem.F.slot_list_mul ⟨_,j,rfl⟩ PySem.F.entry_list_mul (PySem.F.args_list_mul_2 _ _)
     (lm_list_mul_any a its.toArray k d sl n t (by simp [Builtin.List.listFitsIndex]; lia) (by rw [au,c]; lia) (by simp [cR,sizeLine]; rw [c]; lia))
     ⟨j,?_⟩⟩)
  refine ⟨.ref s.heap.objs.size,_,I.laid (t':=s.toks) (o:=.lst (aJ n.toNat xs).flatten) (λb o e=>aa _ e) (ax _) ⟨w,(aJ n.toNat its).flatten,0,YO r _,?_⟩,rfl,po _ _ _ s2 c2 ⟨_,rfl,hq,f2,_,qu,qai i _⟩⟩;rw [listMul_foldl_if];exact aj _ rfl
 ·simp only [Ab z] at po;exact po.elim
end
def qhE (i j:Int):Prop:=(-(2 ^ 62)<=i/\i < 2 ^ 62)/\-(2 ^ 62)<=j/\j < 2 ^ 62
instance:∀ i j,Decidable (qhE i j):=λi j=>inferInstanceAs (Decidable (_/\_))
variable {lo:Int}
section
variable {own:List Nat} {a b e tg:Expr} {fa fb:jl} {ma mb:Mo} {pos:Pos}
theorem qak:∀ {xs:List V} {us:List ip},xs.length=us.length->(∀ (j:Nat) (x:V) (u:ip),xs[j]?=ii x->us[j]?=ii u->RelV x u)->Vals xs us
 | [],[],_,_=>.nil
 | x::xs,u::us,hl,h=>.cons (h 0 x u rfl rfl) (qak (Nat.succ.inj hl) λj y w a b=>h (j+1) y w (by simpa using a) (by simpa using b))
 | [],_::_,hl,_=>nomatch hl
 | _::_,[],hl,_=>nomatch hl
noncomputable def qiS (p:Addr) (lo hi:Int):HO:=.ext λh=>∃ t u v,IsRange h p lo hi 1 t u v
theorem qfz {P:iE} {w:iG} {H:Hp} {h:Heap} {p:Addr} {hi:Int} {t u v:Tok} (x:IsRange h p lo hi 1 t u v):ObjOk P w H h p (qiS p lo hi):=
 ⟨⟨t,u,v,x⟩,⟨_,x⟩,λ_ _ ⟨t,u,v,x⟩ k=>⟨t,u,v,k _ x⟩⟩
theorem qal:yp X (.type "range") (λxs H Q=>∃ j:Int,xs=[.int j]/\∀ p,H p=ij->Q (.ref p) (upd H p (qiS p 0 j))):=by intro pins s σ H xs us Q I r h;obtain ⟨j,rfl,q⟩:=h;obtain ⟨u,rfl,A⟩:=yq r;obtain ⟨t,rfl⟩:=A;exact call_range_1 ⟨.ref s.heap.objs.size,_,I.laid (t':=s.toks+1+1) (λb o e=>aa _ e) (ax _) (qfz (IsRange.new ..)),rfl,q _ (I.hok.fresh (ax _))⟩
theorem qcW (d:X.calm=ir):yp X (.type "list") (λxs H Q=>∃ r lo hi,xs=[.ref r]/\H r=ii (qiS r lo hi)/\(qhE lo hi/\hi - lo<=1000000)/\∀ p,H p=ij->Q (.ref p) (upd H p (.lst ((aP (hi - lo).toNat).map λk=>V.int (lo+(k:Nat)))))):=by
 intro pins s σ H xs us Q I r h;obtain ⟨a,lo,hi,rfl,g,z,q⟩:=h;obtain ⟨u,rfl,A⟩:=yq r;cases A;obtain ⟨t,u,v,hr⟩:=(I.hok a _ g).1;have e2:Builtin.Range.rangeSize lo hi 1=(((hi - lo).toNat:Nat):Int):=by rw [rangeSize_one]; split <;> lia
 refine call_list_range (n:=(hi - lo).toNat) (I.ok.hd d) hr (small_one z.1.1.1 z.1.1.2 z.1.2.1 z.1.2.2) e2 (by lia) λh' tk acc c k hp b=>?_;refine ⟨.ref s.heap.objs.size,_,I.laid (t':=tk) (o:=.lst ((aP (hi - lo).toNat).map λk=>V.int (lo+(k:Nat)))) k (ax _) ⟨by rw [aB,cu,iF]; lia,acc.toList,c,?_,by simpa using hp⟩,rfl,q _ (I.hok.fresh (ax _))⟩;refine qak (by rw [aB,cu,bE,b.1]) λj x w ex e=>?_;rw [aG] at ex;obtain ⟨k,f,rfl⟩:=aT.mp ex;obtain ⟨D,rfl⟩:=aF.mp f;obtain ⟨t,rfl⟩:=b.2 j w (by simpa using e);exact ⟨t,by simp⟩
noncomputable def xp:D->Out D
 | .int j=>if qhE 0 j/\j - 0<=1000000 then .ok (.lst (yQ 0 (j - 0).toNat)) else .bad
 | _=>.bad
theorem qam:∀ l:List Nat,IsL K F (l.map λk=>V.int (lo+(k:Nat))) (l.map λk=>D.int (lo+(k:Nat)))
 | []=>.nil
 | k::l=>.cons (.int _) (qam l)
theorem Zh {p p2 a:Pos} (o:X.calm=ir) (hg:Gl X "list") (n:X.mg "list"=ij) (v:iC "list"=ii (.type "list")) (i:Gl X "range") (g:X.mg "range"=ij) (d:iC "range"=ii (.type "range")) (r:PE X e (tE C own ma fa))
  (m:iA [e] X.env=[(iq,eval e X.env)]:=by exact qR rfl) (c:iA [.Call (.Name "range" p2) [e] [] a] X.env=[(iq,eval (.Call (.Name "range" p2) [e] [] a) X.env)]:=by exact qR rfl) :
  PE X (.Call (.Name "list" p) [.Call (.Name "range" p2) [e] [] a] [] pos) (tE C own .fr (d1 xp fa)):=by
 refine kf (ue (qcW o) hg n v (jt (ue qal i g d (jt r kM m) (by decide) (by decide) (by rw [m]; rfl) rfl) kM c) (by decide) (by decide) (by rw [c]; rfl) rfl) λσ H Q h=>?_;refine Us (xO (ma:=ma) h) λx H1 ⟨s,F,dx,ex,y,tx,po⟩=>?_;cases ex;cases dx <;> try exact po.elim
 rename_i j;unfold xp at po;by_cases b:qhE 0 j/\j - 0<=1000000
 ·simp only [Aa b] at po;obtain rfl:=tx.int;refine ⟨j,rfl,λq hq=>⟨q,0,j,rfl,qu,b,λl f=>?_⟩⟩;obtain ⟨s1,c1,f1⟩:=vw (u:=qiS q 0 j) y hq;obtain ⟨s2,c2,f2⟩:=vw (u:=.lst ((aP (j - 0).toNat).map λk=>V.int (0+(k:Nat)))) s1 f;have t:H1 l=none:=by
   by_cases z:l=q;·rw [z] at f;rw [qu] at f;cases f
   ·rwa [qA z] at f
  exact po _ _ _ s2 (c1.trans' c2) ⟨l,rfl,t,f2,_,qu,qam _⟩
 ·simp only [Ab b] at po;exact po.elim
end
theorem qan:iC "enumerate"=ii (.type "enumerate"):=by decide +kernel
noncomputable def JK (xs:List D):List D:=(xs.zipIdx).map λp=>.tup [.int (p.2:Nat),p.1]
noncomputable def gO (f:jl):uj:=λρ=>(f ρ).bind λp=>match p.1 with
 | .lst xs=>.ok (JK xs,p.2)
 | _=>.bad
mutual
def qhF:Nat->Expr->Option D
 | 0,_=>ij
 | n+1,e=>match e with
  | .Constant c _ _=>match c with
   | .none=>ii .non
   | .bool b=>ii (.bl b)
   | .int i=>ii (.int i)
   | .str x=>if x.length<=sizeLine then ii (.str x) else ij
   | _=>ij
  | .UnaryOp .USub (.Constant (.int i) _ _) _=>ii (.int (-i))
  | .List es _=>(qhG n es).bind λds=>if ds.length<=sizeLine then ii (.lst ds) else ij
  | .Tuple es _ _=>(qhG n es).bind λds=>if ds.length<=sizeLine then ii (.tup ds) else ij
  | _=>ij
def qhG:Nat->List Expr->Option (List D)
 | _,[]=>ii []
 | 0,_::_=>ij
 | n+1,e::es=>(qhF n e).bind λd=>(qhG n es).bind λds=>ii (d::ds)
end
theorem qao {α:Type}:∀ l:List α,((l.map λ_=>AK.vl).all λa=>decide (a=.vl))=ir
 | []=>rfl
 | _::l=>by rw [aH,fP,qao l]; rfl
theorem qap {n:Nat} {e:Expr} {d:D} (h:qhF n e=ii d):WX e=true:=by
 cases n with
 | zero=>cases h
 | succ n=>cases e <;> first | rfl | (simp [qhF] at h)
section
variable {X:Cx} {C:Ct} {own:List Nat}
mutual
theorem qhH:∀ (n:Nat) {e:Expr} {d:D},qhF n e=ii d->PE X e (tE C own .sh (dC d))
 | 0,_,_,h=>by cases h
 | n+1,e,d,h=>by
  unfold qhF at h;split at h
  ·split at h;·cases h; exact vd
   ·cases h; exact vK
   ·cases h; exact qg
   ·split at h;·rename_i z;cases h;exact kT z
    ·cases h
   ·cases h
  ·cases h;exact kf (Vm zn qg) λσ H Q h=>h
  ·obtain ⟨ds,h1,h2⟩:=aY.mp h;split at h2
   ·rename_i z;cases h2;have e2:kJ (λρ=>.ok (ds,ρ))=dC (.lst ds):=by funext ρ;unfold kJ dC;rw [Out.oj,Aa z]
    rw [<-e2];exact uh (jh (Uu n h1) (qao _)) (by decide)
   ·cases h2
  ·obtain ⟨ds,h1,h2⟩:=aY.mp h;split at h2
   ·rename_i z;cases h2;have e2:jT (λρ=>.ok (ds,ρ))=dC (.tup ds):=by funext ρ;unfold jT dC;rw [Out.oj,Aa z]
    rw [<-e2];exact jm (Uu n h1) (qao _)
   ·cases h2
  ·cases h
theorem Uu:∀ (n:Nat) {es:List Expr} {ds:List D},qhG n es=ii ds->PA X es (tAr C own (es.map λ_=>.vl) λρ=>.ok (ds,ρ))
 | 0,[],ds,h=>by cases h;exact qd
 | _+1,[],ds,h=>by cases h;exact qd
 | 0,_::_,ds,h=>by cases h
 | n+1,e::es,ds,h=>by unfold qhG at h;obtain ⟨d,h1,h⟩:=aY.mp h;obtain ⟨f,h2,h⟩:=aY.mp h;cases h;have e2:qb (dC d) (λρ=>.ok (f,ρ))=λρ=>.ok (d::f,ρ):=rfl;rw [<-e2];exact qa (qhH n h1) (Uu n h2) (by decide) (jS (qap h1))
end
end
noncomputable def txI (i:Int):Str:=toString i
def CTx (i:Int):Prop:=i.natAbs.log2 < 1920/\(txI i).length<=sizeLine
instance:∀ i,Decidable (CTx i):=λi=>inferInstanceAs (Decidable (_/\_))
end L2.D2
namespace PySem
open Builtin Builtin.Str
end PySem
namespace L2.D2
open PySem PySem.Spec PyProof.Rows
def qkY (x y:Str):Prop:=(y.length == 0)=iq/\(Txt.split x y).length<=sizeLine/\∀ z∈Txt.split x y,z.length<=sizeLine
instance:∀ x y,Decidable (qkY x y):=λx y=>inferInstanceAs (Decidable (_/\_))
inductive IntsAre:List ip->List Int->Prop
 | nil:IntsAre [] []
 | cons (y:Int) (t:Tok) {vs:List ip} {ys:List Int} (h:IntsAre vs ys):IntsAre (hV y t::vs) (y::ys)
variable {X:Cx} {C:Ct} {own:List Nat} {pos:Pos} {i:Nat} {x:Str}
section
theorem vr (h:X.N[i]?=ii x:=by rfl) (c:Vis X.env.scope x:=by first | exact aZ rfl | exact cf (aZ rfl) | exact cf (cf rfl)) (j:i∉own:=by decide) (hd:Dbg x:=by decide) (d:Cdk x:=by decide):PE X (.Name x pos) (tE C own .sh (qc i)):=qg6 h c j hd d
end
variable {K:Frag}
theorem qkZ {cv:Str->ip} {ca:Str->Addr} {n:Str} (v:cv n=.ref (ca n)) (s:bS K (.ref (ca n)) (.ref (ca n))=ii ir):∀ c Cc,qhs ca [n] c=ii Cc->cv c=.ref Cc/\bS K (.ref Cc) (.ref (ca n))=ii true:=λc Cc h=>by
 unfold qhs at h;split at h
 ·rename_i z;cases h;have z:c=n:=by simpa using z
  subst z;exact ⟨v,s⟩
 ·cases h
variable {mx:Mo} {apos cpos:Pos}
section
variable {mb:Mo} {b ix:Expr} {fb:jl} {px:Pos}
noncomputable def d2O (i:Nat) (g:D->D->Out D) (fb:jl):jl:=λρ=>(fb ρ).bind λq=>match (q.2[i]?:Option (Option D)) with
 | some (ii d)=>(g d q.1).plain.bind λr=>.ok (r,q.2)
 | _=>.bad
theorem qfA {g:D->D->Out D} {σ:St} {H:Hp} {Q:VK} {m:Mo} (j:i∈own) (h:tE C own m (d2O i g fb) σ H Q):qkb i σ H λx H1=>tE C own mb fb σ H1 λy H2=>∃ F dx e,Same F H2/\TopIs C.K F H2 x dx/\TopIs C.K F H2 y e/\PoV C m F H2 (g dx e) Q:=by obtain ⟨F,ρ,p,h⟩:=h;obtain ⟨t,hd0⟩:=p.opn i j;obtain ⟨a,e1,k,o⟩:=p.ow i t j hd0;refine ⟨_,e1,F,ρ,p,Po.bind h λv F1 H1 d ρ1 r c1 c h1=>?_⟩;obtain ⟨d1,b⟩:=r.opn i j;obtain ⟨u,e2,f,o1⟩:=r.ow i d1 j b;rw [e1] at e2;cases e2;simp only [b] at h1;exact ⟨F1,d1,d,r.sub,.inr ⟨a,rfl,o1⟩,c.top,PoV.of r h1⟩
theorem QX (n:C.K=X.K) (q:X.A.units+64 < iX) (m:X.N[i]?=ii x) (g:Vis X.env.scope x) (j:i∈own) (l:PE X b (tE C own mb fb)) (s:Jq b)
  (hd:Dbg x:=by decide) (d:Cdk x:=by decide):PE X (.Subscript (.Name x px) b pos) (tE C own .sh (d2O i ixD fb)):=by
 refine kf (qgW (qdU (by lia)) (yR m g hd d) l s) λσ H Q h=>?_;obtain ⟨v,e1,F,ρ,f,h⟩:=qfA (mb:=mb) j h;refine ⟨v,e1,F,ρ,f,?_⟩;cases e:fb ρ with
 | ok p=>rw [e] at h;obtain ⟨d',k⟩:=p;intro w u o r c3 a;obtain ⟨J,dx,t,y,tx,ty,po⟩:=h w u o r c3 a;exact qdV (σ:=σ) n y tx ty po
 | exc c=>rw [e] at h; exact h
 | bad=>rw [e] at h; exact h.elim
end
noncomputable def uc (n:Nat) (fw fx:jl):qN:=λρ=>(fw ρ).bind λp=>(fx p.2).bind λq=>match (q.2[n]?:Option (Option D)) with
 | some (ii (.dct kvs))=>(match xQ q.1 with
  | some k=>if kvs.length < sizeLine then .ok (.nx,q.2.set n (ii (.dct (zR kvs k p.1)))) else .bad
  | none=>.bad)
 | _=>.bad
section
variable {w ix:Expr} {fw fx:jl} {mw:Mo} {p1 p2 p3:Pos}
theorem ye {n:Nat} (L:X.A.units+64 < iX) (y:X.N[n]?=ii x) (s:Vis X.env.scope x) (j:n∈own) (o:PE X w (tE C own mw fw)) (hx:PE X ix (tE C own mx fx)) (f:mw≠.any:=by decide)
  (hd:Dbg x:=by decide) (i:Cdk x:=by decide) (t:ll w (ii (.Subscript (.Name x p1) ix p2)) p3.line X.env=pure false:=by rfl) :
  PS X (.Assign [.Subscript (.Name x p1) ix p2] w p3) (tSt C own own (uc n fw fx)):=by
 refine Ju (qe0 (by lia) (yR y s hd i) hx (uh o f) t) λP σ H ⟨F,ρ,p,h⟩=>⟨F,ρ,p,PoS.bindE h λv F1 H1 d ρ1 b c1 c h1=>?_⟩
 have c:Is C.K F1 v d:=c;obtain ⟨E,hd0⟩:=b.opn n j;obtain ⟨a,e1,M,I⟩:=b.ow n E j hd0;refine ⟨_,e1,F1,ρ1,b,PoS.bindE h1 λJ G H2 D ρ2 r c2 m h2=>?_⟩;obtain ⟨d2,hd2⟩:=r.opn n j;obtain ⟨O,e2,B,o2⟩:=r.ow n d2 j hd2;rw [e1] at e2;cases e2;simp only [hd2] at h2;cases d2 with
 | dct kvs=>
  cases q:xQ D with
  | none=>simp only [q] at h2; exact h2.elim
  | some k=>
   simp only [q] at h2;have g:=qhu m.top q;subst g;obtain ⟨kv,ex,l⟩:=o2;by_cases e:kvs.length < sizeLine;·simp only [Aa e] at h2;obtain ⟨r3,c3⟩:=r.write (u:=.dK (zL kv k v)) (d:=.dct (zR kvs k d)) j e1 ⟨_,qu,l.put (c.mono c2.grow)⟩;exact ⟨a,_,rfl,DPut.k ex (by rw [l.length]; exact e),h2 σ G _ ⟨r3,c3,λ_ z=>.inl z,λ_ _=>rfl⟩⟩
   ·simp only [Ab e] at h2; exact h2.elim
 | _=>exact h2.elim
end
noncomputable def qaq (i:Nat):jl:=λρ=>match (ρ[i]?:Option (Option D)) with
 | some (ii (.lst (d::es)))=>.ok (d,ρ.set i (ii (.lst es)))
 | _=>.bad
section
variable {px:Pos}
theorem qfB:MtR X "list.pop" (λx vs H Q=>∃ l v xs,x=.ref l/\vs=[.int 0]/\H l=ii (.lst (v::xs))/\Q v (upd H l (.lst xs))):=by intro pins s σ H x vs v us Q I d r h;obtain ⟨l,y,xs,rfl,rfl,b,q⟩:=h;exact qce pins s σ H _ _ v us Q I d r ⟨l,_,0,0,y,rfl,rfl,b,by decide,by decide,by simp [seqIndex?],rfl,q⟩
theorem qfC {j:Nat} {p:Pos} (g:X.N[i]?=ii x) (v:Vis X.env.scope x) (o:i∈own) (hd:Dbg x:=by decide) (c:Cdk x:=by decide)
  (b:j7 (.Name x px) "pop" X.env (eval (.Name x px) X.env)=eval (.Name x px) X.env:=by rfl) (e:(apos.endLine == cpos.line)=true:=by rfl)
  (w:((iZ cpos (iA [.Constant (.int 0) j p] X.env)).all (λx=>!x.1)&&(lU cpos (lm [] X.env)).all (λx=>x.1.isSome)
   && decide ([Expr.Constant (.int 0) j p].length+([]:List k7).length+(if ([]:List k7).isEmpty then 0 else 1) < 30))=true:=by exact yY rfl)
  (s:iA [.Constant (.int 0) j p] X.env=[(iq,eval (.Constant (.int 0) j p) X.env)]:=by exact qR rfl) :
  PE X (.Call (.Attribute (.Name x px) "pop" apos) [.Constant (.int 0) j p] [] cpos) (tE C own .sh (qaq i)):=by
 refine kf (qcc eh PySem.F.slot_list_pop PySem.F.type_list_pop qfB (yR g v hd c) (jt qdP kM s) b w e s rfl) λσ H Q ⟨F,ρ,r,h⟩=>?_;obtain ⟨t,hd0⟩:=r.opn i o;obtain ⟨a,e1,k,f⟩:=r.ow i t o hd0;unfold qaq at h;simp only [hd0] at h;cases t with
 | lst es=>
  cases es with
  | nil=>exact h.elim
  | cons d es=>
   obtain ⟨xs,ex,l⟩:=f;cases l with
   | cons z l=>refine ⟨_,e1,.inl ⟨rfl,_,.inl (.inl ex)⟩,?_⟩;obtain ⟨r2,c3⟩:=r.write (u:=.lst _) (d:=.lst es) o e1 ⟨_,qu,l⟩;exact ⟨a,_,_,rfl,rfl,ex,h _ F _ r2 c3 z⟩
 | _=>exact h.elim
end
noncomputable def qiT (kvs:List (Key×D)) (k:Key) (d:D):D:=match kvs.find? λkv=>decide (kv.1=k) with
 | some kv=>kv.2
 | none=>d
noncomputable def qcX (fo fe ff:jl):jl:=λρ=>(fo ρ).bind λp=>if (match p.1 with | .dct _=>ir | _=>iq)=ir then (fe p.2).bind λq=>(ff q.2).bind λr=>(match p.1 with
 | .dct kvs=>(match xQ q.1 with
  | some k=>.ok (qiT kvs k r.1,r.2)
  | none=>.bad)
 | _=>.bad) else .bad
theorem IsK.miss {F:Hp} {k:Key}:∀ {vs:List (Key×V)} {ds:List (Key×D)},IsK K F vs ds->(ds.find? λkv=>decide (kv.1=k))=ij->WT vs k=ij
 | _,_,.nil,e=>rfl
 | _,_,.cons (k:=k') (vs:=vs) h t,e=>by
  by_cases q:k'=k;·rw [cF (by simp [q])] at e;cases e
  ·rw [bR (by simp [q])] at e;rw [yW q];exact IsK.miss t e
section
variable {o e f:Expr} {fo fe ff:jl} {me mf:Mo}
theorem qfD (W:X.A.units+64 < iX) (O:PE X o (tE C own .sh fo)) (S:PE X e (tE C own me fe)) (R:PE X f (tE C own mf ff)) (D:mf≠.any:=by decide) (P:me≠.any:=by decide)
  (j:j7 o "get" X.env (eval o X.env)=eval o X.env:=by rfl)
  (n:((iZ cpos (iA [e,f] X.env)).all (λx=>!x.1)&&(lU cpos (lm [] X.env)).all (λx=>x.1.isSome)
   && decide (([e,f]:List Expr).length+([]:List k7).length+(if ([]:List k7).isEmpty then 0 else 1) < 30))=true:=by exact yY rfl)
  (i:(apos.endLine == cpos.line)=true:=by rfl) (B:iZ cpos (iA [e,f] X.env)=[(iq,eval e X.env),(iq,eval f X.env)]:=by rfl) :
  PE X (.Call (.Attribute o "get" apos) [e,f] [] cpos) (tE C own .sh (qcX fo fe ff)):=by
 refine kf (qcj (by lia) O S (uh R D) ⟨j,n,i,B⟩) λσ H Q ⟨F,ρ,L,h⟩=>?_;refine ⟨F,ρ,L,Po.bind h λv F1 H1 d ρ1 r c1 b h1=>?_⟩;have b:Is C.K F1 v d:=b;cases d with
 | dct kvs=>
  simp only [if_true] at h1;cases b with
  | dct G M=>
   rename_i a kv;refine ⟨a,rfl,.inl ⟨kv,.inl (r.sub _ _ G)⟩,F1,ρ1,r,Po.bind h1 λy V H2 U ρ2 s c2 t h2=>?_⟩;refine ⟨V,ρ2,s,Po.bind h2 λz u I T J c c3 m g=>?_⟩;have m:Is C.K u z T:=m;cases q:xQ U with
   | none=>simp only [q] at g; exact g.elim
   | some k=>
    simp only [q] at g;have N:=qhu t.top q;subst N;have E:u a=ii (.dK kv):=c3.grow _ _ (c2.grow _ _ G);have l:IsK C.K u kv kvs:=(M.mono c2.grow).mono c3.grow;refine ⟨WT kv k,.inl ⟨kv,k,.inl (c.sub _ _ E),rfl,rfl⟩,?_⟩;unfold qiT at g;cases p:kvs.find? λkv=>decide (kv.1=k) with
    | none=>simp only [p] at g;rw [l.miss p];exact g z u I c .refl m
    | some kd=>simp only [p] at g;obtain ⟨w,e1,e2⟩:=l.find p;rw [e1];exact g w u I c .refl e2
 | _=>exact h1.elim
end
end L2.D2
namespace L2.D2
open PySem PySem.Spec PyProof.Rows PySem.W
section
variable {prog:iE} {w:iG} {A:iL} {E:ip->iu->Prop} {s:iu} {T:String} {r d:Addr} {n:Nat} {P:Nat->ip->Prop} {OK:Heap->Prop}
theorem qar {Q:List ip->iu->Prop} (K:KdlSrc prog w T r d n P OK) (f:A.handled=ij) (hok:OK s.heap) (hn:n<=sizeLine)
  (g:∀ h' tk acc,(∀ b o,s.heap.get? b=ii o->h'.get? b=ii o)->mH P acc n->Q acc.toList { s with heap:=h',toks:=tk }):iy (model prog w) A (collect (.ref r)) Q E s:=by
 unfold collect;refine im (wpAny_runValue (iQ F.entry_proto_collect ?_));rw [bx F.plain_proto_collect _];show iy _ A.in1 (newList [] >>= λl=>again (.builtin "list.__iadd__" ⟨[l,.ref r],[]⟩)) _ _ s;refine im (iH ?_);refine iw ⟨j9 F.plain_list_iadd _,iQ F.entry_list_iadd ?_⟩;rw [bx F.plain_list_iadd _];have t:=K.there _ hok;have S:(s.heap.push { cls:=.type "list",data:=.seq ([]:List ip).toArray }).get? s.heap.objs.size=ii { cls:=.type "list",data:=.seq ([]:List ip).toArray }:=aj _ rfl;show iy _ A.in1 (bo (.ref s.heap.objs.size) (.ref r) (.ref s.heap.objs.size)) _ _ _;refine kdl_extend (R:=λr s'=>match r with
  | .ok (.ret v)=>iy (model prog w) A (match v with
   | .ref a=>do
    let o <-load a
    match o.data with
     | .seq xs _=>pure xs.toList
     | _=>unsupported "internal:collect"
   | _=>unsupported "internal:collect") Q E s'
  | .ok _=>False
  | .error e=>E e s') (s:={ s with heap:=s.heap.push { cls:=.type "list",data:=.seq ([]:List ip).toArray } }) K f (K.keep _ _ hok λb _ o e=>aa _ e) _ (ci t.1) (ci t.2) _ 0 S (λh' tk c i k B h=>?_) hn
 show iy _ A (load s.heap.objs.size >>= _) _ _ _;refine im (wpAny_load B ?_);exact iw (g h' tk c (λb o e=>k b o (aD (ay e)) (aa _ e)) h)
theorem Uv:∀ (ss:List Str) (us:List ip),us.length=ss.length->(∀ (j:Nat) (v:ip),us[j]?=ii v->∃ x t,ss[j]?=ii x/\v=d7 x t)->mh us ss
 | [],[],_,_=>.nil
 | [],_::_,h,_=>by cases h
 | _::_,[],h,_=>by cases h
 | x::ss,u::us,h,k=>by obtain ⟨n,t,e1,e2⟩:=k 0 u rfl;cases e1;rw [e2];refine .cons _ t (Uv ss us (by simpa using h) λj v e=>?_);simpa using k (j+1) v (by simpa using e)
theorem qcY {ss:List Str} {Q:ip->iu->Prop} (K:KdlSrc prog w T r d n P OK) (i:A.handled=ij) (hok:OK s.heap) (h:∀ acc:Array ip,mH P acc n->mh acc.toList ss) (j:ss.length < 64) (hn:n<=sizeLine)
  (p:∀ (h1 h':Heap) tk vs e f,(∀ b o,s.heap.get? b=ii o->h1.get? b=ii o)->(∀ b o,h1.get? b=ii o->h'.get? b=ii o)->h'.get? h1.objs.size=ii (iT "list" vs e)->mh vs.toList f->f.Perm ss->sortedS f=ir->Q (.ref h1.objs.size) { s with heap:=h',toks:=tk }) :
  iy (model prog w) A (call (.builtin "sorted") [.ref r]) Q E s:=by
 refine dR kind_sorted plain_sorted entry_sorted (args_sorted1 _) ?_; unfold Builtin.«sorted»;refine im (m:=checkCount "sorted" 1 1 _) (iw ?_);refine im (qar (A:=A.in1) K (show A.in1.handled=ij from i) hok hn λh1 tk acc k1 hi=>?_);have c:=h acc hi;have hl:acc.toList.length < 64:=by rw [c.length]; exact j
 refine im (lZ ?_ (by rw [iF]; lia));have Y:(h1.push (iT "list" acc.toList.toArray 0)).get? h1.objs.size=ii (iT "list" acc.toList.toArray 0):=aj _ rfl;refine im (iP (iJ slot_list_sort (s:={ s with heap:=h1.push (iT "list" acc.toList.toArray 0),toks:=tk }) ⟨_,Y,rfl⟩ entry_list_sort (list_sort_treeK strKind_oneLt Y c.keysOf (λv₁ k rest e=>keyKind_strs (by rw [<-e]; exact c)) hl λg u t=>⟨_,rfl,?_⟩) (args_list_sort _)));obtain ⟨f,b1,b2,q⟩:=sorted_out_str c u t;obtain ⟨e,l⟩:=sortedHeap_at (out:=(arrOf g).map (·.2)) Y;refine iw ⟨_,rfl,p h1 _ tk _ e f k1 (λb o G=>?_) l b1 b2 q⟩;have a:=ay G;rw [sortedHeap_old (aD a) (by rw [bu]; exact cr a)];exact aa _ G
end
variable {α:Type}
noncomputable def xU:List (Key×α)->Option (List Str)
 | []=>ii []
 | (.inr x,_)::l=>(xU l).map (x::·)
 | (.inl _,_)::_=>ij
theorem gc:∀ {l:List (Key×α)} {ss:List Str},xU l=ii ss->l.map (·.1)=ss.map bn
 | [],ss,h=>by cases h; rfl
 | (.inr x,_)::l,ss,h=>by obtain ⟨f,e,rfl⟩:=aT.mp (show (xU l).map (x::·)=ii ss from h);rw [aH,aH,gc e]
 | (.inl _,_)::_,ss,h=>by cases h
theorem IsK.keys {K:Frag} {F:Hp}:∀ {kv:List (Key×V)} {ks:List (Key×D)},IsK K F kv ks->kv.map (·.1)=ks.map (·.1)
 | _,_,.nil=>rfl
 | _,_,.cons h t=>by rw [aH,aH,IsK.keys t]
theorem KV.keys:∀ {kv:List (Key×V)} {vs:List (Key×ip)},KV kv vs->kv.map (·.1)=vs.map (·.1)
 | _,_,.nil=>rfl
 | _,_,.cons h t=>by rw [aH,aH,h.1,KV.keys t]
noncomputable def kG:D->Out D
 | .dct kvs=>(match xU kvs with
  | some ss=>if ss.length < 64/\(ss.all λy=>decide (y.length<=sizeLine))=ir then .ok (.lst ((kg ss).map D.str)) else .bad
  | none=>.bad)
 | _=>.bad
section
variable {X:Cx} {C:Ct} {own:List Nat} {e:Expr} {fa:jl} {ma:Mo} {pos:Pos}
theorem QY (D:X.calm=ir):gx X C .fr (.builtin "sorted") kG:=by
 intro pins s σ H xs us Q I r h;obtain ⟨x,F,dx,rfl,f,tx,po⟩:=h;obtain ⟨u,rfl,A⟩:=yq r;cases dx with
 | dct kvs=>
  obtain ⟨a,kv,rfl,E,B⟩:=tx.dct f;cases A;cases q:xU kvs with
  | none=>simp only [kG,q] at po; exact po.elim
  | some ss=>
   simp only [kG,q] at po;by_cases hl:ss.length < 64/\(ss.all λy=>decide (y.length<=sizeLine))=ir
   ·rw [Aa hl] at po;obtain ⟨g,b,vs,rel,dd⟩:=(show ObjOk X.prog X.w H s.heap a (.dK kv) from I.hok a _ E)
    obtain ⟨ep,J⟩:=dd.dictAt;have l:vs.map (·.1)=ss.map bn:=by rw [<-KV.keys rel,B.keys,gc q]
    have n:vs.length=ss.length:=by have:=congrArg fI l; simpa using this
    refine qcY (kdl_dict (kvs:=vs) (ep:=ep) b) (I.ok.hd D) J (λacc hi=>Uv _ _ (by rw [bE,hi.1,n]) λj v e=>?_) hl.1 (by rw [n,iF]; lia) λh1 h' tk us e p k1 k2 hp st pm so=>?_
    ·obtain ⟨k,x,e1,e2⟩:=hi.2 j v (by rw [<-bF]; exact e);have e3:(vs.map (·.1))[j]?=ii k:=by rw [aG,e1]; rfl
     rw [l,aG] at e3;obtain ⟨y,G,rfl⟩:=aT.mp e3;rcases ji (show xM (bn y) v=ir from e2) with ⟨i,t,d,_⟩ | ⟨z,t,d,rfl⟩
     ·cases d
     ·cases d;exact ⟨_,t,G,rfl⟩
    ·rw [VI pm so] at st;have m:Inv X pins σ H { s with heap:=h1,toks:=tk }:=I.kept (t':=tk) k1;have g:(kg ss).length<=sizeLine:=by
      rw [(qI _).length_eq,iF]
      lia
     have hq:H h1.objs.size=none:=m.hok.fresh (ax _);obtain ⟨s2,c2,f2⟩:=vw (u:=.lst ((kg ss).map V.str)) f hq;exact ⟨.ref h1.objs.size,_,m.laid (t':=tk) (o:=.lst ((kg ss).map V.str)) k2 (ax _) ⟨by rw [aB]; exact g,us.toList,e,xo st,by simpa [iT] using hp⟩,rfl,po _ _ _ s2 c2 ⟨_,rfl,hq,f2,_,qu,gb λy c=>by have:=(qI _).mem_iff.mp c;exact Ae (aL.mp hl.2 y this)⟩⟩
   ·rw [Ab hl] at po; exact po.elim
 | _=>exact po.elim
end
end L2.D2
namespace PySem.F
theorem nolen_lri:lT (.type "list_reverseiterator") "__len__"=pure none:=by rw [lj,iV]; kernel_rfl
theorem hint_lri:lT (.type "list_reverseiterator") "__length_hint__"=pure (ii (.builtin "list_reverseiterator.__length_hint__")):=by rw [lj,iV]; kernel_rfl
end PySem.F
namespace L2.D2
open PySem PySem.Spec PyProof.Rows PySem.W
section
variable {prog:iE} {w:iG} {A:iL} {E:ip->iu->Prop} {s:iu} {I l:Addr} {items:Array ip}
theorem Zi {R:Result->iu->Prop} (n:A.handled=ij) (d:l≠I) (hit:s.heap.IsRevIter I l ((items.size:Int) - 1)) (hl:s.heap.IsList l items) (S:Addr) (a:S≠I) (j:S≠l) (res:ip) (c:Nat) (q:s.heap.get? S=ii { cls:=.type "list",data:=.seq #[] c })
  (t:∀ h' tk K T,(∀ b o,b≠S->b≠I->s.heap.get? b=ii o->h'.get? b=ii o)->h'.get? S=ii { cls:=.type "list",dict:=ij,data:=.seq K T,slots:=#[] }->mH (λi v=>items[items.size - 1 - i]?=ii v) K items.size->R (.ok (.ret res)) { s with heap:=h',toks:=tk }) (hn:items.size<=sizeLine) :
  iy (model prog w) A.in1 (bo (.ref S) (.ref I) res)
   (λfin s'=>match fin with | .done f=>R (.ok f) s' | .again T=>T.quiet=ir/\lz (model prog w) A T R s') (λe s'=>R (.error e) s') s:=by
 have W:=Walks.listRev (prog:=prog) (w:=w) (A:=A.in1) n I l d items;have k:S∉[I,l]:=by simp only [ac,aM,or_false,not_or]; exact ⟨a,j⟩
 have st:0<=items.size/\s.heap.IsRevIter I l ((items.size:Int) - 1 - ((0:Nat):Int))/\s.heap.IsList l items:=⟨bh _,by simpa using hit,hl⟩
 unfold bo;refine im (lg hit.typeIs ?_);have h1:cU (.ref S) (.ref I)=false:=by simp [cU,a]
 rw [Ab (by rw [h1]; decide)];refine im (W.self 0 _ _ _ st ?_);refine im (iP ?_);unfold Builtin.List.listLengthHint;refine im (wpAny_specialOf hit.typeIs F.nolen_lri ?_);show iy _ A.in1 (specialOf (aX I) (bg "__length_hint__") >>= _) _ _ _;refine im (wpAny_specialOf hit.typeIs F.hint_lri ?_);generalize E:("list_reverseiterator.__length_hint__":String)=id0
 wp_delta
 rw [show splitId id0=ii ("list_reverseiterator", "__length_hint__") from by subst E; decide +kernel];subst E;refine im (i4 (b:=ir) hit.typeIs (by rw [lr]; kernel_rfl) ?_);refine iw ?_;rw [Ab (by decide)];refine iw ⟨j9 F.plain_extend_loop _,codeAny_extend_loopS W.toS hn S k res items.size 0 _ #[] c rfl (bh _) st q (ItemsOf.nil _) λs' K T m B r=>?_⟩;rw [Moved.eq_with m];refine t s'.heap s'.toks K T (λb o p g e=>m.heap b o (λh=>?_) e) B r;rcases ac.mp h with u | h;·exact p u
 ·exact g (aA.mp h)
theorem qcZ {Q:ip->iu->Prop} (n:A.handled=ij) (g:l≠I) (hit:s.heap.IsRevIter I l ((items.size:Int) - 1)) (hl:s.heap.IsList l items) (hn:items.size<=sizeLine)
  (p:∀ h' tk K T,(∀ b o,b≠I->s.heap.get? b=ii o->h'.get? b=ii o)->h'.get? s.heap.objs.size=ii { cls:=.type "list",dict:=ij,data:=.seq K T,slots:=#[] }->mH (λi v=>items[items.size - 1 - i]?=ii v) K items.size->Q (.ref s.heap.objs.size) { s with heap:=h',toks:=tk }) :
  iy (model prog w) A (call (.type "list") [.ref I]) Q E s:=by
 refine callType_codes (Q₁:=λobj d=>obj=.ref s.heap.objs.size/\d={ s with heap:=s.heap.push { cls:=.type "list",data:=.seq #[] } }) PySem.F.called_list (PySem.F.typeCall_list_1 _) PySem.F.entry_list_init
  (code_list_new _ ⟨rfl,rfl⟩) λobj d h₁=>?_
 obtain ⟨rfl,rfl⟩:=h₁;have S:(s.heap.push { cls:=.type "list",data:=.seq #[] }).get? s.heap.objs.size=ii { cls:=.type "list",data:=.seq #[] }:=aj _ rfl;obtain ⟨q,f,_⟩:=id hit;obtain ⟨ol,c,_⟩:=id hl;have a:s.heap.objs.size≠I:=ci (ay f);have j:s.heap.objs.size≠l:=ci (ay c);refine ⟨⟨_,S,rfl⟩,PySem.F.args_list_init_2 _ _,?_⟩;show iy _ _ (do let old <-Builtin.List.listItems (.ref s.heap.objs.size); Builtin.List.listUpdate (.ref s.heap.objs.size) (λ_=>#[]); letGo old.toList.reverse; bo (.ref s.heap.objs.size) (.ref I) .none) _ _ _;refine im ?_;unfold Builtin.List.listItems;refine im (iM S rfl (iw ?_));show iy _ _ (updateSeq s.heap.objs.size (λ_=>#[]) >>= λ_=>letGo (#[]:Array ip).toList.reverse >>= λ_=>bo (.ref s.heap.objs.size) (.ref I) .none) _ _ _;refine im (wpAny_updateSeq S rfl ?_);have h:=bp (bQ (λ_=>(#[]:Array ip))) S rfl;have oth:∀ b o,b≠s.heap.objs.size->s.heap.get? b=ii o->((s.heap.push { cls:=.type "list",data:=.seq #[] }).update s.heap.objs.size (bQ (λ_=>(#[]:Array ip)))).get? b=ii o:=
  λb o k e=>(dm _ _ (bw k)).trans (aa _ e)
 refine im (mm ?_);refine Zi (A:=A.in1) n g (hit.at λo e=>oth I o a.symm e) (hl.at λo e=>oth l o j.symm e) _ a j .none _ h (λh' tk K T m B r=>?_) hn;exact ⟨rfl,p h' tk K T (λb o k e=>m b o (aD (ay e)) k (oth b o (aD (ay e)) e)) B r⟩
end
noncomputable def xq:D->Out D
 | .lst xs=>.ok (.lst xs.reverse)
 | _=>.bad
theorem qc0 {vs:List V} {its:List ip} {acc:Array ip} (r:Vals vs its) (h:mH (λi v=>its.toArray[its.toArray.size - 1 - i]?=ii v) acc its.toArray.size):Vals vs.reverse acc.toList:=by
 have e:acc.toList=its.reverse:=by
  apply eX;intro j;have s:acc.size=its.length:=by simpa using h.1
  by_cases D:j < its.length;·have c:acc.toList[j]?=ii (acc.toList[j]'(by rw [bE]; lia)):=aE _;have h2:=h.2 j _ (by rw [<-bF]; exact c);rw [c,List.getElem?_reverse D,<-h2];simp
  ·rw [bY (by rw [bE]; lia),bY (by rw [cA]; lia)]
 rw [e];exact r.reverse
theorem qas {K:Frag} {F:Hp}:∀ {vs:List V} {ds:List D},IsL K F vs ds->IsL K F vs.reverse ds.reverse
 | _,_,.nil=>.nil
 | _,_,.cons h t=>by rw [cP,cP];exact (qas t).append (.cons h .nil)
section
variable {X:Cx} {C:Ct} {own:List Nat} {e:Expr} {fa:jl} {ma:Mo} {pos:Pos}
theorem Zj {p p2 d:Pos} (S:C.K=X.K) (P:X.calm=ir) (hg:Gl X "list") (O:X.mg "list"=ij) (L:iC "list"=ii (.type "list")) (y:Gl X "reversed") (w:X.mg "reversed"=ij) (l:iC "reversed"=ii (.type "reversed")) (R:PE X e (tE C own ma fa))
  (G:iA [e] X.env=[(iq,eval e X.env)]:=by exact qR rfl) (f:iA [.Call (.Name "reversed" p2) [e] [] d] X.env=[(iq,eval (.Call (.Name "reversed" p2) [e] [] d) X.env)]:=by exact qR rfl) :
  PE X (.Call (.Name "list" p) [.Call (.Name "reversed" p2) [e] [] d] [] pos) (tE C own .fr (d1 xq fa)):=by
 refine ⟨?_⟩;intro pins s σ H Q I h;refine i7 (yS I hg O L ?_ (by decide) (by decide));refine bG ?_ (by rw [f]; rfl) rfl;rw [f];show iy _ _ (spliced ((iq,eval (.Call (.Name "reversed" p2) [e] [] d) X.env)::[])) _ _ s;refine dh ?_;refine i7 (yS I y w l ?_ (by decide) (by decide));refine bG (thn ((jt R kM G) d pins s σ H _ I (xO (ma:=ma) h)) λus s1 ⟨vs,H1,A,r1,q1⟩=>?_) (by rw [G]; rfl) rfl;obtain ⟨x,F,dx,rfl,B,tx,po⟩:=q1;obtain ⟨u,rfl,J⟩:=yq r1;cases dx with
 | lst ds=>
  obtain ⟨a,vs,rfl,hq,t⟩:=tx.lst B;rw [S] at hq;cases J;obtain ⟨its,D,j,E⟩:=A.list hq;have pl:s1.heap.IsList a its.toArray:=by obtain ⟨o,n,N,U,_,z⟩:=j;exact ⟨o,N,U,n,z⟩
  refine call_reversed_list pl ?_;refine ez ?_;have M:=aj (h:=s1.heap) (o:=revObj a ((its.toArray.size:Int) - 1)) ;have i:(s1.heap.push (revObj a ((its.toArray.size:Int) - 1))).IsList a its.toArray:=pl.at λo r=>aa _ r;obtain ⟨oa,q,_⟩:=id pl;have v:a≠s1.heap.objs.size:=aD (ay q);refine qcZ (s:={ s1 with heap:=s1.heap.push (revObj a ((its.toArray.size:Int) - 1)) }) (I.ok.hd P) v ⟨_,aj _ rfl,rfl,rfl⟩ i (by rw [au,<-D.length]; exact E) λh' tk acc c kp hp hi=>?_;have k:∀ b o,s1.heap.get? b=ii o->h'.get? b=ii o:=λb o r=>kp b o (aD (ay r)) (aa _ r);have hsz:(s1.heap.push (revObj a ((its.toArray.size:Int) - 1))).objs.size=s1.heap.objs.size+1:=bu ..;have m:H1 (s1.heap.objs.size+1)=none:=A.hok.fresh (fJ _);obtain ⟨s2,c2,f2⟩:=vw (u:=.lst vs.reverse) B m;have hp:h'.get? (s1.heap.objs.size+1)=ii { cls:=.type "list",dict:=ij,data:=.seq acc c,slots:=#[] }:=by rw [<-hsz]; exact hp
  have g:EP X pins σ Q (.ref (s1.heap.objs.size+1)) { s1 with heap:=h',toks:=tk }:=
   ⟨.ref (s1.heap.objs.size+1),_,A.laid (t':=tk) (o:=.lst vs.reverse) k (fJ _) ⟨by rw [cA]; exact E,acc.toList,c,qc0 D hi,by simpa using hp⟩,rfl,po _ _ _ s2 c2 ⟨_,rfl,m,f2,_,qu,qas t⟩⟩
  rw [<-hsz] at g;exact g
 | _=>exact po.elim
end
end L2.D2
namespace L2.D2
open PySem PySem.Spec PyProof.Rows
noncomputable def YQ:D->Out D
 | .lst ds=>match ur ds with
  | some ps=>.ok (.dct (ps.foldl (λl p=>zR l p.1 p.2) []))
  | none=>.bad
 | _=>.bad
section
variable {X:Cx} {C:Ct} {pins:Pns} {σ:St} {F H:Hp} {s:iu}
theorem qc1 (n:C.K=X.K) (d:X.calm=ir):gx X C .fr (.type "dict") YQ:=by
 intro pins s σ H xs us Q I r h;obtain ⟨x,F,dx,rfl,y,tx,po⟩:=h;cases dx <;> try exact po.elim
 exact YJ n d pins s σ H _ us Q I r ⟨x,F,_,rfl,y,tx,po⟩
end
open PySem.SeqAt
open AutoSeq1 (wpAny_loadPart')
open MeetsSeq MeetsSeq2 MeetsSeq3
end L2.D2
namespace L2.D2
open PySem PySem.Spec PyProof.Rows
open PySem.SeqAt
end L2.D2
namespace L2.D2
open PySem PySem.Spec PyProof.Rows
open AutoSeq1 (wpAny_loadPart')
theorem qat (l:Addr) (items:Array ip) (n:Nat) (dct:Option Addr) (sl:Array (Option ip)):Meets (Builtin.«enumerate.__new__» ⟨[.type "enumerate",.ref l],[]⟩) (λ_ R s=>s.heap.get? l=ii { cls:=.type "tuple",dict:=dct,data:=.seq items n,slots:=sl } /\
   R (.ok (.ret (.ref (s.heap.push { cls:=.type "tuple_iterator",data:=.fields #[.ref l,.int 0 0] }).objs.size)))
    { s with heap:=(s.heap.push { cls:=.type "tuple_iterator",data:=.fields #[.ref l,.int 0 0] }).push { cls:=.type "enumerate",data:=.fields #[.none,.bool iq,.ref s.heap.objs.size,iR 0,.none,.none] } }):=
 .of_wp λprog w A R s h=>by
  obtain ⟨hp,g,d,tk,os⟩:=s; obtain ⟨hl,h⟩:=h;have b:=sub_enumerate;have a:Heap.IsTuple (hZ ⟨hp,g,d,tk,os⟩) l items:=⟨_,hl,rfl,n,rfl⟩
  wp_walk using lP hl
  refine wpAny_stack_any λst=>iw ?_;split
  ·rename_i c _ _ _ _ _;cases (c == g8 "enumerate")
   ·wp_walk using lP hl,lh a
    exact ⟨_,rfl,h⟩
   ·wp_walk using lP hl,lh a
    exact ⟨_,rfl,h⟩
  ·wp_walk using lP hl,lh a
   exact ⟨_,rfl,h⟩
variable {s:iu} {l:Addr} {items:Array ip}
theorem yr {prog:iE} {w:iG} {A:iL} {E:ip->iu->Prop} {Q:ip->iu->Prop} (a:s.heap.IsTuple l items)
  (h:∀ h',IsEnum h' (s.heap.objs.size+1) s.heap.objs.size 0 .none->h'.IsTupleIter s.heap.objs.size l 0->h'.objs.size=s.heap.objs.size+2 ->(∀ b o,s.heap.get? b=ii o->h'.get? b=ii o)->Q (.ref (s.heap.objs.size+1)) { s with heap:=h' }) :
  iy (model prog w) A (call (.type "enumerate") [.ref l]) Q E s:=by
 obtain ⟨⟨c,dct,t,sl⟩,hl,d,n,hd⟩:=a;replace d:c=.type "tuple":=d;replace hd:t=.seq items n:=hd;subst d hd;refine callType_new F.called_enumerate (by decide) (F.typeCall_enumerate_1 _) (F.newCall_enumerate_1 _) (λobj=>F.args_object_init_2 obj _) F.entry_enumerate_new (qat l items n dct sl) ⟨hl,?_⟩;have z:(s.heap.push { cls:=.type "tuple_iterator",data:=.fields #[.ref l,.int 0 0] }).objs.size=s.heap.objs.size+1:=bu ..;show _/\_;rw [z];have i:IsEnum ((s.heap.push { cls:=.type "tuple_iterator",data:=.fields #[.ref l,.int 0 0] }).push { cls:=.type "enumerate",data:=.fields #[.none,.bool iq,.ref s.heap.objs.size,iR 0,.none,.none] }) (s.heap.objs.size+1) s.heap.objs.size 0 .none:=by have:=aj (s.heap.push { cls:=.type "tuple_iterator",data:=.fields #[.ref l,.int 0 0] }) (o:={ cls:=.type "enumerate",data:=.fields #[.none,.bool iq,.ref s.heap.objs.size,iR 0,.none,.none] }) rfl;rw [z] at this; exact this
 exact ⟨⟨_,i,rfl⟩,h _ i ⟨_,aa _ (aj _ rfl),rfl,rfl⟩ (by rw [bu,z]) λb o x=>aa _ (aa _ x)⟩
theorem Zk {prog:iE} {w:iG} {A:iL} {E:ip->iu->Prop} {k:SK} {Q:ip->iu->Prop} (L:SeqK s.heap l k items)
  (h:∀ h',IsEnum h' (s.heap.objs.size+1) s.heap.objs.size 0 .none->ItK h' s.heap.objs.size l k 0->(∀ b o,s.heap.get? b=ii o->h'.get? b=ii o)->Q (.ref (s.heap.objs.size+1)) { s with heap:=h' }) :
  iy (model prog w) A (call (.type "enumerate") [.ref l]) Q E s:=by
 cases k with
 | l=>exact call_enumerate_list L λh' a b _ c=>h h' a b c
 | t=>exact yr L λh' a b _ c=>h h' a b c
variable {K:Frag} {a:Addr} {xs:List V}
theorem YR {H H':Hp} (e:Same H H'):∀ {k:SK},SqK K H a k xs->SqK K H' a k xs
 | .l,p=>e.seq p
 | .t,p=>jj e p
noncomputable def qiU (k:SK) (K:Frag) (a:Addr) (xs:List V):It:=
 ⟨λi H=>i < xs.length/\SqK K H a k xs,λi H v H'=>∃ x p,xs[i]?=ii x/\H p=ij/\v=.ref p/\H'=upd H p (.tup [.int (i:Nat),x]),λi H=>xs.length<=i/\SqK K H a k xs⟩
theorem Zl {P:iE} {w:iG} {K:Frag} {k:SK} {L:List Expr} {y} {pos:Pos} (b a:Nat) (xs:List V) (h1:a < b):Turn P w K (.Tuple L y pos) (qiU k K a xs) [b+1,b] (b+1) (λi h=>(∃ old,IsEnum h (b+1) b i old)/\ItK h b a k i/\i<=xs.length) where
 mem:=by simp
 obj:=λi h st c d=>by
  obtain ⟨⟨old,g⟩,hit,R⟩:=st;obtain ⟨o,t,l,hd⟩:=hit.obj;simp only [ac,aM,or_false] at d;rcases d with rfl | rfl;·exact ⟨_,g,λv z=>by cases z⟩
  ·exact ⟨o,t,λv z=>by rw [hd] at z; cases z⟩
 keep:=λi h h' st k=>by obtain ⟨⟨old,g⟩,hit,R⟩:=st;obtain ⟨o,t,l,hd⟩:=hit.obj;exact ⟨⟨old,k _ (by simp) _ g⟩,.of ⟨o,k _ (by simp) _ t,l,hd⟩,R⟩
 item:=by
  intro X M D N d i pins s σ H E I u st hg;subst M D N;obtain ⟨⟨old,g⟩,hit,R⟩:=st;obtain ⟨hl,q⟩:=hg;obtain ⟨its,Z,n,r,e0,S,_,Q,_⟩:=Vz I q;have pl:=SeqK.of e0 Q S;have hi:i < its.length:=by rw [<-r.length]; exact hl
  have hx:its.toArray[i]?=ii its[i]:=by simp [hi]
  have G:a≠b:=aD h1;refine wpAny_pyNext_enum_itemD (QV (A:=X.A.in1) (I.ok.hd d) k b a G its.toArray) g ⟨hit,pl⟩ (by simpa using hi) (Nat.succ_ne_self b) (by
   intro z;simp only [ac,aM,or_false] at z;have h1:@LT.lt Nat _ a b:=h1;rcases z with z | z
   ·have z:@Eq Nat _ _:=z
    lia
   ·have z:@Eq Nat _ _:=z
    lia) λy h' tk f F C W hz kp=>?_
  have O:y=its[i]:=by have f:its.toArray[i]?=ii y:=f;rw [hx] at f;exact (aK.inj f).symm
  subst O;refine ⟨_,rfl,wpAny_letOwnedTupleGo_enum F λhq e2 p=>?_⟩;obtain ⟨x,ex,Y⟩:=gI r (aE hi);have hT:H s.heap.objs.size=none:=I.hok.fresh (ax _);have B:b+1 < s.heap.objs.size:=ay g;have T:∀ c∈[b+1,b],c≠s.heap.objs.size:=λc d=>by
   simp only [ac,aM,or_false] at d;have lt':b+1 < s.heap.objs.size:=B;generalize s.heap.objs.size=m at lt';intro z
   lia
  have I1:Inv X pins σ (upd H s.heap.objs.size (.tup [.int (i:Nat),x])) { s with heap:=s.heap.push { cls:=.type "tuple",data:=.seq #[.int i tk,its[i]] } }:=
   I.laid (t':=s.toks) (λ_ _ e=>aa _ e) (ax _) ⟨⟨by simp only [ah,aQ]; rw [iF]; decide,_,aj _ rfl,rfl⟩,[.int i tk,its[i]],.cons ⟨_,rfl⟩ (.cons Y .nil),⟨_,aj _ rfl,rfl,_,rfl⟩⟩
  have I2:Inv X pins σ (upd H s.heap.objs.size (.tup [.int (i:Nat),x])) { s with heap:=hq,toks:=tk+1 }:=by
   refine JF (s:={ s with heap:=s.heap.push { cls:=.type "tuple",data:=.seq #[.int i tk,its[i]] } }) (ch:=[b+1,b]) I1 (λc o j e=>?_) λc d=>⟨by rw [qA (T c d)]; exact (u c d).1,(u c d).2⟩
   simp only [ac,aM,or_false,not_or] at j;rw [p.2 c j.1];by_cases U:c=s.heap.objs.size;·subst U;have e3:(s.heap.push ({ cls:=.type "tuple",data:=.seq #[.int i tk,its[i]] }:Obj)).get? s.heap.objs.size=ii { cls:=.type "tuple",data:=.seq #[.int i tk,its[i]] }:=aj _ rfl;rw [show (s.heap.push ({ cls:=.type "tuple",data:=.seq #[.int i tk,its[i]] }:Obj)).get? s.heap.objs.size=ii o from e] at e3;rw [e3];exact W
   ·have e4:s.heap.get? c=ii o:=by have:=e;rwa [show (s.heap.push ({ cls:=.type "tuple",data:=.seq #[.int i tk,its[i]] }:Obj)).get? c=s.heap.get? c from eY _ _ _ U] at this
    exact kp c o j.1 j.2 e4
  refine ⟨.ref s.heap.objs.size,_,I2,rfl,⟨x,_,ex,hT,rfl,rfl⟩,⟨⟨_,by simpa using e2⟩,?_,hl⟩,λc d=>by rw [qA (T c d)]; exact (u c d).1⟩;obtain ⟨o,t,l,hd⟩:=C.1.obj;exact .of ⟨o,(p.2 _ (Nat.succ_ne_self b).symm).trans t,l,hd⟩
 done:=by
  intro X M D N d i pins s σ H E I u st hg;subst M D N;obtain ⟨⟨old,g⟩,hit,R⟩:=st;obtain ⟨hl,q⟩:=hg;obtain ⟨its,Z,n,r,e0,S,_,Q,_⟩:=Vz I q;have pl:=SeqK.of e0 Q S;have J:i=its.toArray.size:=by rw [au,<-r.length];exact Nat.le_antisymm R hl
  subst J;refine wpAny_pyNext_enum_endD (QV (A:=X.A.in1) (I.ok.hd d) k b a (aD h1) its.toArray) g ⟨hit,pl⟩ λh' ex=>⟨rfl,JF (t':=s.toks) (ch:=[b+1,b]) I (λc o j e=>?_) u⟩
  simp only [ac,aM,or_false,not_or] at j;exact ex c o j.2 e
 self:=λ_ _ _ _ _ st h=>wpAny_pyIter_enum st.1.choose_spec h
theorem qfE {k:SK} {F:Hp} {ds:List D} (p:SqK K F a k xs) (t:IsL K F xs ds):ItIs K F (qiU k K a xs) (JK ds) where
 go:=λi H hi s=>by unfold JK at hi;rw [aB,fG] at hi;exact ⟨by rw [t.length]; exact hi,YR s p⟩
 yld:=λi Fi H v H' d e s1 s2 y=>by
  obtain ⟨x,q,hx,hn,rfl,rfl⟩:=y;obtain ⟨d1,e1,i1⟩:=t.get hx;have o:d=.tup [.int (i:Nat),d1]:=by unfold JK at e;rw [aG,List.getElem?_zipIdx,e1] at e;simpa using e.symm
  subst o;obtain ⟨g1,W⟩:=vY (u:=.tup [.int (i:Nat),x]) s2 hn;exact ⟨_,W,g1,.tup (.of qu) (.cons (.int _) (.cons ((i1.mono s1).mono W.grow) .nil))⟩
 stop:=λi H hi s=>by unfold JK at hi;rw [aB,fG] at hi;exact ⟨by rw [t.length]; exact hi,YR s p⟩
section
variable {X:Cx} {C:Ct} {own:List Nat} {a:Expr} {fa:jl} {ma:Mo} {pos:Pos}
theorem qc2 {k:SK} {ta:TA} {p tpos:Pos} {L:List Expr} {x1} (hg:Gl X "enumerate") (g:X.mg "enumerate"=ij) (j:PA X [a] ta) (f:iA [a] X.env=[(iq,eval a X.env)]):PI X (.Tuple L x1 tpos) (.Call (.Name "enumerate" p) [a] [] pos) (λσ H R=>ta σ H λvs H1=>∃ m xs,vs=[.ref m]/\SqK X.K H1 m k xs/\R (qiU k X.K m xs) H1):=by
 refine ⟨?_⟩;intro pins s σ H R I h;refine Call_ (yS I hg g qan (bG (thn (j pos pins s σ H _ I h) λus s1 ⟨vs,H1,d,r1,q1⟩=>?_) f rfl));obtain ⟨m,xs,rfl,w1,q⟩:=q1;obtain ⟨u,rfl,e1⟩:=yq r1;cases e1;obtain ⟨its,W,n,v,e0,M,_,l,_⟩:=Vz d w1;have pl:=SeqK.of e0 l M;have t:m < s1.heap.objs.size:=pl.lt;refine Zk pl λh' i hit kp=>?_;refine wpAny_pyIter_enum i ?_;refine ⟨s1.heap.objs.size+1,_,_,qiU k X.K m xs,H1,rfl,d.kept (t':=s1.toks) kp,Zl s1.heap.objs.size m xs t,⟨⟨_,i⟩,hit,bh _⟩,λb c=>?_,q⟩;have e:s1.heap.objs.size<=b:=by
  simp only [ac,aM,or_false] at c;rcases c with rfl | rfl;·exact dM _ _
  ·exact ax _
 exact d.fpOk e (d.hok.fresh e)
theorem JL {p tpos:Pos} {L:List Expr} {x1} (n:C.K=X.K) (hg:Gl X "enumerate") (m:X.mg "enumerate"=ij) (g:PE X a (tE C own ma fa)) (h1:ma≠.any:=by decide) (s:iA [a] X.env=[(iq,eval a X.env)]:=by exact qR rfl):PI X (.Tuple L x1 tpos) (.Call (.Name "enumerate" p) [a] [] pos) (tIt C own (gO fa)):=by
 refine qcw (qc2 (k:=.l) hg m (jt (uh g h1) kM s) s) λσ H R ⟨F,ρ,b,h⟩=>⟨F,ρ,b,PoI.bindV h λv F1 H1 d ρ1 r c1 c h1=>?_⟩
 have c:Is C.K F1 v d:=c;cases c with
 | lst p t=>exact ⟨_,_,rfl,by rw [<-n]; exact r.sub.seq p,by rw [<-n]; exact h1 _ F1 H1 r c1 (qfE (k:=.l) p t)⟩
 | _=>exact h1.elim
end
end L2.D2
namespace L2.D2
open PySem PySem.Spec PyProof.Rows
end L2.D2
namespace L2.D2
open PySem PySem.Spec PyProof.Rows PySem.W
variable {N:Nat} {s:iu}
theorem qd5 {cmp:Nat->Nat->(Bool->iu->Prop)->iu->Prop} {Q:Nat->iu->Prop} (d:∀ i,i+1 < N->∀ C:Bool->iu->Prop,C iq s->cmp (i+1) i C s):∀ (f n:Nat),1<=n->n+f<=N->Q (n+f) s->(kas_asc (dN (aP N)) f n).kasWp cmp Q s
 | 0,n,_,_,h=>h
 | f+1,n,h1,h2,h=>by
  obtain ⟨m,rfl⟩:∃ m,n=m+1:=⟨n - 1,by lia⟩
  have e1:(dN (aP N)).getD (m+1) 0=m+1:=by simp [Array.getD,show m+1 < N by lia]
  have e2:(dN (aP N)).getD (m+1 - 1) 0=m:=by simp [Array.getD,show m < N by lia]
  show cmp ((dN (aP N)).getD (m+1) 0) ((dN (aP N)).getD (m+1 - 1) 0) _ s;rw [e1,e2];refine d m (by lia) _ ?_;have h:Q (m+1+1+f) s:=by rw [show m+1+1+f=m+1+(f+1) by lia]; exact h
  exact qd5 d f (m+1+1) (by lia) (by lia) h
theorem qfF {cmp:Nat->Nat->(Bool->iu->Prop)->iu->Prop} {G:Array Nat->iu->Prop} (a:1<=N) (d:∀ i,i+1 < N->∀ C:Bool->iu->Prop,C iq s->cmp (i+1) i C s) (h:G (dN (aP N)) s):(kas_sort N).kasWp cmp G s:=by unfold kas_sort kas_count;rw [KasT.kasWp_bind,KasT.kasWp_bind];refine qd5 d (N - 1) 1 (ax _) (by lia) ?_;rw [show 1+(N - 1)=N by lia,Aa (by simp)];show (if N < N then _ else KasT.ret _:KasT (Array Nat)).kasWp cmp G s;rw [Ab (cg _)];exact h
section
variable {prog:iE} {w:iG} {A:iL} {E:ip->iu->Prop}
theorem JM {a:Addr} {vs:List ip} {n:Nat} {P:PySem.Fin->iu->Prop} (j:s.heap.get? a=ii (iT "list" vs.toArray n)) (l:vs.length < 64)
  (k:2<=vs.length->∀ h':Heap,(∀ b o,b≠a->s.heap.get? b=ii o->h'.get? b=ii o)->∃ κ,(∀ Q:SortKind->iu->Prop,Q κ { s with heap:=h' }->iy (model prog w) A (keyKind' vs.toArray) Q (λ_ _=>False) { s with heap:=h' })/\∀ i,i+1 < vs.length->∀ C:Bool->iu->Prop,C iq { s with heap:=h' }->kas_ask prog w A κ vs (i+1) i C { s with heap:=h' })
  (h:P (.done (.ret .none)) { s with heap:=sortedHeap s.heap a vs vs.toArray }) :
  iy (model prog w) A (Builtin.«list.sort» ⟨[.ref a],[]⟩) P E s:=by
 rw [list_sort_plain];have m:a < s.heap.objs.size:=ay j;refine im (listItems_at j rfl ?_);refine im (listUpdate_at j rfl ?_ (by rw [au,iF]; lia) (bh _));obtain ⟨e1,ho1⟩:∃ e1,(s.heap.update a (bQ λ_=>#[])).get? a=ii (iT "list" #[] e1):=⟨_,get?_update_seq j (λ_=>#[])⟩
 refine im (seqEpoch_at ho1 rfl ?_);refine im (wpAny_newTuple ?_ (by show vs.length<=_; rw [iF]; lia));refine im (lZ ?_ (bh _));refine iP ?_;have c:(((s.heap.update a (bQ λ_=>#[])).push (iT "tuple" vs.toArray 0)).push (iT "list" #[] 0)).get? a=ii (iT "list" #[] e1):=by rw [eY _ _ _ (by rw [size_push',Heap.size_update]; exact aD (cr m)),eY _ _ _ (by rw [Heap.size_update]; exact aD m)];exact ho1
 have keep:∀ b o,b≠a->s.heap.get? b=ii o->(((s.heap.update a (bQ λ_=>#[])).push (iT "tuple" vs.toArray 0)).push (iT "list" #[] 0)).get? b=ii o:=λb o y e=>
  aa _ (aa _ (by rw [Heap.get?_update_ne _ _ _ _ y]; exact e))
 show iy (model prog w) A _ P E { s with heap:=((s.heap.update a (bQ λ_=>#[])).push (iT "tuple" vs.toArray 0)).push (iT "list" #[] 0) };dsimp only;have hsz:vs.toArray.size=vs.length:=by simp
 have f:(vs.toArray.zip vs.toArray).map (·.2)=vs.toArray:=by apply Array.toList_inj.mp;rw [Array.toList_map,Array.toList_zip];exact List.map_snd_zip (ax _)
 by_cases h2:vs.toArray.size < 2;·rw [Aa h2,Aa h2];refine im (iw ?_);rw [StateT.run_pure];refine im (iw ?_);dsimp only;have z:arrOf (SortSt.mk' general' (vs.toArray.zip vs.toArray) #[] 7 ij)=vs.toArray.zip vs.toArray:=rfl;refine im (seqEpoch_at c rfl ?_);rw [z,f];refine im (listUpdate_at c rfl ?_ (bh _) (by rw [hsz,iF]; lia));simp only [bne_self_eq_false,fF,if_false];exact iw h
 ·rw [Ab h2,Ab h2];rw [hsz] at h2;obtain ⟨κ,t,v⟩:=k (by lia) _ keep;refine im (j6 (t (λd s'=>d=κ/\s'={ s with heap:=((s.heap.update a (bQ λ_=>#[])).push (iT "tuple" vs.toArray 0)).push (iT "list" #[] 0) }) ⟨rfl,rfl⟩) (λd s' q=>?_) λ_ _ x=>x.elim);obtain ⟨rfl,rfl⟩:=q;refine im (j6 (kat_run (Q:=λg s'=>(arrOf g).map (·.2)=vs.toArray/\failedOf g=ij/\s'={ s with heap:=((s.heap.update a (bQ λ_=>#[])).push (iT "tuple" vs.toArray 0)).push (iT "list" #[] 0) })
   (G:=λp s'=>p=dN (aP vs.length)/\s'={ s with heap:=((s.heap.update a (bQ λ_=>#[])).push (iT "tuple" vs.toArray 0)).push (iT "list" #[] 0) })
   rfl (by lia) l (λZ g s' H D B r=>⟨?_,B,r.2⟩) (qfF (by lia) v ⟨rfl,rfl⟩)) ?_ λ_ _ e=>e)
  ·rw [kat_snds rfl D,r.1];congr 1;refine eX λi=>?_;by_cases hi:i < vs.length;·simp [hi]
   ·simp [hi]
  ·rintro ⟨⟨⟩,g⟩ s' ⟨hp,u,rfl⟩;dsimp only;refine im (seqEpoch_at c rfl ?_);rw [hp];refine im (listUpdate_at c rfl ?_ (bh _) (by rw [hsz,iF]; lia));rw [u];simp only [bne_self_eq_false,fF,if_false];exact iw h
end
end L2.D2
namespace L2.D2
open PySem PySem.Spec PyProof.Rows
noncomputable def KN {α:Type} (ds:List α) (lo hi:Option Int):List α:=(ds.drop (HT.sIx ds.length 0 lo)).take (HT.sIx ds.length ds.length hi - HT.sIx ds.length 0 lo)
noncomputable def qjP (lo hi:Option Int):D->Out D
 | .lst ds=>.ok (.lst (KN ds lo hi))
 | _=>.bad
noncomputable def vC (fa:jl) (l u:Option (jl)):jl:=λρ=>(fa ρ).bind λp=>(vZ l p.2).bind λa=>(vZ u a.2).bind λb=>(qjP a.1 b.1 p.1).plain.bind λd=>.ok (d,b.2)
section
variable {X:Cx} {C:Ct} {own:List Nat} {e:Expr} {fa:jl} {ma:Mo} {pos p2:Pos}
theorem qjQ (n:C.K=X.K):SlR X (λx lo hi H Q=>∃ F d,Same F H/\Is C.K F x d/\PoV C .sh F H (qjP lo hi d) Q):=by
 intro pins s σ H x v vl b lo hi sl Q I r e pl c h;obtain ⟨F,d,y,is,po⟩:=h;cases d with
 | lst ds=>
  cases is with
  | @lst a xs _ hq t=>
   have po:PoV C .sh F H (.ok (.lst (KN ds lo hi))) Q:=po;refine qeW pins s σ H _ v vl b lo hi sl Q I r e pl c ⟨a,xs,rfl,by rw [<-n]; exact y.seq hq,λp hp=>?_⟩;obtain ⟨s2,c2⟩:=vY (u:=.lst (qeS xs lo hi)) y hp;have z:IsL C.K F (qeS xs lo hi) (KN ds lo hi):=by unfold qeS KN;rw [t.length];exact IsL.take _ (IsL.drop _ t)
   exact po _ _ _ s2 c2 (.lst (.inl (.inl qu)) (z.mono c2.grow))
 | _=>exact po.elim
theorem xu {lo hi:Option Expr} {l u:Option (jl)} (n:C.K=X.K) (j:PE X e (tE C own ma fa)) (hl:PO X lo (tO C own (vZ l))) (i:PO X hi (tO C own (vZ u))) (g:ma≠.any:=by decide):PE X (.Subscript e (.Slice lo hi ij p2) pos) (tE C own .sh (vC fa l u)):=by
 refine kf (qcb (qjQ (C:=C) n) (uh j g) hl i) λσ H Q ⟨F,ρ,p,h⟩=>⟨F,ρ,p,Po.bind h λv F1 H1 d ρ1 f c1 m h1=>?_⟩
 refine ⟨F1,ρ1,f,Po.bindO h1 λs H2 a ρ2 r c2 h2=>⟨s,ρ2,r,Po.bindO h2 λq t b k c c3 o=>?_⟩⟩;exact ⟨q,d,c.sub,(m.mono c2.grow).mono c3.grow,PoV.of c o⟩
end
theorem fsc {N P:List Str} {sc:lG} (a:sc.kind=.function:=by rfl) (b:sc.isCoroutine=false:=by rfl) (c:sc.isGenerator=false:=by rfl) (d:N.Nodup:=by decide +kernel) (e:N.take P.length=P:=by rfl) (f:∀ x∈P,sc.names.lookup x=ii .local\/sc.names.lookup x=ii .cell:=by decide +kernel) (g:∀ y∈sc.names,y.2≠.free:=by decide +kernel):FnScope N P sc:=⟨a,b,c,d,e,f,g⟩
end L2.D2
namespace L2.D2
open PySem PySem.Spec PyProof.Rows PySem.W
noncomputable def KO (H:Hp) (l:List (Addr×List V)):Hp:=λb=>match l.lookup b with
 | some xs=>ii (.tup xs)
 | none=>H b
variable {α:Type}
theorem qau {x:Addr} {a:α}:∀ {l:List (Addr×α)},l.lookup x=ii a->(x,a)∈l
 | [],h=>by simp at h
 | (n,k)::r,h=>by
  rw [bZ] at h;by_cases e:(x == n)=ir
  ·rw [e] at h;have h:ii k=ii a:=h;cases h;have:x=n:=by simpa using e
   rw [this];exact aq ..
  ·rw [Bool.not_eq_true] at e;rw [e] at h;exact af _ (qau h)
variable {H:Hp} {l:List (Addr×List V)} {b:Addr}
theorem YS (h:∀ p∈l,p.1≠b):KO H l b=H b:=by
 unfold KO;cases e:l.lookup b with
 | none=>rfl
 | some xs=>exact absurd rfl (h _ (qau e))
theorem kX {o:HO} (hn:∀ p∈l,H p.1=ij) (e:H b=ii o):KO H l b=ii o:=by rw [YS λp hp q=>?_,e];have:=hn p hp;rw [q,e] at this;cases this
variable {X:Cx} {s:iu}
section
variable {pins:Pns} {σ:St} {F:Hp} {h':Heap}
theorem Inv.lays {t':Nat} (I:Inv X pins σ H s) (k:∀ b u,s.heap.get? b=ii u->h'.get? b=ii u) (hp:∀ p∈l,s.heap.objs.size<=p.1)
  (new:∀ b xs,l.lookup b=ii xs->(xs.length<=sizeLine/\∃ o,h'.get? b=ii o/\o.dict=ij)/\∃ its:List ip,Vals xs its/\IsTup h' b its.toArray):Inv X pins σ (KO H l) { s with heap:=h',toks:=t' }:=by
 have hn:∀ p∈l,H p.1=none:=λp hq=>I.hok.fresh (hp p hq);refine I.un ⟨λb u q _ _ _=>k b u q,λb u q _ _ _=>⟨u.slots,k b u q⟩,λb u q n _=>?_,λb u q _=>⟨u,k b u q⟩,λb xs q=>kX hn q,λb u xs q=>kX hn q,λb ps q=>⟨#[],by rw [kX hn q]; simp⟩⟩ λb u e=>?_
 ·rw [YS λp hq z=>?_];·exact n
  ·exact absurd (ay q) (by rw [<-z]; exact Nat.not_lt.mpr (hp p hq))
 ·cases q:l.lookup b with
  | some xs=>have e:KO H l b=ii u:=e;unfold KO at e;rw [q] at e;cases e;exact new b xs q
  | none=>have e:KO H l b=ii u:=e;unfold KO at e;rw [q] at e;exact (I.hok b u e).stay (λc v _ q=>k c v q) (λc q=>kX hn q) λc xs q=>kX hn q
theorem qc3 (y:Same F H) (hn:∀ p∈l,H p.1=ij):Same (KO F l) (KO H l)/\Chg No F H (KO F l) (KO H l):=by
 have C:∀ p∈l,F p.1=none:=λp hp=>by
  cases q:F p.1 with
  | none=>rfl
  | some o=>have:=hn p hp;rw [y _ o q] at this;cases this
 refine ⟨λb o e=>?_,⟨λb o e _=>kX hn e,λb e=>?_,λb o e=>kX C e,λb e=>?_⟩⟩
 ·unfold KO at e ⊢;cases q:l.lookup b with
  | some xs=>rw [q] at e; exact e
  | none=>rw [q] at e; exact y b o e
 ·cases q:H b with
  | none=>exact absurd q e
  | some o=>rw [kX hn q]; simp
 ·cases q:l.lookup b with
  | some xs=>exact .inr (.inl (hn _ (qau q)))
  | none=>have e:KO F l b≠none:=e;unfold KO at e;rw [q] at e;exact .inl e
end
variable {prog:iE} {w:iG} {A:iL} {E:ip->iu->Prop}
section
theorem VM {K:Type} [DecidableEq K] {knd:KeyKind prog w K} {r d:Addr} {kvs:List (K×ip)} {ep:Nat} {Q:ip->iu->Prop} (t:A.handled=ij) (v:s.heap.IsItemsView r d) (q:s.heap.DictAt knd d kvs ep) (g:kvs.length < 64)
  (c:2<=kvs.length->∀ (as:List Addr) (s':iu) (p:iL),as.length=kvs.length->KdxG knd kvs s.heap.objs.size s'.heap as->∃ κ,(∀ Q:SortKind->iu->Prop,Q κ s'->iy (model prog w) p (keyKind' (as.map aX).toArray) Q (λ_ _=>False) s')/\∀ i,i+1 < kvs.length->∀ C:Bool->iu->Prop,C iq s'->kas_ask prog w p κ (as.map aX) (i+1) i C s')
  (y:∀ (h1 h':Heap) (tk e:Nat) (as:List Addr),(∀ b o,s.heap.get? b=ii o->h1.get? b=ii o)->(∀ b o,h1.get? b=ii o->h'.get? b=ii o)->as.length=kvs.length->KdxG knd kvs s.heap.objs.size h1 as->h'.get? h1.objs.size=ii (iT "list" (as.map aX).toArray e)->Q (.ref h1.objs.size) { s with heap:=h',toks:=tk }) :
  iy (model prog w) A (call (.builtin "sorted") [.ref r]) Q E s:=by
 refine dR kind_sorted plain_sorted entry_sorted (args_sorted1 _) ?_; unfold Builtin.«sorted»;refine im (m:=checkCount "sorted" 1 1 _) (iw ?_);refine im (kdx_collect (A:=A.in1) (knd:=knd) (kvs:=kvs) (ep:=ep) t v q (by rw [iF]; lia) λh1 tk as k1 hl G=>?_);have h:(as.map aX).length=kvs.length:=by rw [aB]; exact hl
 refine im (lZ ?_ (by rw [h,iF]; lia));have Y:(h1.push (iT "list" (as.map aX).toArray 0)).get? h1.objs.size=ii (iT "list" (as.map aX).toArray 0):=aj _ rfl;have W:∀ h2:Heap,(∀ b o,b≠h1.objs.size->(h1.push (iT "list" (as.map aX).toArray 0)).get? b=ii o->h2.get? b=ii o)->KdxG knd kvs s.heap.objs.size h2 as:=λh2 k2=>
  ⟨G.rise,G.above,λj a D=>by obtain ⟨key,k,x,e1,e2,e3⟩:=G.pairs j a D;exact ⟨key,k,x,e1,e2,k2 a _ (aD (ay e3)) (aa _ e3)⟩⟩
 refine im (iP (iJ slot_list_sort (s:={ s with heap:=h1.push (iT "list" (as.map aX).toArray 0),toks:=tk }) ⟨_,Y,rfl⟩ entry_list_sort (JM Y (by rw [h]; exact g) (λf h2 k2=>by rw [h] at f ⊢;exact c f as { s with heap:=h2,toks:=tk } _ hl (W h2 k2)) ⟨_,rfl,?_⟩) (args_list_sort _)));obtain ⟨e,u⟩:=sortedHeap_at (out:=(as.map aX).toArray) Y;refine iw ⟨_,rfl,y h1 _ tk e as k1 (λb o n=>?_) hl G u⟩;have l:=ay n;rw [sortedHeap_old (aD l) (by rw [bu]; exact cr l)];exact aa _ n
end
noncomputable def kD:Key->D
 | .inl i=>.int i
 | .inr x=>.str x
noncomputable def qfG:List Str->Bool
 | x::y::r=>decide (y≠x)&&!decide (y.cps.toList < x.cps.toList)&&qfG (y::r)
 | _=>ir
theorem qav:∀ {ss:List Str},qfG ss=ir->∀ i x y,ss[i]?=ii x->ss[i+1]?=ii y->y≠x/\¬y.cps.toList < x.cps.toList
 | [],_,i,x,y,h1,_=>by simp at h1
 | [_],_,i,x,y,_,h2=>by simp at h2
 | a::b::r,h,i,x,y,h1,h2=>by
  unfold qfG at h;simp only [aS,decide_eq_true_eq,fL,decide_eq_false_iff_not] at h;cases i with
  | zero=>cases h1;cases h2;exact h.1
  | succ i=>exact qav h.2 i x y h1 h2
noncomputable def YT (kvs:List (Key×D)):List D:=kvs.map λkv=>.tup [kD kv.1,kv.2]
noncomputable def jB:D->Out D
 | .dct kvs=>(match xU kvs with
  | some ss=>if ss.length < 64/\qfG ss=ir/\(ss.all λy=>decide (y.length<=sizeLine))=ir then .ok (.lst (YT kvs)) else .bad
  | none=>.bad)
 | _=>.bad
theorem qd6 {κ:Type}:∀ {kv:List (κ×V)} {vs:List (κ×ip)},KV kv vs->∀ (j:Nat) (k:κ) (x:ip),vs[j]?=ii (k,x)->∃ v,kv[j]?=ii (k,v)/\RelV v x
 | _,_,.nil,j,k,x,h=>by simp at h
 | _,_,.cons (a:=p) (b:=q) r t,j,k,x,h=>by
  cases j with
  | zero=>cases h;obtain ⟨p1,p2⟩:=p;obtain ⟨rfl,r2⟩:=r;exact ⟨p2,rfl,r2⟩
  | succ j=>exact qd6 t j k x h
theorem qd7:∀ {as:List Addr} {ys:List α} {b:Addr} {y:α},(as.zip ys).lookup b=ii y->∃ j:Nat,as[j]?=ii b/\ys[j]?=ii y
 | [],_,b,y,h=>by simp at h
 | _::_,[],b,y,h=>by simp at h
 | a::as,z::ys,b,y,h=>by
  rw [dq,bZ] at h;by_cases e:(b == a)=ir
  ·rw [e] at h;have h:ii z=ii y:=h;cases h;have:b=a:=by simpa using e
   rw [this];exact ⟨0,rfl,rfl⟩
  ·rw [Bool.not_eq_true] at e;rw [e] at h;obtain ⟨j,h1,h2⟩:=qd7 h;exact ⟨j+1,h1,h2⟩
theorem qd8:∀ {as:List Addr} {ys:List α} {j:Nat} {b:Addr} {y:α},as.Nodup->as[j]?=ii b->ys[j]?=ii y->(as.zip ys).lookup b=ii y
 | [],_,j,b,y,_,h,_=>by simp at h
 | _::_,[],j,b,y,_,_,h=>by simp at h
 | a::as,z::ys,0,b,y,_,h1,h2=>by cases h1;cases h2;rw [dq,bZ];simp
 | a::as,z::ys,j+1,b,y,hn,h1,h2=>by
  rw [dq,bZ];have hn:=aR.mp hn;have:(b == a)=false:=by rw [beq_eq_false_iff_ne];intro q;rw [q] at h1;exact hn.1 (List.mem_iff_getElem?.mpr ⟨j,h1⟩)
  rw [this];exact qd8 hn.2 h1 h2
theorem VN:∀ as:List Addr,Vals (as.map V.ref) (as.map aX)
 | []=>.nil
 | _::as=>.cons rfl (VN as)
theorem VO {K:Frag} {F F':Hp} (g:Same F F'):∀ {kv:List (Key×V)} {ks:List (Key×D)} {as:List Addr},IsK K F kv ks->as.length=kv.length->(∀ k∈ks.map (·.1),∃ x:Str,k=.inr x/\x.length<=sizeLine) ->(∀ (j:Nat) (a:Addr) (p:Key×V),as[j]?=ii a->kv[j]?=ii p->F' a=ii (.tup [kV p.1,p.2]))->IsL K F' (as.map V.ref) (YT ks)
 | _,_,[],.nil,_,_,_=>.nil
 | _,_,_::_,.nil,h,_,_=>by simp at h
 | _,_,[],.cons _ _,h,_,_=>by simp at h
 | _,_,a::as,.cons (k:=k) (v:=v) (d:=d) h t,hl,hk,hF=>by obtain ⟨x,rfl,hx⟩:=hk _ (aq ..);have e:=hF 0 a (.inr x,v) rfl rfl;exact .cons (.tup (.inl (.inl e)) (.cons (.str hx) (.cons (h.mono g) .nil))) (VO g t (by simpa using hl) (λk b=>hk k (af _ b)) λj a p h1 h2=>hF (j+1) a p h1 h2)
section
variable {C:Ct} {own:List Nat} {o:Expr} {fa:jl} {ma:Mo} {pos p apos cpos:Pos}
theorem zt (hK:C.K=X.K) (hc:X.calm=ir) (hg:Gl X "sorted") (hm:X.mg "sorted"=ij) (c:iC "sorted"=ii (.builtin "sorted")) (ha:PE X o (tE C own ma fa))
  (m:j7 o "items" X.env (eval o X.env)=eval o X.env:=by rfl) (g:(apos.endLine == cpos.line)=true:=by rfl)
  (he2:iA [.Call (.Attribute o "items" apos) [] [] cpos] X.env=[(iq,eval (.Call (.Attribute o "items" apos) [] [] cpos) X.env)]:=by exact qR rfl) :
  PE X (.Call (.Name "sorted" p) [.Call (.Attribute o "items" apos) [] [] cpos] [] pos) (tE C own .fr (d1 jB fa)):=by
 refine ⟨?_⟩;intro pins s σ H Q I h;refine i7 (yS I hg hm c ?_ (by decide) (by decide));rw [he2];refine dj rfl (dI (dh ?_));refine wpAny_Call_method m rfl g d9 PySem.F.slot_dict_items PySem.F.type_dict_items (thn (ha pins s σ H _ I (qcl (ma:=ma) h)) λu s1 ⟨x,H1,P,rx,F,dx,sb,tx,po⟩=>?_);cases dx with
 | dct kvs=>
  obtain ⟨a,kv,rfl,hH,W⟩:=tx.dct sb;obtain rfl:u=aX a:=rx;obtain ⟨t1,t2,f⟩:=qdS P (.inl ⟨kv,.inl hH⟩);refine ⟨t1,t2,?_⟩;refine dj rfl (PySem.evalArgs_none ?_);cases q:xU kvs with
  | none=>simp only [jB,q] at po; exact po.elim
  | some ss=>
   simp only [jB,q] at po;by_cases hl:ss.length < 64/\qfG ss=ir/\(ss.all λy=>decide (y.length<=sizeLine))=ir
   ·rw [Aa hl] at po;obtain ⟨l1,l2,l3⟩:=hl;obtain ⟨hz,f,vs,rel,dd⟩:=(show ObjOk X.prog X.w H1 s1.heap a (.dK kv) from P.hok a _ hH)
    have hk:vs.map (·.1)=ss.map bn:=by rw [<-KV.keys rel,W.keys,gc q]
    have hlen:vs.length=ss.length:=by have:=congrArg fI hk; simpa using this
    have hlk:kv.length=vs.length:=rel.length;refine l9 PySem.F.slot_dict_items dd.typeIs PySem.F.entry_dict_items (PySem.F.args_dict_items_1 _) (meets_dict_items (qQ X.prog X.w) a f) ⟨⟨vs,dd⟩,?_⟩;refine ez ?_;obtain ⟨ep,da⟩:=dd.dictAt;have E:∀ (j:Nat) (k:Key) (x:ip),vs[j]?=ii (k,x)->∃ y,ss[j]?=ii y/\k=.inr y:=λj k x e=>by
     have e3:(vs.map (·.1))[j]?=ii k:=by rw [aG,e]; rfl
     rw [hk,aG] at e3;obtain ⟨y,O,A⟩:=aT.mp e3;exact ⟨y,O,A.symm⟩
    have r:∀ {lo:Addr} {h:Heap} {as:List Addr},KdxG (qQ X.prog X.w) vs lo h as->∀ (j:Nat) (b:Addr),as[j]?=ii b->∃ y t x,ss[j]?=ii y/\vs[j]?=ii (.inr y,x)/\h.get? b=ii { cls:=.type "tuple",data:=.seq #[.str y t,x] }:=λG j b hj=>by
     obtain ⟨key,k,x,e1,e2,e3⟩:=G.pairs j b hj;obtain ⟨y,O,rfl⟩:=E j k x e1;rcases ji (show xM (bn y) key=ir from e2) with ⟨i,t,A,_⟩ | ⟨z,t,A,rfl⟩
     ·cases A
     ·cases A;exact ⟨_,t,x,O,e1,e3⟩
    refine VM (knd:=qQ X.prog X.w) (d:=a) (kvs:=vs) (ep:=ep) (I.ok.hd hc) ⟨_,aj _ rfl,rfl,rfl⟩ (da.push _) (by lia) (λh2 as s' A' hla n=>?_) λh1 h' tk e as k1 k2 hla n hp=>?_
    ·refine ⟨tuples' ir,λQ' hQ'=>?_,λi hi C' hC=>?_⟩
     ·obtain ⟨fs,f1,f2,f3⟩:∃ fs:List ip,KatTups s'.heap (as.map aX) fs/\fs.length=as.length/\∀ v∈fs,∃ y t,v=d7 y t:=by
       have go:∀ (l:List Addr),(∀ b∈l,∃ y t x,s'.heap.get? b=ii { cls:=.type "tuple",data:=.seq #[d7 y t,x] })->∃ fs:List ip,KatTups s'.heap (l.map aX) fs/\fs.length=l.length/\∀ v∈fs,∃ y t,v=d7 y t:=by
        intro l
        induction l with
        | nil=>intro _; exact ⟨[],.nil,rfl,λv c=>by cases c⟩
        | cons b l ih=>
         intro c;obtain ⟨y,t,x,ho⟩:=c b (aq ..);obtain ⟨fs,f1,f2,f3⟩:=ih λU h'=>c U (af _ h');refine ⟨d7 y t::fs,.cons ho rfl rfl (by simp) f1,by simp [f2],λU h'=>?_⟩;rcases ac.mp h' with rfl | h';·exact ⟨_,_,rfl⟩
         ·exact f3 U h'
       refine go as λb N=>?_;obtain ⟨j,hj⟩:=List.mem_iff_getElem?.mp N;obtain ⟨y,t,x,_,_,e3⟩:=r n j b hj;exact ⟨y,t,x,e3⟩
      refine kat_kind (T:=.type "str") f1 (by lia) (λv c=>?_) (by decide) hQ';obtain ⟨y,t,rfl⟩:=f3 v c;exact .now
     ·have L:as[i+1]?=ii (as[i+1]'(by lia)):=aE _;have M:as[i]?=ii (as[i]'(by lia)):=aE _;obtain ⟨y1,u1,x1,g1,_,g2⟩:=r n (i+1) _ L;obtain ⟨y0,u0,x0,g3,_,g4⟩:=r n i _ M;obtain ⟨n1,n2⟩:=qav l2 i y0 y1 g3 g1;unfold kas_ask;rw [show (as.map aX).getD (i+1) .none=.ref (as[i+1]'(by lia)) by rw [List.getD_eq_getElem?_getD,aG,L]; rfl,show (as.map aX).getD i .none=.ref (as[i]'(by lia)) by rw [List.getD_eq_getElem?_getD,aG,M]; rfl];refine kat_lt g2 rfl g4 rfl (kat_cons (wpAny_eqBool_str ?_));rw [Ac n1];refine kat_no (oneLt_str ?_);rw [Ac n2];exact hC
    ·have B:∀ b o,s1.heap.get? b=ii o->h1.get? b=ii o:=λb o eb=>k1 b o (aa _ eb);have hsz:(s1.heap.push { cls:=.type "dict_items",data:=.fields #[.ref a] }).objs.size=s1.heap.objs.size+1:=bu ..;have hab:∀ b∈as,s1.heap.objs.size<=b:=λb N=>by have:=n.above b N;have this:(s1.heap.push { cls:=.type "dict_items",data:=.fields #[.ref a] }).objs.size < b:=this;rw [hsz] at this;exact dJ (Nat.lt_of_succ_lt this)
     have hnd:as.Nodup:=n.rise.imp λz=>aD z;have hlz:as.length=(kv.map λp=>[kV p.1,p.2]).length:=by rw [aB]; lia
     have D:∀ q∈as.zip (kv.map λp=>[kV p.1,p.2]),s1.heap.objs.size<=q.1:=λq hq=>hab _ (dB hq).1;have I2:Inv X pins σ (KO H1 (as.zip (kv.map λp=>[kV p.1,p.2]))) { s1 with heap:=h1,toks:=tk }:=Inv.lays P B D λb xs N=>by obtain ⟨j,S,R⟩:=qd7 N;obtain ⟨y,t,x,e1,e2,e3⟩:=r n j b S;obtain ⟨v,O,A⟩:=qd6 rel j _ x e2;rw [aG,O] at R;cases R;exact ⟨⟨by show 2<=_; rw [iF]; decide,_,e3,rfl⟩,[.str y t,x],.cons ⟨t,rfl⟩ (.cons A .nil),_,e3,rfl,_,rfl⟩
     have Z:H1 h1.objs.size=none:=(P.kept (t':=tk) B).hok.fresh (ax _);have Y:KO H1 (as.zip (kv.map λp=>[kV p.1,p.2])) h1.objs.size=none:=I2.hok.fresh (ax _);obtain ⟨s2,c2⟩:=qc3 (l:=as.zip (kv.map λp=>[kV p.1,p.2])) sb λq hq=>P.hok.fresh (D q hq);obtain ⟨s3,c3,f3⟩:=vw (u:=.lst (as.map V.ref)) s2 Y;have il:=VO (as:=as) c2.grow W (by lia) (λk J=>by
      rw [<-W.keys,KV.keys rel,hk] at J;obtain ⟨y,hy,rfl⟩:=aw.mp J;exact ⟨y,rfl,Ae (aL.mp l3 y hy)⟩) λj b q S R=>by
      unfold KO;rw [qd8 hnd S (by rw [aG,R]; rfl)]
     exact ⟨.ref h1.objs.size,_,I2.laid (t':=tk) (o:=.lst (as.map V.ref)) k2 (ax _) ⟨by rw [aB,iF]; lia,as.map aX,e,VN as,by simpa [iT] using hp⟩,rfl,po _ _ _ s3 (c2.trans' c3) ⟨_,rfl,Z,f3,_,qu,il⟩⟩
   ·rw [Ab hl] at po; exact po.elim
 | _=>exact po.elim
end
section
variable {z TI TO i1 i2:Addr} {fp1 fp2:List Addr} {n1 n2 i:Nat} {P1 P2:Nat->ip->Prop} {S1 S2:Nat->Heap->Prop} {a b:ip}
end
end L2.D2
namespace L2.D2
open PySem PySem.Spec PyProof.Rows
variable {X:Cx} {C:Ct} {own:List Nat} {mr:Mo} {x:Str} {pos':Pos} {ms:List PM} {ps:List Str} {cv:Str->ip} {i:Nat}
section
variable {own':List Nat} {as:List AK} {G:ko} {fr:uj} {m ma mb:Mo} {a b e:Expr} {es:List Expr} {p pos px:Pos} {k j:Nat} {fe f fa fb:jl}
theorem cN (F:GL X.prog X.w X.K X.mg X.base cv j x ps ms mr G) (g:PA X (e::es) (tAr C own as fr)) (hr:Room k X.A:=by assumption) (D:j<=k:=by decide) (hx:yT (CXk X.prog X.w) X C.E:=by exact qjr) (hg:Gl X x:=by rfl) (v:C.cv=cv:=by rfl) (n:C.K=X.K:=by rfl) (s:ms=as.map KJ:=by rfl) (c:∀ i∈jz as,i∈own:=by decide) (nd:(jz as).Nodup:=by decide) (h:frA as<=1:=by decide) (o:∀ i∈C.ox,i∈own:=by exact ug rfl)
  (b:Dbg x:=by decide) (a:iA (e::es) X.env=(iq,eval e X.env)::iA es X.env:=by exact jS rfl) (l:(iZ pos (iA es X.env)).any (·.1)=false:=by exact zW rfl):PE X (.Call (.Name x p) (e::es) [] pos) (tE C own mr (qm as G fr)):=
 jv F hr D hx hg g v n s c nd h o b a l
theorem sl {x:Str} {px:Pos} (g:PA X es (tAr C own as fr)) (a:X.N[i]?=ii x:=by rfl) (c:Vis X.env.scope x:=by exact aZ rfl) (j:i∈own:=by decide) (h:iA (.Name x px::es) X.env=(iq,eval (.Name x px) X.env)::iA es X.env:=by rfl)
  (hd:Dbg x:=by decide) (d:Cdk x:=by decide):PA X (.Name x px::es) (tAr C own (.sl i::as) (qZ fr)):=jy a c j g h hd d
theorem vO {x:Str} (h:X.N[i]?=ii x:=by rfl) (c:Vis X.env.scope x:=by exact aZ rfl) (j:i∈own:=by decide) (hd:Dbg x:=by decide) (d:Cdk x:=by decide):PE X (.Name x pos) (tE C own .any (qc i)):=Gi h c j hd d
theorem se {x:Str} {pos':Pos} (a:PE X e (tE C own m fe)) (b:decide X.N.Nodup=true:=by kernel_rfl) (hi:X.N[i]?=ii x:=by rfl) (hx:Loc X.env.scope x:=by first | exact aZ rfl | exact cf rfl) (h:m≠.any:=by decide) (o:i∉C.io:=by exact yX rfl) (c:ll e (ii (.Name x pos')) pos.line X.env=pure false:=by rfl)
  (f:X.fn x=ir\/X.env.scope.names.lookup x=ii .local:=by first | exact .inl rfl | exact .inr rfl):PS X (.Assign [.Name x pos'] e pos) (tSt C own (vX own [i]) (qU i fe)):=qfa (Ae b) hi hx a h o c f
theorem sO {x:Str} {pos':Pos} (a:PE X e (tE C own .fr fe)) (b:decide X.N.Nodup=true:=by kernel_rfl) (hi:X.N[i]?=ii x:=by rfl) (hx:Loc X.env.scope x:=by first | exact aZ rfl | exact cf rfl) (o:i∉C.io:=by exact yX rfl) (c:ll e (ii (.Name x pos')) pos.line X.env=pure false:=by rfl)
  (h:X.fn x=ir\/X.env.scope.names.lookup x=ii .local:=by first | exact .inl rfl | exact .inr rfl):PS X (.Assign [.Name x pos'] e pos) (tSt C own (i::vX own [i]) (qU i fe)):=qcr (Ae b) hi hx a o c h
theorem gn {x:Str} (a:decide X.N.Nodup=true:=by kernel_rfl) (hi:X.N[i]?=ii x:=by rfl) (hx:Loc X.env.scope x:=by first | exact aZ rfl | exact cf rfl) (j:i∉own:=by decide) (o:i∉C.io:=by exact yX rfl) (h:X.fn x=ir\/X.env.scope.names.lookup x=ii .local:=by first | exact .inl rfl | exact .inr rfl):PG X (.Name x pos) (tGd C own (gNm i)):=xg (Ae a) hi hx j o h
theorem ix (g:PE X a (tE C own ma fa)) (d:PE X b (tE C own mb fb)) (hr:Room k X.A:=by assumption) (c:Jq b:=by exact λ_ _=>rfl) (n:C.K=X.K:=by rfl) (f:ma≠.any:=by decide):PE X (.Subscript a b pos) (tE C own .sh (d2 ixD fa fb)):=qjq n hr.units g d c f
theorem tv (h:PE X e (tE C own m f)) (n:C.K=X.K:=by rfl) (i:∀ whole,isTrue e X.env whole=(do let v <-whole; standAt e.pos; holding [v] (truthy v)):=by exact λ_=>rfl):PT X e (tT C own (ui f)):=qe7 n h i
end
noncomputable def tgN:Expr->List Str
 | .Name x _=>[x]
 | .Tuple es _ _=>es.flatMap λe=>match e with
  | .Name x _=>[x]
  | _=>[]
 | _=>[]
noncomputable def cNm (tg:Expr) (N:List Str) (cap:List Nat):List Str:=tgN tg++cap.map λk=>N.getD k Str.empty
section
variable {elt iter tg:Expr} {ifs:List Expr} {scope:lG} {pos spos:Pos} {fi:uj} {g:D->Sl->Out Sl} {ft:yA} {fe:jl} {me:Mo} {nt:Nat} {cap:List Nat}
theorem gC (a:decide X.N.Nodup=true:=by kernel_rfl) (hi:X.N[i]?=ii x:=by rfl) (hx:Loc X.env.scope x:=by first | exact aZ rfl | exact cf rfl) (j:i∉own:=by decide) (o:i∉C.io:=by exact yX rfl) (h:X.fn x=ir\/X.env.scope.names.lookup x=ii .local:=by first | exact .inl rfl | exact .inr rfl):PG X (.Name x pos) (tGd C own (gNm i)):=xg (Ae a) hi hx j o h
theorem cmp (hi:PI X tg iter (tIt C own fi)) (i:∀ fp L s' H',PE (jE X scope (cNm tg X.N cap) fp L s' H') elt (tE (ctC C nt cap.length) (ua own nt cap) me fe)) (hg:∀ fp L s' H',PG (jE X scope (cNm tg X.N cap) fp L s' H') tg (tGd (ctC C nt cap.length) (ua own nt cap) g):=by exact λ_ _ _ _=>gC) (ht:∀ fp L s' H',PTs (jE X scope (cNm tg X.N cap) fp L s' H') ifs (tT (ctC C nt cap.length) (ua own nt cap) ft):=by exact λ_ _ _ _=>JB)
  (P:X.calm=true:=by rfl) (bs:scB X.env.scope.names scope=true:=by kernel_rfl) (b:qiF X.env.scope.names X.N scope (cNm tg X.N cap) nt cap=true:=by kernel_rfl) (j:me≠.any:=by decide) (c:∀ x,j5 iter X.env x=pure x:=by intro _; rfl) :
  PE X (.ListComp elt [⟨tg,iter,ifs,0⟩] scope pos) (tE C own .fr (jo own nt cap fi g ft fe)):=GG P (qfp rfl bs) (GM rfl rfl b) hi hg ht i j c
theorem qjR {i:Nat} {x:Str} (hi:PI X tg iter (tIt C own fi)) (h:∀ fp L s' H',PE (jE X scope (cNm tg X.N cap) fp L s' H') elt (tE (ctC C nt cap.length) (ua own nt cap) me fe)) (hg:∀ fp L s' H',PG (jE X scope (cNm tg X.N cap) fp L s' H') tg (tGd (ctC C nt cap.length) (ua own nt cap) g):=by exact λ_ _ _ _=>gC) (ht:∀ fp L s' H',PTs (jE X scope (cNm tg X.N cap) fp L s' H') ifs (tT (ctC C nt cap.length) (ua own nt cap) ft):=by exact λ_ _ _ _=>JB)
  (a:decide X.N.Nodup=true:=by kernel_rfl) (V:X.N[i]?=ii x:=by rfl) (hx:Loc X.env.scope x:=by first | exact aZ rfl | exact cf rfl) (P:X.calm=true:=by rfl) (bs:scB X.env.scope.names scope=true:=by kernel_rfl) (b:qiF X.env.scope.names X.N scope (cNm tg X.N cap) nt cap=true:=by kernel_rfl) (j:me≠.any:=by decide) (o:i∉C.io:=by exact yX rfl)
  (G:ll (.ListComp elt [⟨tg,iter,ifs,0⟩] scope pos) (ii (.Name x pos')) spos.line X.env=pure true:=by rfl) (c:∀ x,j5 iter X.env x=pure x:=by intro _; rfl) (Y:X.fn x=ir\/X.env.scope.names.lookup x=ii .local:=by first | exact .inl rfl | exact .inr rfl) :
  PS X (.Assign [.Name x pos'] (.ListComp elt [⟨tg,iter,ifs,0⟩] scope pos) spos) (tSt C own (i::vX own [i]) (qU i (jo own nt cap fi g ft fe))):=qcA (Ae a) V hx P (qfp rfl bs) (GM rfl rfl b) hi hg ht h j o G c Y
end
section
variable {P:iE} {w:iG} {K:Frag} {mg:Str->Option ip} {base:Heap} {st:Stmt} {N:List Str} {k:Nat} {fb:qN}
theorem dW (own':List Nat) (T:kL K mg x st ps)
  (a:∀ (cdv:ip) (f:Addr) (A:iL) (outer:List Env) (s:iu) (H:Hp) (E:XK),Room k (A.deeper (lY x (jg st) s.heap.objs.size f cdv)) ->PSs (cxk P w K mg base N x (jg st) f cdv A outer s H E) (vt st) (tSt (qiC K cv E ms mr) (kK 0 ms) own' fb))
  (S:FnScope N ps (jg st):=by exact fsc) (hl:ms.length=ps.length:=by rfl) (g:∀ i∈Yy 0 ms,i∈own':=by exact ug rfl) (r:mr=.sh\/∀ ds ρ,(fb (qv N ds))≠.ok (.nx,ρ):=by exact .inl rfl):GL P w K mg base cv (k+1) x ps ms mr (kn N ms fb):=qhm T S a hl g r
end
end L2.D2
namespace L2.D2
open PySem
end L2.D2
namespace L2.D2
open PySem PySem.SetTable
end L2.D2
namespace L2.D2
open PySem PySem.Spec PyProof.Rows
def qk0 (x y:Str):Prop:=(y.length == 0)=iq/\(g7 x y).1.length<=sizeLine/\(g7 x y).2.1.length<=sizeLine/\(g7 x y).2.2.length<=sizeLine
instance:∀ x y,Decidable (qk0 x y):=λx y=>inferInstanceAs (Decidable (_/\_))
noncomputable def VP (fk fv:jl):jl:=λρ=>(fk ρ).bind λp=>(fv p.2).bind λq=>match xQ p.1 with
 | some k=>.ok (.dct [(k,q.1)],q.2)
 | none=>.bad
variable {X:Cx} {C:Ct}
section
variable {own:List Nat} {kx vx e:Expr} {fk fv fe:jl} {mk mv m:Mo} {pos:Pos}
theorem Rep.upO {K:Frag} {F H:Hp} {σ:St} {ρ:Sl} {p:Addr} {u:HO} (r:Rep K own F H σ ρ) (C:F p=ij) (j:¬OA own σ p):Rep K own F (upd H p u) σ ρ where
 sub:=λb o e=>by
  by_cases z:b=p;·rw [z,C] at e; cases e
  ·unfold upd; rw [Ab z]; exact r.sub b o e
 len:=r.len
 val:=r.val
 ow:=λi d hi e=>by obtain ⟨a,h1,h2,g⟩:=r.ow i d hi e;have h:a≠p:=λz=>j ⟨i,hi,by rw [<-z]; exact h1⟩;exact ⟨a,h1,h2,g.grow (λ_ _ e=>e) λo e=>by unfold upd; rw [Ab h]; exact e⟩
 opn:=r.opn
 dis:=r.dis
theorem qc4 (B:PE X kx (tE C own mk fk)) (t:PE X vx (tE C own mv fv)) (w:mv≠.any:=by decide):PE X (.Dict [ii kx] [vx] pos) (tE C own .fr (VP fk fv)):=by
 refine kf (qe2 (qci B (uh t w) qe1) rfl rfl (by simp) (by simp)) λσ H Q ⟨F,ρ,x,h⟩ p hp=>?_;obtain ⟨g,M,E⟩:=Yw (u:=.dK []) x hp;have M:Chg (OA own σ) F H F (upd H p (.dK [])):=M.ofNo;have n:¬OA own σ p:=λz=>(x.OA_there z).1 hp;refine ⟨F,ρ,g,?_⟩;unfold VP at h;have fresh:∀ {F1 H1 a H2:Hp},Chg (OA own σ) F1 H1 a H2->F1 p=ij->H1 p≠ij->a p=none:=λ{F1 H1 a H2} c e1 e2=>by
  cases q:a p with
  | none=>rfl
  | some o=>
   rcases c.new p (by rw [q]; simp) with z | z | z;·exact absurd e1 z
   ·exact absurd z e2
   ·exact absurd z n
 cases q1:fk ρ with
 | exc c o=>rw [q1] at h; exact λF' H' y io T=>h F' H' y io (M.trans' T)
 | bad=>rw [q1] at h; exact h.elim
 | ok pr=>
  obtain ⟨d,ρ1⟩:=pr;rw [q1,Out.oj] at h;intro v F1 H1 f c1 s;have p1:H1 p=ii (.dK []):=c1.keep p _ qu n;have f1:=fresh c1 E (by rw [qu]; simp);refine ⟨F1,ρ1,f,?_⟩;cases j:fv ρ1 with
  | exc c o=>simp only [j] at h; exact λF' H' y io T=>h F' H' y io ((M.trans' c1).trans' T)
  | bad=>simp only [j] at h; exact h.elim
  | ok l=>
   obtain ⟨e,ρ2⟩:=l;simp only [j,Out.oj] at h;intro u a H2 r c2 m;have p2:H2 p=ii (.dK []):=c2.keep p _ p1 n;have f2:=fresh c2 f1 (by rw [p1]; simp);cases i:xQ d with
   | none=>simp only [i] at h; exact h.elim
   | some k=>
    simp only [i] at h;have t:=qhu s.top i;subst t;have I:Chg (OA own σ) F H a (upd H2 p (.dK [(k,u)])):=by
     have c:=(M.trans' c1).trans' c2;refine ⟨λb o G A=>?_,λb G=>?_,c.grow,c.new⟩
     ·have D:b≠p:=λz=>by rw [z,hp] at G; cases G
      unfold upd;rw [Ab D];exact c.keep b o G A
     ·unfold upd;split;·simp
      ·exact c.stay b G
    exact ⟨p2,[(k,u)],rfl,by simp,h (.ref p) a _ (r.upO f2 n) I ⟨p,rfl,hp,f2,[(k,u)],qu,.cons m .nil⟩⟩
noncomputable def gP (kvs more:List (Key×D)):List (Key×D):=more.foldl (λacc kv=>zR acc kv.1 kv.2) kvs
theorem IsK.merge {K:Frag} {F:Hp}:∀ (o:List (Key×V)) {more:List (Key×D)} {kv:List (Key×V)} {kvs:List (Key×D)},IsK K F o more->IsK K F kv kvs->IsK K F (zj kv o) (gP kvs more)
 | [],_,_,_,a,h=>by cases a; exact h
 | (k,v)::o,_,_,_,a,h=>by
  cases a with
  | cons b t=>have:=IsK.merge o t (h.put (k:=k) b);exact this
noncomputable def qhI (i:Nat) (fe:jl):jl:=λρ=>match (ρ[i]?:Option (Option D)) with
 | some (ii (.dct _))=>(fe ρ).bind λp=>match (p.2[i]?:Option (Option D)),p.1 with
  | some (ii (.dct kvs)),.dct more=>if kvs.length+more.length<=sizeLine then .ok (.non,p.2.set i (ii (.dct (gP kvs more)))) else .bad
  | _,_=>.bad
 | _=>.bad
theorem qfH:MtR X "dict.update" (λx vs H Q=>∃ a b kvs more,x=.ref a/\vs=[.ref b]/\a≠b/\H a=ii (.dK kvs)/\H b=ii (.dK more)/\kvs.length+more.length<=sizeLine/\Q .non (upd H a (.dK (zj kvs more)))):=by
 intro pins s σ H x vs v us Q I r f h;obtain ⟨a,b,kvs,more,rfl,rfl,e,g,j,z,q⟩:=h;obtain rfl:v=aX a:=r;obtain ⟨u,rfl,A⟩:=f.one;obtain rfl:u=aX b:=A;obtain ⟨z1,hd,d,r1,d1⟩:=qcg I.hok g;obtain ⟨z2,hd2,c,r2,d2⟩:=qcg I.hok j;refine l9 PySem.F.slot_dict_update d1.typeIs PySem.F.entry_dict_update (PySem.F.args_dict_update_2 _ _) (meets_dict_update (qQ X.prog X.w) a b e hd2) ⟨d,c,d1,d2,by rw [<-r1.length,<-r2.length]; exact z,λh' e1 e2 y=>?_⟩;have i:∃ q,h'.get? a=ii q:=let ⟨q,_,_,hq,_⟩:=e1; ⟨q,hq⟩
 exact ⟨.non,_,Jt (t':=s.toks) I (by rw [g]; exact cS) y i (Yn (bN (wx more kvs) z) hd (r2.merge r1) e1),rfl,q⟩
theorem qhJ {i:Nat} {x:Str} {px apos cpos:Pos} (B:PE X e (tE C own .sh fe)) (D:X.N[i]?=ii x:=by rfl) (A:Vis X.env.scope x:=by exact aZ rfl) (j:i∈own:=by decide)
  (hd:Dbg x:=by decide) (n:Cdk x:=by decide)
  (f:j7 (.Name x px) "update" X.env (eval (.Name x px) X.env)=eval (.Name x px) X.env:=by rfl)
  (w:((iZ cpos (iA [e] X.env)).all (λx=>!x.1)&&(lU cpos (lm [] X.env)).all (λx=>x.1.isSome)
   && decide ([e].length+([]:List k7).length+(if ([]:List k7).isEmpty then 0 else 1) < 30))=true:=by exact yY rfl)
  (b:(apos.endLine == cpos.line)=true:=by rfl) (t:iA [e] X.env=[(iq,eval e X.env)]:=by exact qR rfl) :
  PE X (.Call (.Attribute (.Name x px) "update" apos) [e] [] cpos) (tE C own .sh (qhI i fe)):=by
 refine kf (qcc d9 PySem.F.slot_dict_update PySem.F.type_dict_update qfH (yR D A hd n) (jt B kM t) f w b t rfl) λσ H Q ⟨F,ρ,p,h⟩=>?_;obtain ⟨y,hd0⟩:=p.opn i j;obtain ⟨a,h1,h2,E⟩:=p.ow i y j hd0;unfold qhI at h;simp only [hd0] at h;cases y with
 | dct q=>
  obtain ⟨l,G,_⟩:=E;refine ⟨.ref a,h1,.inr (.inr (.inl ⟨rfl,.inl ⟨l,G⟩⟩)),F,ρ,p,Po.bind h λv F1 H1 d ρ1 r c1 c po=>?_⟩;have c:Is C.K F1 v d:=c;obtain ⟨d1,k⟩:=r.opn i j;obtain ⟨I,e1,e2,o1⟩:=r.ow i d1 j k;rw [h1] at e1;cases e1;simp only [k] at po;cases d1 with
  | dct kvs=>
   cases d with
   | dct more=>
    have po:Po C own .sh σ F1 H1 (if kvs.length+more.length<=sizeLine then .ok (.non,ρ1.set i (ii (.dct (gP kvs more)))) else .bad) Q:=po;by_cases m:kvs.length+more.length<=sizeLine
    ·rw [Aa m] at po;obtain ⟨kv,ex,s⟩:=o1;cases c with
     | dct o g=>obtain ⟨r3,c3⟩:=r.write (u:=.dK (zj kv _)) (d:=.dct (gP kvs more)) j h1 ⟨_,qu,IsK.merge _ g s⟩;exact ⟨a,_,kv,_,rfl,rfl,(λz=>by rw [<-z,e2] at o; cases o),ex,r.sub _ _ o,by rw [s.length,g.length]; exact m,po .non F1 _ r3 c3 .non⟩
    ·rw [Ab m] at po; exact po.elim
   | _=>exact po.elim
  | _=>exact po.elim
 | _=>exact h.elim
end
noncomputable def qaw:D->Out D
 | .bl k=>.ok (.int (if k then 1 else 0))
 | .int i=>.ok (.int i)
 | _=>.bad
section
theorem qfI:gx X C .sh (.type "int") qaw:=by
 intro pins s σ H xs us Q I r h;obtain ⟨x,F,dx,rfl,y,tx,po⟩:=h;cases dx with
 | bl k=>cases tx.bl;exact Va pins s σ H _ us Q I r (.inr ⟨k,rfl,po _ F H y .refl (.int _)⟩)
 | int i=>cases tx.int;exact Va pins s σ H _ us Q I r (.inl ⟨i,rfl,po _ F H y .refl (.int _)⟩)
 | _=>exact po.elim
end
end L2.D2
namespace PySem
open Sem (wp)
open Builtin PySem.Spec PyProof.Rows
end PySem
namespace L2.D2
open PySem PySem.Spec PyProof.Rows
noncomputable def qiV (lo hi st:Option Int):D->Out D
 | .lst ds=>if lo=ij/\hi=ij/\st=ii (-1) then .ok (.lst ds.reverse) else .bad
 | _=>.bad
noncomputable def xV (fa:jl) (l u k:Option (jl)):jl:=λρ=>(fa ρ).bind λp=>(vZ l p.2).bind λa=>(vZ u a.2).bind λb=>(vZ k b.2).bind λc=>(qiV a.1 b.1 c.1 p.1).plain.bind λd=>.ok (d,c.2)
theorem IsL.rev {K:Frag} {F:Hp}:∀ {xs:List V} {ds:List D},IsL K F xs ds->IsL K F xs.reverse ds.reverse
 | _,_,.nil=>.nil
 | _,_,.cons h t=>by rw [cP,cP];exact (IsL.rev t).append (.cons h .nil)
section
variable {X:Cx} {C:Ct} {own:List Nat} {e:Expr} {fa:jl} {ma:Mo} {pos p2:Pos}
theorem qjS (n:C.K=X.K):qjx X (λx lo hi st H Q=>∃ F d,Same F H/\Is C.K F x d/\PoV C .sh F H (qiV lo hi st d) Q):=by
 intro pins s σ H x v vl g k lo hi st sl Q I e f pl p pk h;obtain ⟨F,d,y,is,po⟩:=h;cases d with
 | lst ds=>
  simp only [qiV] at po;by_cases z:lo=ij/\hi=ij/\st=ii (-1)
  ·rw [Aa z] at po;obtain ⟨rfl,rfl,rfl⟩:=z;cases is with
   | @lst a xs _ hq t=>cases e;obtain ⟨its,r,ht,c⟩:=I.list (by rw [<-n]; exact y.seq hq);refine ⟨"list",_,slot_list_getitem.lookup,ht.isList.typeIs,?_⟩;refine wpAny_getItem_list_slice ht.isList f pl p pk (by decide) ?_ (by rw [au,<-r.length]; exact c);rw [PySem.W.krv_pick];have hp:H s.heap.objs.size=none:=I.hok.fresh (ax _);obtain ⟨s2,c2⟩:=vY (u:=.lst xs.reverse) y hp;refine ⟨.ref s.heap.objs.size,_,I.laid (t':=s.toks) (o:=.lst xs.reverse) (λb i q=>aa _ q) (ax _) ⟨by rw [cA]; exact c,_,0,r.reverse,aj _ rfl⟩,rfl,po _ _ _ s2 c2 (.lst (.inl (.inl qu)) (t.rev.mono c2.grow))⟩
  ·rw [Ab z] at po; exact po.elim
 | _=>exact po.elim
theorem VQ {lo hi st:Option Expr} {l u k:Option (jl)} (t:C.K=X.K) (s:PE X e (tE C own ma fa)) (hl:PO X lo (tO C own (vZ l))) (o:PO X hi (tO C own (vZ u))) (q:PO X st (tO C own (vZ k))) (n:ma≠.any:=by decide):PE X (.Subscript e (.Slice lo hi st p2) pos) (tE C own .sh (xV fa l u k)):=by
 refine kf (Vx (qjS (C:=C) t) (uh s n) hl o q) λσ H Q ⟨F,ρ,p,h⟩=>⟨F,ρ,p,Po.bind h λv F1 H1 d ρ1 j c1 m h1=>?_⟩
 refine ⟨F1,ρ1,j,Po.bindO h1 λz H2 a ρ2 i c2 h2=>⟨z,ρ2,i,Po.bindO h2 λy D b f g c3 x=>⟨y,f,g,Po.bindO x λJ A c B r c4 w=>?_⟩⟩⟩;exact ⟨J,d,r.sub,((m.mono c2.grow).mono c3.grow).mono c4.grow,PoV.of r w⟩
noncomputable def zu:D->Out D
 | .dct kvs=>(match xU kvs with
  | some ss=>if ss.length<=1000/\(ss.all λy=>decide (y.length<=sizeLine))=ir then .ok (.lst (ss.map D.str)) else .bad
  | none=>.bad)
 | _=>.bad
theorem qc5 (p:X.calm=ir):gx X C .fr (.type "list") zu:=by
 intro pins s σ H xs us Q I r h;obtain ⟨x,F,dx,rfl,g,tx,po⟩:=h;obtain ⟨u,rfl,A⟩:=yq r;cases dx with
 | dct kvs=>
  obtain ⟨a,kv,rfl,B,m⟩:=tx.dct g;cases A;cases q:xU kvs with
  | none=>simp only [zu,q] at po; exact po.elim
  | some ss=>
   simp only [zu,q] at po;by_cases hl:ss.length<=1000/\(ss.all λy=>decide (y.length<=sizeLine))=ir
   ·rw [Aa hl] at po;obtain ⟨E,b,vs,rel,dd⟩:=(show ObjOk X.prog X.w H s.heap a (.dK kv) from I.hok a _ B)
    obtain ⟨ep,J⟩:=dd.dictAt;have l:vs.map (·.1)=ss.map bn:=by rw [<-KV.keys rel,m.keys,gc q]
    have n:vs.length=ss.length:=by have:=congrArg fI l; simpa using this
    refine PySem.W.kdl_call (PySem.W.kdl_dict (kvs:=vs) (ep:=ep) b) (I.ok.hd p) J (by rw [n,iF]; lia) λh' tk acc c k1 k2 hi=>?_;have st:mh acc.toList ss:=Uv _ _ (by rw [bE,hi.1,n]) λj v e=>by
     obtain ⟨k,x,e1,e2⟩:=hi.2 j v (by rw [<-bF]; exact e);have e3:(vs.map (·.1))[j]?=ii k:=by rw [aG,e1]; rfl
     rw [l,aG] at e3;obtain ⟨y,D,rfl⟩:=aT.mp e3;rcases ji (show xM (bn y) v=ir from e2) with ⟨i,t,f,_⟩ | ⟨z,t,f,rfl⟩
     ·cases f
     ·cases f;exact ⟨_,t,D,rfl⟩
    have hq:H s.heap.objs.size=none:=I.hok.fresh (ax _);obtain ⟨s2,c2,f2⟩:=vw (u:=.lst (ss.map V.str)) g hq;exact ⟨.ref s.heap.objs.size,_,I.laid (t':=tk) (o:=.lst (ss.map V.str)) k1 (ax _) ⟨by rw [aB,iF]; lia,acc.toList,c,xo st,by simpa using k2⟩,rfl,po _ _ _ s2 c2 ⟨_,rfl,hq,f2,_,qu,gb λy d=>Ae (aL.mp hl.2 y d)⟩⟩
   ·rw [Ab hl] at po; exact po.elim
 | _=>exact po.elim
end
end L2.D2
set_option maxHeartbeats 4000000
namespace Kx
open PySem PySem.Spec PyProof.Rows L2 L2.D2
noncomputable def top (i:Nat):Stmt:=PySem.Challenge.pw_lookwords_k04_whole_bars.main.body.getD i (.Pass ⟨0,0,0,0⟩)
noncomputable def CS:List Str:=["NoWords", "NoLook", "NoNumbers", "NoRoom", "NoWorths", "Never"]
noncomputable def FS:List Str:=[]
structure Zt (K:Frag) (mg:Str->Option ip) (cv:Str->ip) (ca:Str->Addr):Prop where
 xs:Xs K cv ca CS "WordError"
 mref:∀ c∈CS,mg c=ii (.ref (ca c))
 xin:∀ c∈CS,dX K (ca c) bmV "ValueError.__new__"=ir
 fref:∀ x∈FS,mg x=ii (.ref (ca x))
 z_all:mg "all"=ij
 z_bool:mg "bool"=ij
 z_dict:mg "dict"=ij
 z_enumerate:mg "enumerate"=ij
 z_int:mg "int"=ij
 z_isinstance:mg "isinstance"=ij
 z_len:mg "len"=ij
 z_list:mg "list"=ij
 z_max:mg "max"=ij
 z_min:mg "min"=ij
 z_range:mg "range"=ij
 z_reversed:mg "reversed"=ij
 z_set:mg "set"=ij
 z_sorted:mg "sorted"=ij
 z_str:mg "str"=ij
 z_tuple:mg "tuple"=ij
 z_zip:mg "zip"=ij
 c_LEAST_PLACE:∃ t,mg "LEAST_PLACE"=ii (.int (-3) t)
 c_MOST_LETTERS:∃ t,mg "MOST_LETTERS"=ii (.int 6 t)
 c_MOST_PLACE:∃ t,mg "MOST_PLACE"=ii (.int 2 t)
 c_MOST_ROOM:∃ t,mg "MOST_ROOM"=ii (.int 99 t)
 c_MOST_WALK:∃ t,mg "MOST_WALK"=ii (.int 40 t)
 c_MOST_WORDS:∃ t,mg "MOST_WORDS"=ii (.int 6 t)
 s_NoWorths:bS K (.ref (ca "NoWorths")) (.ref (ca "NoWorths"))=ii ir
theorem zv:iC "all"=ii (.builtin "all"):=by decide +kernel
theorem qax:iC "bool"=ii (.type "bool"):=by decide +kernel
theorem Uw:iC "dict"=ii (.type "dict"):=by decide +kernel
theorem qd9:iC "int"=ii (.type "int"):=by decide +kernel
theorem qM:iC "isinstance"=ii (.builtin "isinstance"):=by decide +kernel
theorem jC:iC "len"=ii (.builtin "len"):=by decide +kernel
theorem JO:iC "list"=ii (.type "list"):=by decide +kernel
theorem qhK:iC "max"=ii (.builtin "max"):=by decide +kernel
theorem qhL:iC "min"=ii (.builtin "min"):=by decide +kernel
theorem qc6:iC "range"=ii (.type "range"):=by decide +kernel
theorem Ux:iC "reversed"=ii (.type "reversed"):=by decide +kernel
theorem YU:iC "set"=ii (.type "set"):=by decide +kernel
theorem vD:iC "sorted"=ii (.builtin "sorted"):=by decide +kernel
theorem qea:iC "str"=ii (.type "str"):=by decide +kernel
theorem jZ:iC "tuple"=ii (.type "tuple"):=by decide +kernel
variable {ca:Str->Addr}
theorem rz {X:Cx} {C:Ct} {own own':List Nat} {as:List AK} {e:Expr} {es:List Expr} {fr:uj} {np cpos pos:Pos} (Z:Zt X.K X.mg C.cv ca) (c:Str) (g:PA X (e::es) (tAr C own as fr)) (h:c∈CS:=by decide +kernel) (a:X.ex=[]:=by rfl) (ht:YB X C:=by exact qhr rfl) (P:X.calm=true:=by rfl) (hg:Gl X c:=by rfl) (hsz:as.length<=1000:=by decide) (o:∀ i∈C.ox,i∈own:=by exact ug rfl) (hd:Dbg c:=by decide)
  (b:iA (e::es) X.env=(iq,eval e X.env)::iA es X.env:=by exact jS rfl) (l:(iZ cpos (iA es X.env)).any (·.1)=false:=by rfl):PS X (.Raise (ii (.Call (.Name c np) (e::es) [] cpos)) ij pos) (tSt C own own' (vc c fr)):=
 GI a ht P hg (Z.mref c h) (Z.xs.val c h) (Z.xin c h) g hsz o hd b l
instance {α:Type}:Inhabited (Out α):=⟨.bad⟩
structure Ev where
 P:iE
 w:iG
 K:Frag
 mg:Str->Option ip
 base:Heap
 cv:Str->ip
abbrev qH (e0:Ev):=GL e0.P e0.w e0.K e0.mg e0.base e0.cv
abbrev va (e0:Ev):=kL e0.K e0.mg
abbrev ZtE (e0:Ev) (ca:Str->Addr):=Zt e0.K e0.mg e0.cv ca
section
variable {e0:Ev}
abbrev uw:Stmt:=top 15
abbrev VR:List Str:=["thing", "least", "most"]
noncomputable def ux:qN:=(qD (sIf (dOr (xK (ui (d1 (uq "int") (qc 0)))) (ui (d1 (uq "bool") (qc 0)))) (jr (dC (.bl iq))) qK)
  (jr (wV leD leD (qc 1) (qc 0) (qc 2))))
noncomputable abbrev ja:ko:=kn VR [.val,.val,.val] (ux)
abbrev ka (e0:Ev):=qH e0 1 "is_between" ["thing", "least", "most"] [.val,.val,.val] .sh (ja)
theorem JP (Z:ZtE e0 ca) (T:va e0 "is_between" uw ["thing", "least", "most"]):ka e0:=
 dW [] T λcdv f A outer s H E hr=>(qe (qL (PW.pt (wl (jk (tv (wX rfl rfl Z.z_isinstance qM rfl Z.z_int qd9 vr))) (jF (tv (wX rfl rfl Z.z_isinstance qM rfl Z.z_bool qax vr))))) (qf (ql vK)) qF)
  (qf (ql (Yv zN zN vr vr vr))))
abbrev uy:Stmt:=top 26
abbrev VS:List Str:=["thing"]
noncomputable def zw:qN:=(sIf (xK (ui (qm [.vl,.vl,.vl] ja (qb (qc 0) (qb (dC (.int 1)) (qb (dC (.int 99)) qr)))))) (vc "NoRoom" (qb (dC (.str "a room is a whole number from 1 to 99")) qr)) qK)
noncomputable abbrev vP:ko:=kn VS [.val] (zw)
abbrev wA (e0:Ev):=qH e0 2 "check_room" ["thing"] [.val] .sh (vP)
theorem JQ (Z:ZtE e0 ca) (T:va e0 "check_room" uy ["thing"]) (o:ka e0):wA e0:=
 dW [] T λcdv f A outer s H E hr=>(qf (qL (jk (tv (cN o (qa vr (qa qg (qa (yd Z.c_MOST_ROOM rfl) qd)))))) (qf (rz Z "NoRoom" (qa kT qd))) qF))
abbrev uz:Stmt:=top 22
abbrev VT:List Str:=["thing", "count", "room"]
noncomputable def zx:qN:=(qD (sIf (dOr (xK (ui (d1 (uq "tuple") (qc 0)))) (qC (d2 neD (d1 kZ (qc 0)) (qc 1)))) (jr (dC (.bl iq))) qK)
  (jr (d1 Ui (jo [] 1 [2] (jN (qc 0)) (gNm 0) ftT (qm [.vl,.vl,.vl] ja (qb (qc 0) (qb (dC (.int 0)) (qb (d2 zM (qc 1) (dC (.int 1))) qr))))))))
noncomputable abbrev uA:ko:=kn VT [.val,.val,.val] (zx)
abbrev xw (e0:Ev):=qH e0 2 "is_numbers" ["thing", "count", "room"] [.val,.val,.val] .sh (uA)
theorem JR (Z:ZtE e0 ca) (T:va e0 "is_numbers" uz ["thing", "count", "room"]) (o:ka e0):xw e0:=
 dW [] T λcdv f A outer s H E hr=>(qe (qL (PW.pt (wl (jk (tv (wX rfl rfl Z.z_isinstance qM rfl Z.z_tuple jZ vr))) (jF (qE (xN rfl hr.units) (qB (jD rfl) rfl Z.z_len jC vr) vr)))) (qf (ql vK)) qF)
  (qf (ql (qB (zp rfl rfl) rfl Z.z_all zv (cmp (qO rfl vr) (λ_ _ _ _=>(jv o hr (by decide) yD rfl (qa vr (qa qg (qa (qG wg vr qg) qd))))))))))
abbrev vE:Stmt:=top 28
abbrev gQ:List Str:=["thing", "count", "room"]
noncomputable def uB:qN:=(sIf (xK (ui (qm [.vl,.vl,.vl] uA (qb (qc 0) (qb (qc 1) (qb (qc 2) qr)))))) (vc "NoNumbers" (qb (dC (.str "numbers are a tuple of a number within the room for each word")) qr)) qK)
noncomputable abbrev vF:ko:=kn gQ [.val,.val,.val] (uB)
abbrev wY (e0:Ev):=qH e0 3 "check_numbers" ["thing", "count", "room"] [.val,.val,.val] .sh (vF)
theorem zT (Z:ZtE e0 ca) (T:va e0 "check_numbers" vE ["thing", "count", "room"]) (o:xw e0):wY e0:=
 dW [] T λcdv f A outer s H E hr=>(qf (qL (jk (tv (cN o (qa vr (qa vr (qa vr qd)))))) (qf (rz Z "NoNumbers" (qa kT qd))) qF))
abbrev yH:Stmt:=top 16
abbrev Uy:List Str:=["thing"]
noncomputable def wC:qN:=(jr (Qw (d1 (uq "str") (qc 0)) (Qw (d2 eqD (d1 kZ (qc 0)) (dC (.int 1))) (wV leD leD (dC (.str "a")) (qc 0) (dC (.str "z"))))))
noncomputable abbrev kr:ko:=kn Uy [.val] (wC)
abbrev vQ (e0:Ev):=qH e0 1 "is_letter" ["thing"] [.val] .sh (kr)
theorem VU (Z:ZtE e0 ca) (T:va e0 "is_letter" yH ["thing"]):vQ e0:=
 dW [] T λcdv f A outer s H E hr=>(qf (ql (gq (wX rfl rfl Z.z_isinstance qM rfl Z.z_str qea vr) (gq (kN (vW rfl hr.units) (qB (jD rfl) rfl Z.z_len jC vr) qg) (QN (Yv zN zN kT vr kT))))))
abbrev gR:Stmt:=top 17
abbrev qay:List Str:=["thing"]
noncomputable def VW:qN:=(qD (sIf (dOr (xK (ui (d1 (uq "str") (qc 0)))) (xK (qC (wV leD leD (dC (.int 1)) (d1 kZ (qc 0)) (dC (.int 6)))))) (jr (dC (.bl iq))) qK)
  (jr (d1 Ui (jo [] 1 [] (jN (qc 0)) (gNm 0) ftT (qm [.vl] kr (qb (qc 0) qr))))))
noncomputable abbrev xx:ko:=kn qay [.val] (VW)
abbrev QZ (e0:Ev):=qH e0 2 "is_word" ["thing"] [.val] .sh (xx)
theorem Zm (Z:ZtE e0 ca) (T:va e0 "is_word" gR ["thing"]) (o:vQ e0):QZ e0:=
 dW [] T λcdv f A outer s H E hr=>(qe (qL (PW.pt (wl (jk (tv (wX rfl rfl Z.z_isinstance qM rfl Z.z_str qea vr))) (jF (jk (yZ zN zN qg (qB (jD rfl) rfl Z.z_len jC vr) (yd Z.c_MOST_LETTERS rfl)))))) (qf (ql vK)) qF)
  (qf (ql (qB (zp rfl rfl) rfl Z.z_all zv (cmp (qO rfl vr) (λ_ _ _ _=>(jv o hr (by decide) yD rfl (qa vr qd))))))))
abbrev xW:Stmt:=top 18
abbrev Zn:List Str:=["thing"]
noncomputable def Ja:qN:=(qD (sIf (dOr (xK (ui (d1 (uq "tuple") (qc 0)))) (xK (qC (wV leD leD (dC (.int 1)) (d1 kZ (qc 0)) (dC (.int 6)))))) (jr (dC (.bl iq))) qK)
  (jr (Qw (d1 Ui (jo [] 1 [] (jN (qc 0)) (gNm 0) ftT (qm [.vl] xx (qb (qc 0) qr)))) (d2 eqD (d1 gM (qc 0)) (d1 kZ (qc 0))))))
noncomputable abbrev xX:ko:=kn Zn [.val] (Ja)
abbrev gS (e0:Ev):=qH e0 3 "is_words" ["thing"] [.val] .sh (xX)
theorem Uz (Z:ZtE e0 ca) (T:va e0 "is_words" xW ["thing"]) (O:QZ e0):gS e0:=
 dW [] T λcdv f A outer s H E hr=>(qe (qL (PW.pt (wl (jk (tv (wX rfl rfl Z.z_isinstance qM rfl Z.z_tuple jZ vr))) (jF (jk (yZ zN zN qg (qB (jD rfl) rfl Z.z_len jC vr) (yd Z.c_MOST_WORDS rfl)))))) (qf (ql vK)) qF)
  (qf (ql (gq (qB (zp rfl rfl) rfl Z.z_all zv (cmp (qO rfl vr) (λ_ _ _ _=>(jv O hr (by decide) yD rfl (qa vr qd))))) (QN (kN (vW rfl hr.units) (qae rfl rfl rfl Z.z_len jC rfl Z.z_set YU vr) (qB (jD rfl) rfl Z.z_len jC vr)))))))
abbrev wE:Stmt:=top 24
abbrev JS:List Str:=["thing"]
noncomputable def xy:qN:=(sIf (xK (ui (qm [.vl] xX (qb (qc 0) qr)))) (vc "NoWords" (qb (dC (.str "words are a tuple of 1 to 6 unlike words of 1 to 6 letters from a to z")) qr)) qK)
noncomputable abbrev wF:ko:=kn JS [.val] (xy)
abbrev yu (e0:Ev):=qH e0 4 "check_words" ["thing"] [.val] .sh (wF)
theorem QA (Z:ZtE e0 ca) (T:va e0 "check_words" wE ["thing"]) (o:gS e0):yu e0:=
 dW [] T λcdv f A outer s H E hr=>(qf (qL (jk (tv (cN o (qa vr qd)))) (qf (rz Z "NoWords" (qa kT qd))) qF))
abbrev gT:Stmt:=top 19
abbrev qaz:List Str:=["thing"]
noncomputable def VX:qN:=(qD (sIf (dOr (xK (ui (d1 (uq "tuple") (qc 0)))) (qC (d2 neD (d1 kZ (qc 0)) (dC (.int 2))))) (jr (dC (.bl iq))) qK)
  (jr (d1 Ui (jo [] 1 [] (jN (qc 0)) (gNm 0) ftT (qm [.vl,.vl,.vl] ja (qb (qc 0) (qb (dC (.int (-3))) (qb (dC (.int 2)) qr))))))))
noncomputable abbrev gU:ko:=kn qaz [.val] (VX)
abbrev Jb (e0:Ev):=qH e0 2 "is_look" ["thing"] [.val] .sh (gU)
theorem Zo (Z:ZtE e0 ca) (T:va e0 "is_look" gT ["thing"]) (o:ka e0):Jb e0:=
 dW [] T λcdv f A outer s H E hr=>(qe (qL (PW.pt (wl (jk (tv (wX rfl rfl Z.z_isinstance qM rfl Z.z_tuple jZ vr))) (jF (qE (xN rfl hr.units) (qB (jD rfl) rfl Z.z_len jC vr) qg)))) (qf (ql vK)) qF)
  (qf (ql (qB (zp rfl rfl) rfl Z.z_all zv (cmp (qO rfl vr) (λ_ _ _ _=>(jv o hr (by decide) yD rfl (qa vr (qa (yd Z.c_LEAST_PLACE rfl) (qa (yd Z.c_MOST_PLACE rfl) qd))))))))))
abbrev uC:Stmt:=top 25
abbrev VY:List Str:=["thing"]
noncomputable def zy:qN:=(sIf (xK (ui (qm [.vl] gU (qb (qc 0) qr)))) (vc "NoLook" (qb (dC (.str "a look is a tuple of two places from -3 to 2")) qr)) qK)
noncomputable abbrev uD:ko:=kn VY [.val] (zy)
abbrev xz (e0:Ev):=qH e0 3 "check_look" ["thing"] [.val] .sh (uD)
theorem JT (Z:ZtE e0 ca) (T:va e0 "check_look" uC ["thing"]) (O:Jb e0):xz e0:=
 dW [] T λcdv f A outer s H E hr=>(qf (qL (jk (tv (cN O (qa vr qd)))) (qf (rz Z "NoLook" (qa kT qd))) qF))
abbrev yI:Stmt:=top 30
abbrev UA:List Str:=["word", "place", "at"]
noncomputable def yJ:qN:=(qD (qU 2 (dIf (qC (d2 geD (qc 1) (dC (.int 0)))) (qc 1) (d2 jL (d1 kZ (qc 0)) (qc 1))))
  (jr (d2 ixD (qc 0) (d2 qiG (dC (.int 0)) (d2 qiH (qc 2) (d2 zM (d1 kZ (qc 0)) (dC (.int 1))))))))
noncomputable abbrev vG:ko:=kn UA [.val,.val] (yJ)
abbrev zA (e0:Ev):=qH e0 1 "letter_at" ["word", "place"] [.val,.val] .sh (vG)
theorem VZ (Z:ZtE e0 ca) (T:va e0 "letter_at" yI ["word", "place"]):zA e0:=
 dW [] T λcdv f A outer s H E hr=>(qe (se (XQ (qE qe8 vr qg) vr (qG (qV rfl) (qB (jD rfl) rfl Z.z_len jC vr) vr)))
  (qf (ql (ix vr (Vv (qhn rfl) rfl Z.z_max qhK qg (Vv (qho rfl) rfl Z.z_min qhL vr (qG wg (qB (jD rfl) rfl Z.z_len jC vr) qg)))))))
abbrev UB:Stmt:=top 31
abbrev qfJ:List Str:=["words", "look"]
noncomputable def qaA:qN:=(qD (kz (qm [.vl] wF (qb (qc 0) qr)))
  (qD (kz (qm [.vl] uD (qb (qc 1) qr)))
  (jr (jo [] 1 [1] (jN (qc 0)) (gNm 0) ftT (jT (qb (qm [.vl,.vl] vG (qb (qc 0) (qb (d2 ixD (qc 1) (dC (.int 0))) qr))) (qb (qm [.vl,.vl] vG (qb (qc 0) (qb (d2 ixD (qc 1) (dC (.int 1))) qr))) qr)))))))
noncomputable abbrev xY:ko:=kn qfJ [.val,.val] (qaA)
abbrev ge (e0:Ev):=qH e0 5 "pairs" ["words", "look"] [.val,.val] .sh (xY)
theorem qc7 (Z:ZtE e0 ca) (T:va e0 "pairs" UB ["words", "look"]) (a:yu e0) (b:xz e0) (o:zA e0):ge e0:=
 dW [] T λcdv f A outer s H E hr=>(qe (jq (cN a (qa vr qd)))
  (qe (jq (cN b (qa vr qd)))
  (qf (ql (cmp (qO rfl vr) (λ_ _ _ _=>(jm (qa (jv o hr (by decide) yD rfl (qa vr (qa (ix vr qg) qd))) (qa (jv o hr (by decide) yD rfl (qa vr (qa (ix vr qg) qd))) qd)))))))))
abbrev uE:Stmt:=top 36
abbrev Wa:List Str:=["words", "look", "room", "numbers", "seen"]
noncomputable def zD:qN:=(qD (qU 4 (qm [.vl,.vl] xY (qb (qc 0) (qb (qc 1) qr))))
  (qD (kz (qm [.vl] vP (qb (qc 2) qr)))
  (qD (kz (qm [.vl,.vl,.vl] vF (qb (qc 3) (qb (d1 kZ (qc 0)) (qb (qc 2) qr)))))
  (jr (qc 4)))))
noncomputable abbrev jV:ko:=kn Wa [.val,.val,.val,.val] (zD)
abbrev vh (e0:Ev):=qH e0 6 "told_pairs" ["words", "look", "room", "numbers"] [.val,.val,.val,.val] .sh (jV)
theorem JU (Z:ZtE e0 ca) (T:va e0 "told_pairs" uE ["words", "look", "room", "numbers"]) (F:wA e0) (o:wY e0) (K:ge e0):vh e0:=
 dW [] T λcdv f A outer s H E hr=>(qe (se (cN K (qa vr (qa vr qd))))
  (qe (jq (cN F (qa vr qd)))
  (qe (jq (cN o (qa vr (qa (qB (jD rfl) rfl Z.z_len jC vr) (qa vr qd)))))
  (qf (ql vr)))))
abbrev JV:Stmt:=top 40
abbrev qc8:List Str:=["walk"]
noncomputable def JW:qN:=(jr (d2 eqD (d2 vL (d1 kZ (qc 0)) (dC (.int 2))) (dC (.int 1))))
noncomputable abbrev wH:ko:=kn qc8 [.val] (JW)
abbrev xA (e0:Ev):=qH e0 1 "is_odd" ["walk"] [.val] .sh (wH)
theorem qaB (Z:ZtE e0 ca) (T:va e0 "is_odd" JV ["walk"]):xA e0:=
 dW [] T λcdv f A outer s H E hr=>(qf (ql (kN (vW rfl hr.units) (qG kh (qB (jD rfl) rfl Z.z_len jC vr) qg) qg)))
abbrev xZ:Stmt:=top 39
abbrev Jc:List Str:=["walk", "numbers", "start", "total", "at"]
noncomputable def Jd:qN:=(qD (qU 3 (qc 2))
  (qD (wW (jN (qc 0)) (gNm 4)
  (qU 3 (d2 zM (d2 ixD (qc 1) (qc 4)) (qc 3))))
  (jr (qc 3))))
noncomputable abbrev vo:ko:=kn Jc [.val,.val,.val] (Jd)
abbrev wI (e0:Ev):=qH e0 1 "comes_to" ["walk", "numbers", "start"] [.val,.val,.val] .sh (vo)
theorem UC (Z:ZtE e0 ca) (T:va e0 "comes_to" xZ ["walk", "numbers", "start"]):wI e0:=
 dW [] T λcdv f A outer s H E hr=>(qe (se vr)
  (qe (jH aO rfl (qO rfl vr) gn
  (qf (se (qG wg (ix vr vr) vr))))
  (qf (ql vr))))
abbrev qaC:Stmt:=top 41
abbrev qhM:List Str:=["walk", "room", "numbers", "total"]
noncomputable def qaD:qN:=(qD (qU 3 (qm [.vl,.vl,.vl] vo (qb (qc 0) (qb (qc 2) (qb (dC (.int 0)) qr)))))
  (qD (sIf (ui (qm [.vl] wH (qb (qc 0) qr))) (jr (Qw (d2 eqD (d2 vL (qc 1) (dC (.int 2))) (dC (.int 0))) (d2 eqD (d2 vL (qc 3) (dC (.int 2))) (dC (.int 1))))) qK)
  (jr (d2 neD (d2 vL (qc 3) (qc 1)) (dC (.int 0))))))
noncomputable abbrev Wb:ko:=kn qhM [.val,.val,.val] (qaD)
abbrev UD (e0:Ev):=qH e0 2 "bars" ["walk", "room", "numbers"] [.val,.val,.val] .sh (Wb)
theorem qfK (Z:ZtE e0 ca) (T:va e0 "bars" qaC ["walk", "room", "numbers"]) (o:wI e0) (D:xA e0):UD e0:=
 dW [] T λcdv f A outer s H E hr=>(qe (se (cN o (qa vr (qa vr (qa qg qd)))))
  (qe (qL (tv (cN D (qa vr qd))) (qf (ql (gq (kN (vW rfl hr.units) (qG kh vr qg) qg) (QN (kN (vW rfl hr.units) (qG kh vr qg) qg))))) qF)
  (qf (ql (kN (xN rfl hr.units) (qG kh vr vr) qg)))))
abbrev uF:Stmt:=top 32
abbrev Wc:List Str:=["seen"]
noncomputable def zE:qN:=(jr (d1 vN (d2 jL (jo [] 1 [] (jN (qc 0)) (gNm 0) ftT (d2 ixD (qc 0) (dC (.int 0)))) (jo [] 1 [] (jN (qc 0)) (gNm 0) ftT (d2 ixD (qc 0) (dC (.int 1)))))))
noncomputable abbrev jW:ko:=kn Wc [.val] (zE)
abbrev wJ (e0:Ev):=qH e0 1 "letters_of" ["seen"] [.val] .sh (jW)
theorem JX (Z:ZtE e0 ca) (T:va e0 "letters_of" uF ["seen"]):wJ e0:=
 dW [] T λcdv f A outer s H E hr=>(qf (ql (xT rfl rfl rfl Z.z_sorted vD rfl Z.z_set YU (qG (qV rfl) (cmp (qO rfl vr) (λ_ _ _ _=>(ix vr qg))) (cmp (qO rfl vr) (λ_ _ _ _=>(ix vr qg)))))))
abbrev wa:Stmt:=top 37
abbrev QB:List Str:=["pair", "letter"]
noncomputable def yv:qN:=(jr (dIf (qC (d2 eqD (qc 1) (d2 ixD (qc 0) (dC (.int 0))))) (d2 ixD (qc 0) (dC (.int 1))) (d2 ixD (qc 0) (dC (.int 0)))))
noncomputable abbrev jM:ko:=kn QB [.val,.val] (yv)
abbrev vH (e0:Ev):=qH e0 1 "other_letter" ["pair", "letter"] [.val,.val] .sh (jM)
theorem gW (Z:ZtE e0 ca) (T:va e0 "other_letter" wa ["pair", "letter"]):vH e0:=
 dW [] T λcdv f A outer s H E hr=>(qf (ql (XQ (qE (vW rfl hr.units) vr (ix vr qg)) (ix vr qg) (ix vr qg))))
abbrev JY:Stmt:=top 42
abbrev YV:List Str:=["seen", "root", "ways", "waiting", "letter", "at", "pair", "reached"]
noncomputable def YW:qN:=(qD (uc 2 (jT (qb (qc 1) (qb (kJ qr) qr))) (qc 1))
  (qD (qU 3 (kJ (qb (qc 1) qr)))
  (kP (qC (d2 gtD (d1 kZ (qc 3)) (dC (.int 0))))
  (qD (qU 4 (qaq 3))
  (wW (gO (qc 0)) (qX 2 (qp (gNm 5) (qp (gNm 6) qW)))
  (qD (qU 7 (qm [.vl,.vl] jM (qb (qc 6) (qb (qc 4) qr))))
  (sIf (QM (qC (d2 inA (qc 4) (qc 6))) (qC (d2 ub (qc 7) (qc 2)))) (qD (uc 2 (jT (qb (qc 1) (qb (d2 jL (d2 ixD (d2O 2 ixD (qc 4)) (dC (.int 1))) (kJ (qb (qc 5) qr))) qr))) (qc 7))
  (kz (gz 3 ga (qc 7)))) qK)))) 20)))
noncomputable abbrev gf:ko:=kn YV [.val,.val,.io] (YW)
abbrev We (e0:Ev):=qH e0 2 "spread" ["seen", "root", "ways"] [.val,.val,.io] .sh (gf)
theorem qaE (Z:ZtE e0 ca) (T:va e0 "spread" JY ["seen", "root", "ways"]) (o:vH e0):We e0:=
 dW [3,2] T λcdv f A outer s H E hr=>(qe (ye (n:=2) hr.units rfl (aZ rfl) (by decide) (jm (qa vr (qa (jh qd) qd))) vr)
  (qe (sO (jh (qa vr qd)))
  (qf (GB 20 aO (qE qhd (qB (jD rfl) rfl Z.z_len jC vO) qg)
  (qe (se (qfC (i:=3) rfl (aZ rfl) (by decide)))
  (qf (jH aO rfl (JL rfl rfl Z.z_enumerate vr) (kq rfl rfl (qy gn (qy gn jG)))
  (qe (se (cN o (qa vr (qa vr qd))))
  (qf (qL (PW.pt (yB (qE (QU rfl hr.units) vr vr) (jF (qE (kC rfl hr.units) vr vO)))) (qe (ye (n:=2) hr.units rfl (aZ rfl) (by decide) (jm (qa vr (qa (qG (qV rfl) (ix (QX (i:=2) rfl hr.units rfl (aZ rfl) (by decide) vr (λ_ _=>rfl)) qg) (jh (qa vr qd))) qd))) vr)
  (qf (jq (vA (i:=3) rfl rfl (aZ rfl) (by decide) vr)))) qF))))))))))
abbrev gX:Stmt:=top 43
abbrev Wf:List Str:=["seen", "ways", "letter"]
noncomputable def Wg:qN:=(qD (qU 1 (dC (.dct [])))
  (qD (wW (jN (qm [.vl] jW (qb (qc 0) qr))) (gNm 2)
  (sIf (qC (d2 ub (qc 2) (qc 1))) (kz (qm [.vl,.vl,.sl 1] gf (qb (qc 0) (qb (qc 2) (qZ qr))))) qK))
  (jr (qc 1))))
noncomputable abbrev wn:ko:=kn Wf [.val] (Wg)
abbrev yf (e0:Ev):=qH e0 3 "ways_of" ["seen"] [.val] .sh (wn)
theorem Zp (Z:ZtE e0 ca) (T:va e0 "ways_of" gX ["seen"]) (o:wJ e0) (O:We e0):yf e0:=
 dW [] T λcdv f A outer s H E hr=>(qe (sO Jv)
  (qe (jH aO rfl (qO rfl (cN o (qa vr qd))) gn
  (qf (qL (qE (kC rfl hr.units) vr vO) (qf (jq (cN O (qa vr (qa vr (sl qd)))))) qF)))
  (kA [1] (qf (ql vr)))))
abbrev uG:Stmt:=top 44
abbrev zF:List Str:=["seen", "ways", "found", "at", "pair", "back"]
noncomputable def zH:qN:=(qD (qU 2 (kJ qr))
  (qD (wW (gO (qc 0)) (qX 2 (qp (gNm 3) (qp (gNm 4) qW)))
  (qD (qU 5 (d1 xq (d2 ixD (d2 ixD (qc 1) (d2 ixD (qc 4) (dC (.int 1)))) (dC (.int 1)))))
  (kz (gz 2 ga (jT (qb (d2 ixD (d2 ixD (qc 1) (d2 ixD (qc 4) (dC (.int 0)))) (dC (.int 0))) (qb (d2 jL (d2 jL (d2 ixD (d2 ixD (qc 1) (d2 ixD (qc 4) (dC (.int 0)))) (dC (.int 1))) (kJ (qb (qc 3) qr))) (qc 5)) qr)))))))
  (jr (qc 2))))
noncomputable abbrev vR:ko:=kn zF [.val,.val] (zH)
abbrev wK (e0:Ev):=qH e0 1 "circles_of" ["seen", "ways"] [.val,.val] .sh (vR)
theorem JZ (Z:ZtE e0 ca) (T:va e0 "circles_of" uG ["seen", "ways"]):wK e0:=
 dW [] T λcdv f A outer s H E hr=>(qe (sO (jh qd))
  (qe (jH aO rfl (JL rfl rfl Z.z_enumerate vr) (kq rfl rfl (qy gn (qy gn jG)))
  (qe (se (Zj rfl rfl rfl Z.z_list JO rfl Z.z_reversed Ux (ix (ix vr (ix vr qg)) qg)))
  (qf (jq (vA (i:=2) rfl rfl (aZ rfl) (by decide) (jm (qa (ix (ix vr (ix vr qg)) qg) (qa (qG (qV rfl) (qG (qV rfl) (ix (ix vr (ix vr qg)) qg) (jh (qa vr qd))) vr) qd))))))))
  (kA [2] (qf (ql vr)))))
abbrev yK:Stmt:=top 45
abbrev gY:List Str:=["circles", "first", "root", "walk"]
noncomputable def gZ:qN:=(qD (qU 1 (dC (.dct [])))
  (qD (wW (jN (qc 0)) (qX 2 (qp (gNm 2) (qp (gNm 3) qW)))
  (sIf (QM (ui (qm [.vl] wH (qb (qc 3) qr))) (qC (d2 ub (qc 2) (qc 1)))) (uc 1 (qc 3) (qc 2)) qK))
  (jr (qc 1))))
noncomputable abbrev wL:ko:=kn gY [.val] (gZ)
abbrev uH (e0:Ev):=qH e0 2 "first_odd" ["circles"] [.val] .sh (wL)
theorem Wh (Z:ZtE e0 ca) (T:va e0 "first_odd" yK ["circles"]) (D:xA e0):uH e0:=
 dW [] T λcdv f A outer s H E hr=>(qe (sO Jv)
  (qe (jH aO rfl (qO rfl vr) (kq rfl rfl (qy gn (qy gn jG)))
  (qf (qL (PW.pt (yB (tv (cN D (qa vr qd))) (jF (qE (kC rfl hr.units) vr vO)))) (qf (ye (n:=1) hr.units rfl (aZ rfl) (by decide) vr vr)) qF)))
  (kA [1] (qf (ql vr)))))
abbrev Ka:Stmt:=top 46
abbrev YX:List Str:=["seen", "room", "numbers", "circles", "first", "joined", "root", "walk"]
noncomputable def YY:qN:=(qD (qU 3 (qm [.vl,.vl] vR (qb (qc 0) (qb (qm [.vl] wn (qb (qc 0) qr)) qr))))
  (qD (qU 4 (qm [.vl] wL (qb (qc 3) qr)))
  (qD (qU 5 (jo [] 2 [4] (jN (qc 3)) (qX 2 (qp (gNm 0) (qp (gNm 1) qW))) (ui (qm [.vl] wH (qb (qc 1) qr))) (jT (qb (qc 0) (qb (d2 jL (d2 ixD (qc 2) (qc 0)) (qc 1)) qr)))))
  (qD (wW (jN (d2 jL (qc 3) (qc 5))) (qX 2 (qp (gNm 6) (qp (gNm 7) qW)))
  (sIf (ui (qm [.vl,.vl,.vl] Wb (qb (qc 7) (qb (qc 1) (qb (qc 2) qr))))) (jr (jT (qb (qc 6) (qb (qc 7) qr)))) qK))
  (jr (dC .non))))))
noncomputable abbrev Kb:ko:=kn YX [.val,.val,.val] (YY)
abbrev Wi (e0:Ev):=qH e0 4 "bar_of" ["seen", "room", "numbers"] [.val,.val,.val] .sh (Kb)
theorem qaF (Z:ZtE e0 ca) (T:va e0 "bar_of" Ka ["seen", "room", "numbers"]) (D:xA e0) (o:UD e0) (b:yf e0) (a:wK e0) (J:uH e0):Wi e0:=
 dW [] T λcdv f A outer s H E hr=>(qe (se (cN a (qa vr (qa (cN b (qa vr qd)) qd))))
  (qe (se (cN J (qa vr qd)))
  (qe (qjR (qO rfl vr) (λ_ _ _ _=>(jm (qa vr (qa (qG (qV rfl) (ix vr vr) vr) qd)))) (hg:=λ_ _ _ _=>(kq rfl rfl (qy gC (qy gC jG)))) (ht:=λ_ _ _ _=>(Jz (tv (jv D hr (by decide) yD rfl (qa vr qd))))))
  (qe (jH aO rfl (qO rfl (qG (qV rfl) vr vO)) (kq rfl rfl (qy gn (qy gn jG)))
  (qf (qL (tv (cN o (qa vr (qa vr (qa vr qd))))) (qf (ql (jm (qa vr (qa vr qd))))) qF)))
  (qf (ql vd))))))
abbrev qfL:Stmt:=top 47
abbrev qjT:List Str:=["words", "look", "room", "numbers"]
noncomputable def qhN:qN:=(jr (qm [.vl,.vl,.vl] Kb (qb (qm [.vl,.vl,.vl,.vl] jV (qb (qc 0) (qb (qc 1) (qb (qc 2) (qb (qc 3) qr))))) (qb (qc 2) (qb (qc 3) qr)))))
noncomputable abbrev UE:ko:=kn qjT [.val,.val,.val,.val] (qhN)
abbrev YZ (e0:Ev):=qH e0 7 "bar" ["words", "look", "room", "numbers"] [.val,.val,.val,.val] .sh (UE)
theorem qhO (Z:ZtE e0 ca) (T:va e0 "bar" qfL ["words", "look", "room", "numbers"]) (o:vh e0) (O:Wi e0):YZ e0:=
 dW [] T λcdv f A outer s H E hr=>(qf (ql (cN O (qa (cN o (qa vr (qa vr (qa vr (qa vr qd))))) (qa vr (qa vr qd))))))
abbrev Qa:Stmt:=top 23
abbrev Wj:List Str:=["thing", "count"]
noncomputable def uI:qN:=(qD (sIf (dOr (xK (ui (d1 (uq "list") (qc 0)))) (xK (qC (wV leD leD (dC (.int 1)) (d1 kZ (qc 0)) (dC (.int 40)))))) (jr (dC (.bl iq))) qK)
  (jr (d1 Ui (jo [] 1 [1] (jN (qc 0)) (gNm 0) ftT (qm [.vl,.vl,.vl] ja (qb (qc 0) (qb (dC (.int 0)) (qb (d2 zM (qc 1) (dC (.int 1))) qr))))))))
noncomputable abbrev xB:ko:=kn Wj [.val,.val] (uI)
abbrev Je (e0:Ev):=qH e0 2 "is_walk" ["thing", "count"] [.val,.val] .sh (xB)
theorem Zq (Z:ZtE e0 ca) (T:va e0 "is_walk" Qa ["thing", "count"]) (o:ka e0):Je e0:=
 dW [] T λcdv f A outer s H E hr=>(qe (qL (PW.pt (wl (jk (tv (wX rfl rfl Z.z_isinstance qM rfl Z.z_list JO vr))) (jF (jk (yZ zN zN qg (qB (jD rfl) rfl Z.z_len jC vr) (yd Z.c_MOST_WALK rfl)))))) (qf (ql vK)) qF)
  (qf (ql (qB (zp rfl rfl) rfl Z.z_all zv (cmp (qO rfl vr) (λ_ _ _ _=>(jv o hr (by decide) yD rfl (qa vr (qa qg (qa (qG wg vr qg) qd))))))))))
abbrev Kc:Stmt:=top 38
abbrev Xa:List Str:=["seen", "letter", "walk", "here", "at"]
noncomputable def Xb:qN:=(qD (qU 3 (qc 1))
  (qD (wW (jN (qc 2)) (gNm 4)
  (qD (sIf (qC (d2 ub (qc 3) (d2 ixD (qc 0) (qc 4)))) (jr (dC .non)) qK)
  (qU 3 (qm [.vl,.vl] jM (qb (d2 ixD (qc 0) (qc 4)) (qb (qc 3) qr))))))
  (jr (qc 3))))
noncomputable abbrev Ke:ko:=kn Xa [.val,.val,.val] (Xb)
abbrev Wl (e0:Ev):=qH e0 2 "end_of" ["seen", "letter", "walk"] [.val,.val,.val] .sh (Ke)
theorem qaG (Z:ZtE e0 ca) (T:va e0 "end_of" Kc ["seen", "letter", "walk"]) (o:vH e0):Wl e0:=
 dW [] T λcdv f A outer s H E hr=>(qe (se vr)
  (qe (jH aO rfl (qO rfl vr) gn
  (qe (qL (qE (kC rfl hr.units) vr (ix vr vr)) (qf (ql vd)) qF)
  (qf (se (cN o (qa (ix vr vr) (qa vr qd)))))))
  (qf (ql vr))))
abbrev Kf:Stmt:=top 54
abbrev qc9:List Str:=["words", "look", "room", "numbers", "thing", "seen", "letter", "walk"]
noncomputable def yg:qN:=(qD (qU 5 (qm [.vl,.vl,.vl,.vl] jV (qb (qc 0) (qb (qc 1) (qb (qc 2) (qb (qc 3) qr))))))
  (qD (sIf (dOr (xK (ui (d1 (uq "tuple") (qc 4)))) (qC (d2 neD (d1 kZ (qc 4)) (dC (.int 2))))) (jr (dC (.bl iq))) qK)
  (qD (qU 6 (d2 ixD (qc 4) (dC (.int 0))))
  (qD (qU 7 (d2 ixD (qc 4) (dC (.int 1))))
  (qD (sIf (dOr (xK (ui (qm [.vl] kr (qb (qc 6) qr)))) (xK (ui (qm [.vl,.vl] xB (qb (qc 7) (qb (d1 kZ (qc 5)) qr)))))) (jr (dC (.bl iq))) qK)
  (jr (Qw (d2 eqD (qm [.vl,.vl,.vl] Ke (qb (qc 5) (qb (qc 6) (qb (qc 7) qr)))) (qc 6)) (qm [.vl,.vl,.vl] Wb (qb (qc 7) (qb (qc 2) (qb (qc 3) qr)))))))))))
noncomputable abbrev jO:ko:=kn qc9 [.val,.val,.val,.val,.val] (yg)
abbrev Qb (e0:Ev):=qH e0 7 "is_bar" ["words", "look", "room", "numbers", "thing"] [.val,.val,.val,.val,.val] .sh (jO)
theorem qaH (Z:ZtE e0 ca) (T:va e0 "is_bar" Kf ["words", "look", "room", "numbers", "thing"]) (o:vQ e0) (d:Je e0) (u:vh e0) (O:Wl e0) (W:UD e0):Qb e0:=
 dW [] T λcdv f A outer s H E hr=>(qe (se (cN u (qa vr (qa vr (qa vr (qa vr qd))))))
  (qe (qL (PW.pt (wl (jk (tv (wX rfl rfl Z.z_isinstance qM rfl Z.z_tuple jZ vr))) (jF (qE (xN rfl hr.units) (qB (jD rfl) rfl Z.z_len jC vr) qg)))) (qf (ql vK)) qF)
  (qe (se (ix vr qg))
  (qe (se (ix vr qg))
  (qe (qL (PW.pt (wl (jk (tv (cN o (qa vr qd)))) (jF (jk (tv (cN d (qa vr (qa (qB (jD rfl) rfl Z.z_len jC vr) qd)))))))) (qf (ql vK)) qF)
  (qf (ql (gq (kN (vW rfl hr.units) (cN O (qa vr (qa vr (qa vr qd)))) vr) (QN (cN W (qa vr (qa vr (qa vr qd)))))))))))))
abbrev za:Stmt:=top 56
abbrev Zs:List Str:=["_law_script", "_law_k"]
noncomputable def yh:qN:=(qD (sIf (qC (d2 ltD (qc 1) (d1 kZ (qc 0)))) (jr (d2 ixD (qc 0) (qc 1))) qK)
  (qD (sIf (qC (d2 eqD (qc 0) (kJ qr))) (jr (dC (.int 0))) qK)
  (jr (d2 jL (d2 qdT (d2 ixD (qc 0) (d2 vL (qc 1) (d1 kZ (qc 0)))) (dC (.int 31))) (qc 1)))))
noncomputable abbrev zb:ko:=kn Zs [.val,.val] (yh)
abbrev Qc (e0:Ev):=qH e0 1 "_law_cell_at" ["_law_script", "_law_k"] [.val,.val] .sh (zb)
theorem UF (Z:ZtE e0 ca) (T:va e0 "_law_cell_at" za ["_law_script", "_law_k"]):Qc e0:=
 dW [] T λcdv f A outer s H E hr=>(qe (qL (qE qg8 vr (qB (jD rfl) rfl Z.z_len jC vr)) (qf (ql (ix vr vr))) qF)
  (qe (qL (qE (vW rfl hr.units) vr (jh qd)) (qf (ql qg)) qF)
  (qf (ql (qG (qV rfl) (qG Vn (ix vr (qG kh vr (qB (jD rfl) rfl Z.z_len jC vr))) qg) vr)))))
abbrev Kg:Stmt:=top 57
abbrev qda:List Str:=["_law_script", "_law_k", "_law_many", "_law_drawn"]
noncomputable def Xc:qN:=(qD (qU 3 (d2 vL (d2 qdT (d2 jL (d2 jL (qm [.vl,.vl] zb (qb (qc 0) (qb (qc 1) qr))) (d2 qdT (dC (.int 7919)) (qc 1))) (dC (.int 1))) (dC (.int 48271))) (dC (.int 2147483647))))
  (jr (d2 vL (d2 vL (d2 jL (d2 jL (d2 qdT (qc 3) (qc 3)) (d2 qdT (dC (.int 7)) (qc 3))) (qc 1)) (dC (.int 2147483629))) (qc 2))))
noncomputable abbrev Kh:ko:=kn qda [.val,.val,.val] (Xc)
abbrev Wm (e0:Ev):=qH e0 2 "_law_mixed" ["_law_script", "_law_k", "_law_many"] [.val,.val,.val] .sh (Kh)
theorem qaI (Z:ZtE e0 ca) (T:va e0 "_law_mixed" Kg ["_law_script", "_law_k", "_law_many"]) (O:Qc e0):Wm e0:=
 dW [] T λcdv f A outer s H E hr=>(qe (se (qG kh (qG Vn (qG (qV rfl) (qG (qV rfl) (cN O (qa vr (qa vr qd))) (qG Vn qg vr)) qg) qg) qg))
  (qf (ql (qG kh (qG kh (qG (qV rfl) (qG (qV rfl) (qG Vn vr vr) (qG Vn qg vr)) vr) qg) vr))))
abbrev UG:Stmt:=top 58
abbrev qfM:List Str:=["_law_script", "_law_town", "_law_many"]
noncomputable def qaJ:qN:=(qD (kz (gz 1 ga (dC (.int 0))))
  (jr (qm [.vl,.vl,.vl] Kh (qb (qc 0) (qb (d1 kZ (qc 1)) (qb (qc 2) qr))))))
noncomputable abbrev qP:ko:=kn qfM [.val,.io,.val] (qaJ)
abbrev wM (e0:Ev):=qH e0 3 "_law_draw" ["_law_script", "_law_town", "_law_many"] [.val,.io,.val] .sh (qP)
theorem qdb (Z:ZtE e0 ca) (T:va e0 "_law_draw" UG ["_law_script", "_law_town", "_law_many"]) (O:Wm e0):wM e0:=
 dW [1] T λcdv f A outer s H E hr=>(qe (jq (vA (i:=1) rfl rfl (aZ rfl) (by decide) qg))
  (qf (ql (cN O (qa vr (qa (qB (jD rfl) rfl Z.z_len jC vO) (qa vr qd)))))))
abbrev UH:Stmt:=top 59
abbrev qfN:List Str:=["_law_script", "_law_town", "_law_some"]
noncomputable def qaK:qN:=(jr (d2 ixD (qc 2) (qm [.vl,.sl 1,.vl] qP (qb (qc 0) (qZ (qb (d1 kZ (qc 2)) qr))))))
noncomputable abbrev ju:ko:=kn qfN [.val,.io,.val] (qaK)
abbrev xC (e0:Ev):=qH e0 4 "_law_pick" ["_law_script", "_law_town", "_law_some"] [.val,.io,.val] .sh (ju)
theorem qdc (Z:ZtE e0 ca) (T:va e0 "_law_pick" UH ["_law_script", "_law_town", "_law_some"]) (o:wM e0):xC e0:=
 dW [1] T λcdv f A outer s H E hr=>(qf (ql (ix vr (cN o (qa vr (sl (qa (qB (jD rfl) rfl Z.z_len jC vr) qd)))))))
abbrev UI:Stmt:=top 60
abbrev qfO:List Str:=["_law_script", "_law_town", "_law_few", "_law_word_here", "_law_k"]
noncomputable def qaL:qN:=(qD (qU 3 (dC (.str "")))
  (qD (wW (jA (d2 jL (dC (.int 1)) (qm [.vl,.sl 1,.vl] qP (qb (qc 0) (qZ (qb (qm [.vl,.sl 1,.vl] ju (qb (qc 0) (qZ (qb (kJ (qb (dC (.int 2)) (qb (dC (.int 3)) (qb (dC (.int 6)) qr)))) qr)))) qr)))))) (gNm 4)
  (qU 3 (d2 jL (qc 3) (d2 ixD (dC (.str "abcdefghijklmnopqrstuvwxyz")) (qm [.vl,.sl 1,.vl] qP (qb (qc 0) (qZ (qb (qc 2) qr))))))))
  (jr (qc 3))))
noncomputable abbrev Ki:ko:=kn qfO [.val,.io,.val] (qaL)
abbrev Xd (e0:Ev):=qH e0 5 "_law_word" ["_law_script", "_law_town", "_law_few"] [.val,.io,.val] .sh (Ki)
theorem qdd (Z:ZtE e0 ca) (T:va e0 "_law_word" UI ["_law_script", "_law_town", "_law_few"]) (o:wM e0) (m:xC e0):Xd e0:=
 dW [1] T λcdv f A outer s H E hr=>(qe (se kT)
  (qe (jH aO rfl (vm rfl Z.z_range (qG (qV rfl) qg (cN o (qa vr (sl (qa (cN m (qa vr (sl (qa (jh (qa qg (qa qg (qa qg qd)))) qd)))) qd)))))) gn
  (qf (se (qG (qV rfl) vr (ix kT (cN o (qa vr (sl (qa vr qd)))))))))
  (qf (ql vr))))
abbrev Kj:Stmt:=top 61
abbrev qde:List Str:=["_law_script", "_law_town", "_law_most", "_law_few", "_law_made", "_law_k", "_law_word_here"]
noncomputable def Xe:qN:=(qD (qU 3 (qm [.vl,.sl 1,.vl] ju (qb (qc 0) (qZ (qb (kJ (qb (dC (.int 2)) (qb (dC (.int 3)) (qb (dC (.int 4)) (qb (dC (.int 6)) (qb (dC (.int 26)) qr)))))) qr)))))
  (qD (qU 4 (kJ qr))
  (qD (wW (jA (d2 jL (dC (.int 1)) (qm [.vl,.sl 1,.vl] qP (qb (qc 0) (qZ (qb (qc 2) qr)))))) (gNm 5)
  (qD (qU 6 (qm [.vl,.sl 1,.vl] Ki (qb (qc 0) (qZ (qb (qc 3) qr)))))
  (sIf (qC (d2 ub (qc 6) (qc 4))) (kz (gz 4 ga (qc 6))) qK)))
  (jr (d1 jU (qc 4))))))
noncomputable abbrev Kk:ko:=kn qde [.val,.io,.val] (Xe)
abbrev Wn (e0:Ev):=qH e0 6 "_law_words" ["_law_script", "_law_town", "_law_most"] [.val,.io,.val] .sh (Kk)
theorem qaM (Z:ZtE e0 ca) (T:va e0 "_law_words" Kj ["_law_script", "_law_town", "_law_most"]) (o:wM e0) (m:xC e0) (O:Xd e0):Wn e0:=
 dW [1] T λcdv f A outer s H E hr=>(qe (se (cN m (qa vr (sl (qa (jh (qa qg (qa qg (qa qg (qa qg (qa qg qd)))))) qd)))))
  (qe (sO (jh qd))
  (qe (jH aO rfl (vm rfl Z.z_range (qG (qV rfl) qg (cN o (qa vr (sl (qa vr qd)))))) gn
  (qe (se (cN O (qa vr (sl (qa vr qd)))))
  (qf (qL (qE (kC rfl hr.units) vr vO) (qf (jq (vA (i:=4) rfl rfl (aZ rfl) (by decide) vr))) qF))))
  (qf (ql (jJ (wz rfl) rfl Z.z_tuple jZ vO))))))
abbrev UJ:Stmt:=top 62
abbrev qfP:List Str:=["_law_script", "_law_town"]
noncomputable def qaN:qN:=(jr (jT (qb (d2 zM (qm [.vl,.sl 1,.vl] qP (qb (qc 0) (qZ (qb (dC (.int 6)) qr)))) (dC (.int 3))) (qb (d2 zM (qm [.vl,.sl 1,.vl] qP (qb (qc 0) (qZ (qb (dC (.int 6)) qr)))) (dC (.int 3))) qr))))
noncomputable abbrev UK:ko:=kn qfP [.val,.io] (qaN)
abbrev Xf (e0:Ev):=qH e0 4 "_law_look" ["_law_script", "_law_town"] [.val,.io] .sh (UK)
theorem qdf (Z:ZtE e0 ca) (T:va e0 "_law_look" UJ ["_law_script", "_law_town"]) (o:wM e0):Xf e0:=
 dW [1] T λcdv f A outer s H E hr=>(qf (ql (jm (qa (qG wg (cN o (qa vr (sl (qa qg qd)))) qg) (qa (qG wg (cN o (qa vr (sl (qa qg qd)))) qg) qd)))))
abbrev Qd:Stmt:=top 63
abbrev qaO:List Str:=["_law_word_here", "_law_place"]
noncomputable def qaP:qN:=(qD (sIf (qC (d2 geD (qc 1) (dC (.int 0)))) (jr (d2 ixD (d2 jL (YE (qc 0) (ii (qc 1)) (ii (d2 jL (qc 1) (dC (.int 1)))) ij) (d2 ixD (qc 0) (d1 WN (dC (.int 1))))) (dC (.int 0)))) qK)
  (jr (d2 ixD (d2 jL (YE (YE (qc 0) ij ij (ii (d1 WN (dC (.int 1))))) (ii (d2 zM (d1 WN (dC (.int 1))) (qc 1))) (ii (d2 zM (dC (.int 0)) (qc 1))) ij) (d2 ixD (qc 0) (dC (.int 0)))) (dC (.int 0)))))
noncomputable abbrev wq:ko:=kn qaO [.val,.val] (qaP)
abbrev Jf (e0:Ev):=qH e0 1 "_law_letter" ["_law_word_here", "_law_place"] [.val,.val] .sh (wq)
theorem Zu (Z:ZtE e0 ca) (T:va e0 "_law_letter" Qd ["_law_word_here", "_law_place"]):Jf e0:=
 dW [] T λcdv f A outer s H E hr=>(qe (qL (qE qe8 vr qg) (qf (ql (ix (qG (qV rfl) (JD rfl vr (jY vr) (jY (qG (qV rfl) vr qg)) kR) (ix vr (Vm zn qg))) qg))) qF)
  (qf (ql (ix (qG (qV rfl) (JD rfl (JD rfl vr kR kR (jY (Vm zn qg))) (jY (qG wg (Vm zn qg) vr)) (jY (qG wg qg vr)) kR) (ix vr qg)) qg))))
abbrev Kl:Stmt:=top 64
abbrev qdg:List Str:=["_law_words_here", "_law_look_here"]
noncomputable def Xg:qN:=(jr (jo [] 1 [1] (jN (qc 0)) (gNm 0) ftT (jT (qb (qm [.vl,.vl] wq (qb (qc 0) (qb (d2 ixD (qc 1) (dC (.int 0))) qr))) (qb (qm [.vl,.vl] wq (qb (qc 0) (qb (d2 ixD (qc 1) (dC (.int 1))) qr))) qr)))))
noncomputable abbrev kb:ko:=kn qdg [.val,.val] (Xg)
abbrev wu (e0:Ev):=qH e0 2 "_law_pairs" ["_law_words_here", "_law_look_here"] [.val,.val] .sh (kb)
theorem qaQ (Z:ZtE e0 ca) (T:va e0 "_law_pairs" Kl ["_law_words_here", "_law_look_here"]) (o:Jf e0):wu e0:=
 dW [] T λcdv f A outer s H E hr=>(qf (ql (cmp (qO rfl vr) (λ_ _ _ _=>(jm (qa (jv o hr (by decide) yD rfl (qa vr (qa (ix vr qg) qd))) (qa (jv o hr (by decide) yD rfl (qa vr (qa (ix vr qg) qd))) qd)))))))
abbrev UL:Stmt:=top 65
abbrev qfQ:List Str:=["_law_words_here", "_law_look_here", "_law_made", "_law_one", "_law_other"]
noncomputable def qaR:qN:=(qD (qU 2 (kJ qr))
  (qD (wW (jN (qm [.vl,.vl] kb (qb (qc 0) (qb (qc 1) qr)))) (qX 2 (qp (gNm 3) (qp (gNm 4) qW)))
  (kz (gz 2 qfo (kJ (qb (qc 3) (qb (qc 4) qr))))))
  (jr (d1 vN (qc 2)))))
noncomputable abbrev vI:ko:=kn qfQ [.val,.val] (qaR)
abbrev Km (e0:Ev):=qH e0 3 "_law_seen" ["_law_words_here", "_law_look_here"] [.val,.val] .sh (vI)
theorem qdh (Z:ZtE e0 ca) (T:va e0 "_law_seen" UL ["_law_words_here", "_law_look_here"]) (o:wu e0):Km e0:=
 dW [] T λcdv f A outer s H E hr=>(qe (sO (jh qd))
  (qe (jH aO rfl (qO rfl (cN o (qa vr (qa vr qd)))) (kq rfl rfl (qy gn (qy gn jG)))
  (qf (jq (Vu (i:=2) rfl (aZ rfl) (by decide) (jh (qa vr (qa vr qd)))))))
  (qf (ql (xT rfl rfl rfl Z.z_sorted vD rfl Z.z_set YU vO)))))
abbrev Qe:Stmt:=top 67
abbrev Qf:List Str:=["_law_some", "_law_room", "_law_numbers", "_law_book", "_law_turn", "_law_number", "_law_one", "_law_other"]
noncomputable def Qg:qN:=(qD (wW (jA (d2 jL (d1 kZ (qc 0)) (dC (.int 1)))) (gNm 4)
  (wW (qd2 (qb (qc 0) (qb (qc 2) qr))) (qX 2 (qp (qX 2 (qp (gNm 6) (qp (gNm 7) qW))) (qp (gNm 5) qW)))
  (qD (sIf (QM (qC (d2 inA (qc 6) (qc 3))) (qC (d2 ub (qc 7) (qc 3)))) (uc 3 (d2 vL (d2 zM (qc 5) (d2O 3 ixD (qc 6))) (qc 1)) (qc 7)) qK)
  (qD (sIf (QM (qC (d2 inA (qc 7) (qc 3))) (qC (d2 ub (qc 6) (qc 3)))) (uc 3 (d2 vL (d2 zM (qc 5) (d2O 3 ixD (qc 7))) (qc 1)) (qc 6)) qK)
  (sIf (QM (qC (d2 inA (qc 6) (qc 3))) (qC (d2 neD (d2 vL (d2 jL (d2O 3 ixD (qc 6)) (d2O 3 ixD (qc 7))) (qc 1)) (qc 5)))) (jr (dC .non)) qK)))))
  (jr (qc 3)))
noncomputable abbrev uJ:ko:=kn Qf [.val,.val,.val,.tk] (Qg)
abbrev Jg (e0:Ev):=qH e0 1 "_law_spread" ["_law_some", "_law_room", "_law_numbers", "_law_book"] [.val,.val,.val,.tk] .sh (uJ)
theorem Zw (Z:ZtE e0 ca) (T:va e0 "_law_spread" Qe ["_law_some", "_law_room", "_law_numbers", "_law_book"]):Jg e0:=
 dW [] T λcdv f A outer s H E hr=>(qe (jH aO rfl (vm rfl Z.z_range (qG (qV rfl) (qB (jD rfl) rfl Z.z_len jC vr) qg)) gn
  (qf (jH aO rfl (qac rfl rfl Z.z_zip vr vr) (kq rfl rfl (qy (kq rfl rfl (qy gn (qy gn jG))) (qy gn jG)))
  (qe (qL (PW.pt (yB (qE (QU rfl hr.units) vr vO) (jF (qE (kC rfl hr.units) vr vO)))) (qf (ye (n:=3) hr.units rfl (aZ rfl) (by decide) (qG kh (qG wg vr (QX (i:=3) rfl hr.units rfl (aZ rfl) (by decide) vr (λ_ _=>rfl))) vr) vr)) qF)
  (qe (qL (PW.pt (yB (qE (QU rfl hr.units) vr vO) (jF (qE (kC rfl hr.units) vr vO)))) (qf (ye (n:=3) hr.units rfl (aZ rfl) (by decide) (qG kh (qG wg vr (QX (i:=3) rfl hr.units rfl (aZ rfl) (by decide) vr (λ_ _=>rfl))) vr) vr)) qF)
  (qf (qL (PW.pt (yB (qE (QU rfl hr.units) vr vO) (jF (qE (xN rfl hr.units) (qG kh (qG (qV rfl) (QX (i:=3) rfl hr.units rfl (aZ rfl) (by decide) vr (λ_ _=>rfl)) (QX (i:=3) rfl hr.units rfl (aZ rfl) (by decide) vr (λ_ _=>rfl))) vr) vr)))) (qf (ql vd)) qF)))))))
  (kA [3] (qf (ql vr))))
abbrev Kn:Stmt:=top 66
abbrev Ko:List Str:=["_law_words_here", "_law_look_here", "_law_room", "_law_numbers", "_law_some", "_law_book", "_law_start", "_law_found", "_law_worth"]
noncomputable def qdi:qN:=(qD (qU 4 (qm [.vl,.vl] kb (qb (qc 0) (qb (qc 1) qr))))
  (qD (qU 5 (dC (.dct [])))
  (qD (wW (jN (qm [.vl,.vl] vI (qb (qc 0) (qb (qc 1) qr)))) (gNm 6)
  (sIf (qC (d2 ub (qc 6) (qc 5))) (qD (qU 7 (dC .non))
  (qD (wW (jA (qc 2)) (gNm 8)
  (sIf (qC (d2 qbX (qc 7) (dC .non))) (qU 7 (qm [.vl,.vl,.vl,.fr] uJ (qb (qc 4) (qb (qc 2) (qb (qc 3) (qb (VP (qc 6) (qc 8)) qr)))))) qK))
  (qD (sIf (qC (d2 qbX (qc 7) (dC .non))) (jr (dC .non)) qK)
  (kz (qhI 5 (qc 7)))))) qK))
  (jr (qc 5)))))
noncomputable abbrev Kp:ko:=kn Ko [.val,.val,.val,.val] (qdi)
abbrev Wo (e0:Ev):=qH e0 4 "_law_solve" ["_law_words_here", "_law_look_here", "_law_room", "_law_numbers"] [.val,.val,.val,.val] .sh (Kp)
theorem qaS (Z:ZtE e0 ca) (T:va e0 "_law_solve" Kn ["_law_words_here", "_law_look_here", "_law_room", "_law_numbers"]) (o:wu e0) (R:Km e0) (O:Jg e0):Wo e0:=
 dW [] T λcdv f A outer s H E hr=>(qe (se (cN o (qa vr (qa vr qd))))
  (qe (sO Jv)
  (qe (jH aO rfl (qO rfl (cN R (qa vr (qa vr qd)))) gn
  (qf (qL (qE (kC rfl hr.units) vr vO) (qe (se vd)
  (qe (jH aO rfl (vm rfl Z.z_range vr) gn
  (qf (qL (qE Gv vr vd) (qf (se (cN O (qa vr (qa vr (qa vr (Gx (qc4 vr vr) qd))))))) qF)))
  (qe (qL (qE Gv vr vd) (qf (ql vd)) qF)
  (qf (jq (qhJ (i:=5) vr)))))) qF)))
  (kA [5] (qf (ql vr))))))
abbrev UM:Stmt:=top 68
abbrev qaT:List Str:=["_law_words_here", "_law_look_here", "_law_room", "_law_numbers", "_law_start", "_law_walk", "_law_some", "_law_here", "_law_total", "_law_place", "_law_one", "_law_other"]
noncomputable def qaU:qN:=(qD (qU 6 (qm [.vl,.vl] kb (qb (qc 0) (qb (qc 1) qr))))
  (qD (qU 7 (qc 4))
  (qD (qU 8 (dC (.int 0)))
  (qD (wW (jN (qc 5)) (gNm 9)
  (qD (qdX (d2 ixD (qc 6) (qc 9)) (qX 2 (qp (gNm 10) (qp (gNm 11) qW))))
  (qD (sIf (qC (d2 ub (qc 7) (jT (qb (qc 10) (qb (qc 11) qr))))) (jr (dC (.bl iq))) qK)
  (qD (qU 7 (dIf (qC (d2 eqD (qc 7) (qc 10))) (qc 11) (qc 10)))
  (qU 8 (d2 zM (d2 ixD (qc 3) (qc 9)) (qc 8)))))))
  (qD (sIf (dOr (qC (d2 neD (qc 7) (qc 4))) (xK (qC (wV leD leD (dC (.int 1)) (d1 kZ (qc 5)) (dC (.int 40)))))) (jr (dC (.bl iq))) qK)
  (qD (sIf (qC (d2 eqD (d2 vL (d1 kZ (qc 5)) (dC (.int 2))) (dC (.int 0)))) (jr (d2 neD (d2 vL (qc 8) (qc 2)) (dC (.int 0)))) qK)
  (jr (Qw (d2 eqD (d2 vL (qc 2) (dC (.int 2))) (dC (.int 0))) (d2 eqD (d2 vL (qc 8) (dC (.int 2))) (dC (.int 1)))))))))))
noncomputable abbrev Kq:ko:=kn qaT [.val,.val,.val,.val,.val,.val] (qaU)
abbrev Xh (e0:Ev):=qH e0 3 "_law_bars" ["_law_words_here", "_law_look_here", "_law_room", "_law_numbers", "_law_start", "_law_walk"] [.val,.val,.val,.val,.val,.val] .sh (Kq)
theorem qdj (Z:ZtE e0 ca) (T:va e0 "_law_bars" UM ["_law_words_here", "_law_look_here", "_law_room", "_law_numbers", "_law_start", "_law_walk"]) (o:wu e0):Xh e0:=
 dW [] T λcdv f A outer s H E hr=>(qe (se (cN o (qa vr (qa vr qd))))
  (qe (se vr)
  (qe (se qg)
  (qe (jH aO rfl (qO rfl vr) gn
  (qe (Ud (ix vr vr) (kq rfl rfl (qy gn (qy gn jG))))
  (qe (qL (qE (kC rfl hr.units) vr (jm (qa vr (qa vr qd)))) (qf (ql vK)) qF)
  (qe (se (XQ (qE (vW rfl hr.units) vr vr) vr vr))
  (qf (se (qG wg (ix vr vr) vr)))))))
  (qe (qL (PW.pt (wl (qE (xN rfl hr.units) vr vr) (jF (jk (yZ zN zN qg (qB (jD rfl) rfl Z.z_len jC vr) qg))))) (qf (ql vK)) qF)
  (qe (qL (qE (vW rfl hr.units) (qG kh (qB (jD rfl) rfl Z.z_len jC vr) qg) qg) (qf (ql (kN (xN rfl hr.units) (qG kh vr vr) qg))) qF)
  (qf (ql (gq (kN (vW rfl hr.units) (qG kh vr qg) qg) (QN (kN (vW rfl hr.units) (qG kh vr qg) qg)))))))))))
abbrev qaV:Stmt:=top 48
abbrev qhP:List Str:=["total", "room", "rest"]
noncomputable def qeb:qN:=(qD (qU 2 (d2 vL (qc 0) (qc 1)))
  (jr (dIf (qC (d2 eqD (d2 vL (qc 2) (dC (.int 2))) (dC (.int 0)))) (d2 XM (qc 2) (dC (.int 2))) (d2 XM (d2 jL (qc 2) (qc 1)) (dC (.int 2))))))
noncomputable abbrev qaW:ko:=kn qhP [.val,.val] (qeb)
abbrev qaX (e0:Ev):=qH e0 1 "half" ["total", "room"] [.val,.val] .sh (qaW)
theorem qfR (Z:ZtE e0 ca) (T:va e0 "half" qaV ["total", "room"]):qaX e0:=
 dW [] T λcdv f A outer s H E hr=>(qe (se (qG kh vr vr))
  (qf (ql (XQ (qE (vW rfl hr.units) (qG kh vr qg) qg) (qG WZ vr qg) (qG WZ (qG (qV rfl) vr vr) qg)))))
abbrev wN:Stmt:=top 49
abbrev Kr:List Str:=["walk", "room", "numbers", "worth"]
noncomputable def vi:qN:=(qD (sIf (qC (d2 eqD (d1 kZ (qc 0)) (dC (.int 0)))) (jr (d1 xp (qc 1))) qK)
  (qD (qU 3 (qm [.vl,.vl] qaW (qb (qm [.vl,.vl,.vl] vo (qb (qc 0) (qb (qc 2) (qb (dC (.int 0)) qr)))) (qb (qc 1) qr))))
  (jr (dIf (qC (d2 eqD (d2 vL (qc 1) (dC (.int 2))) (dC (.int 0)))) (kJ (qb (qc 3) (qb (d2 jL (qc 3) (d2 XM (qc 1) (dC (.int 2)))) qr))) (kJ (qb (qc 3) qr))))))
noncomputable abbrev vj:ko:=kn Kr [.val,.val,.val] (vi)
abbrev yw (e0:Ev):=qH e0 2 "root_worths" ["walk", "room", "numbers"] [.val,.val,.val] .sh (vj)
theorem QC (Z:ZtE e0 ca) (T:va e0 "root_worths" wN ["walk", "room", "numbers"]) (o:wI e0) (O:qaX e0):yw e0:=
 dW [] T λcdv f A outer s H E hr=>(qe (qL (qE (vW rfl hr.units) (qB (jD rfl) rfl Z.z_len jC vr) qg) (qf (ql (Zh rfl rfl Z.z_list JO rfl Z.z_range qc6 vr))) qF)
  (qe (se (cN O (qa (cN o (qa vr (qa vr (qa qg qd)))) (qa vr qd))))
  (qf (ql (XQ (qE (vW rfl hr.units) (qG kh vr qg) qg) (jh (qa vr (qa (qG (qV rfl) vr (qG WZ vr qg)) qd))) (jh (qa vr qd)))))))
abbrev zc:Stmt:=top 50
abbrev Jh:List Str:=["seen", "room", "numbers", "ways", "first", "roots"]
noncomputable def Ji:qN:=(qD (qU 3 (qm [.vl] wn (qb (qc 0) qr)))
  (qD (qU 4 (qm [.vl] wL (qb (qm [.vl,.vl] vR (qb (qc 0) (qb (qc 3) qr))) qr)))
  (qD (qU 5 (jo [] 1 [3] (jN (d1 kG (qc 3))) (gNm 0) (qC (d2 eqD (d2 ixD (d2 ixD (qc 1) (qc 0)) (dC (.int 0))) (qc 0))) (qc 0)))
  (jr (jo [] 1 [1,2,4] (jN (qc 5)) (gNm 0) ftT (jT (qb (qc 0) (qb (qm [.vl,.vl,.vl] vj (qb (qcX (qc 3) (qc 0) (kJ qr)) (qb (qc 1) (qb (qc 2) qr)))) qr))))))))
noncomputable abbrev yi:ko:=kn Jh [.val,.val,.val] (Ji)
abbrev Qh (e0:Ev):=qH e0 4 "roots_of" ["seen", "room", "numbers"] [.val,.val,.val] .sh (yi)
theorem UN (Z:ZtE e0 ca) (T:va e0 "roots_of" zc ["seen", "room", "numbers"]) (b:yf e0) (a:wK e0) (J:uH e0) (o:yw e0):Qh e0:=
 dW [] T λcdv f A outer s H E hr=>(qe (se (cN b (qa vr qd)))
  (qe (se (cN J (qa (cN a (qa vr (qa vr qd))) qd)))
  (qe (qjR (qO rfl (qB (QY rfl) rfl Z.z_sorted vD vr)) (λ_ _ _ _=>vr) (ht:=λ_ _ _ _=>(Jz (qE (vW rfl hr.units) (ix (ix vr vr) qg) vr))))
  (kA [5] (qf (ql (cmp (qO rfl vr) (λ_ _ _ _=>(jm (qa vr (qa (jv o hr (by decide) yD rfl (qa (qfD hr.units vr vr (jh qd)) (qa vr (qa vr qd)))) qd)))))))))))
abbrev wO:Stmt:=top 51
abbrev xD:List Str:=["seen", "room", "numbers", "starts", "ways", "found", "letter", "start"]
noncomputable def xE:qN:=(qD (qU 4 (qm [.vl] wn (qb (qc 0) qr)))
  (qD (qU 5 (kJ qr))
  (qD (wW (jN (d1 kG (qc 4))) (gNm 6)
  (qD (qU 7 (d2 ixD (qc 3) (d2 ixD (d2 ixD (qc 4) (qc 6)) (dC (.int 0)))))
  (kz (gz 5 ga (jT (qb (qc 6) (qb (d2 vL (qm [.vl,.vl,.vl] vo (qb (d2 ixD (d2 ixD (qc 4) (qc 6)) (dC (.int 1))) (qb (qc 2) (qb (qc 7) qr)))) (qc 1)) qr)))))))
  (jr (d1 jU (qc 5))))))
noncomputable abbrev wP:ko:=kn xD [.val,.val,.val,.val] (xE)
abbrev yx (e0:Ev):=qH e0 4 "worths_from" ["seen", "room", "numbers", "starts"] [.val,.val,.val,.val] .sh (wP)
theorem QD (Z:ZtE e0 ca) (T:va e0 "worths_from" wO ["seen", "room", "numbers", "starts"]) (o:wI e0) (b:yf e0):yx e0:=
 dW [] T λcdv f A outer s H E hr=>(qe (se (cN b (qa vr qd)))
  (qe (sO (jh qd))
  (qe (jH aO rfl (qO rfl (qB (QY rfl) rfl Z.z_sorted vD vr)) gn
  (qe (se (ix vr (ix (ix vr vr) qg)))
  (qf (jq (vA (i:=5) rfl rfl (aZ rfl) (by decide) (jm (qa vr (qa (qG kh (cN o (qa (ix (ix vr vr) qg) (qa vr (qa vr qd)))) vr) qd))))))))
  (qf (ql (jJ (wz rfl) rfl Z.z_tuple jZ vO))))))
abbrev Ks:Stmt:=top 52
abbrev qdk:List Str:=["words", "look", "room", "numbers", "seen", "starts"]
noncomputable def Xi:qN:=(qD (sIf (qC (d2 zO (qm [.vl,.vl,.vl,.vl] UE (qb (qc 0) (qb (qc 1) (qb (qc 2) (qb (qc 3) qr))))) (dC .non))) (vc "Never" (qb (dC (.str "no worths give the words these numbers")) qr)) qK)
  (qD (qU 4 (qm [.vl,.vl] xY (qb (qc 0) (qb (qc 1) qr))))
  (qD (qU 5 (d1 YQ (jo [] 2 [] (jN (qm [.vl,.vl,.vl] yi (qb (qc 4) (qb (qc 2) (qb (qc 3) qr))))) (qX 2 (qp (gNm 0) (qp (gNm 1) qW))) ftT (jT (qb (qc 0) (qb (d2 ixD (qc 1) (dC (.int 0))) qr))))))
  (jr (qm [.vl,.vl,.vl,.vl] wP (qb (qc 4) (qb (qc 2) (qb (qc 3) (qb (qc 5) qr)))))))))
noncomputable abbrev gh:ko:=kn qdk [.val,.val,.val,.val] (Xi)
abbrev Wp (e0:Ev):=qH e0 8 "worths" ["words", "look", "room", "numbers"] [.val,.val,.val,.val] .sh (gh)
theorem qaY (Z:ZtE e0 ca) (T:va e0 "worths" Ks ["words", "look", "room", "numbers"]) (K:ge e0) (P:YZ e0) (O:Qh e0) (o:yx e0):Wp e0:=
 dW [] T λcdv f A outer s H E hr=>(qe (qL (qE Ub (cN P (qa vr (qa vr (qa vr (qa vr qd))))) vd) (qf (rz Z "Never" (qa kT qd))) qF)
  (qe (se (cN K (qa vr (qa vr qd))))
  (qe (se (jJ (qc1 rfl rfl) rfl Z.z_dict Uw (cmp (qO rfl (cN O (qa vr (qa vr (qa vr qd))))) (λ_ _ _ _=>(jm (qa vr (qa (ix vr qg) qd)))) (hg:=λ_ _ _ _=>(kq rfl rfl (qy gC (qy gC jG)))))))
  (qf (ql (cN o (qa vr (qa vr (qa vr (qa vr qd))))))))))
abbrev zd:Stmt:=top 20
abbrev Zx:List Str:=["thing", "room"]
noncomputable def vp:qN:=(qD (sIf (dOr (xK (ui (d1 (uq "tuple") (qc 0)))) (qC (d2 neD (d1 kZ (qc 0)) (dC (.int 2))))) (jr (dC (.bl iq))) qK)
  (jr (Qw (qm [.vl] kr (qb (d2 ixD (qc 0) (dC (.int 0))) qr)) (qm [.vl,.vl,.vl] ja (qb (d2 ixD (qc 0) (dC (.int 1))) (qb (dC (.int 0)) (qb (d2 zM (qc 1) (dC (.int 1))) qr)))))))
noncomputable abbrev yj:ko:=kn Zx [.val,.val] (vp)
abbrev Qi (e0:Ev):=qH e0 2 "is_worth" ["thing", "room"] [.val,.val] .sh (yj)
theorem UO (Z:ZtE e0 ca) (T:va e0 "is_worth" zd ["thing", "room"]) (h:ka e0) (o:vQ e0):Qi e0:=
 dW [] T λcdv f A outer s H E hr=>(qe (qL (PW.pt (wl (jk (tv (wX rfl rfl Z.z_isinstance qM rfl Z.z_tuple jZ vr))) (jF (qE (xN rfl hr.units) (qB (jD rfl) rfl Z.z_len jC vr) qg)))) (qf (ql vK)) qF)
  (qf (ql (gq (cN o (qa (ix vr qg) qd)) (QN (cN h (qa (ix vr qg) (qa qg (qa (qG wg vr qg) qd)))))))))
abbrev yL:Stmt:=top 21
abbrev UP:List Str:=["thing", "room", "letters"]
noncomputable def wQ:qN:=(qD (sIf (dOr (xK (ui (d1 (uq "tuple") (qc 0)))) (xK (ui (d1 Ui (jo [] 1 [1] (jN (qc 0)) (gNm 0) ftT (qm [.vl,.vl] yj (qb (qc 0) (qb (qc 1) qr)))))))) (jr (dC (.bl iq))) qK)
  (qD (qU 2 (jo [] 1 [] (jN (qc 0)) (gNm 0) ftT (d2 ixD (qc 0) (dC (.int 0)))))
  (jr (d2 eqD (qc 2) (d1 vN (qc 2))))))
noncomputable abbrev kt:ko:=kn UP [.val,.val] (wQ)
abbrev zI (e0:Ev):=qH e0 3 "is_worths" ["thing", "room"] [.val,.val] .sh (kt)
theorem Wq (Z:ZtE e0 ca) (T:va e0 "is_worths" yL ["thing", "room"]) (o:Qi e0):zI e0:=
 dW [] T λcdv f A outer s H E hr=>(qe (qL (PW.pt (wl (jk (tv (wX rfl rfl Z.z_isinstance qM rfl Z.z_tuple jZ vr))) (jF (jk (tv (qB (zp rfl rfl) rfl Z.z_all zv (cmp (qO rfl vr) (λ_ _ _ _=>(jv o hr (by decide) yD rfl (qa vr (qa vr qd))))))))))) (qf (ql vK)) qF)
  (qe (qjR (qO rfl vr) (λ_ _ _ _=>(ix vr qg)))
  (kA [2] (qf (ql (kN (vW rfl hr.units) vr (xT rfl rfl rfl Z.z_sorted vD rfl Z.z_set YU vr)))))))
abbrev wb:Stmt:=top 27
abbrev QE:List Str:=["thing", "room"]
noncomputable def yy:qN:=(sIf (xK (ui (qm [.vl,.vl] kt (qb (qc 0) (qb (qc 1) qr))))) (vc "NoWorths" (qb (dC (.str "worths are a rising tuple of unlike letters, each with a number within the room")) qr)) qK)
noncomputable abbrev wc:ko:=kn QE [.val,.val] (yy)
abbrev uK (e0:Ev):=qH e0 4 "check_worths" ["thing", "room"] [.val,.val] .sh (wc)
theorem Qj (Z:ZtE e0 ca) (T:va e0 "check_worths" wb ["thing", "room"]) (o:zI e0):uK e0:=
 dW [] T λcdv f A outer s H E hr=>(qf (qL (jk (tv (cN o (qa vr (qa vr qd))))) (qf (rz Z "NoWorths" (qa kT qd))) qF))
abbrev Kt:Stmt:=top 33
abbrev qdl:List Str:=["total", "room"]
noncomputable def Xj:qN:=(jr (dIf (qC (d2 geD (qc 0) (qc 1))) (d2 zM (qc 0) (qc 1)) (qc 0)))
noncomputable abbrev gi:ko:=kn qdl [.val,.val] (Xj)
abbrev Wr (e0:Ev):=qH e0 1 "within" ["total", "room"] [.val,.val] .sh (gi)
theorem qaZ (Z:ZtE e0 ca) (T:va e0 "within" Kt ["total", "room"]):Wr e0:=
 dW [] T λcdv f A outer s H E hr=>(qf (ql (XQ (qE qe8 vr vr) (qG wg vr vr) vr)))
abbrev ze:Stmt:=top 34
abbrev Zy:List Str:=["words", "look", "room", "worths", "seen", "worth_of"]
noncomputable def ym:qN:=(qD (qU 4 (qm [.vl,.vl] xY (qb (qc 0) (qb (qc 1) qr))))
  (qD (kz (qm [.vl] vP (qb (qc 2) qr)))
  (qD (kz (qm [.vl,.vl] wc (qb (qc 3) (qb (qc 2) qr))))
  (qD (qU 5 (d1 Uj (qc 3)))
  (qD (sIf (xK (ui (d1 Ui (jo [] 1 [5] (jN (qm [.vl] jW (qb (qc 4) qr))) (gNm 0) ftT (d2 inA (qc 0) (qc 1)))))) (vc "NoWorths" (qb (dC (.str "a letter that is seen has no worth")) qr)) qK)
  (jr (d1 jU (jo [] 1 [2,5] (jN (qc 4)) (gNm 0) ftT (qm [.vl,.vl] gi (qb (d2 jL (d2 ixD (qc 2) (d2 ixD (qc 0) (dC (.int 0)))) (d2 ixD (qc 2) (d2 ixD (qc 0) (dC (.int 1))))) (qb (qc 1) qr)))))))))))
noncomputable abbrev ku:ko:=kn Zy [.val,.val,.val,.val] (ym)
abbrev Qk (e0:Ev):=qH e0 6 "numbered" ["words", "look", "room", "worths"] [.val,.val,.val,.val] .sh (ku)
theorem UQ (Z:ZtE e0 ca) (T:va e0 "numbered" ze ["words", "look", "room", "worths"]) (F:wA e0) (o:uK e0) (K:ge e0) (a:wJ e0) (O:Wr e0):Qk e0:=
 dW [] T λcdv f A outer s H E hr=>(qe (se (cN K (qa vr (qa vr qd))))
  (qe (jq (cN F (qa vr qd)))
  (qe (jq (cN o (qa vr (qa vr qd))))
  (qe (se (jJ (GR rfl rfl) rfl Z.z_dict Uw vr))
  (qe (qL (jk (tv (qB (zp rfl rfl) rfl Z.z_all zv (cmp (qO rfl (cN a (qa vr qd))) (λ_ _ _ _=>(kN (QU rfl hr.units) vr vr)))))) (qf (rz Z "NoWorths" (qa kT qd))) qF)
  (qf (ql (jJ (wz rfl) rfl Z.z_tuple jZ (cmp (qO rfl vr) (λ_ _ _ _=>(jv O hr (by decide) yD rfl (qa (qG (qV rfl) (ix vr (ix vr qg)) (ix vr (ix vr qg))) (qa vr qd)))))))))))))
abbrev uL:Stmt:=top 53
abbrev Ws:List Str:=["words", "look", "room", "numbers", "thing", "given"]
noncomputable def uM (ca:Str->Addr):qN:=(qD (kz (qm [.vl,.vl,.vl,.vl] jV (qb (qc 0) (qb (qc 1) (qb (qc 2) (qb (qc 3) qr))))))
  (qD (qfn 6 ij (qhs ca ["NoWorths"]) (qU 5 (qm [.vl,.vl,.vl,.vl] ku (qb (qc 0) (qb (qc 1) (qb (qc 2) (qb (qc 4) qr)))))) (jr (dC (.bl iq))))
  (jr (d2 eqD (qc 5) (qc 3)))))
noncomputable abbrev kw (ca:Str->Addr):ko:=kn Ws [.val,.val,.val,.val,.val] (uM ca)
abbrev xF (ca:Str->Addr) (e0:Ev):=qH e0 7 "is_telling" ["words", "look", "room", "numbers", "thing"] [.val,.val,.val,.val,.val] .sh (kw ca)
theorem Ku (Z:ZtE e0 ca) (T:va e0 "is_telling" uL ["words", "look", "room", "numbers", "thing"]) (O:Qk e0) (o:vh e0):xF ca e0:=
 dW [] T λcdv f A outer s H E hr=>(qe (jq (cN o (qa vr (qa vr (qa vr (qa vr qd))))))
  (qe (qcC (own2:=[]) (n:=6) rfl rfl rfl rfl (Z.mref "NoWorths" (by decide +kernel)) (qkZ (Z.xs.val "NoWorths" (by decide +kernel)) Z.s_NoWorths) rfl (λpn xe E hx=>(qf (se (jv O hr (by decide) hx rfl (qa vr (qa vr (qa vr (qa vr qd)))))))) (λe=>(qf (ql vK))))
  (qf (ql (kN (vW rfl hr.units) vr vr)))))
abbrev uN:Stmt:=top 69
abbrev vJ:List Str:=["_law_script", "_law_town", "_law_asked", "_law_start", "_law_walk", "_law_bad", "_law_book", "_law_some", "_law_letter_here", "_law_due", "_law_less", "_law_words_here", "_law_look_here", "_law_room", "_law_numbers"]
noncomputable def qa0 (ca:Str->Addr):qN:=(qD (qdX (qc 2) (qX 4 (qp (gNm 11) (qp (gNm 12) (qp (gNm 13) (qp (gNm 14) qW))))))
  (qD (qU 5 (kJ (qb (dC .non) (qb (jT qr) (qb (jT (qb (qc 3) qr)) (qb (kJ (qb (qc 3) (qb (qc 4) qr))) (qb (jT (qb (qc 3) (qb (d1 jU (qc 4)) qr))) (qb (jT (qb (qc 3) (qb (kJ qr) qr))) (qb (jT (qb (dC .non) (qb (qc 4) qr))) (qb (jT (qb (dC (.str "zz")) (qb (qc 4) qr))) (qb (dC (.str "x")) qr)))))))))))
  (qD (kz (gz 5 qfo (kJ (qb (jT (qb (qc 3) (qb (d2 jL (qc 4) (kJ (qb (dC .non) qr))) qr))) (qb (jT (qb (qc 3) (qb (d2 jL (qc 4) (kJ (qb (d1 kZ (qc 11)) qr))) qr))) (qb (jT (qb (qc 3) (qb (kJ (qb (d1 WN (dC (.int 1))) qr)) qr))) (qb (jT (qb (qc 3) (qb (kJ (qb (dC (.bl ir)) qr)) qr))) qr)))))))
  (qD (kz (gz 5 ga (jT (qb (qc 3) (qb (d2 Ut (kJ (qb (dC (.int 0)) qr)) (dC (.int 41))) qr)))))
  (qD (sIf (qC (d2 neD (qm [.vl,.vl,.vl,.vl,.vl] jO (qb (qc 11) (qb (qc 12) (qb (qc 13) (qb (qc 14) (qb (qm [.vl,.sl 1,.vl] ju (qb (qc 0) (qZ (qb (qc 5) qr)))) qr)))))) (dC (.bl iq)))) (jr (dC (.bl iq))) qK)
  (qD (sIf (qC (d2 zO (qm [.vl,.vl,.vl,.vl] UE (qb (qc 11) (qb (qc 12) (qb (qc 13) (qb (qc 14) qr))))) (dC .non))) (jr (dC (.bl ir))) qK)
  (qD (qU 6 (d1 Uj (qm [.vl,.vl,.vl,.vl] gh (qb (qc 11) (qb (qc 12) (qb (qc 13) (qb (qc 14) qr)))))))
  (qD (qU 7 (qm [.vl,.vl] kb (qb (qc 11) (qb (qc 12) qr))))
  (qD (qU 8 (qm [.vl,.sl 1,.vl] ju (qb (qc 0) (qZ (qb (d1 zu (qc 6)) qr)))))
  (qD (uc 6 (d2 vL (d2 jL (d2O 6 ixD (qc 8)) (qm [.vl,.sl 1,.vl] qP (qb (qc 0) (qZ (qb (dC (.int 3)) qr))))) (qc 13)) (qc 8))
  (qD (qU 9 (d1 Ui (jo [1] 3 [13,6] (qd2 (qb (qc 7) (qb (qc 14) qr))) (qX 2 (qp (qX 2 (qp (gNm 1) (qp (gNm 2) qW))) (qp (gNm 0) qW))) ftT (d2 eqD (d2 vL (d2 jL (d2 ixD (qc 4) (qc 1)) (d2 ixD (qc 4) (qc 2))) (qc 3)) (qc 0)))))
  (qD (sIf (qC (d2 neD (qm [.vl,.vl,.vl,.vl,.vl] (kw ca) (qb (qc 11) (qb (qc 12) (qb (qc 13) (qb (qc 14) (qb (d1 jU (d1 jB (qc 6))) qr)))))) (qc 9))) (jr (dC (.bl iq))) qK)
  (qD (qU 10 (d1 jU (jo [1] 1 [8] (jN (d1 jB (qc 6))) (gNm 0) (qC (d2 neD (d2 ixD (qc 0) (dC (.int 0))) (qc 1))) (qc 0))))
  (jr (d2 eqD (jo [1] 1 [11,12,13,14] (jN (jT (qb (qc 10) (qb (dC .non) qr)))) (gNm 0) ftT (qm [.vl,.vl,.vl,.vl,.vl] (kw ca) (qb (qc 1) (qb (qc 2) (qb (qc 3) (qb (qc 4) (qb (qc 0) qr))))))) (d2 Ut (kJ (qb (dC (.bl iq)) qr)) (dC (.int 2))))))))))))))))))
noncomputable abbrev uO (ca:Str->Addr):ko:=kn vJ [.val,.io,.val,.val,.val] (qa0 ca)
abbrev Jj (ca:Str->Addr) (e0:Ev):=qH e0 9 "_law_others" ["_law_script", "_law_town", "_law_asked", "_law_start", "_law_walk"] [.val,.io,.val,.val,.val] .sh (uO ca)
theorem ZA (Z:ZtE e0 ca) (T:va e0 "_law_others" uN ["_law_script", "_law_town", "_law_asked", "_law_start", "_law_walk"]) (P:YZ e0) (O:Wp e0) (o:xF ca e0) (M:Qb e0) (g:wM e0) (m:xC e0) (a:wu e0):Jj ca e0:=
 dW [1] T λcdv f A outer s H E hr=>(qe (Ud vr (kq rfl rfl (qy gn (qy gn (qy gn (qy gn jG))))))
  (qe (sO (jh (qa vd (qa (jm qd) (qa (jm (qa vr qd)) (qa (jh (qa vr (qa vr qd))) (qa (jm (qa vr (qa (jJ (wz rfl) rfl Z.z_tuple jZ vr) qd))) (qa (jm (qa vr (qa (jh qd) qd))) (qa (jm (qa vd (qa vr qd))) (qa (jm (qa kT (qa vr qd))) (qa kT qd)))))))))))
  (qe (jq (Vu (i:=5) rfl (aZ rfl) (by decide) (jh (qa (jm (qa vr (qa (qG (qV rfl) vr (jh (qa vd qd))) qd))) (qa (jm (qa vr (qa (qG (qV rfl) vr (jh (qa (qB (jD rfl) rfl Z.z_len jC vr) qd))) qd))) (qa (jm (qa vr (qa (jh (qa (Vm zn qg) qd)) qd))) (qa (jm (qa vr (qa (jh (qa vK qd)) qd))) qd)))))))
  (qe (jq (vA (i:=5) rfl rfl (aZ rfl) (by decide) (jm (qa vr (qa (qG (JI rfl) (jh (qa qg qd)) qg) qd)))))
  (kA [5] (qe (qL (qE (xN rfl hr.units) (cN M (qa vr (qa vr (qa vr (qa vr (qa (cN m (qa vr (sl (qa vr qd)))) qd)))))) vK) (qf (ql vK)) qF)
  (qe (qL (qE Ub (cN P (qa vr (qa vr (qa vr (qa vr qd))))) vd) (qf (ql vK)) qF)
  (qe (sO (jJ (GR rfl rfl) rfl Z.z_dict Uw (cN O (qa vr (qa vr (qa vr (qa vr qd)))))))
  (qe (se (cN a (qa vr (qa vr qd))))
  (qe (se (cN m (qa vr (sl (qa (jJ (qc5 rfl) rfl Z.z_list JO (Gi (i:=6) rfl (cf (aZ rfl)) (by decide))) qd)))))
  (qe (ye (n:=6) hr.units rfl (cf (aZ rfl)) (by decide) (qG kh (qG (qV rfl) (QX (i:=6) rfl hr.units rfl (cf (aZ rfl)) (by decide) vr (λ_ _=>rfl)) (cN g (qa vr (sl (qa qg qd))))) vr) vr)
  (kA [6] (qe (se (qB (zp rfl rfl) rfl Z.z_all zv (GG (N:=["_law_number", "_law_one", "_law_other", "_law_room", "_law_book"]) (nt:=3) (cap:=[13,6]) rfl (qfp (names:=(jg uN).names) rfl (by decide +kernel)) (GM (names:=(jg uN).names) (N:=vJ) rfl rfl (by decide +kernel)) (qac rfl rfl Z.z_zip vr vr) (λfp L s1 H1=>(kq rfl rfl (qy (kq rfl rfl (qy (xg (i:=1) (show List.Nodup (["_law_number", "_law_one", "_law_other", "_law_room", "_law_book"]:List Str) from by decide +kernel) rfl (aZ rfl)) (qy (xg (i:=2) (show List.Nodup (["_law_number", "_law_one", "_law_other", "_law_room", "_law_book"]:List Str) from by decide +kernel) rfl (aZ rfl)) jG))) (qy (xg (i:=0) (show List.Nodup (["_law_number", "_law_one", "_law_other", "_law_room", "_law_book"]:List Str) from by decide +kernel) rfl (aZ rfl)) jG)))) (λfp L s1 H1=>JB) (λfp L s1 H1=>(kN (vW rfl hr.units) (qG kh (qG (qV rfl) (ix vr vr) (ix vr vr)) vr) vr)))))
  (qe (qL (qE (xN rfl hr.units) (cN o (qa vr (qa vr (qa vr (qa vr (qa (jJ (wz rfl) rfl Z.z_tuple jZ (zt rfl rfl rfl Z.z_sorted vD vr)) qd)))))) vr) (qf (ql vK)) qF)
  (qe (se (jJ (wz rfl) rfl Z.z_tuple jZ (cmp (qO rfl (zt rfl rfl rfl Z.z_sorted vD vr)) (λ_ _ _ _=>vr) (ht:=λ_ _ _ _=>(Jz (qE (xN rfl hr.units) (ix vr qg) vr))))))
  (qf (ql (kN (vW rfl hr.units) (cmp (qO rfl (jm (qa vr (qa vd qd)))) (λ_ _ _ _=>(jv o hr (by decide) yD rfl (qa vr (qa vr (qa vr (qa vr (qa vr qd)))))))) (qG (JI rfl) (jh (qa vK qd)) qg)))))))))))))))))))
abbrev qa1:Stmt:=top 70
abbrev qfS:List Str:=["_law_script", "_law_town", "_law_words_here", "_law_look_here", "_law_room", "_law_numbers", "_law_some", "_law_none", "_law_thing", "_law_start", "_law_walk", "_law_k", "_law_found", "_law_many", "_law_here", "_law_at", "_law_news", "_law_place"]
abbrev qhQ:List Str:=["_law_script"]
theorem qhR:FnScope qfS qhQ (jg qa1):=fsc
noncomputable def qfT (ca:Str->Addr):qN:=(qD (qU 1 (kJ qr))
  (qD (qU 2 (qm [.vl,.sl 1,.vl] Kk (qb (qc 0) (qZ (qb (dC (.int 6)) qr)))))
  (qD (qU 3 (qm [.vl,.sl 1] UK (qb (qc 0) (qZ qr))))
  (qD (qU 4 (d2 jL (dC (.int 1)) (qm [.vl,.sl 1,.vl] qP (qb (qc 0) (qZ (qb (qm [.vl,.sl 1,.vl] ju (qb (qc 0) (qZ (qb (kJ (qb (dC (.int 2)) (qb (dC (.int 4)) (qb (dC (.int 9)) qr)))) qr)))) qr))))))
  (qD (qU 5 (d1 jU (jo [1] 1 [0,1,4] (jN (qc 2)) (gNm 0) ftT (qm [.vl,.sl 2,.vl] qP (qb (qc 1) (qZ (qb (qc 3) qr)))))))
  (qD (qU 6 (qm [.vl,.vl] kb (qb (qc 2) (qb (qc 3) qr))))
  (qD (qU 7 (d2 qbX (qm [.vl,.vl,.vl,.vl] Kp (qb (qc 2) (qb (qc 3) (qb (qc 4) (qb (qc 5) qr))))) (dC .non)))
  (qD (qU 8 (qm [.vl,.vl,.vl,.vl] UE (qb (qc 2) (qb (qc 3) (qb (qc 4) (qb (qc 5) qr))))))
  (qD (qU 9 (qm [.vl,.sl 1,.vl] ju (qb (qc 0) (qZ (qb (qm [.vl,.vl] vI (qb (qc 2) (qb (qc 3) qr))) qr)))))
  (qD (qU 10 (kJ qr))
  (qD (sIf (QM (qC (d2 zO (qc 8) (dC .non))) (qC (d2 gtD (qm [.vl,.sl 1,.vl] qP (qb (qc 0) (qZ (qb (dC (.int 3)) qr)))) (dC (.int 0))))) (qdX (qc 8) (qX 2 (qp (gNm 9) (qp (gNm 10) qW)))) (qD (qU 14 (qc 9))
  (qD (wW (jA (qm [.vl,.sl 1,.vl] qP (qb (qc 0) (qZ (qb (dC (.int 8)) qr))))) (gNm 11)
  (qD (qU 17 (qm [.vl,.sl 1,.vl] ju (qb (qc 0) (qZ (qb (jo [10,1] 2 [14] (gO (qc 6)) (qX 2 (qp (gNm 0) (qp (gNm 1) qW))) (qC (d2 inA (qc 2) (qc 1))) (qc 0)) qr)))))
  (qD (qU 14 (d2 ixD (d2 ixD (qc 6) (qc 17)) (d1 qaw (d2 eqD (d2 ixD (d2 ixD (qc 6) (qc 17)) (dC (.int 0))) (qc 14)))))
  (kz (gz 10 ga (qc 17)))))) qK)))
  (qD (wW (jA (qm [.vl,.sl 1,.vl] qP (qb (qc 0) (qZ (qb (dC (.int 3)) qr))))) (gNm 11)
  (qD (qU 15 (qm [.vl,.sl 1,.vl] qP (qb (qc 0) (qZ (qb (d2 jL (d1 kZ (qc 10)) (dC (.int 1))) qr)))))
  (qD (qU 16 (kJ (qb (kJ (qb (qm [.vl,.sl 1,.vl] qP (qb (qc 0) (qZ (qb (d1 kZ (qc 2)) qr)))) qr)) (qb (kJ qr) (qb (d2 Ut (vC (qc 10) (ii (qc 15)) (ii (d2 jL (qc 15) (dC (.int 1))))) (dC (.int 2))) (qb (vC (qc 10) (ii (qc 15)) (ii (d2 jL (qc 15) (dC (.int 1))))) qr))))))
  (qD (qU 10 (d2 jL (d2 jL (vC (qc 10) ij (ii (qc 15))) (qm [.vl,.sl 1,.vl] ju (qb (qc 0) (qZ (qb (qc 16) qr))))) (vC (qc 10) (ii (d2 jL (qc 15) (dC (.int 1)))) ij)))
  (qU 10 (qm [.vl,.sl 1,.vl] ju (qb (qc 0) (qZ (qb (kJ (qb (qc 10) (qb (xV (qc 10) ij ij (ii (d1 WN (dC (.int 1))))) (qb (d2 jL (qc 10) (qc 10)) (qb (d2 jL (qc 10) (xV (qc 10) ij ij (ii (d1 WN (dC (.int 1)))))) qr))))) qr)))))))))
  (qD (qU 12 (qm [.vl,.vl,.vl,.vl,.vl] jO (qb (qc 2) (qb (qc 3) (qb (qc 4) (qb (qc 5) (qb (jT (qb (qc 9) (qb (qc 10) qr))) qr)))))))
  (qD (sIf (dOr (qC (d2 neD (qc 12) (qm [.vl,.vl,.vl,.vl,.vl,.vl] Kq (qb (qc 2) (qb (qc 3) (qb (qc 4) (qb (qc 5) (qb (qc 9) (qb (qc 10) qr))))))))) (dOr (xK (ui (d1 (uq "bool") (qc 12)))) (QM (ui (qc 12)) (xK (ui (qc 7)))))) (jr (dC (.bl iq))) qK)
  (qD (wW (jN (jT (qb (dC (.int 1)) (qb (dC (.int 19)) (qb (dC (.int 20)) (qb (dC (.int 21)) qr)))))) (gNm 13)
  (sIf (qC (d2 neD (qm [.vl,.vl,.vl,.vl,.vl] jO (qb (jT (qb (dC (.str "ab")) (qb (dC (.str "axb")) qr))) (qb (jT (qb (dC (.int 0)) (qb (d1 WN (dC (.int 1))) qr))) (qb (dC (.int 11)) (qb (jT (qb (dC (.int 0)) (qb (dC (.int 1)) qr))) (qb (jT (qb (dC (.str "a")) (qb (d2 Ut (kJ (qb (dC (.int 0)) (qb (dC (.int 1)) qr))) (qc 13)) qr))) qr)))))) (d2 ltD (qc 13) (dC (.int 21))))) (jr (dC (.bl iq))) qK))
  (jr (qm [.vl,.sl 1,.vl,.vl,.vl] (uO ca) (qb (qc 0) (qZ (qb (jT (qb (qc 2) (qb (qc 3) (qb (qc 4) (qb (qc 5) qr))))) (qb (qc 9) (qb (qc 10) qr))))))))))))))))))))))
noncomputable abbrev qdm (ca:Str->Addr):ko:=kn qfS [.val] (qfT ca)
theorem qhS {f:Addr} {fd:li} (Z:ZtE e0 ca) (F:Fun e0.K "law" "law" qa1 f fd) (b:YZ e0) (M:Qb e0) (o:wM e0) (m:xC e0) (q:Wn e0) (u:Xf e0) (a:wu e0) (R:Km e0) (c:Wo e0) (O:Xh e0) (h:Jj ca e0):FnOk e0.P e0.w e0.K e0.mg e0.base (CXk e0.P e0.w) 10 f fd qhQ (spD e0.K e0.cv [.val] .sh (qdm ca)):=
 qkk (k:=9) (own':=[]) (fb:=qfT ca) F qhR rfl (ug rfl) (.inl rfl) (λcdv A outer s H E hr=>(qe (sO (jh qd))
  (qe (se (cN q (qa vr (jy (i:=1) rfl (cf (aZ rfl)) (by decide) (qa qg qd)))))
  (qe (se (cN u (qa vr (jy (i:=1) rfl (cf (aZ rfl)) (by decide) qd))))
  (qe (se (qG (qV rfl) qg (cN o (qa vr (jy (i:=1) rfl (cf (aZ rfl)) (by decide) (qa (cN m (qa vr (jy (i:=1) rfl (cf (aZ rfl)) (by decide) (qa (jh (qa qg (qa qg (qa qg qd)))) qd)))) qd))))))
  (qe (se (jJ (wz rfl) rfl Z.z_tuple jZ (cmp (qO rfl vr) (λ_ _ _ _=>(jv o hr (by decide) yD rfl (qa vr (jy (i:=2) rfl (by first | exact cf (cf rfl) | exact cf (aZ rfl)) (by decide) (qa vr qd))))))))
  (qe (se (cN a (qa vr (qa vr qd))))
  (qe (se (kN Gv (cN c (qa vr (qa vr (qa vr (qa vr qd))))) vd))
  (qe (se (cN b (qa vr (qa vr (qa vr (qa vr qd))))))
  (qe (se (cN m (qa vr (jy (i:=1) rfl (cf (aZ rfl)) (by decide) (qa (cN R (qa vr (qa vr qd))) qd)))))
  (qe (sO (jh qd))
  (qe (qL (PW.pt (yB (qE Ub vr vd) (jF (qE qhd (cN o (qa vr (jy (i:=1) rfl (cf (aZ rfl)) (by decide) (qa qg qd)))) qg)))) (kA [10] (qf (Ud vr (kq rfl rfl (qy gn (qy gn jG)))))) (qe (se vr)
  (qe (jH aO rfl (vm rfl Z.z_range (cN o (qa vr (jy (i:=1) rfl (cf (aZ rfl)) (by decide) (qa qg qd))))) gn
  (qe (se (cN m (qa vr (jy (i:=1) rfl (cf (aZ rfl)) (by decide) (qa (cmp (JL rfl rfl Z.z_enumerate vr) (λ_ _ _ _=>vr) (hg:=λ_ _ _ _=>(kq rfl rfl (qy gC (qy gC jG)))) (ht:=λ_ _ _ _=>(Jz (qE (QU rfl hr.units) vr vr)))) qd)))))
  (qe (se (ix (ix vr vr) (jJ qfI rfl Z.z_int qd9 (kN (vW rfl hr.units) (ix (ix vr vr) qg) vr))))
  (qf (jq (vA (i:=10) rfl rfl (aZ rfl) (by decide) vr))))))
  (kA [10] qF))))
  (qe (jH aO rfl (vm rfl Z.z_range (cN o (qa vr (jy (i:=1) rfl (cf (aZ rfl)) (by decide) (qa qg qd))))) gn
  (qe (se (cN o (qa vr (jy (i:=1) rfl (cf (aZ rfl)) (by decide) (qa (qG (qV rfl) (qB (jD rfl) rfl Z.z_len jC vr) qg) qd)))))
  (qe (se (jh (qa (jh (qa (cN o (qa vr (jy (i:=1) rfl (cf (aZ rfl)) (by decide) (qa (qB (jD rfl) rfl Z.z_len jC vr) qd)))) qd)) (qa (jh qd) (qa (qG (JI rfl) (xu rfl vr (jY vr) (jY (qG (qV rfl) vr qg))) qg) (qa (xu rfl vr (jY vr) (jY (qG (qV rfl) vr qg))) qd))))))
  (qe (se (qG (qV rfl) (qG (qV rfl) (xu rfl vr kR (jY vr)) (cN m (qa vr (jy (i:=1) rfl (cf (aZ rfl)) (by decide) (qa vr qd))))) (xu rfl vr (jY (qG (qV rfl) vr qg)) kR)))
  (qf (se (cN m (qa vr (jy (i:=1) rfl (cf (aZ rfl)) (by decide) (qa (jh (qa vr (qa (VQ rfl vr kR kR (jY (Vm zn qg))) (qa (qG (qV rfl) vr vr) (qa (qG (qV rfl) vr (VQ rfl vr kR kR (jY (Vm zn qg)))) qd))))) qd))))))))))
  (qe (se (cN M (qa vr (qa vr (qa vr (qa vr (qa (jm (qa vr (qa vr qd))) qd)))))))
  (qe (qL (PW.pt (wl (qE (xN rfl hr.units) vr (cN O (qa vr (qa vr (qa vr (qa vr (qa vr (qa vr qd)))))))) (wl (jk (tv (wX rfl rfl Z.z_isinstance qM rfl Z.z_bool qax vr))) (jF (PW.pt (yB (tv vr) (jF (jk (tv vr))))))))) (qf (ql vK)) qF)
  (qe (jH aO rfl (qO rfl (jm (qa qg (qa qg (qa qg (qa qg qd)))))) gn
  (qf (qL (qE (xN rfl hr.units) (cN M (qa (jm (qa kT (qa kT qd))) (qa (jm (qa qg (qa (Vm zn qg) qd))) (qa qg (qa (jm (qa qg (qa qg qd))) (qa (jm (qa kT (qa (qG (JI rfl) (jh (qa qg (qa qg qd))) vr) qd))) qd)))))) (kN qg8 vr qg)) (qf (ql vK)) qF)))
  (qf (ql (cN h (qa vr (jy (i:=1) rfl (cf (aZ rfl)) (by decide) (qa (jm (qa vr (qa vr (qa vr (qa vr qd))))) (qa vr (qa vr qd)))))))))))))))))))))))) λ_=>.inr rfl
end
end Kx
namespace Kx
open PySem PySem.Spec L2 L2.D2
variable {ρ:Sl} {ds:List D} {d:D} {ms:List PM} {n:Nat} {i:Int} {x y:Str}
section
variable {as:List AK} {os:List D} {j:Int} {b:Bool} {ks:List (Key×D)}
@[simp] theorem qk6:vb [] [] ρ=ii []:=rfl
@[simp] theorem qk7:vb (.sl n::as) (d::ds) ρ=match ρ[n]? with | some (ii d)=>(vb as ds ρ).map (d::·) | _=>none:=rfl
@[simp] theorem qk8:vb (.vl::as) (d::ds) ρ=(vb as ds ρ).map (d::·):=rfl
@[simp] theorem qk9:vb (.fr::as) (d::ds) ρ=(vb as ds ρ).map (d::·):=rfl
@[simp] theorem qla:zX [] [] ρ=ρ:=rfl
@[simp] theorem qlb:zX (.sl n::as) (d::ds) ρ=zX as ds (ρ.set n (ii d)):=rfl
@[simp] theorem qlc:zX (.vl::as) (d::ds) ρ=zX as ds ρ:=rfl
@[simp] theorem qld:zX (.fr::as) (d::ds) ρ=zX as ds ρ:=rfl
@[simp] theorem qle:kj ρ n []=[]:=rfl
@[simp] theorem qlf:kj ρ n (.io::ms)=((ρ[n]?).getD ij).getD .non::kj ρ (n+1) ms:=rfl
@[simp] theorem qlg:kj ρ n (.val::ms)=.non::kj ρ (n+1) ms:=rfl
@[simp] theorem qlh:kj ρ n (.tk::ms)=.non::kj ρ (n+1) ms:=rfl
@[simp] theorem qli:jL (.int i) (.int j)=.ok (.int (i+j)):=rfl
@[simp] theorem qlj:jL (.str x) (.str y)=if x.length+y.length<=sizeLine then .ok (.str (x++y)) else .bad:=rfl
@[simp] theorem qk1:jL (.lst ds) (.lst os)=if ds.length+os.length<=sizeLine then .ok (.lst (ds++os)) else .bad:=rfl
@[simp] theorem qlk:jL (.tup ds) (.tup os)=if ds.length+os.length<=sizeLine then .ok (.tup (ds++os)) else .bad:=rfl
@[simp] theorem qll:qbX .non .non=.ok (.bl ir):=rfl
@[simp] theorem qlm:qbX (.tup ds) .non=.ok (.bl iq):=rfl
@[simp] theorem qln:qbX (.dct ks) .non=.ok (.bl iq):=rfl
@[simp] theorem qlo:zO .non .non=.ok (.bl iq):=rfl
@[simp] theorem qlp:zO (.tup ds) .non=.ok (.bl ir):=rfl
@[simp] theorem ylI:ltD (.int i) (.int j)=.ok (.bl (decide (i < j))):=rfl
@[simp] theorem ylS:ltD (.str x) (.str y)=.ok (.bl (vf x y)):=rfl
@[simp] theorem yeI:leD (.int i) (.int j)=.ok (.bl (decide (i<=j))):=rfl
@[simp] theorem yeS:leD (.str x) (.str y)=.ok (.bl (!vf y x)):=rfl
@[simp] theorem ygI:gtD (.int i) (.int j)=.ok (.bl (decide (j < i))):=rfl
@[simp] theorem ysI:zM (.int i) (.int j)=.ok (.int (i - j)):=rfl
@[simp] theorem ytB:ZL (.bl b)=.ok b:=rfl
@[simp] theorem ytI:ZL (.int i)=.ok (i != 0):=rfl
@[simp] theorem ytN:ZL .non=.ok false:=rfl
@[simp] theorem ytL:ZL (.lst ds)=.ok (!ds.isEmpty):=rfl
@[simp] theorem ytT:ZL (.tup ds)=.ok (!ds.isEmpty):=rfl
@[simp] theorem ynS:kZ (.str x)=.ok (.int x.length):=rfl
@[simp] theorem ynL:kZ (.lst ds)=.ok (.int ds.length):=rfl
@[simp] theorem ynT:kZ (.tup ds)=.ok (.int ds.length):=rfl
@[simp] theorem ynD:kZ (.dct ks)=.ok (.int ks.length):=rfl
end
variable {α:Type}
theorem uP (xs:List α) (k:Nat):atI xs (k:Int)=xs[k]?:=by
 unfold atI ixN;rw [Aa (by lia)];by_cases h:k < xs.length;·rw [Aa (by lia)];simp
 ·rw [Ab (by lia),bY (by lia)];rfl
theorem qec {xs:List α} (a:0<=i) (h1:i < xs.length):∃ d,atI xs i=ii d/\d∈xs:=by
 obtain ⟨k,rfl⟩:=Int.eq_ofNat_of_zero_le a;have h:k < xs.length:=by lia
 exact ⟨xs[k],by rw [uP,aE h],ce h⟩
theorem big:2000<=sizeLine:=by rw [iF]; decide
abbrev scr (ns:List Int):D:=.lst (ns.map .int)
theorem qfU (ns:List Int) (k:Nat):∃ i,zb [scr ns,.int k]=.ok (.int i,[.non,.non]):=by
 by_cases h:k < ns.length;·refine ⟨ns[k],?_⟩;refine qw.trans ?_;simp [yh,qv,ixD,h,uP]
 ·by_cases a:ns=[]
  ·subst a;have b:¬((k:Int) < 0):=by lia
   exact ⟨0,by refine qw.trans ?_; simp [yh,qv,ixD,eqD,eqN,wU,b]⟩
  ·have hp:0 < ns.length:=List.length_pos_iff.mpr a;have c:k % ns.length < ns.length:=Nat.mod_lt _ hp;have e:atI (ns.map D.int) ((k:Int) % (ns.length:Int))=ii (.int ns[k % ns.length]):=by rw [show ((k:Int) % (ns.length:Int))=((k % ns.length:Nat):Int) by simp,uP,aG,aE c];rfl
   refine ⟨ns[k % ns.length] * 31+k,?_⟩;refine qw.trans ?_;simp [yh,qv,ixD,eqD,eqN,h,a,vL,qdT,yz,hp,e,CMul]
variable {many:Int}
theorem qdn (ns:List Int) (k:Nat) (h:0 < many):∃ r,0<=r/\r < many/\Kh [scr ns,.int k,.int many]=.ok (.int r,[.non,.non,.non]):=by obtain ⟨c,a⟩:=qfU ns k;have h1:=dZ ((c+7919 * k+1) * 48271) (show (2147483647:Int)≠0 by decide);have h2:=dw ((c+7919 * k+1) * 48271) (show (0:Int) < 2147483647 by decide);generalize hd:(c+7919 * (k:Int)+1) * 48271 % 2147483647=d at h1 h2;have c1:CMul d d:=.inl ⟨by lia,by lia⟩;refine ⟨(d * d+7 * d+k) % 2147483629 % many,dZ _ (by lia),dw _ h,?_⟩;refine qw.trans ?_;simp [Xc,qv,a,qdT,vL,yz,h,hd,c1,show ∀ j,CMul 7919 j from λj=>.inl ⟨by lia,by lia⟩,show ∀ j,CMul 7 j from λj=>.inl ⟨by lia,by lia⟩,show ∀ i,CMul i 48271 from λi=>.inr ⟨by lia,by lia⟩]
theorem kI (ns:List Int) (t:List D) (c:0 < many) (ht:t.length < 1000):∃ r,0<=r/\r < many/\qP [scr ns,.lst t,.int many]=.ok (.int r,[.non,.lst (t++[.int 0]),.non]):=by obtain ⟨r,a,h1,h⟩:=qdn ns (t.length+1) c;have hl:t.length < sizeLine:=aI (eJ ht (by decide)) big;refine ⟨r,a,h1,?_⟩;simp at h;refine qw.trans ?_;simp [qaJ,qv,uo,ga,hl,h]
theorem wR (ns:List Int) (t xs:List D) (hx:xs≠[]) (ht:t.length < 1000):∃ d,d∈xs/\ju [scr ns,.lst t,.lst xs]=.ok (d,[.non,.lst (t++[.int 0]),.non]):=by have hp:0 < xs.length:=List.length_pos_iff.mpr hx;obtain ⟨r,a,h1,h⟩:=kI ns t (many:=(xs.length:Int)) (by lia) ht;obtain ⟨d,e,hd⟩:=qec (xs:=xs) a h1;refine ⟨d,hd,?_⟩;refine qw.trans ?_;simp [qaK,qv,h,ixD,e]
def az (c:Nat):Prop:=97<=c/\c<=122
def qdo (w:Str):Prop:=1<=w.length/\w.length<=6/\∀ c∈w.cps.toList,az c
theorem we (x:Str):x.length=x.cps.size:=rfl
theorem UR (x y:Str):(x++y).cps=x.cps++y.cps:=rfl
theorem uQ:∀ ws:List Str,VJ (ws.map D.str)=ii ws
 | []=>rfl
 | w::ws=>by simp [VJ,uQ ws]
theorem xG (w:Str):∀ ws:List Str,WM 7 (.str w) (ws.map D.str)=ii (decide (w∈ws))
 | []=>by simp [WM]
 | a::ws=>by
  have i:=xG w ws;simp only [aH,WM,i];simp [eqN,eqS];by_cases h:a=w;·simp [h]
  ·simp [h,bw h]
def jp (ws:List Str):Prop:=1<=ws.length/\ws.length<=6/\ws.Nodup/\∀ w∈ws,qdo w
theorem qfV:(bg "abcdefghijklmnopqrstuvwxyz").cps.toList.length=26:=by decide +kernel
theorem qhT:∀ c∈(bg "abcdefghijklmnopqrstuvwxyz").cps.toList,az c:=by unfold az;decide +kernel
abbrev qhU:qN:=(qU 3 (d2 jL (qc 3) (d2 ixD (dC (.str "abcdefghijklmnopqrstuvwxyz")) (qm [.vl,.sl 1,.vl] qP (qb (qc 0) (qZ (qb (qc 2) qr)))))))
variable {few:Int}
theorem Wt (ns:List Int) (h:0 < few) (h1:few<=26):∀ (ds:List D) (t:List D) (w:Str) (k:Option D),t.length+ds.length < 1000->w.length+ds.length<=100->(∀ c∈w.cps.toList,az c) ->∃ a S k',a.length=t.length+ds.length/\S.length=w.length+ds.length/\(∀ c∈S.cps.toList,az c)/\kO (gNm 4) qhU ds [ii (scr ns),ii (.lst t),ii (.int few),ii (.str w),k]=.ok (.nx,[ii (scr ns),ii (.lst a),ii (.int few),ii (.str S),k'])
 | [],t,w,k,_,_,hw=>⟨t,w,k,rfl,rfl,hw,rfl⟩
 | d::ds,t,w,k,ht,hl,hw=>by
  rw [ah] at ht hl;obtain ⟨r,r0,r1,hr⟩:=kI ns t (many:=few) h (by lia);obtain ⟨c,b,m⟩:=qec (xs:=(bg "abcdefghijklmnopqrstuvwxyz").cps.toList) (i:=r) r0 (by rw [qfV]; lia);obtain ⟨a,S,k',g,f,e,q⟩:=Wt ns h h1 ds (t++[.int 0]) (w++⟨#[c]⟩) (ii d) (by rw [ae]; simp; lia) (by rw [we,UR,Array.size_append]; rw [we] at hl; simp; lia) (λx hx=>by
   rw [UR,Array.toList_append,ao] at hx;rcases hx with hx | hx;·exact hw x hx
   ·simp at hx;rw [hx];exact qhT c m)
  refine ⟨a,S,k',?_,?_,e,?_⟩
  ·rw [g,ae,ah];simp
   lia
  ·rw [f,we,UR,Array.size_append,<-we,ah];simp
   lia
  ·have z:w.length+fV ⟨#[c]⟩<=sizeLine:=by
    have:=big;simp [we] at hl ⊢
    lia
   rw [<-q];simp [kO,qhU,hr,ixD,b,z]
theorem qfW (ns:List Int) (t:List D) (b:0 < few) (h1:few<=26) (ht:t.length < 900):∃ w a,qdo w/\a.length<=t.length+8/\Ki [scr ns,.lst t,.int few]=.ok (.str w,[.non,.lst a,.non]):=by
 obtain ⟨d,hd,hp⟩:=wR ns t [.int 2,.int 3,.int 6] (by simp) (by lia);obtain ⟨m,rfl,m0,m1⟩:∃ m:Int,d=.int m/\0 < m/\m<=6:=by
  simp at hd;rcases hd with rfl | rfl | rfl;·exact ⟨2,rfl,by lia,by lia⟩
  ·exact ⟨3,rfl,by lia,by lia⟩
  ·exact ⟨6,rfl,by lia,by lia⟩
 obtain ⟨r,r0,r1,hr⟩:=kI ns (t++[.int 0]) (many:=m) m0 (by rw [ae]; simp; lia);have n:(yQ 0 (1+r).toNat).length=(1+r).toNat:=by simp [yQ]
 have e0:fV (bg "")=0:=by decide +kernel
 obtain ⟨a,S,k',f,k,e,q⟩:=Wt ns b h1 (yQ 0 (1+r).toNat) (t++[.int 0]++[.int 0]) "" ij (by rw [n,ae,ae]; simp; lia) (by rw [n,e0]; lia) (by
  have:(bg "").cps.toList=[]:=by decide +kernel
  rw [this];intro c h;cases h)
 refine ⟨S,a,⟨?_,?_,e⟩,?_,?_⟩
 ·rw [k,e0,n]
  lia
 ·rw [k,e0,n]
  lia
 ·rw [f,n,ae,ae];simp
  lia
 ·refine qw.trans ?_;have c1:-(2 ^ 62:Int)<=1+r/\1+r < 2 ^ 62:=by lia
  have g:=big;have z:3<=sizeLine:=by lia
  simp only [aU,dg,bW] at q hr;simp [qaL,qv,hp,hr,jA,-Int.reducePow,c1,z,q]
abbrev qa2:qN:=(qD (qU 6 (qm [.vl,.sl 1,.vl] Ki (qb (qc 0) (qZ (qb (qc 3) qr)))))
  (sIf (qC (d2 ub (qc 6) (qc 4))) (kz (gz 4 ga (qc 6))) qK))
theorem zf (ns:List Int) (m:D) (f:0 < few) (h1:few<=26):∀ (ds:List D) (n:List D) (ws:List Str) (k u:Option D),n.length+8 * ds.length < 900->ws.length+ds.length<=100->ws.Nodup->(∀ w∈ws,qdo w) ->∃ (t:List D) (c:List Str) (k' V:Option D),t.length<=n.length+8 * ds.length/\c.length<=ws.length+ds.length/\ws.length<=c.length/\(ds≠[]->1<=c.length)/\c.Nodup/\(∀ w∈c,qdo w) /\
   kO (gNm 5) qa2 ds [ii (scr ns),ii (.lst n),ii m,ii (.int few),ii (.lst (ws.map D.str)),k,u]=.ok (.nx,[ii (scr ns),ii (.lst t),ii m,ii (.int few),ii (.lst (c.map D.str)),k',V])
 | [],n,ws,k,u,_,_,hn,hw=>⟨n,ws,k,u,by simp,by simp,by simp,by simp,hn,hw,rfl⟩
 | d::ds,n,ws,k,u,ht,hl,hn,hw=>by
  rw [ah] at ht hl;obtain ⟨w,j,W,q,hg⟩:=qfW ns n f h1 (by lia);have l:=big;have o:ws.length < sizeLine:=by lia
  by_cases h:w∈ws
  ·obtain ⟨t,c,k',V,v,g,e,s,p,a6,i⟩:=zf ns m f h1 ds j ws (ii d) (ii (.str w)) (by lia) (by lia) hn hw;refine ⟨t,c,k',V,by rw [ah]; lia,by rw [ah]; lia,e,λ_=>?_,p,a6,?_⟩
   ·have:0 < ws.length:=eZ h
    lia
   ·rw [<-i];simp [kO,qa2,hg,ub,XO,inD,xG,h]
  ·obtain ⟨t,c,k',V,v,g,e,s,p,a6,i⟩:=zf ns m f h1 ds j (ws++[w]) (ii d) (ii (.str w)) (by lia) (by rw [ae]; simp; lia) (bT.mpr ⟨hn,by simp,λa r b l=>by
    rw [aA.mp l];exact λz=>h (z ▸ r)⟩) (λx hx=>by
    rcases ao.mp hx with hx | hx;·exact hw x hx
    ·rw [aA.mp hx];exact W)
   rw [ae] at g e;simp at g e;refine ⟨t,c,k',V,by rw [ah]; lia,by rw [ah]; lia,by lia,λ_=>by lia,p,a6,?_⟩;rw [<-i];simp [kO,qa2,hg,ub,XO,inD,xG,h,uo,ga,o]
theorem qdp (ns:List Int) (t:List D) (ht:t.length < 700):∃ ws a,jp ws/\a.length<=t.length+50/\Kk [scr ns,.lst t,.int 6]=.ok (.tup (ws.map D.str),[.non,.lst a,.non]):=by
 obtain ⟨d,hd,hp⟩:=wR ns t [.int 2,.int 3,.int 4,.int 6,.int 26] (by simp) (by lia);obtain ⟨m,rfl,m0,m1⟩:∃ m:Int,d=.int m/\0 < m/\m<=26:=by
  simp at hd;rcases hd with rfl | rfl | rfl | rfl | rfl;·exact ⟨2,rfl,by lia,by lia⟩
  ·exact ⟨3,rfl,by lia,by lia⟩
  ·exact ⟨4,rfl,by lia,by lia⟩
  ·exact ⟨6,rfl,by lia,by lia⟩
  ·exact ⟨26,rfl,by lia,by lia⟩
 obtain ⟨r,r0,r1,hr⟩:=kI ns (t++[.int 0]) (many:=6) (by lia) (by rw [ae]; simp; lia);have n:(yQ 0 (1+r).toNat).length=(1+r).toNat:=by simp [yQ]
 obtain ⟨a,c,k',V,b,k,g,q,p,a6,i⟩:=zf ns (.int 6) m0 m1 (yQ 0 (1+r).toNat) (t++[.int 0]++[.int 0]) [] ij ij (by rw [n,ae,ae]; simp; lia) (by rw [n]; simp; lia) cm (by simp);have e:yQ 0 (1+r).toNat≠[]:=λz=>by
  rw [z] at n;simp at n
  lia
 refine ⟨c,a,⟨q e,?_,p,a6⟩,?_,?_⟩
 ·rw [n] at k;simp at k
  lia
 ·rw [n,ae,ae] at b;simp at b
  lia
 ·refine qw.trans ?_;have c1:-(2 ^ 62:Int)<=1+r/\1+r < 2 ^ 62:=by lia
  have f:=big;have h:5<=sizeLine:=by lia
  simp only [aU,dg,bW,bO] at i hr;simp [Xe,qv,hp,hr,jA,-Int.reducePow,c1,h,i,jU]
def QJ (p q:Int):Prop:=(-3<=p/\p<=2)/\-3<=q/\q<=2
theorem qfX (ns:List Int) (t:List D) (ht:t.length < 900):∃ p q a,QJ p q/\a.length=t.length+2/\UK [scr ns,.lst t]=.ok (.tup [.int p,.int q],[.non,.lst a]):=by
 obtain ⟨r,r0,r1,hr⟩:=kI ns t (many:=6) (by lia) (by lia);obtain ⟨u,b,i,f⟩:=kI ns (t++[.int 0]) (many:=6) (by lia) (by rw [ae]; simp; lia);have d:=big;have z:2<=sizeLine:=by lia
 refine ⟨r - 3,u - 3,t++[.int 0,.int 0],⟨⟨by lia,by lia⟩,by lia,by lia⟩,by simp,?_⟩;refine qw.trans ?_;simp only [aU,dg,bW] at f;simp [qaN,qv,hr,f,yz,z]
noncomputable def xH (n:Nat) (p:Int):Nat:=(max 0 (min (if 0<=p then p else (n:Int)+p) ((n:Int) - 1))).toNat
noncomputable def Wu (w:Str) (p:Int):Str:=⟨#[(w.cps.toList[xH w.length p]?).getD 0]⟩
variable {w:Str}
theorem zJ (h:qdo w) (p:Int):vG [.str w,.int p]=.ok (.str (Wu w p),[.non,.non]):=by
 have h1:=h.1;have hn:(w.cps.toList.length:Int)=w.length:=by simp [we]
 have key:∀ q:Int,q=(if 0<=p then p else (w.length:Int)+p)->atI w.cps.toList (if 0 < (if (w.length:Int) - 1 < q then (w.length:Int) - 1 else q) then (if (w.length:Int) - 1 < q then (w.length:Int) - 1 else q) else 0)=ii ((w.cps.toList[xH w.length p]?).getD 0):=by
  intro q hq;have e:(if 0 < (if (w.length:Int) - 1 < q then (w.length:Int) - 1 else q) then (if (w.length:Int) - 1 < q then (w.length:Int) - 1 else q) else 0)=(xH w.length p:Int):=by
   unfold xH;rw [<-hq];have:1<=(w.length:Int):=by omega
   generalize (w.length:Int)=n at *;split <;> split <;> omega
  have hl:xH w.length p < w.cps.toList.length:=by
   have Z:w.cps.toList.length=w.length:=by simp [we]
   rw [Z];unfold xH;omega
  rw [e,uP,aE hl];rfl
 refine qw.trans ?_;by_cases hp:0<=p;·have k:=key p (by rw [Aa hp]);simp [yJ,qv,geD,yz,hp,qiG,qiH,ixD,k,Wu]
 ·have k:=key (w.length+p) (by rw [Ab hp]);simp [yJ,qv,geD,yz,hp,qiG,qiH,ixD,k,Wu]
theorem qa3 (h:qdo w):(∃ a,w=⟨#[a]⟩)\/(∃ a b,w=⟨#[a,b]⟩)\/(∃ a b c,w=⟨#[a,b,c]⟩)\/(∃ a b c d,w=⟨#[a,b,c,d]⟩)\/(∃ a b c d e,w=⟨#[a,b,c,d,e]⟩)\/∃ a b c d e f,w=⟨#[a,b,c,d,e,f]⟩:=by
 obtain ⟨⟨l⟩⟩:=w;have h1:1<=l.length:=h.1;have h2:l.length<=6:=h.2.1
 match l,h1,h2 with
 | [a],_,_=>exact .inl ⟨a,rfl⟩
 | [a,b],_,_=>exact .inr (.inl ⟨a,b,rfl⟩)
 | [a,b,c],_,_=>exact .inr (.inr (.inl ⟨a,b,c,rfl⟩))
 | [a,b,c,d],_,_=>exact .inr (.inr (.inr (.inl ⟨a,b,c,d,rfl⟩)))
 | [a,b,c,d,e],_,_=>exact .inr (.inr (.inr (.inr (.inl ⟨a,b,c,d,e,rfl⟩))))
 | [a,b,c,d,e,f],_,_=>exact .inr (.inr (.inr (.inr (.inr ⟨a,b,c,d,e,f,rfl⟩))))
variable {own:List Nat}
theorem wv (ρc:Sl):∀ (cap:List Nat) (n:Nat) (ρ:Sl),(∀ k∈cap,k∉own)->kl own ρc n cap ρ=ρ
 | [],n,ρ,_=>rfl
 | k::cap,n,ρ,h=>by unfold kl;rw [Ab (h k (aq ..))];exact wv ρc cap (n+1) ρ λx hx=>h x (af _ hx)
theorem qhV {fe:jl} {ft:yA} {P:D->Bool} {F:D->D} {c:Sl}:∀ (ds:List D) (x:Option D),(∀ d∈ds,ft (ii d::c)=.ok (P d,ii d::c))->(∀ d∈ds,P d=ir->fe (ii d::c)=.ok (F d,ii d::c))->∃ n,jw (gNm 0) ft fe ds (x::c)=.ok ((ds.filter P).map F,n::c)
 | [],x,_,_=>⟨x,rfl⟩
 | d::ds,x,h,h'=>by
  obtain ⟨n,e⟩:=qhV ds (ii d) (λd' hd=>h d' (af _ hd)) λd' hd=>h' d' (af _ hd);refine ⟨n,?_⟩;have h1:=h d (aq ..);have h2:=h' d (aq ..);cases q:P d with
  | true=>simp [jw,xi,h1,q,h2 q,e]
  | false=>simp [jw,xi,h1,q,e]
variable {cap:List Nat} {ρ1:Sl}
theorem qed {fi:uj} {fe:jl} {ft:yA} (P:D->Bool) (F:D->D) (j:∀ k∈cap,k∉own) (h:fi ρ=.ok (ds,ρ1)) (hl:ds.length<=sizeLine)
  (ht:∀ d∈ds,ft (ii d::cap.map λk=>(ρ1[k]?).getD ij)=.ok (P d,ii d::cap.map λk=>(ρ1[k]?).getD ij)) (i:∀ d∈ds,P d=ir->fe (ii d::cap.map λk=>(ρ1[k]?).getD ij)=.ok (F d,ii d::cap.map λk=>(ρ1[k]?).getD ij)) :
  jo own 1 cap fi (gNm 0) ft fe ρ=.ok (.lst ((ds.filter P).map F),ρ1):=by
 obtain ⟨n,e⟩:=qhV ds ij ht i;unfold jo;rw [h];simp only [jR];rw [Aa hl,show kU 1 cap ρ1=ij::cap.map λk=>(ρ1[k]?).getD ij from rfl,e];simp only [jR,wv _ _ _ _ j]
theorem qa4 {fi:uj} {fe:jl} (F:D->D) (j:∀ k∈cap,k∉own) (h:fi ρ=.ok (ds,ρ1)) (hl:ds.length<=sizeLine) (ht:∀ d∈ds,fe (ii d::cap.map λk=>(ρ1[k]?).getD ij)=.ok (F d,ii d::cap.map λk=>(ρ1[k]?).getD ij)):jo own 1 cap fi (gNm 0) ftT fe ρ=.ok (.lst (ds.map F),ρ1):=by have e:=qed (ft:=ftT) (λ_=>ir) F j h hl (λ_ _=>rfl) λd hd _=>ht d hd;rw [List.filter_eq_self.mpr λ_ _=>rfl] at e;exact e
theorem vS {fi:uj} {fe:jl} (F:D->D) (h:fi ρ=.ok (ds,ρ1)) (hl:ds.length<=sizeLine) (ht:∀ d∈ds,fe (ii d::cap.map λk=>(ρ1[k]?).getD ij)=.ok (F d,ii d::cap.map λk=>(ρ1[k]?).getD ij)):jo [] 1 cap fi (gNm 0) ftT fe ρ=.ok (.lst (ds.map F),ρ1):=qa4 F (λ_ _=>by simp) h hl ht
noncomputable def qo (ws:List Str) (p q:Int):List (Str×Str):=ws.map λw=>(Wu w p,Wu w q)
noncomputable def jb (l:List (Str×Str)):List D:=l.map λx=>.tup [.str x.1,.str x.2]
theorem qY (h:n<=2000):n<=sizeLine:=bN h big
abbrev Wd (ws:List Str):D:=.tup (ws.map D.str)
abbrev Ld (p q:Int):D:=.tup [.int p,.int q]
variable {ws:List Str} {p q:Int}
theorem ZB {G:ko} (h:jp ws) (a:∀ w∈ws,G [.str w,.int p]=.ok (.str (Wu w p),[.non,.non])/\G [.str w,.int q]=.ok (.str (Wu w q),[.non,.non])):jo [] 1 [1] (jN (qc 0)) (gNm 0) ftT (jT (qb (qm [.vl,.vl] G (qb (qc 0) (qb (d2 ixD (qc 1) (dC (.int 0))) qr))) (qb (qm [.vl,.vl] G (qb (qc 0) (qb (d2 ixD (qc 1) (dC (.int 1))) qr))) qr))) [ii (Wd ws),ii (Ld p q)]
   = .ok (.lst (jb (qo ws p q)),[ii (Wd ws),ii (Ld p q)]):=by
 have e:=vS (cap:=[1]) (fi:=jN (qc 0)) (ρ:=[ii (Wd ws),ii (Ld p q)]) (ρ1:=[ii (Wd ws),ii (Ld p q)]) (ds:=ws.map D.str)
  (fe:=(jT (qb (qm [.vl,.vl] G (qb (qc 0) (qb (d2 ixD (qc 1) (dC (.int 0))) qr))) (qb (qm [.vl,.vl] G (qb (qc 0) (qb (d2 ixD (qc 1) (dC (.int 1))) qr))) qr))))
  (λd=>match d with | .str w=>.tup [.str (Wu w p),.str (Wu w q)] | d=>d) (by simp [jK]) (by rw [aB]; exact qY (by have:=h.2.1; lia)) (λd hd=>by obtain ⟨w,c,rfl⟩:=aw.mp hd;obtain ⟨h1,h2⟩:=a w c;have z:2<=sizeLine:=qY (by lia);simp [ixD,atI,ixN,h1,h2,z])
 rw [e];simp [jb,qo]
def Pl:D->Prop
 | .raw _=>False
 | .xcp _=>False
 | .ins _ _=>False
 | .dct _=>False
 | .at_ _ _=>False
 | _=>True
@[simp] theorem kk1:km "NoneType" "int"=ii false:=by decide +kernel
@[simp] theorem kk2:km "bool" "int"=ii true:=by decide +kernel
@[simp] theorem kk3:km "int" "int"=ii true:=by decide +kernel
@[simp] theorem kk4:km "str" "int"=ii false:=by decide +kernel
@[simp] theorem kk5:km "tuple" "int"=ii false:=by decide +kernel
@[simp] theorem kk6:km "list" "int"=ii false:=by decide +kernel
@[simp] theorem kb1:km "NoneType" "bool"=ii false:=by decide +kernel
@[simp] theorem kb2:km "bool" "bool"=ii true:=by decide +kernel
@[simp] theorem kb3:km "int" "bool"=ii false:=by decide +kernel
@[simp] theorem kb4:km "str" "bool"=ii false:=by decide +kernel
@[simp] theorem kb5:km "tuple" "bool"=ii false:=by decide +kernel
@[simp] theorem kb6:km "list" "bool"=ii false:=by decide +kernel
@[simp] theorem ks1:km "NoneType" "str"=ii false:=by decide +kernel
@[simp] theorem ks2:km "bool" "str"=ii false:=by decide +kernel
@[simp] theorem ks3:km "int" "str"=ii false:=by decide +kernel
@[simp] theorem ks4:km "str" "str"=ii true:=by decide +kernel
@[simp] theorem ks5:km "tuple" "str"=ii false:=by decide +kernel
@[simp] theorem ks6:km "list" "str"=ii false:=by decide +kernel
@[simp] theorem kt1:km "NoneType" "tuple"=ii false:=by decide +kernel
@[simp] theorem kt2:km "bool" "tuple"=ii false:=by decide +kernel
@[simp] theorem kt3:km "int" "tuple"=ii false:=by decide +kernel
@[simp] theorem kt4:km "str" "tuple"=ii false:=by decide +kernel
@[simp] theorem kt5:km "tuple" "tuple"=ii true:=by decide +kernel
@[simp] theorem kt6:km "list" "tuple"=ii false:=by decide +kernel
noncomputable def yM:D->Bool
 | .tup _=>ir
 | _=>iq
theorem Ql (h:Pl d):uq "tuple" d=.ok (.bl (yM d)):=by cases d <;> first | exact h.elim | simp [uq,tyN,yM]
noncomputable def Wv:D->Bool
 | .str x=>decide (x.length=1)&&(!vf x "a"&&!vf "z" x)
 | _=>iq
noncomputable def uR (lo hi:Int):D->Bool
 | .int i=>decide (lo<=i)&&decide (i<=hi)
 | _=>iq
theorem vU (h:Pl d):kr [d]=.ok (.bl (Wv d),[.non]):=by
 refine qw.trans ?_;cases d <;> first
  | exact h.elim
  | (simp [wC,qv,uq,tyN,Wv]; done)
  | skip
 rename_i x;by_cases h1:x.length=1
 ·have c:(x.length:Int)=1:=by lia
  cases h2:vf x "a" <;> simp [wC,qv,uq,tyN,eqD,eqN,eqS,Wv,h1,c,h2]
 ·have c:¬(x.length:Int)=1:=by lia
  simp [wC,qv,uq,tyN,eqD,eqN,eqS,Wv,h1,c]
theorem ke (h:Pl d) (lo hi:Int):ja [d,.int lo,.int hi]=.ok (.bl (uR lo hi d),[.non,.non,.non]):=by
 refine qw.trans ?_;cases d <;> first
  | exact h.elim
  | (simp [ux,qv,uq,tyN,uR]; done)
  | skip
 rename_i i;by_cases h1:lo<=i <;> simp [ux,qv,uq,tyN,uR,h1]
theorem Xk {c:Nat} (h:az c):Wv (.str ⟨#[c]⟩)=true:=by
 have g:(bg "a").cps.toList=[97]:=by decide +kernel
 have z:(bg "z").cps.toList=[122]:=by decide +kernel
 obtain ⟨h1,h2⟩:=h;have i:¬([c]:List Nat) < [97]:=by rw [List.cons_lt_cons_iff];simp;omega
 have l:¬([122]:List Nat) < [c]:=by rw [List.cons_lt_cons_iff];simp;omega
 have e1:vf ⟨#[c]⟩ (bg "a")=false:=by unfold vf;rw [g];exact Ac i
 have e2:vf (bg "z") ⟨#[c]⟩=false:=by unfold vf;rw [z];exact Ac l
 simp [Wv,we,e1,e2]
theorem Jk (f:α->Bool):∀ l:List α,zo (l.map λx=>.bl (f x))=ii (l.map f)
 | []=>rfl
 | a::l=>by have i:=Jk f l;simp [zo,i]
theorem wS (f:α->Bool) (l:List α):Ui (.lst (l.map λx=>.bl (f x)))=.ok (.bl (l.all f)):=by simp only [Ui,Jk];simp [List.all_map,Function.comp_def]
theorem qa5 (h:qdo w) (p:Int):∃ c,az c/\Wu w p=⟨#[c]⟩:=by
 have hn:w.cps.toList.length=w.length:=by simp [we]
 have hl:xH w.length p < w.cps.toList.length:=by have:=h.1;rw [hn];unfold xH;omega
 refine ⟨w.cps.toList[xH w.length p],h.2.2 _ (ce hl),?_⟩;unfold Wu;rw [aE hl];rfl
theorem ZC (h:qdo w):xx [.str w]=.ok (.bl ir,[.non]):=by
 refine qw.trans ?_;have e:=vS (cap:=[]) (fi:=jN (qc 0)) (ρ:=[ii (.str w)]) (ρ1:=[ii (.str w)]) (ds:=Vy w) (fe:=qm [.vl] kr (qb (qc 0) qr)) (λd=>.bl (Wv d)) (by simp [jK]) (by
   have:=h.2.1;simp [Vy,<-we];exact qY (by lia)) (λd hd=>by
   obtain ⟨c,a,rfl⟩:=aw.mp hd;have h1:=vU (d:=.str ⟨#[c]⟩) trivial;simp [h1])
 have g:(Vy w).all Wv=true:=by rw [aL];intro d hd;obtain ⟨c,a,rfl⟩:=aw.mp hd;exact Xk (h.2.2 c a)
 have h1:(1:Int)<=w.length:=by have:=h.1; lia
 have h6:(w.length:Int)<=6:=by have:=h.2.1; lia
 simp only [VW,qv,aH,bO,ah,aQ,Nat.reduceAdd,e6,cC,be];simp [uq,tyN,h1,h6,e,wS,g]
theorem yN:∀ (ws ks:List Str),ws.Nodup->(∀ x∈ws,x∉ks)->ws.foldl xm ks=ks++ws
 | [],ks,_,_=>by simp
 | w::ws,ks,hn,hd=>by
  have h1:=aR.mp hn;rw [cy,show xm ks w=ks++[w] from Ab (hd w (aq ..)),yN ws (ks++[w]) h1.2 ?_];·simp
  ·intro x hx z;rcases ao.mp z with z | z;·exact hd x (af _ hx) z
   ·rw [aA.mp z] at hx;exact h1.1 hx
theorem uS (ws:List Str):∀ ks:List Str,ks.Nodup->(ws.foldl xm ks).Nodup/\∀ x,x∈ws.foldl xm ks↔x∈ks\/x∈ws:=by
 induction ws with
 | nil=>intro ks hn; exact ⟨hn,λx=>by simp⟩
 | cons w ws i=>
  intro ks hn;have r:(xm ks w).Nodup:=by
   unfold xm;split;·exact hn
   ·rename_i h;exact bT.mpr ⟨hn,by simp,λa g b d=>by rw [aA.mp d];exact λz=>h (z ▸ g)⟩
  obtain ⟨a,b⟩:=i (xm ks w) r;refine ⟨a,λx=>?_⟩;rw [cy,b x];unfold xm;split
  ·rename_i h;constructor
   ·rintro (q | q);·exact .inl q
    ·exact .inr (af _ q)
   ·rintro (q | q);·exact .inl q
    ·rcases ac.mp q with rfl | q;·exact .inl h
     ·exact .inr q
  ·simp [ao,or_assoc]
theorem US (h:jp ws):xX [.tup (ws.map D.str)]=.ok (.bl ir,[.non]):=by
 refine qw.trans ?_;have e:=vS (cap:=[]) (fi:=jN (qc 0)) (ρ:=[ii (.tup (ws.map D.str))]) (ρ1:=[ii (.tup (ws.map D.str))]) (ds:=ws.map D.str) (fe:=qm [.vl] xx (qb (qc 0) qr)) (λd=>.bl ir) (by simp [jK]) (by
   rw [aB];exact qY (by have:=h.2.1; lia)) (λd hd=>by
   obtain ⟨w,c,rfl⟩:=aw.mp hd;have h1:=ZC (h.2.2.2 w c);simp [h1])
 have h1:(1:Int)<=ws.length:=by have:=h.1; lia
 have h6:(ws.length:Int)<=6:=by have:=h.2.1; lia
 have f:ws.foldl xm []=ws:=by rw [yN ws [] h.2.2.1 (by simp)]; simp
 have a:ws.length < 4000:=by lia
 have g:=wS (λ_:D=>ir) (ws.map D.str);simp only [Ja,qv,aH,bO,ah,aQ,Nat.reduceAdd,e6,cC,be];simp [-bH,uq,tyN,h1,h6,e,g,gM,yt,uQ,f,a,eqD,eqN,eqS]
theorem QF (w:jp ws):wF [.tup (ws.map D.str)]=.ok (.non,[.non]):=by refine qw.trans ?_;have h:=US w;simp [xy,qv,h]
theorem ZD (hl:QJ p q):gU [.tup [.int p,.int q]]=.ok (.bl ir,[.non]):=by
 refine qw.trans ?_;have e:=vS (cap:=[]) (fi:=jN (qc 0)) (ρ:=[ii (.tup [.int p,.int q])]) (ρ1:=[ii (.tup [.int p,.int q])]) (ds:=[.int p,.int q]) (fe:=qm [.vl,.vl,.vl] ja (qb (qc 0) (qb (dC (.int (-3))) (qb (dC (.int 2)) qr)))) (λd=>.bl (uR (-3) 2 d)) (by simp [jK]) (qY (by simp)) (λd hd=>by
   have hd:d=.int p\/d=.int q:=by simpa using hd
   have h1:=ke (d:=.int p) trivial (-3) 2;have h2:=ke (d:=.int q) trivial (-3) 2;rcases hd with rfl | rfl;·simp [h1]
   ·simp [h2])
 have b1:uR (-3) 2 (.int p)=true:=by simp [uR]; exact hl.1
 have b2:uR (-3) 2 (.int q)=true:=by simp [uR]; exact hl.2
 simp only [VX,qv,aH,bO,ah,aQ,Nat.reduceAdd,e6,cC,be];simp [uq,tyN,neD,eqN,eqS,e,Ui,zo,b1,b2]
theorem Kv (hl:QJ p q):uD [.tup [.int p,.int q]]=.ok (.non,[.non]):=by refine qw.trans ?_;have h:=ZD hl;simp [zy,qv,h]
theorem Kw (h:jp ws) (hl:QJ p q):xY [Wd ws,Ld p q]=.ok (.lst (jb (qo ws p q)),[.non,.non]):=by
 refine qw.trans ?_;have e:=ZB (G:=vG) h (p:=p) (q:=q) λw c=>⟨zJ (h.2.2.2 w c) p,zJ (h.2.2.2 w c) q⟩
 have c1:=QF h;have c2:=Kv hl;simp only [qaA,qv,aH,bO,ah,aQ,Nat.reduceAdd,e6,cC,be];simp [c1,c2,e]
theorem Ww {a b:List Str} (g:a.Nodup) (d:b.Nodup) (h:∀ x,x∈a↔x∈b):a.Perm b:=(List.perm_ext_iff_of_nodup g d).mpr h
theorem qa6 {a b:List Str} (h:∀ x,x∈a↔x∈b):kg (a.foldl xm [])=kg (b.foldl xm []):=by
 obtain ⟨n1,m1⟩:=uS a [] cm;obtain ⟨n2,A⟩:=uS b [] cm;have p:=Ww n1 n2 λx=>by rw [m1,A,h]
 exact uu ((qI _).trans (p.trans (qI _).symm)) (qT _) (qT _)
noncomputable def LS (l:List (Str×Str)):List Str:=kg ((l.map (·.1)++l.map (·.2)).foldl xm [])
theorem vV {l:List (Str×Str)}:x∈LS l↔∃ p∈l,x=p.1\/x=p.2:=by
 unfold LS;rw [(qI _).mem_iff,(uS _ [] cm).2];simp only [aM,false_or,ao,aw];constructor
 ·rintro (⟨p,hp,rfl⟩ | ⟨p,hp,rfl⟩);·exact ⟨p,hp,.inl rfl⟩
  ·exact ⟨p,hp,.inr rfl⟩
 ·rintro ⟨p,hp,rfl | rfl⟩;·exact .inl ⟨p,hp,rfl⟩
  ·exact .inr ⟨p,hp,rfl⟩
theorem xI {l:List (Str×Str)} (hl:l.length<=20):jW [.lst (jb l)]=.ok (.lst ((LS l).map D.str),[.non]):=by
 refine qw.trans ?_;have z:(jb l).length<=sizeLine:=by unfold jb;rw [aB];exact qY (by lia)
 have e1:=vS (cap:=[]) (fi:=jN (qc 0)) (ρ:=[ii (.lst (jb l))]) (ρ1:=[ii (.lst (jb l))]) (ds:=jb l) (fe:=d2 ixD (qc 0) (dC (.int 0))) (λd=>match d with | .tup [a,b]=>a | d=>d) (by simp [jK]) z (λd hd=>by obtain ⟨x,hx,rfl⟩:=aw.mp hd;simp [ixD,atI,ixN]);have e2:=vS (cap:=[]) (fi:=jN (qc 0)) (ρ:=[ii (.lst (jb l))]) (ρ1:=[ii (.lst (jb l))]) (ds:=jb l) (fe:=d2 ixD (qc 0) (dC (.int 1))) (λd=>match d with | .tup [a,b]=>b | d=>d) (by simp [jK]) z (λd hd=>by obtain ⟨x,hx,rfl⟩:=aw.mp hd;simp [ixD,atI,ixN]);have f1:(jb l).map (λd=>match d with | .tup [a,b]=>a | d=>d)=(l.map (·.1)).map D.str:=by simp [jb]
 have f2:(jb l).map (λd=>match d with | .tup [a,b]=>b | d=>d)=(l.map (·.2)).map D.str:=by simp [jb]
 rw [f1] at e1;rw [f2] at e2;have c:l.length+l.length<=sizeLine:=qY (by lia);have j:l.length+l.length < 64:=by lia
 simp only [zE,qv,aH,bO,ah,aQ,Nat.reduceAdd,e6,cC,be,JH,qag,qfy,e1,e2,jR];simp only [qk1,aB,Aa c,qjy,jR,<-fA,vN,yt,uQ,ae,Aa j];simp [LS]
theorem at0 {a:D} {l:List D}:atI (a::l) 0=ii a:=by have:=uP (a::l) 0;simpa using this
theorem at1 {a b:D} {l:List D}:atI (a::b::l) 1=ii b:=by have:=uP (a::b::l) 1;simpa using this
abbrev nn4:Sl:=[ii .non,ii .non,ii .non,ii .non]
theorem wT (h:Pl d):vP [d]=if uR 1 99 d=ir then .ok (.non,[.non]) else .exc "NoRoom" [ii .non]:=by refine qw.trans ?_;have h1:=ke h 1 99;have z:1<=sizeLine:=qY (by lia);cases e:uR 1 99 d <;> simp [zw,qv,h1,e,vc]
theorem qx {f g:qN} (h:f ρ=.ok (.nx,ρ1)):KM ms (qD f g ρ)=KM ms (g ρ1):=by rw [yG,h];rfl
theorem Wx (w:jp ws) (p q:Int):(LS (qo ws p q)).length<=12:=by
 have c:(qo ws p q).length<=6:=by simp [qo]; exact w.2.1
 unfold LS;rw [(qI _).length_eq];have:=gF ((qo ws p q).map (·.1)++(qo ws p q).map (·.2)) [];simp only [ae,aB,aQ] at this
 lia
theorem qhW (h:jp ws) (p q:Int):LS (qo ws p q)≠[]:=by
 intro z;cases ws with
 | nil=>have:=h.1;simp at this
 | cons w ws=>have:Wu w p∈LS (qo (w::ws) p q):=vV.mpr ⟨(Wu w p,Wu w q),by simp [qo],.inl rfl⟩;rw [z] at this;cases this
theorem ZE (a:jp ws) (p q:Int):∀ x∈LS (qo ws p q),∃ c,az c/\x=⟨#[c]⟩:=λx hx=>by
 obtain ⟨y,C,h⟩:=vV.mp hx;obtain ⟨w,m,rfl⟩:=aw.mp C;rcases h with rfl | rfl;·exact qa5 (a.2.2.2 w m) p
 ·exact qa5 (a.2.2.2 w m) q
theorem Xl:∀ l:List (Str×Str),(l.flatMap λp=>[p.1,p.2]).length=2 * l.length
 | []=>rfl
 | a::l=>by
  rw [List.flatMap_cons,ae,Xl l,ah];simp
  lia
noncomputable def prL (l:List (Str×Int)):List D:=l.map λx=>.tup [.str x.1,.int x.2]
noncomputable def qt (l:List (Str×Int)):List Str:=l.map (·.1)
noncomputable def bk (l:List (Str×Int)):List (Key×D):=l.map λx=>(.inr x.1,.int x.2)
theorem Qm:∀ l:List (Str×Int),ur (prL l)=ii (bk l)
 | []=>rfl
 | x::l=>by have i:=Qm l;unfold prL at i ⊢;rw [aH];simp [ur,qcL,xQ,i,bk]
theorem UT:∀ (l:List (Str×Int)) (a:List (Key×D)),(qt l).Nodup->(∀ x∈l,∀ p∈a,p.1≠.inr x.1)->(bk l).foldl (λa p=>zR a p.1 p.2) a=a++bk l
 | [],a,_,_=>by simp [bk]
 | x::l,a,hn,hd=>by
  have h1:=aR.mp (show (x.1::qt l).Nodup from hn);have hp:zR a (.inr x.1) (.int x.2)=a++[(.inr x.1,.int x.2)]:=by unfold zR;rw [Ab];simp only [List.any_eq_true,decide_eq_true_eq,not_exists,not_and];exact λp hp=>hd x (aq ..) p hp
  have i:=UT l (a++[(.inr x.1,.int x.2)]) h1.2 (λy C p hp=>by
   rcases ao.mp hp with hp | hp;·exact hd y (af _ C) p hp
   ·rw [aA.mp hp];intro z;have z:x.1=y.1:=bn.inj z;exact h1.1 (z ▸ aw.mpr ⟨y,C,rfl⟩))
  show ((bk l).foldl (λa p=>zR a p.1 p.2) (zR a (.inr x.1) (.int x.2)))=a++(.inr x.1,.int x.2)::bk l;rw [hp,i];simp
variable {l:List (Str×Int)}
theorem qa7 (h:(qt l).Nodup):Uj (.tup (prL l))=.ok (.dct (bk l)):=by have e:=UT l [] h (λ_ _ p hp=>by cases hp);simp at e;simp [Uj,Qm,e]
noncomputable def je (l:List (Str×Int)) (x:Str):Int:=((l.find? λy=>decide (y.1=x)).map (·.2)).getD 0
theorem UU:∀ {l:List (Str×Int)} {x:Str},x∈qt l->(x,je l x)∈l/\(bk l).find? (λkv=>decide (kv.1=bn x))=ii (.inr x,.int (je l x))
 | [],x,h=>by cases h
 | a::l,x,h=>by
  by_cases e:a.1=x
  ·have c:je (a::l) x=a.2:=by simp [je,e]
   rw [c];refine ⟨?_,?_⟩;·rw [<-e];exact aq ..
   ·simp [bk,e]
  ·have hx:x∈qt l:=by
    rcases ac.mp (show x∈a.1::qt l from h) with z | z;·exact absurd z.symm e
    ·exact z
   obtain ⟨h1,h2⟩:=UU hx;have c:je (a::l) x=je l x:=by simp [je,e]
   rw [c];refine ⟨af _ h1,?_⟩;rw [<-h2];simp [bk,e]
theorem QG (h:x∈qt l):ixD (.dct (bk l)) (.str x)=.ok (.int (je l x)):=by simp [ixD,(UU h).2]
noncomputable def qiW (l:List (Str×Int)) (s:List (Str×Str)) (r:Int):List D:=s.map λx=>.int ((je l x.1+je l x.2) % r)
theorem xJ (h:qdo w) (g:-3<=p) (h1:p<=2):wq [.str w,.int p]=.ok (.str (Wu w p),[.non,.non]):=by
 have hp:p=-3\/p=-2\/p=-1\/p=0\/p=1\/p=2:=by lia
 rcases qa3 h with ⟨a,rfl⟩ | ⟨a,b,rfl⟩ | ⟨a,b,c,rfl⟩ | ⟨a,b,c,d,rfl⟩ | ⟨a,b,c,d,e,rfl⟩ | ⟨a,b,c,d,e,f,rfl⟩ <;> rcases hp with rfl | rfl | rfl | rfl | rfl | rfl <;> kernel_rfl
theorem kY (h:jp ws) (hl:QJ p q):kb [.tup (ws.map D.str),.tup [.int p,.int q]]=.ok (.lst (jb (qo ws p q)),[.non,.non]):=by
 refine qw.trans ?_;have e:=vS (cap:=[1]) (fi:=jN (qc 0)) (ρ:=[ii (.tup (ws.map D.str)),ii (.tup [.int p,.int q])]) (ρ1:=[ii (.tup (ws.map D.str)),ii (.tup [.int p,.int q])]) (ds:=ws.map D.str)
  (fe:=(jT (qb (qm [.vl,.vl] wq (qb (qc 0) (qb (d2 ixD (qc 1) (dC (.int 0))) qr))) (qb (qm [.vl,.vl] wq (qb (qc 0) (qb (d2 ixD (qc 1) (dC (.int 1))) qr))) qr))))
  (λd=>match d with | .str w=>.tup [.str (Wu w p),.str (Wu w q)] | d=>d) (by simp [jK]) (by rw [aB]; exact qY (by have:=h.2.1; lia)) (λd hd=>by obtain ⟨w,c,rfl⟩:=aw.mp hd;have h1:=xJ (h.2.2.2 w c) hl.1.1 hl.1.2;have h2:=xJ (h.2.2.2 w c) hl.2.1 hl.2.2;have z:2<=sizeLine:=qY (by lia);simp [ixD,atI,ixN,h1,h2,z])
 simp only [Xg,qv,aH,bO,JH,ah,aQ,Nat.reduceAdd,e6,cC,be];rw [e];simp [jb,qo]
abbrev Pr:=Str×Str
abbrev Wk:=List Nat
noncomputable def inL (l:Wk):List D:=l.map λ(k:Nat)=>.int (k:Nat)
abbrev lD (l:Wk):D:=.lst (inL l)
abbrev nD (ns:List Int):D:=.tup (ns.map D.int)
abbrev pD (p:Pr):D:=.tup [.str p.1,.str p.2]
noncomputable def nI (ns:List Int) (k:Nat):Int:=(ns[k]?).getD 0
variable {ns:List Int}
theorem qa8 {k:Nat} (h:k < ns.length):ixD (nD ns) (.int (k:Nat))=.ok (.int (nI ns k)):=by unfold ixD nI;simp only [];rw [uP,aG,aE h];rfl
noncomputable def jX (ns:List Int) (t:Int) (l:Wk):Int:=l.foldl (λa k=>nI ns k - a) t
def qgr (nd:D) (ns:List Int):Prop:=∀ k:Nat,k < ns.length->ixD nd (.int (k:Nat))=.ok (.int (nI ns k))
theorem Xm (ns:List Int):qgr (nD ns) ns:=λ_ h=>qa8 h
theorem Jl {nd:D} {ns:List Int} (d:qgr nd ns) {a s:Option D}:∀ (l:Wk) (t:Int) (x:Option D),(∀ k∈l,k < ns.length)->∃ n,kO (gNm 4) (qU 3 (d2 zM (d2 ixD (qc 1) (qc 4)) (qc 3))) (inL l) [a,ii nd,s,ii (.int t),x]=.ok (.nx,[a,ii nd,s,ii (.int (jX ns t l)),n])
 | [],t,x,_=>⟨x,rfl⟩
 | k::l,t,x,h=>by have b:=d k (h k (aq ..));obtain ⟨n,e⟩:=Jl d (a:=a) (s:=s) l (nI ns k - t) (ii (.int (k:Nat))) λj c=>h j (af _ c);refine ⟨n,?_⟩;have e0:jX ns t (k::l)=jX ns (nI ns k - t) l:=rfl;rw [e0,<-e];simp [inL,kO,b,yz]
variable {nd:D}
theorem yO (d:qgr nd ns) {l:Wk} (h:∀ k∈l,k < ns.length) (t:Int):vo [lD l,nd,.int t]=.ok (.int (jX ns t l),[.non,.non,.non]):=by obtain ⟨n,e⟩:=Jl d (a:=ii (lD l)) (s:=ii (.int t)) l t ij h;refine qw.trans ?_;unfold Jd;rw [show qv Jc [lD l,nd,.int t]=[ii (lD l),ii nd,ii (.int t),ij,ij] from rfl];refine (qx (ρ1:=[ii (lD l),ii nd,ii (.int t),ii (.int t),ij]) (by simp)).trans ?_;refine (qx (ρ1:=[ii (lD l),ii nd,ii (.int t),ii (.int (jX ns t l)),n]) (by rw [jI]; exact e)).trans ?_;simp
noncomputable def odd (l:Wk):Bool:=decide (l.length % 2=1)
theorem Qn (l:Wk):wH [lD l]=.ok (.bl (odd l),[.non]):=by
 refine qw.trans ?_;have h:((inL l).length:Int) % 2=((l.length % 2:Nat):Int):=by simp [inL]
 by_cases q:l.length % 2=1;·simp [JW,qv,vL,yz,eqD,eqN,eqS,h,odd,q]
 ·have g:¬((l.length % 2:Nat):Int)=1:=by omega
  simp [JW,qv,vL,yz,eqD,eqN,eqS,h,odd,q,g];omega
noncomputable def Xn (l:Wk) (r:Int) (ns:List Int):Bool:=if odd l=ir then decide (r % 2=0)&&decide (jX ns 0 l % 2=1) else !decide (jX ns 0 l % r=0)
variable {r:Int}
theorem qa9 (d:qgr nd ns) {l:Wk} (h:∀ k∈l,k < ns.length) (hr:1<=r):Wb [lD l,.int r,nd]=.ok (.bl (Xn l r ns),[.non,.non,.non]):=by
 have h1:=yO d h 0;have h2:=Qn l;have a:0 < r:=by omega
 refine qw.trans ?_;unfold Xn;generalize jX ns 0 l=t at h1;cases q:odd l with
 | true=>rw [q] at h2;by_cases e1:r % 2=0 <;> simp [qaD,qv,h1,h2,vL,yz,eqD,eqN,eqS,e1] <;> rfl
 | false=>rw [q] at h2;simp [qaD,qv,h1,h2,vL,yz,neD,eqN,eqS,a];rfl
abbrev Wy:=List (Str×Str×Wk)
noncomputable def wD (W:Wy):List (Key×D):=W.map λe=>(.inr e.1,.tup [.str e.2.1,lD e.2.2])
noncomputable def kW (W:Wy):List Str:=W.map (·.1)
theorem qee (W:Wy) (x:Str):XZ (wD W) (.inr x)=decide (x∈kW W):=by
 unfold XZ wD kW
 induction W with
 | nil=>rfl
 | cons e W i=>
  rw [aH,cG,i];by_cases h:e.1=x;·subst h; simp
  ·have h2:¬(bn e.1:Key)=bn x:=λz=>h (bn.inj z);have g:¬x=e.1:=λz=>h z.symm;simp [h2,g]
variable {W:Wy}
theorem qef {r:Str} {l:Wk} (h:x∉kW W):zR (wD W) (.inr x) (.tup [.str r,lD l])=wD (W++[(x,r,l)]):=by
 unfold zR;have h1:((wD W).any λp=>decide (p.1=(bn x:Key)))=false:=by have:=qee W x;unfold XZ at this;rw [this];exact Ac h
 rw [h1,Ab bC];unfold wD;rw [fA];rfl
theorem qfY:∀ {W:Wy} {e:Str×Str×Wk},(kW W).Nodup->e∈W->ixD (.dct (wD W)) (.str e.1)=.ok (.tup [.str e.2.1,lD e.2.2])
 | [],e,_,h=>by cases h
 | a::W,e,hn,h=>by
  have r:=aR.mp (show (a.1::kW W).Nodup from hn);rcases ac.mp h with rfl | h;·simp [ixD,wD]
  ·have b:a.1≠e.1:=λz=>r.1 (by rw [z]; exact aw.mpr ⟨e,h,rfl⟩);have i:=qfY r.2 h;unfold ixD at i ⊢;simp only [wD,aH] at i ⊢;have h2:¬(bn a.1:Key)=bn e.1:=λz=>b (bn.inj z);rw [bR (by simpa using h2)];exact i
inductive Path (seen:List Pr) (r:Str):Wk->Str->Prop
 | nil:Path seen r [] r
 | snoc {l:Wk} {x y:Str} {k:Nat} {p:Pr}:Path seen r l x->seen[k]?=ii p->(p=(x,y)\/p=(y,x))->Path seen r (l++[k]) y
variable {seen:List Pr}
theorem Path.lt {r:Str} {l:Wk} (h:Path seen r l x):∀ k∈l,k < seen.length:=by
 induction h with
 | nil=>simp
 | snoc _ e _ i=>
  intro k a;rcases ao.mp a with a | a;·exact i k a
  ·rw [aA.mp a];exact (aF.mp e).1
structure WI (seen:List Pr) (W:Wy):Prop where
 nd:(kW W).Nodup
 sub:∀ x∈kW W,x∈LS seen
 path:∀ e∈W,Path seen e.2.1 e.2.2 e.1
 len:∀ e∈W,e.2.2.length < W.length
 nr:∀ e∈W,e.2.2.Nodup/\∀ k∈e.2.2,∀ p,seen[k]?=ii p->p.1∈kW W/\p.2∈kW W
theorem kQ (W V:Wy):kW (W++V)=kW W++kW V:=by simp [kW]
theorem WI.add (h:WI seen W) {r:Str} {l:Wk} (hx:x∉kW W) (m:x∈LS seen) (hp:Path seen r l x) (hl:l.length<=W.length) (c:l.Nodup/\∀ k∈l,∀ p,seen[k]?=ii p->(p.1∈kW W\/p.1=x)/\(p.2∈kW W\/p.2=x)):WI seen (W++[(x,r,l)]) where
 nr:=λe i=>by
  have up:∀ y,y∈kW W\/y=x->y∈kW (W++[(x,r,l)]):=λy C=>by
   rw [kQ];rcases C with C | C;·exact bI _ C
   ·rw [C]; exact aV _ (by simp [kW])
  rcases ao.mp i with i | i;·obtain ⟨a,b⟩:=h.nr e i;exact ⟨a,λk d p hp=>⟨up _ (.inl (b k d p hp).1),up _ (.inl (b k d p hp).2)⟩⟩
  ·rw [aA.mp i];exact ⟨c.1,λk d p hp=>⟨up _ (c.2 k d p hp).1,up _ (c.2 k d p hp).2⟩⟩
 nd:=by rw [kQ];refine bT.mpr ⟨h.nd,by simp [kW],λa g b f=>?_⟩;rw [show kW [(x,r,l)]=[x] from rfl] at f;rw [aA.mp f];exact λz=>hx (z ▸ g)
 sub:=λy C=>by
  rw [kQ] at C;rcases ao.mp C with C | C;·exact h.sub y C
  ·rw [show y=x from aA.mp C]; exact m
 path:=λe i=>by
  rcases ao.mp i with i | i;·exact h.path e i
  ·rw [aA.mp i]; exact hp
 len:=λe i=>by
  rw [ae];rcases ao.mp i with i | i;·have:=h.len e i; simp; omega
  ·rw [aA.mp i]; simp; omega
theorem qba:∀ {a b:List Str},a.Nodup->(∀ x∈a,x∈b)->a.length<=b.length
 | [],b,_,_=>bh _
 | x::a,b,hn,h=>by have r:=aR.mp hn;have hx:=h x (aq ..);have i:=qba (b:=b.erase x) r.2 λy C=>(List.mem_erase_of_ne (λz=>r.1 (by rw [<-z]; exact C))).mpr (h y (af _ C));rw [List.length_erase_of_mem hx] at i;have:=eZ hx;rw [ah];omega
theorem WI.le (h:WI seen W):W.length<=(LS seen).length:=by have:=qba h.nd h.sub;simpa [kW] using this
noncomputable def oth (p:Pr) (x:Str):Str:=if x=p.1 then p.2 else p.1
theorem Xo (p:Pr) (x:Str):jM [pD p,.str x]=.ok (.str (oth p x),[.non,.non]):=by refine qw.trans ?_;unfold oth;by_cases h:x=p.1 <;> simp [yv,qv,ixD,at0,at1,eqD,eqN,eqS,h]
theorem UV (p:Pr) (x:Str):inA (.str x) (pD p)=.ok (.bl (decide (x=p.1\/x=p.2))):=by have h:=xG x [p.1,p.2];simp only [aH,bO] at h;show (inD (.str x) (pD p)).bind (λb=>Out.ok (D.bl b))=_;unfold inD;simp only [h];simp
theorem Xp (W:Wy) (x:Str):ub (.str x) (.dct (wD W))=.ok (.bl (!decide (x∈kW W))):=by unfold ub;simp only [xQ];rw [qee]
theorem qhX {p:Pr} (hp:p∈seen) (x:Str):oth p x∈LS seen:=by
 rw [vV];refine ⟨p,hp,?_⟩;unfold oth;split;·exact .inr rfl
 ·exact .inl rfl
abbrev spB:qN:=(qD (qU 7 (qm [.vl,.vl] jM (qb (qc 6) (qb (qc 4) qr))))
  (sIf (QM (qC (d2 inA (qc 4) (qc 6))) (qC (d2 ub (qc 7) (qc 2)))) (qD (uc 2 (jT (qb (qc 1) (qb (d2 jL (d2 ixD (d2O 2 ixD (qc 4)) (dC (.int 1))) (kJ (qb (qc 5) qr))) qr))) (qc 7))
  (kz (gz 3 ga (qc 7)))) qK))
theorem Qv {f g:qN} (h:f ρ=.ok (.nx,ρ1)):qD f g ρ=g ρ1:=by rw [yG,h];rfl
variable {g:D->Sl->Out Sl} {ρ2:Sl}
theorem jP {fb:qN} (h1:g d ρ=.ok ρ1) (h2:fb ρ1=.ok (.nx,ρ2)):kO g fb (d::ds) ρ=kO g fb ds ρ2:=by rw [kO,h1];simp only [Out.plain,jR];rw [h2];rfl
theorem Jm {fb:qN} {v:D} (h1:g d ρ=.ok ρ1) (h2:fb ρ1=.ok (.rt v,ρ2)):kO g fb (d::ds) ρ=.ok (.rt v,ρ2):=by rw [kO,h1];simp only [Out.plain,jR];rw [h2];rfl
variable {root:Str} {ly:Wk}
theorem qfZ (X:(LS seen).length<=20) (i:WI seen W) (C:(y,root,ly)∈W) {k:Nat} {p:Pr} (A:seen[k]?=ii p) (Q:List Str) (Y:Q.length<=1000) (s O:Option D):∃ (M:Wy) (H:Option D),WI seen (W++M)/\(∀ e∈M,e.2.1=root)/\M.length<=1/\((y=p.1\/y=p.2)->oth p y∈kW (W++M)) /\
   spB [s,ii (.str root),ii (.dct (wD W)),ii (.lst (Q.map D.str)),ii (.str y),ii (.int (k:Nat)),ii (pD p),O]=.ok (.nx,[s,ii (.str root),ii (.dct (wD (W++M))),ii (.lst ((Q++kW M).map D.str)),ii (.str y),ii (.int (k:Nat)),ii (pD p),H]):=by
 have h1:=Xo p y;have h2:=UV p y;have B:=Xp W (oth p y);have R:=i.le;have S:=big;have o:=i.len _ C;have K:p∈seen:=ck A;by_cases q:(y=p.1\/y=p.2)/\oth p y∉kW W
 ·have m:y∈kW W:=aw.mpr ⟨_,C,rfl⟩;have two:(p.1=y/\p.2=oth p y)\/(p.2=y/\p.1=oth p y):=by
   unfold oth;by_cases z:y=p.1;·exact .inl ⟨z.symm,by rw [Aa z]⟩
   ·exact .inr ⟨(q.1.resolve_left z).symm,by rw [Ab z]⟩
  have L:(ly++[k]).Nodup/\∀ j∈ly++[k],∀ Z,seen[j]?=ii Z->(Z.1∈kW W\/Z.1=oth p y)/\(Z.2∈kW W\/Z.2=oth p y):=by
   obtain ⟨n1,n2⟩:=i.nr _ C;refine ⟨bT.mpr ⟨n1,by simp,λa U b T=>?_⟩,λj u Z f=>?_⟩
   ·rw [aA.mp T];rintro rfl;obtain ⟨c,d⟩:=n2 _ U p A;rcases two with ⟨_,t⟩ | ⟨_,t⟩
    ·exact q.2 (t ▸ d)
    ·exact q.2 (t ▸ c)
   ·rcases ao.mp u with u | u;·obtain ⟨c,d⟩:=n2 j u Z f;exact ⟨.inl c,.inl d⟩
    ·rw [aA.mp u,A] at f;cases f;rcases two with ⟨G,E⟩ | ⟨G,E⟩
     ·exact ⟨.inl (G ▸ m),.inr E⟩
     ·exact ⟨.inr E,.inl (G ▸ m)⟩
  refine ⟨[(oth p y,root,ly++[k])],ii (.str (oth p y)),i.add q.2 (qhX K y) (.snoc (i.path _ C) A ?_) (by rw [ae]; simp; simp at o; lia) L,by simp,by simp,λ_=>by rw [kQ]; exact ao.mpr (.inr (by simp [kW])),?_⟩
  ·obtain ⟨p1,p2⟩:=p;unfold oth;rcases q.1 with e | e;·have e:y=p1:=e;subst e;simp
   ·have e:y=p2:=e;subst e;by_cases z:y=p1;·subst z; simp
    ·simp [z]
  ·unfold spB;rw [Qv (ρ1:=[s,ii (.str root),ii (.dct (wD W)),ii (.lst (Q.map D.str)),ii (.str y),ii (.int (k:Nat)),ii (pD p),ii (.str (oth p y))]) (by simp [h1])];have h:decide (y=p.1\/y=p.2)=true:=Ad q.1;have g:(!decide (oth p y∈kW W))=true:=by rw [Ac q.2]; rfl
   rw [h] at h2;rw [g] at B;have V:=qfY i.nd C;simp only [] at V;have v:ixD (.tup [.str root,lD ly]) (.int 1)=.ok (lD ly):=by simp [ixD,at1]
   have n:=qef (W:=W) (x:=oth p y) (r:=root) (l:=ly++[k]) q.2;have hl:(inL ly).length+1<=sizeLine:=by simp [inL]; simp at o; lia
   have z1:1<=sizeLine:=by lia
   have z2:2<=sizeLine:=by lia
   have I:(wD W).length < sizeLine:=by simp [wD]; lia
   have J:Q.length < sizeLine:=by lia
   have N:inL ly++[.int (k:Nat)]=inL (ly++[k]):=by simp [inL]
   rw [qah,show QM (qC (d2 inA (qc 4) (qc 6))) (qC (d2 ub (qc 7) (qc 2))) [s,ii (.str root),ii (.dct (wD W)),ii (.lst (Q.map D.str)),ii (.str y),ii (.int (k:Nat)),ii (pD p),ii (.str (oth p y))]=.ok (ir,[s,ii (.str root),ii (.dct (wD W)),ii (.lst (Q.map D.str)),ii (.str y),ii (.int (k:Nat)),ii (pD p),ii (.str (oth p y))]) by simp [h2,B]];simp only [jR,if_true];rw [Qv (ρ1:=[s,ii (.str root),ii (.dct (wD (W++[(oth p y,root,ly++[k])]))),ii (.lst (Q.map D.str)),ii (.str y),ii (.int (k:Nat)),ii (pD p),ii (.str (oth p y))]) (by simp [uc,d2O,V,v,z1,z2,hl,N,xQ,I,n])];simp [uo,ga,J,kW]
 ·refine ⟨[],ii (.str (oth p y)),by simpa using i,by simp,by simp,λz=>?_,?_⟩;·rw [be];exact bK λw=>q ⟨z,w⟩
  ·unfold spB;rw [Qv (ρ1:=[s,ii (.str root),ii (.dct (wD W)),ii (.lst (Q.map D.str)),ii (.str y),ii (.int (k:Nat)),ii (pD p),ii (.str (oth p y))]) (by simp [h1])];by_cases z:y=p.1\/y=p.2
   ·have h:decide (y=p.1\/y=p.2)=true:=Ad z;have P:oth p y∈kW W:=bK λw=>q ⟨z,w⟩;have g:(!decide (oth p y∈kW W))=false:=by rw [Ad P]; rfl
    rw [h] at h2;rw [g] at B;simp [h2,B,kW]
   ·have h:decide (y=p.1\/y=p.2)=false:=Ac z;rw [h] at h2;simp [h2,kW]
noncomputable def en (k0:Nat) (rest:List Pr):List D:=(rest.zipIdx k0).map λp=>.tup [.int (p.2:Nat),pD p.1]
theorem qhY (seen:List Pr):JK (jb seen)=en 0 seen:=by unfold JK en jb;rw [List.zipIdx_map,bH];rfl
theorem qeg (h:(LS seen).length<=20) (s:Option D):∀ (rest:List Pr) (k0:Nat) (W:Wy) (Q:List Str) (a x V:Option D),seen.drop k0=rest->WI seen W->(y,root,ly)∈W->Q.length+rest.length<=500 ->∃ (M:Wy) (U d c:Option D),WI seen (W++M)/\(∀ e∈M,e.2.1=root)/\(∀ p∈rest,(y=p.1\/y=p.2)->oth p y∈kW (W++M))/\M.length<=rest.length /\
   kO (qX 2 (qp (gNm 5) (qp (gNm 6) qW))) spB (en k0 rest) [s,ii (.str root),ii (.dct (wD W)),ii (.lst (Q.map D.str)),ii (.str y),a,x,V]=.ok (.nx,[s,ii (.str root),ii (.dct (wD (W++M))),ii (.lst ((Q++kW M).map D.str)),ii (.str y),U,d,c])
 | [],k0,W,Q,a,x,V,_,hW,_,_=>⟨[],a,x,V,by simpa using hW,by simp,by simp,by simp,by simp [en,kO,kW]⟩
 | p::rest,k0,W,Q,a,x,V,hd,hW,hy,hQ=>by
  rw [ah] at hQ;have k:seen[k0]?=ii p:=by have:=congrArg List.head? hd;rw [List.head?_drop] at this;simpa using this
  have hd2:seen.drop (k0+1)=rest:=by have:=congrArg List.tail hd;rw [List.tail_drop] at this;simpa using this
  obtain ⟨b,r1,o,n,m,q,l⟩:=qfZ h hW hy k Q (by lia) s V;have g:(kW b).length<=1:=by simpa [kW] using m
  obtain ⟨M2,U,d,c,b1,b2,w,v,j⟩:=qeg h s rest (k0+1) (W++b) (Q++kW b) (ii (.int (k0:Nat))) (ii (pD p)) r1 hd2 o (ao.mpr (.inl hy)) (by rw [ae]; lia);refine ⟨b++M2,U,d,c,by rw [<-aU]; exact b1,λe i=>?_,λZ f z=>?_,by rw [ae,ah]; lia,?_⟩
  ·rcases ao.mp i with i | i;·exact n e i
   ·exact b2 e i
  ·rw [<-aU,kQ];rcases ac.mp f with rfl | f;·exact ao.mpr (.inl (q z))
   ·have:=w Z f z;rw [kQ] at this;exact this
  ·rw [kQ,<-aU,<-aU];refine eU ?_ j;have e0:en k0 (p::rest)=.tup [.int (k0:Nat),pD p]::en (k0+1) rest:=by simp [en,dL]
   rw [e0];exact jP rfl l
theorem qdq {ft:yA} {fb:qN} (h1:ft ρ=.ok (ir,ρ1)) (h2:fb ρ1=.ok (.nx,ρ2)):kP ft fb (n+1) ρ=kP ft fb n ρ2:=by rw [kP,h1];simp only [jR,if_true];rw [h2];rfl
theorem qbb {ft:yA} {fb:qN} (h1:ft ρ=.ok (iq,ρ1)):kP ft fb (n+1) ρ=.ok (.nx,ρ1):=by rw [kP,h1];rfl
abbrev spC:yA:=qC (d2 gtD (d1 kZ (qc 3)) (dC (.int 0)))
abbrev spW:qN:=(qD (qU 4 (qaq 3)) (wW (gO (qc 0)) (qX 2 (qp (gNm 5) (qp (gNm 6) qW))) spB))
abbrev sD (seen:List Pr):D:=.lst (jb seen)
theorem Xq (hn:seen.length<=10) (s:(LS seen).length<=20) (root:Str):∀ (n:Nat) (W:Wy) (Q:List Str) (c b a V:Option D),n<=100->WI seen W->(∀ x∈Q,∃ l,(x,root,l)∈W)->Q.length+((LS seen).length - W.length) < n ->∃ (M:Wy) (u U g f:Option D),WI seen (W++M)/\(∀ e∈M,e.2.1=root)/\(∀ x,x∈Q\/x∈kW M->∀ p∈seen,(x=p.1\/x=p.2)->oth p x∈kW (W++M)) /\
   kP spC spW n [ii (sD seen),ii (.str root),ii (.dct (wD W)),ii (.lst (Q.map D.str)),c,b,a,V]=.ok (.nx,[ii (sD seen),ii (.str root),ii (.dct (wD (W++M))),ii (.lst []),u,U,g,f])
 | 0,W,Q,c,b,a,V,_,_,_,h=>absurd h (Nat.not_lt_zero _)
 | n+1,W,[],c,b,a,V,_,hW,_,_=>⟨[],c,b,a,V,by simpa using hW,by simp,by simp [kW],by rw [be];exact qbb (by simp [yz])⟩
 | n+1,W,y::Q,c,b,a,V,h100,hW,hQ,hm=>by
  obtain ⟨ly,C⟩:=hQ y (aq ..);rw [ah] at hm;obtain ⟨d,U,g,f,m,k,B,E,A⟩:=qeg s (ii (sD seen)) seen 0 W Q b a V (by simp) hW C (by lia);have R:=m.le;rw [ae] at R;obtain ⟨M2,t,r,o,j,b1,b2,w,v⟩:=Xq hn s root n (W++d) (Q++kW d) (ii (.str y)) U g f (by lia) m (λx hx=>by
   rcases ao.mp hx with hx | hx;·obtain ⟨l,hl⟩:=hQ x (af _ hx);exact ⟨l,ao.mpr (.inl hl)⟩
   ·obtain ⟨e,i,rfl⟩:=aw.mp hx;refine ⟨e.2.2,ao.mpr (.inr ?_)⟩;rw [<-k e i];exact i) (by
   rw [ae,ae,show (kW d).length=d.length by simp [kW]]
   lia)
  refine ⟨d++M2,t,r,o,j,by rw [<-aU]; exact b1,λe i=>?_,λx hx p hp z=>?_,?_⟩
  ·rcases ao.mp i with i | i;·exact k e i
   ·exact b2 e i
  ·rw [<-aU];by_cases q:x=y;·subst q;rw [kQ];exact ao.mpr (.inl (B p hp z))
   ·refine w x ?_ p hp z;rcases hx with hx | hx
    ·rcases ac.mp hx with e | hx;·exact absurd e q
     ·exact .inl (ao.mpr (.inl hx))
    ·rw [kQ] at hx;rcases ao.mp hx with hx | hx;·exact .inl (ao.mpr (.inr hx))
     ·exact .inr hx
  ·rw [<-aU];refine eU ?_ v;refine qdq (ρ1:=[ii (sD seen),ii (.str root),ii (.dct (wD W)),ii (.lst ((y::Q).map D.str)),c,b,a,V]) (by
    have:(0:Int) < (Q.length:Int)+1:=by lia
    simp [yz,this]) ?_
   unfold spW;rw [Qv (ρ1:=[ii (sD seen),ii (.str root),ii (.dct (wD W)),ii (.lst (Q.map D.str)),ii (.str y),b,a,V]) (by simp [qaq])];rw [jI,show gO (qc 0) [ii (sD seen),ii (.str root),ii (.dct (wD W)),ii (.lst (Q.map D.str)),ii (.str y),b,a,V]=.ok (JK (jb seen),[ii (sD seen),ii (.str root),ii (.dct (wD W)),ii (.lst (Q.map D.str)),ii (.str y),b,a,V]) from rfl,jR,qhY];exact A
theorem qbc (hn:seen.length<=6) (s:(LS seen).length<=12) (c:WI seen W) (hr:root∉kW W) (f:root∈LS seen):∃ M:Wy,WI seen (W++M)/\(∀ e∈M,e.2.1=root)/\(root,root,[])∈M/\(∀ x∈kW M,∀ p∈seen,(x=p.1\/x=p.2)->oth p x∈kW (W++M))/\gf [sD seen,.str root,.dct (wD W)]=.ok (.non,[.non,.non,.dct (wD (W++M))]):=by
 have h:=c.add hr f (r:=root) (l:=[]) .nil (bh _) ⟨cm,λk g=>by cases g⟩;have R:=h.le;have b:=c.le;have S:=big;obtain ⟨M,u,U,o,y,m,j,z,q⟩:=Xq (by lia) (by lia) root 20 (W++[(root,root,[])]) [root] ij ij ij ij (by lia) h (λx hx=>⟨[],by rw [aA.mp hx]; exact ao.mpr (.inr (aA.mpr rfl))⟩) (by simp; lia);rw [aU] at m z q;refine ⟨[(root,root,[])]++M,m,λe i=>?_,ao.mpr (.inl (aA.mpr rfl)),λx hx p hp d=>z x ?_ p hp d,?_⟩
 ·rcases ao.mp i with i | i;·rw [aA.mp i]
  ·exact j e i
 ·rw [kQ] at hx;rcases ao.mp hx with hx | hx;·exact .inl hx
  ·exact .inr hx
 ·refine qw.trans ?_;unfold YW;rw [show qv YV [sD seen,.str root,.dct (wD W)]=[ii (sD seen),ii (.str root),ii (.dct (wD W)),ij,ij,ij,ij,ij] from rfl];have n:=qef (W:=W) (x:=root) (r:=root) (l:=[]) hr;rw [show lD []=.lst [] from rfl] at n;have z2:2<=sizeLine:=by lia
  have z1:1<=sizeLine:=by lia
  have a:(wD W).length < sizeLine:=by simp [wD]; lia
  refine (qx (ρ1:=[ii (sD seen),ii (.str root),ii (.dct (wD (W++[(root,root,[])]))),ij,ij,ij,ij,ij]) (by simp [uc,z2,xQ,a,n])).trans ?_;refine (qx (ρ1:=[ii (sD seen),ii (.str root),ii (.dct (wD (W++[(root,root,[])]))),ii (.lst [.str root]),ij,ij,ij,ij]) (by simp [z1])).trans ?_;exact (congrArg (KM [.val,.val,.io]) q).trans rfl
def CI (seen:List Pr) (W:Wy):Prop:=∀ e∈W,∀ p∈seen,(e.1=p.1\/e.1=p.2)->∃ a∈W,a.1=oth p e.1/\a.2.1=e.2.1
def RI (W:Wy):Prop:=∀ e∈W,(e.2.1,e.2.1,[])∈W
theorem qf0 {p:Pr} (h:x=p.1\/x=p.2):oth p (oth p x)=x/\(oth p x=p.1\/oth p x=p.2):=by
 obtain ⟨a,b⟩:=p;unfold oth;simp only [];by_cases q:x=a
 ·subst q;simp only [if_true];by_cases e:b=x;·subst e; simp
  ·simp [e]
 ·have:x=b:=by rcases h with h | h; exact absurd h q; exact h
  subst this;simp [q]
theorem gj:∀ {W:Wy},(kW W).Nodup->∀ {e b:Str×Str×Wk},e∈W->b∈W->e.1=b.1->e=b
 | [],_,e,b,h,_,_=>by cases h
 | a::W,hn,e,b,h,h',q=>by
  have r:=aR.mp (show (a.1::kW W).Nodup from hn);rcases ac.mp h with h1 | h1
  ·rcases ac.mp h' with h2 | h2;·rw [h1,h2]
   ·exact absurd (show a.1∈kW W from aw.mpr ⟨b,h2,by rw [<-q,h1]⟩) r.1
  ·rcases ac.mp h' with h2 | h2;·exact absurd (show a.1∈kW W from aw.mpr ⟨e,h1,by rw [q,h2]⟩) r.1
   ·exact gj r.2 h1 h2 q
abbrev woB:qN:=(sIf (qC (d2 ub (qc 2) (qc 1))) (kz (qm [.vl,.vl,.sl 1] gf (qb (qc 0) (qb (qc 2) (qZ qr))))) qK)
def MI (W:Wy):Prop:=∀ e∈W,leS e.2.1 e.1
theorem qdr (x:Str):leS x x:=(VH x x).elim id id
theorem Qo (hn:seen.length<=6) (t:(LS seen).length<=12):∀ (xs:List Str) (W:Wy) (x:Option D),(∀ x∈xs,x∈LS seen)->xs.Pairwise leS->(∀ z∈LS seen,z∈kW W\/z∈xs)->WI seen W->CI seen W->RI W->MI W ->∃ (M:Wy) (n:Option D),WI seen (W++M)/\CI seen (W++M)/\RI (W++M)/\MI (W++M)/\(∀ x∈xs,x∈kW (W++M))/\kO (gNm 2) woB (xs.map D.str) [ii (sD seen),ii (.dct (wD W)),x]=.ok (.nx,[ii (sD seen),ii (.dct (wD (W++M))),n])
 | [],W,x,_,_,_,hW,hC,hR,hM=>⟨[],x,by simpa using hW,by simpa using hC,by simpa using hR,by simpa using hM,by simp,by simp [kO]⟩
 | y::xs,W,x,hx,hso,hal,hW,hC,hR,hM=>by
  have b:=bf.mp hso;have j:=Xp W y;by_cases q:y∈kW W
  ·obtain ⟨M,n,s,r,o,m,l,k⟩:=Qo hn t xs W (ii (.str y)) (λz a=>hx z (af _ a)) b.2 (λz a=>by
    rcases hal z a with h | h;·exact .inl h
    ·rcases ac.mp h with rfl | h;·exact .inl q
     ·exact .inr h) hW hC hR hM
   refine ⟨M,n,s,r,o,m,λz a=>?_,?_⟩
   ·rcases ac.mp a with rfl | a;·rw [kQ]; exact ao.mpr (.inl q)
    ·exact l z a
   ·refine eU (jP (ρ1:=[ii (sD seen),ii (.dct (wD W)),ii (.str y)]) rfl ?_) k;rw [Ad q] at j;simp [j]
  ·obtain ⟨g,b1,b2,C,J,I⟩:=qbc hn t hW q (hx y (aq ..));have v:RI (W++g):=λe i=>by
    rcases ao.mp i with i | i;·exact ao.mpr (.inl (hR e i))
    ·rw [b2 e i];exact ao.mpr (.inr C)
   have B:CI seen (W++g):=λe i p hp a=>by
    rcases ao.mp i with i | i;·obtain ⟨f,h1,h2⟩:=hC e i p hp a;exact ⟨f,ao.mpr (.inl h1),h2⟩
    ·have H:=J e.1 (aw.mpr ⟨e,i,rfl⟩) p hp a;obtain ⟨f,h1,h2⟩:=aw.mp H;refine ⟨f,h1,h2,?_⟩;rcases ao.mp h1 with c | c
     ·exfalso;obtain ⟨o1,o2⟩:=qf0 a;rw [<-h2] at o1 o2;obtain ⟨e2,G,E,_⟩:=hC f c p hp o2;rw [o1] at E;have:=gj b1.nd (ao.mpr (.inl G)) (ao.mpr (.inr i)) E;subst this;have d:=b1.nd;rw [kQ] at d;exact (bT.mp d).2.2 e2.1 (aw.mpr ⟨e2,G,rfl⟩) e2.1 (aw.mpr ⟨e2,i,rfl⟩) rfl
     ·rw [b2 f c,b2 e i]
   have A:MI (W++g):=λe i=>by
    rcases ao.mp i with i | i;·exact hM e i
    ·rw [b2 e i];have d:=b1.nd;rw [kQ] at d;have w:e.1∉kW W:=λz=>(bT.mp d).2.2 e.1 z e.1 (aw.mpr ⟨e,i,rfl⟩) rfl;have u:=b1.sub e.1 (by rw [kQ]; exact ao.mpr (.inr (aw.mpr ⟨e,i,rfl⟩)));rcases hal e.1 u with h | h;·exact absurd h w
     ·rcases ac.mp h with h | h;·rw [h]; exact qdr _
      ·exact b.1 e.1 h
   obtain ⟨M2,n,s,r,o,m,l,k⟩:=Qo hn t xs (W++g) (ii (.str y)) (λz a=>hx z (af _ a)) b.2 (λz a=>by
    rcases hal z a with h | h;·exact .inl (by rw [kQ]; exact ao.mpr (.inl h))
    ·rcases ac.mp h with rfl | h;·exact .inl (by rw [kQ]; exact ao.mpr (.inr (aw.mpr ⟨_,C,rfl⟩)))
     ·exact .inr h) b1 B v A
   rw [aU] at s r o m l k;refine ⟨g++M2,n,s,r,o,m,λz a=>?_,?_⟩
   ·rcases ac.mp a with rfl | a;·rw [kQ,kQ];exact ao.mpr (.inr (ao.mpr (.inl (aw.mpr ⟨_,C,rfl⟩))))
    ·exact l z a
   ·refine eU (jP (ρ1:=[ii (sD seen),ii (.dct (wD W)),ii (.str y)]) rfl ?_) k;rw [Ac q] at j;simp [j,I]
theorem ZF (hn:seen.length<=6) (s:(LS seen).length<=12):∃ W:Wy,WI seen W/\CI seen W/\RI W/\MI W/\(∀ x∈LS seen,x∈kW W)/\wn [sD seen]=.ok (.dct (wD W),[.non]):=by obtain ⟨W,n,b,k,a,m,q,p⟩:=Qo hn s (LS seen) [] ij (λ_ h=>h) (by unfold LS; exact qT _) (λz c=>.inr c) ⟨by simp [kW],by simp [kW],by simp,by simp,by simp⟩ (λe i=>by cases i) (λe i=>by cases i) (λe i=>by cases i);rw [bW] at b k a m q p;refine ⟨W,b,k,a,m,q,?_⟩;have t:=xI (l:=seen) (by lia);refine qw.trans ?_;unfold Wg;rw [show qv Wf [sD seen]=[ii (sD seen),ij,ij] from rfl];refine (qx (ρ1:=[ii (sD seen),ii (.dct []),ij]) (by simp)).trans ?_;refine (qx (ρ1:=[ii (sD seen),ii (.dct (wD W)),n]) (by rw [jI,show jN (qm [.vl] jW (qb (qc 0) qr)) [ii (sD seen),ii (.dct []),ij]=.ok ((LS seen).map D.str,[ii (sD seen),ii (.dct []),ij]) by simp [t,jK],jR];exact p)).trans ?_;simp
noncomputable def jx (W:Wy) (x:Str):Str×Wk:=((W.find? λe=>decide (e.1=x)).map (·.2)).getD (⟨#[]⟩,[])
theorem jQ (h:x∈kW W):(x,jx W x)∈W:=by
 unfold jx;cases q:W.find? λe=>decide (e.1=x) with
 | none=>obtain ⟨e,i,rfl⟩:=aw.mp h;have:=dA.mp q e i;simp at this
 | some e=>
  have h1:=bA q;have h2:e.1=x:=by simpa using fB q
  rw [<-h2];exact h1
theorem Ky (hn:(kW W).Nodup) (h:x∈kW W):ixD (.dct (wD W)) (.str x)=.ok (.tup [.str (jx W x).1,lD (jx W x).2]):=qfY hn (jQ h)
theorem qf1 {a b:D}:ixD (.tup [a,b]) (.int 0)=.ok a:=by simp [ixD,at0]
theorem qgs {a b:D}:ixD (.tup [a,b]) (.int 1)=.ok b:=by simp [ixD,at1]
theorem qbd (a b:Wk):inL a++inL b=inL (a++b):=by simp [inL]
theorem uT (a:Wk):(inL a).length=a.length:=by simp [inL]
theorem qhZ (l:Wk):xq (lD l)=.ok (lD l.reverse):=by simp [xq,inL]
theorem Qp {a b:Wk} (h:a.length+b.length<=2000):jL (lD a) (lD b)=.ok (lD (a++b)):=by
 have z:(inL a).length+(inL b).length<=sizeLine:=by rw [uT,uT]; exact qY h
 show (if (inL a).length+(inL b).length<=sizeLine then Out.ok (D.lst (inL a++inL b)) else .bad)=_;rw [Aa z,qbd]
abbrev Ci:=Str×Wk
noncomputable def cd (c:Ci):D:=.tup [.str c.1,lD c.2]
noncomputable def cD (C:List Ci):List D:=C.map cd
noncomputable def ZM (W:Wy) (p:Pr) (k:Nat):Ci:=((jx W p.1).1,(jx W p.1).2++[k]++(jx W p.2).2.reverse)
noncomputable def CL (W:Wy) (k0:Nat) (rest:List Pr):List Ci:=(rest.zipIdx k0).map λp=>ZM W p.1 p.2
abbrev ciB:qN:=(qD (qU 5 (d1 xq (d2 ixD (d2 ixD (qc 1) (d2 ixD (qc 4) (dC (.int 1)))) (dC (.int 1)))))
  (kz (gz 2 ga (jT (qb (d2 ixD (d2 ixD (qc 1) (d2 ixD (qc 4) (dC (.int 0)))) (dC (.int 0))) (qb (d2 jL (d2 jL (d2 ixD (d2 ixD (qc 1) (d2 ixD (qc 4) (dC (.int 0)))) (dC (.int 1))) (kJ (qb (qc 3) qr))) (qc 5)) qr))))))
theorem qf2 (e:(LS seen).length<=20) (h:WI seen W) {p:Pr} (h1:p.1∈kW W) (h2:p.2∈kW W) {k:Nat} {acc:List D} (g:acc.length < 1000) (s x:Option D):∃ U,ciB [s,ii (.dct (wD W)),ii (.lst acc),ii (.int (k:Nat)),ii (pD p),x]=.ok (.nx,[s,ii (.dct (wD W)),ii (.lst (acc++[cd (ZM W p k)])),ii (.int (k:Nat)),ii (pD p),U]):=by
 have i1:=Ky h.nd h1;have i2:=Ky h.nd h2;have i:=h.len _ (jQ h1);have c:=h.len _ (jQ h2);have R:=h.le;have S:=big;simp only [] at i c;have z1:1<=sizeLine:=by lia
 have z2:2<=sizeLine:=by lia
 have l:acc.length < sizeLine:=by lia
 have m:=Qp (a:=(jx W p.1).2) (b:=[k]) (by simp; lia);have d:=Qp (a:=(jx W p.1).2++[k]) (b:=(jx W p.2).2.reverse) (by simp; lia);have m:jL (lD (jx W p.1).2) (.lst [.int (k:Nat)])=.ok (lD ((jx W p.1).2++[k])):=m;have r2:=qhZ (jx W p.2).2;refine ⟨ii (lD (jx W p.2).2.reverse),?_⟩;unfold ciB ZM cd;rw [Qv (ρ1:=[s,ii (.dct (wD W)),ii (.lst acc),ii (.int (k:Nat)),ii (pD p),ii (lD (jx W p.2).2.reverse)]) (by simp [qgs,i2,r2])];simp [uo,qf1,qgs,i1,m,d,z1,z2,ga,l]
theorem qbe (b:(LS seen).length<=20) (d:WI seen W) (s:Option D):∀ (rest:List Pr) (k0:Nat) (acc:List Ci) (x c a:Option D),(∀ p∈rest,p.1∈kW W/\p.2∈kW W)->acc.length+rest.length<=500 ->∃ y u U,kO (qX 2 (qp (gNm 3) (qp (gNm 4) qW))) ciB (en k0 rest) [s,ii (.dct (wD W)),ii (.lst (cD acc)),x,c,a]=.ok (.nx,[s,ii (.dct (wD W)),ii (.lst (cD (acc++CL W k0 rest))),y,u,U])
 | [],k0,acc,x,c,a,_,_=>⟨x,c,a,by simp [en,CL,kO]⟩
 | p::rest,k0,acc,x,c,a,h,hl=>by
  rw [ah] at hl;obtain ⟨h1,h2⟩:=h p (aq ..);obtain ⟨r5,e⟩:=qf2 b d h1 h2 (k:=k0) (acc:=cD acc) (by simp [cD]; lia) s a;obtain ⟨y,u,U,i⟩:=qbe b d s rest (k0+1) (acc++[ZM W p k0]) (ii (.int (k0:Nat))) (ii (pD p)) r5 (λq hq=>h q (af _ hq)) (by rw [ae]; simp; lia);refine ⟨y,u,U,?_⟩;have e0:en k0 (p::rest)=.tup [.int (k0:Nat),pD p]::en (k0+1) rest:=by simp [en,dL]
  have e1:acc++CL W k0 (p::rest)=(acc++[ZM W p k0])++CL W (k0+1) rest:=by simp [CL,dL]
  rw [e0,e1];refine eU (jP rfl e) ?_;rw [show cD acc++[cd (ZM W p k0)]=cD (acc++[ZM W p k0]) by simp [cD]];exact i
theorem uU (g:∀ x∈LS seen,x∈kW W):∀ p∈seen,p.1∈kW W/\p.2∈kW W:=λp hp=>⟨g _ (vV.mpr ⟨p,hp,.inl rfl⟩),g _ (vV.mpr ⟨p,hp,.inr rfl⟩)⟩
theorem Jn (hn:seen.length<=6) (c:(LS seen).length<=20) (h:WI seen W) (g:∀ x∈LS seen,x∈kW W):vR [sD seen,.dct (wD W)]=.ok (.lst (cD (CL W 0 seen)),[.non,.non]):=by obtain ⟨y,u,U,e⟩:=qbe c h (ii (sD seen)) seen 0 [] ij ij ij (uU g) (by simp; lia);rw [bW] at e;refine qw.trans ?_;unfold zH;rw [show qv zF [sD seen,.dct (wD W)]=[ii (sD seen),ii (.dct (wD W)),ij,ij,ij,ij] from rfl];refine (qx (ρ1:=[ii (sD seen),ii (.dct (wD W)),ii (.lst []),ij,ij,ij]) (by simp)).trans ?_;refine (qx (ρ1:=[ii (sD seen),ii (.dct (wD W)),ii (.lst (cD (CL W 0 seen))),y,u,U]) (by rw [jI,show gO (qc 0) [ii (sD seen),ii (.dct (wD W)),ii (.lst []),ij,ij,ij]=.ok (JK (jb seen),[ii (sD seen),ii (.dct (wD W)),ii (.lst []),ij,ij,ij]) from rfl,jR,qhY];exact e)).trans ?_;simp
theorem qh0 (a:WI seen W) (g:∀ x∈LS seen,x∈kW W):∀ c∈CL W 0 seen,∀ k∈c.2,k < seen.length:=by
 intro c d k h;obtain ⟨q,hq,rfl⟩:=aw.mp d;obtain ⟨p,j⟩:=q;have D:=fZ hq;have hp:p∈seen:=by rw [D.2.2]; exact ce _
 obtain ⟨h1,h2⟩:=uU g p hp;unfold ZM at h;simp only [ao,fS,aA] at h;rcases h with (h | h) | h;·exact (a.path _ (jQ h1)).lt k h
 ·have:=D.2.1;omega
 ·exact (a.path _ (jQ h2)).lt k h
noncomputable def fD (F:List Ci):List (Key×D):=F.map λc=>(.inr c.1,lD c.2)
noncomputable def kF (F:List Ci):List Str:=F.map (·.1)
theorem qeh (F:List Ci) (x:Str):XZ (fD F) (.inr x)=decide (x∈kF F):=by
 unfold XZ fD kF
 induction F with
 | nil=>rfl
 | cons e F i=>
  rw [aH,cG,i];by_cases h:e.1=x;·subst h; simp
  ·have h2:¬(bn e.1:Key)=bn x:=λz=>h (bn.inj z);have g:¬x=e.1:=λz=>h z.symm;simp [h2,g]
variable {F:List Ci}
theorem qh1 {l:Wk} (h:x∉kF F):zR (fD F) (.inr x) (lD l)=fD (F++[(x,l)]):=by
 unfold zR;have h1:((fD F).any λp=>decide (p.1=(bn x:Key)))=false:=by have:=qeh F x;unfold XZ at this;rw [this];exact Ac h
 rw [h1,Ab bC];unfold fD;rw [fA];rfl
noncomputable def Kz (F:List Ci) (x:Str):Wk:=((F.find? λc=>decide (c.1=x)).map (·.2)).getD []
theorem UW:∀ (F:List Ci) (x:Str),(fD F).find? (λkv=>decide (kv.1=(bn x:Key)))=(F.find? λc=>decide (c.1=x)).map λc=>(bn c.1,lD c.2)
 | [],x=>rfl
 | c::F,x=>by
  have i:=UW F x;unfold fD at i ⊢;rw [aH];by_cases h:c.1=x;·rw [cF (by simp [h]),cF (by simp [h])];rfl
  ·have h2:¬(bn c.1:Key)=bn x:=λz=>h (bn.inj z);rw [bR (by simpa using h2),bR (by simpa using h),i]
theorem qjU (h:x∈kF F):ixD (.dct (fD F)) (.str x)=.ok (lD (Kz F x)):=by
 unfold ixD Kz;simp only [UW];cases q:F.find? λc=>decide (c.1=x) with
 | none=>obtain ⟨e,i,rfl⟩:=aw.mp h;have:=dA.mp q e i;simp at this
 | some c=>rfl
theorem qh2 (F:List Ci) (x:Str):qiT (fD F) (.inr x) (.lst [])=lD (Kz F x):=by unfold qiT Kz;rw [UW];cases F.find? λc=>decide (c.1=x) <;> rfl
noncomputable def FO:List Ci->List Ci->List Ci
 | F,[]=>F
 | F,c::C=>FO (if odd c.2=ir/\c.1∉kF F then F++[c] else F) C
theorem Wz:∀ (C F:List Ci),(∀ c∈FO F C,c∈F\/c∈C)/\(∀ x∈kF F,x∈kF (FO F C))/\(∀ c∈C,odd c.2=ir->c.1∈kF (FO F C))/\(FO F C).length<=F.length+C.length
 | [],F=>⟨λc h=>.inl h,λx h=>h,by simp,by simp [FO]⟩
 | c::C,F=>by
  unfold FO;by_cases q:odd c.2=ir/\c.1∉kF F
  ·rw [Aa q];obtain ⟨a,b,d,e⟩:=Wz C (F++[c]);refine ⟨λy f=>?_,λx hx=>b x (by simp [kF] at hx ⊢; exact .inl hx),λy f j=>?_,by rw [ae] at e; simp at e ⊢; lia⟩
   ·rcases a y f with h | h
    ·rcases ao.mp h with h | h;·exact .inl h
     ·exact .inr (by rw [aA.mp h]; exact aq ..)
    ·exact .inr (af _ h)
   ·rcases ac.mp f with rfl | f;·exact b _ (by simp [kF])
    ·exact d y f j
  ·rw [Ab q];obtain ⟨a,b,d,e⟩:=Wz C F;refine ⟨λy f=>?_,b,λy f j=>?_,by simp at e ⊢; lia⟩
   ·rcases a y f with h | h;·exact .inl h
    ·exact .inr (af _ h)
   ·rcases ac.mp f with rfl | f;·exact b _ (bK λw=>q ⟨j,w⟩)
    ·exact d y f j
abbrev foB:qN:=(sIf (QM (ui (qm [.vl] wH (qb (qc 3) qr))) (qC (d2 ub (qc 2) (qc 1)))) (uc 1 (qc 3) (qc 2)) qK)
theorem qh3 (F:List Ci) (x:Str):ub (.str x) (.dct (fD F))=.ok (.bl (!decide (x∈kF F))):=by unfold ub;simp only [xQ];rw [qeh]
theorem UX (a:Option D):∀ (C F:List Ci) (f e:Option D),F.length+C.length<=500->∃ b y,kO (qX 2 (qp (gNm 2) (qp (gNm 3) qW))) foB (cD C) [a,ii (.dct (fD F)),f,e]=.ok (.nx,[a,ii (.dct (fD (FO F C))),b,y])
 | [],F,f,e,_=>⟨f,e,rfl⟩
 | c::C,F,f,e,hl=>by
  rw [ah] at hl;have h1:=Qn c.2;have h2:=qh3 F c.1;have h:(fD F).length < sizeLine:=aI (by simp [fD]; lia) big;unfold FO;by_cases q:odd c.2=ir/\c.1∉kF F;·rw [Aa q];obtain ⟨b,y,i⟩:=UX a C (F++[c]) (ii (.str c.1)) (ii (lD c.2)) (by rw [ae]; simp; lia);refine ⟨b,y,eU (jP (d:=cd c) (ρ1:=[a,ii (.dct (fD F)),ii (.str c.1),ii (lD c.2)]) rfl ?_) i⟩;rw [q.1] at h1;rw [Ac q.2] at h2;have hp:=qh1 (F:=F) (x:=c.1) (l:=c.2) q.2;simp [h1,h2,uc,xQ,h,hp]
  ·rw [Ab q];obtain ⟨b,y,i⟩:=UX a C F (ii (.str c.1)) (ii (lD c.2)) (by lia);refine ⟨b,y,eU (jP (d:=cd c) (ρ1:=[a,ii (.dct (fD F)),ii (.str c.1),ii (lD c.2)]) rfl ?_) i⟩;cases q1:odd c.2 with
   | false=>rw [q1] at h1;simp [h1]
   | true=>rw [q1] at h1;have:c.1∈kF F:=bK λw=>q ⟨q1,w⟩;rw [Ad this] at h2;simp [h1,h2]
theorem Xr (C:List Ci) (hl:C.length<=400):wL [.lst (cD C)]=.ok (.dct (fD (FO [] C)),[.non]):=by obtain ⟨b,y,e⟩:=UX (ii (.lst (cD C))) C [] ij ij (by simp; lia);refine qw.trans ?_;unfold gZ;rw [show qv gY [.lst (cD C)]=[ii (.lst (cD C)),ij,ij,ij] from rfl];refine (qx (ρ1:=[ii (.lst (cD C)),ii (.dct []),ij,ij]) (by simp)).trans ?_;refine (qx (ρ1:=[ii (.lst (cD C)),ii (.dct (fD (FO [] C))),b,y]) (by rw [jI,show jN (qc 0) [ii (.lst (cD C)),ii (.dct []),ij,ij]=.ok (cD C,[ii (.lst (cD C)),ii (.dct []),ij,ij]) from rfl,jR];exact e)).trans ?_;simp
noncomputable def JN (F C:List Ci):List Ci:=(C.filter λc=>odd c.2).map λc=>(c.1,Kz F c.1++c.2)
abbrev joT:yA:=ui (qm [.vl] wH (qb (qc 1) qr))
abbrev joE:jl:=jT (qb (qc 0) (qb (d2 jL (d2 ixD (qc 2) (qc 0)) (qc 1)) qr))
theorem qbf (h:∀ c∈F,c.2.length<=100):∀ (C:List Ci) (x y:Option D),(∀ c∈C,c.2.length<=100)->(∀ c∈C,odd c.2=ir->c.1∈kF F) ->∃ n s,jw (qX 2 (qp (gNm 0) (qp (gNm 1) qW))) joT joE (cD C) [x,y,ii (.dct (fD F))]=.ok (cD (JN F C),[n,s,ii (.dct (fD F))])
 | [],x,y,_,_=>⟨x,y,rfl⟩
 | c::C,x,y,hl,hk=>by
  obtain ⟨n,s,i⟩:=qbf h C (ii (.str c.1)) (ii (lD c.2)) (λd hd=>hl d (af _ hd)) λd hd=>hk d (af _ hd);refine ⟨n,s,?_⟩;have h1:=Qn c.2;have z2:2<=sizeLine:=qY (by lia);have e0:cD (c::C)=.tup [.str c.1,lD c.2]::cD C:=rfl;cases q:odd c.2 with
  | false=>
   rw [q] at h1;have e1:JN F (c::C)=JN F C:=by simp [JN,q]
   rw [e0,e1];simp [jw,xi,qX,qp,qW,h1,i]
  | true=>
   rw [q] at h1;have e1:JN F (c::C)=(c.1,Kz F c.1++c.2)::JN F C:=by simp [JN,q]
   have m:=hk c (aq ..) q;have i1:=qjU m;have hg:(Kz F c.1).length<=100:=by
    unfold Kz;cases w:F.find? λd=>decide (d.1=c.1) with
    | none=>simp
    | some d=>exact h d (bA w)
   have l:=hl c (aq ..);have e:=Qp (a:=Kz F c.1) (b:=c.2) (by lia);rw [e0,e1];simp [jw,xi,qX,qp,qW,h1,i1,e,z2,i];simp [cD,cd]
theorem yn {nt:Nat} {fi:uj} {ft:yA} {fe:jl} {es:List D} (h:fi ρ=.ok (ds,ρ1)) (hl:ds.length<=sizeLine) (d:jw g ft fe ds (kU nt cap ρ1)=.ok (es,ρ2)):jo own nt cap fi g ft fe ρ=.ok (.lst es,kl own ρ2 nt cap ρ1):=by unfold jo;rw [h];simp only [jR];rw [Aa hl,d];rfl
abbrev baB:qN:=(sIf (ui (qm [.vl,.vl,.vl] Wb (qb (qc 7) (qb (qc 1) (qb (qc 2) qr))))) (jr (jT (qb (qc 6) (qb (qc 7) qr)))) qK)
theorem qbg (e:qgr nd ns) (hr:1<=r) (a b c d:Option D):∀ (L:List Ci) (x y:Option D),(∀ w∈L,∀ k∈w.2,k < ns.length)->∃ ρ,kO (qX 2 (qp (gNm 6) (qp (gNm 7) qW))) baB (cD L) [a,ii (.int r),ii nd,b,c,d,x,y]=.ok (match L.find? λw=>Xn w.2 r ns with | some w=>.rt (cd w) | none=>.nx,ρ)
 | [],x,y,_=>⟨_,rfl⟩
 | w::L,x,y,h=>by
  have h1:=qa9 e (h w (aq ..)) hr;have z2:2<=sizeLine:=qY (by lia);cases q:Xn w.2 r ns with
  | true=>rw [q] at h1;refine ⟨[a,ii (.int r),ii nd,b,c,d,ii (.str w.1),ii (lD w.2)],?_⟩;rw [cF (by simpa using q)];exact Jm (d:=cd w) (ρ1:=[a,ii (.int r),ii nd,b,c,d,ii (.str w.1),ii (lD w.2)]) rfl (by simp [h1,z2,cd])
  | false=>rw [q] at h1;obtain ⟨ρ,i⟩:=qbg e hr a b c d L (ii (.str w.1)) (ii (lD w.2)) λv f=>h v (af _ f);refine ⟨ρ,?_⟩;rw [bR (by simpa using q)];exact eU (jP (d:=cd w) (ρ1:=[a,ii (.int r),ii nd,b,c,d,ii (.str w.1),ii (lD w.2)]) rfl (by simp [h1])) i
noncomputable def BO (W:Wy) (seen:List Pr) (r:Int) (ns:List Int):Option Ci:=(CL W 0 seen++JN (FO [] (CL W 0 seen)) (CL W 0 seen)).find? λw=>Xn w.2 r ns
theorem qh4 (s:(LS seen).length<=20) (h:WI seen W) (g:∀ x∈LS seen,x∈kW W):∀ c∈CL W 0 seen,c.2.length<=100:=by
 intro c d;obtain ⟨q,hq,rfl⟩:=aw.mp d;obtain ⟨p,j⟩:=q;have D:=fZ hq;have hp:p∈seen:=by rw [D.2.2]; exact ce _
 obtain ⟨h1,h2⟩:=uU g p hp;have i:=h.len _ (jQ h1);have l:=h.len _ (jQ h2);have R:=h.le;simp only [] at i l;unfold ZM;simp
 lia
theorem qbh (W:Wy) (k0:Nat) (seen:List Pr):(CL W k0 seen).length=seen.length:=by simp [CL]
structure Sn (seen:List Pr) (W:Wy):Prop where
 n:seen.length<=6
 s:(LS seen).length<=12
 w:WI seen W
 C:CI seen W
 R:RI W
 a:∀ x∈LS seen,x∈kW W
 e:wn [sD seen]=.ok (.dct (wD W),[.non])
 z:∀ x∈LS seen,x.length<=2000
 m:MI W
theorem qbi (S:Sn seen W) (o:qgr nd ns) (A:ns.length=seen.length) (hr:1<=r):Kb [sD seen,.int r,nd]=.ok (match BO W seen r ns with | some w=>cd w | none=>.non,[.non,.non,.non]):=by
 have u:(LS seen).length<=20:=by have:=S.s; lia
 have h1:=Jn S.n u S.w S.a;have p:=qbh W 0 seen;have hn:=S.n;have h2:=Xr (CL W 0 seen) (by lia);have b:=qh4 u S.w S.a;have t:=qh0 S.w S.a;obtain ⟨f1,_,f3,f4⟩:=Wz (CL W 0 seen) [];have j:∀ c∈FO [] (CL W 0 seen),c∈CL W 0 seen:=λc i=>by
  rcases f1 c i with h | h;·cases h
  ·exact h
 unfold BO;generalize hC:CL W 0 seen=C at h1 h2 p b t f3 j;generalize D:FO [] C=F at h2 f3 j;obtain ⟨G,E,y⟩:=qbf (F:=F) (λc i=>b c (j c i)) C ij ij b f3;refine qw.trans ?_;unfold YY;rw [show qv YX [sD seen,.int r,nd]=[ii (sD seen),ii (.int r),ii (nd),ij,ij,ij,ij,ij] from rfl];have m:=S.e;refine (qx (ρ1:=[ii (sD seen),ii (.int r),ii (nd),ii (.lst (cD C)),ij,ij,ij,ij]) (by simp [m,h1])).trans ?_;refine (qx (ρ1:=[ii (sD seen),ii (.int r),ii (nd),ii (.lst (cD C)),ii (.dct (fD F)),ij,ij,ij]) (by simp [h2])).trans ?_;have x:=yn (own:=[]) (cap:=[4]) (nt:=2) (fi:=jN (qc 3)) (g:=qX 2 (qp (gNm 0) (qp (gNm 1) qW))) (ft:=joT) (fe:=joE) (ρ:=[ii (sD seen),ii (.int r),ii (nd),ii (.lst (cD C)),ii (.dct (fD F)),ij,ij,ij]) (ρ1:=[ii (sD seen),ii (.int r),ii (nd),ii (.lst (cD C)),ii (.dct (fD F)),ij,ij,ij]) (ds:=cD C) rfl (by simp [cD]; exact qY (by lia)) y;refine (qx (ρ1:=[ii (sD seen),ii (.int r),ii (nd),ii (.lst (cD C)),ii (.dct (fD F)),ii (.lst (cD (JN F C))),ij,ij]) (by rw [gN,x]; rfl)).trans ?_;have B:(JN F C).length<=6:=by
  unfold JN;rw [aB];have:=cK (λc:Ci=>odd c.2) C
  lia
 have z:(cD C).length+(cD (JN F C)).length<=sizeLine:=by simp [cD]; exact qY (by lia)
 have l:∀ w∈C++JN F C,∀ k∈w.2,k < ns.length:=λw m k v=>by
  rw [A];rcases ao.mp m with h | h;·exact t w h k v
  ·obtain ⟨c,i,rfl⟩:=aw.mp h;have i:=(bV.mp i).1;rcases ao.mp v with h | h
   ·unfold Kz at h;cases w:F.find? λd=>decide (d.1=c.1) with
    | none=>rw [w] at h; cases h
    | some d=>rw [w] at h;exact t d (j d (bA w)) k h
   ·exact t c i k h
 obtain ⟨ρ,e⟩:=qbg o hr (ii (sD seen)) (ii (.lst (cD C))) (ii (.dct (fD F))) (ii (.lst (cD (JN F C)))) (C++JN F C) ij ij l;have f:wW (jN (d2 jL (qc 3) (qc 5))) (qX 2 (qp (gNm 6) (qp (gNm 7) qW))) baB [ii (sD seen),ii (.int r),ii (nd),ii (.lst (cD C)),ii (.dct (fD F)),ii (.lst (cD (JN F C))),ij,ij]=kO (qX 2 (qp (gNm 6) (qp (gNm 7) qW))) baB (cD (C++JN F C)) [ii (sD seen),ii (.int r),ii (nd),ii (.lst (cD C)),ii (.dct (fD F)),ii (.lst (cD (JN F C))),ij,ij]:=by rw [jI,show jN (d2 jL (qc 3) (qc 5)) [ii (sD seen),ii (.int r),ii (nd),ii (.lst (cD C)),ii (.dct (fD F)),ii (.lst (cD (JN F C))),ij,ij]=.ok (cD (C++JN F C),[ii (sD seen),ii (.int r),ii (nd),ii (.lst (cD C)),ii (.dct (fD F)),ii (.lst (cD (JN F C))),ij,ij]) by simp [z,jK];simp [cD]];rfl
 cases q:(C++JN F C).find? λw=>Xn w.2 r ns with
 | some w=>rw [q] at e;rw [yG,f.trans e];rfl
 | none=>rw [q] at e;refine (qx (f.trans e)).trans ?_;rfl
theorem Xu (w:jp ws) (hl:QJ p q):xY [Wd ws,Ld p q]=.ok (sD (qo ws p q),[.non,.non]):=Kw w hl
def wZ (n:Nat) (r:Int) (ns:List Int):Prop:=ns.length=n/\∀ i∈ns,0<=i/\i < r
theorem KA (h:wZ n r ns) (hn:n<=50):uA [nD ns,.int (n:Nat),.int r]=.ok (.bl ir,[.non,.non,.non]):=by
 have ht:=Ql (d:=nD ns) trivial;have e:=vS (cap:=[2]) (fi:=jN (qc 0)) (ρ:=[ii (nD ns),ii (.int (n:Nat)),ii (.int r)]) (ρ1:=[ii (nD ns),ii (.int (n:Nat)),ii (.int r)]) (ds:=ns.map D.int) (fe:=qm [.vl,.vl,.vl] ja (qb (qc 0) (qb (dC (.int 0)) (qb (d2 zM (qc 1) (dC (.int 1))) qr)))) (λd=>.bl (uR 0 (r - 1) d)) (by simp [jK]) (by rw [aB,h.1]; exact qY (by lia)) (λd hd=>by obtain ⟨i,hi,rfl⟩:=aw.mp hd;have h1:=ke (d:=.int i) trivial 0 (r - 1);simp [yz,h1]);have g:=wS (uR 0 (r - 1)) (ns.map D.int);have c:(ns.map D.int).all (uR 0 (r - 1))=true:=by
  rw [aL];intro d hd;obtain ⟨i,hi,rfl⟩:=aw.mp hd;have:=h.2 i hi;simp [uR]
  lia
 rw [c] at g;have a:(ns.map D.int).length=n:=by rw [aB,h.1]
 refine qw.trans ?_;simp [-bH,zx,qv,ht,yM,neD,eqN,eqS,h.1,e,g]
theorem zU (h:wZ n r ns) (hn:n<=50):vF [nD ns,.int (n:Nat),.int r]=.ok (.non,[.non,.non,.non]):=by have h1:=KA h hn;refine qw.trans ?_;simp [uB,qv,h1]
theorem Qq (w:jp ws) (hl:QJ p q) (a:1<=r) (h1:r<=99) (hn:wZ ws.length r ns):jV [Wd ws,Ld p q,.int r,nD ns]=.ok (sD (qo ws p q),[.non,.non,.non,.non]):=by have e1:=Xu w hl;have e2:=wT (d:=.int r) trivial;rw [Aa (by simp [uR]; exact ⟨a,h1⟩)] at e2;have e3:=zU hn (by have:=w.2.1; lia);refine qw.trans ?_;simp [zD,qv,e1,e2,e3]
theorem qh5 (w:jp ws) (p q:Int):∃ W,Sn (qo ws p q) W:=by
 have h1:(qo ws p q).length<=6:=by simp [qo]; exact w.2.1
 have h2:=Wx w p q;obtain ⟨W,a,b,c,m,d,e⟩:=ZF h1 h2;exact ⟨W,h1,h2,a,b,c,d,e,λx hx=>by
  obtain ⟨k,_,rfl⟩:=ZE w p q x hx;show 1<=2000
  lia,m⟩
theorem qbj (h:jp ws) (hl:QJ p q) (a:1<=r) (h1:r<=99) (hn:wZ ws.length r ns) (S:Sn (qo ws p q) W):UE [Wd ws,Ld p q,.int r,nD ns]=.ok (match BO W (qo ws p q) r ns with | some w=>cd w | none=>.non,[.non,.non,.non,.non]):=by have e1:=Qq h hl a h1 hn;have e2:=qbi S (Xm ns) (by rw [hn.1]; simp [qo]) a;refine qw.trans ?_;simp [qhN,qv,e1,e2]
noncomputable def QH (t r:Int):Int:=if t % r % 2=0 then t % r / 2 else (t % r+r) / 2
theorem qf3 (t:Int) (hr:1<=r):qaW [.int t,.int r]=.ok (.int (QH t r),[.non,.non]):=by
 have a:0 < r:=by lia
 have d:∀ i,qgo i 2:=λi=>⟨by lia,by lia⟩
 unfold QH;refine qw.trans ?_;by_cases q:t % r % 2=0 <;> simp [qeb,qv,vL,yz,a,eqD,eqN,eqS,XM,d,q]
noncomputable def rW (l:Wk) (r:Int) (ns:List Int):List Int:=if l=[] then (aP r.toNat).map λ(j:Nat)=>(j:Int) else if r % 2=0 then [QH (jX ns 0 l) r,QH (jX ns 0 l) r+r / 2] else [QH (jX ns 0 l) r]
abbrev iD (xs:List Int):D:=.lst (xs.map D.int)
theorem QI {l:Wk} (h:∀ k∈l,k < ns.length) (hr:1<=r) (h9:r<=99):vj [lD l,.int r,nD ns]=.ok (iD (rW l r ns),[.non,.non,.non]):=by
 have z2:2<=sizeLine:=qY (by lia);have z1:1<=sizeLine:=qY (by lia);have d:∀ i,qgo i 2:=λi=>⟨by lia,by lia⟩
 refine qw.trans ?_;unfold rW;cases l with
 | nil=>
  have c1:qhE 0 r/\r - 0<=1000000:=⟨⟨⟨by lia,by lia⟩,by lia,by lia⟩,by lia⟩
  have e:xp (.int r)=.ok (.lst ((aP r.toNat).map λ(j:Nat)=>.int (j:Int))):=by unfold xp;dsimp only;rw [Aa c1,Int.sub_zero];simp [yQ]
  rw [Aa rfl,show iD ((aP r.toNat).map λ(j:Nat)=>(j:Int))=.lst ((aP r.toNat).map λ(j:Nat)=>.int (j:Int)) by simp [iD]];simp [vi,qv,inL,eqD,eqN,eqS,e]
 | cons a l=>
  have h1:=yO (Xm ns) h 0;have h2:=qf3 (jX ns 0 (a::l)) hr;have n:¬inL (a::l)=[]:=by simp [inL]
  rw [Ab (by simp)];generalize hx:jX ns 0 (a::l)=t at h1 h2;generalize C:QH t r=w at h2;generalize z:lD (a::l)=ld at h1;have b:kZ ld=.ok (.int ((inL (a::l)).length:Int)):=by rw [<-z]; rfl
  by_cases q:r % 2=0;·rw [Aa q];simp [vi,qv,b,eqD,eqN,eqS,n,h1,h2,vL,yz,q,XM,d,z2]
  ·rw [Ab q];simp [vi,qv,b,eqD,eqN,eqS,n,h1,h2,vL,yz,q,z1]
noncomputable def RT (W:Wy):List Str:=(kg (kW W)).filter λx=>decide ((jx W x).1=x)
abbrev Rt:=Str×List Int
noncomputable def rd (x:Rt):D:=.tup [.str x.1,iD x.2]
noncomputable def RO (W:Wy) (seen:List Pr) (r:Int) (ns:List Int):List Rt:=(RT W).map λx=>(x,rW (Kz (FO [] (CL W 0 seen)) x) r ns)
theorem UY:∀ W:Wy,xU (wD W)=ii (kW W)
 | []=>rfl
 | e::W=>by have i:=UY W;show (xU (wD W)).map (e.1::·)=_;rw [i];rfl
theorem UZ (S:Sn seen W) (A:ns.length=seen.length) (hr:1<=r) (h9:r<=99):yi [sD seen,.int r,nD ns]=.ok (.lst ((RO W seen r ns).map rd),[.non,.non,.non]):=by
 have B:(LS seen).length<=20:=by have:=S.s; lia
 have h1:=Jn S.n B S.w S.a;have i:=qbh W 0 seen;have hn:=S.n;have h2:=Xr (CL W 0 seen) (by lia);have t:=qh0 S.w S.a;obtain ⟨f1,_,f3,f4⟩:=Wz (CL W 0 seen) [];have j:∀ c∈FO [] (CL W 0 seen),c∈CL W 0 seen:=λc E=>by
  rcases f1 c E with h | h;·cases h
  ·exact h
 unfold RO;generalize hC:CL W 0 seen=C at h1 h2 i t f3 j;generalize H:FO [] C=F at h2 f3 j;have R:=S.w.le;have p:=S.s;have b:(kW W).length < 64:=by simp [kW]; lia
 have g:((kW W).all λy=>decide (y.length<=sizeLine))=true:=by rw [aL];intro y q;exact Ad (qY (S.z y (S.w.sub y q)))
 have o:kG (.dct (wD W))=.ok (.lst ((kg (kW W)).map D.str)):=by unfold kG;simp only [UY];rw [Aa ⟨b,g⟩]
 have m:∀ x∈kg (kW W),x∈kW W:=λx hx=>(qI _).mem_iff.mp hx;have v:(kg (kW W)).length<=12:=by rw [(qI _).length_eq]; simp [kW]; lia
 refine qw.trans ?_;unfold Ji;rw [show qv Jh [sD seen,.int r,nD ns]=[ii (sD seen),ii (.int r),ii (nD ns),ij,ij,ij] from rfl];have u:=S.e;refine (qx (ρ1:=[ii (sD seen),ii (.int r),ii (nD ns),ii (.dct (wD W)),ij,ij]) (by simp [u])).trans ?_;refine (qx (ρ1:=[ii (sD seen),ii (.int r),ii (nD ns),ii (.dct (wD W)),ii (.dct (fD F)),ij]) (by simp [h1,h2])).trans ?_;have c1:=qed (own:=[]) (cap:=[3]) (fi:=jN (d1 kG (qc 3))) (ft:=qC (d2 eqD (d2 ixD (d2 ixD (qc 1) (qc 0)) (dC (.int 0))) (qc 0))) (fe:=qc 0) (ρ:=[ii (sD seen),ii (.int r),ii (nD ns),ii (.dct (wD W)),ii (.dct (fD F)),ij]) (ρ1:=[ii (sD seen),ii (.int r),ii (nD ns),ii (.dct (wD W)),ii (.dct (fD F)),ij]) (ds:=(kg (kW W)).map D.str) (λd=>match d with | .str x=>decide ((jx W x).1=x) | _=>iq) (λd=>d) (by simp) (by simp [o,jK]) (by rw [aB]; exact qY (by lia)) (λd hd=>by obtain ⟨x,hx,rfl⟩:=aw.mp hd;have i1:=Ky S.w.nd (m x hx);simp [i1,qf1,eqD,eqN,eqS];rfl) (λd hd _=>by simp);have e1:(((kg (kW W)).map D.str).filter λd=>match d with | .str x=>decide ((jx W x).1=x) | _=>iq).map (λd=>d)=(RT W).map D.str:=by rw [List.map_id',List.filter_map];rfl
 rw [e1] at c1;refine (qx (ρ1:=[ii (sD seen),ii (.int r),ii (nD ns),ii (.dct (wD W)),ii (.dct (fD F)),ii (.lst ((RT W).map D.str))]) (by rw [gN,c1]; rfl)).trans ?_;have G:(RT W).length<=12:=by
  have:=cK (λx=>decide ((jx W x).1=x)) (kg (kW W));unfold RT
  lia
 have z2:2<=sizeLine:=qY (by lia);have c2:=vS (cap:=[1,2,4]) (fi:=jN (qc 5)) (fe:=jT (qb (qc 0) (qb (qm [.vl,.vl,.vl] vj (qb (qcX (qc 3) (qc 0) (kJ qr)) (qb (qc 1) (qb (qc 2) qr)))) qr))) (ρ:=[ii (sD seen),ii (.int r),ii (nD ns),ii (.dct (wD W)),ii (.dct (fD F)),ii (.lst ((RT W).map D.str))]) (ρ1:=[ii (sD seen),ii (.int r),ii (nD ns),ii (.dct (wD W)),ii (.dct (fD F)),ii (.lst ((RT W).map D.str))]) (ds:=(RT W).map D.str) (λd=>match d with | .str x=>rd (x,rW (Kz F x) r ns) | d=>d) (by simp [jK]) (by rw [aB]; exact qY (by lia)) (λd hd=>by
  obtain ⟨x,hx,rfl⟩:=aw.mp hd;have g1:=qh2 F x;have l:∀ k∈Kz F x,k < ns.length:=λk f=>by
   unfold Kz at f;cases w:F.find? λd=>decide (d.1=x) with
   | none=>rw [w] at f; cases f
   | some d=>rw [w] at f;rw [A];exact t d (j d (bA w)) k f
  have I:=QI l hr h9;simp [qcX,xQ,g1,I,z2,rd])
 have e2:((RT W).map D.str).map (λd=>match d with | .str x=>rd (x,rW (Kz F x) r ns) | d=>d)=((RT W).map λx=>(x,rW (Kz F x) r ns)).map rd:=by rw [bH,bH];rfl
 rw [e2] at c2;rw [JH,c2];rfl
theorem qbk (l:List Pr):(LS l).Nodup:=(qI _).nodup_iff.mpr (uS _ [] cm).1
theorem qds (h:(qt l).Nodup):YQ (.lst (prL l))=.ok (.dct (bk l)):=by have:=UT l [] h (by simp);unfold YQ;simp only [Qm];rw [this];rfl
noncomputable def qdt (l:List (Str×Int)) (s:List Pr) (r:Int):List Int:=s.map λx=>(je l x.1+je l x.2) % r
theorem iR0 {f:jl} {k:Int} (a:0<=k) (h1:k<=2000) (h:f ρ=.ok (.int k,ρ1)):jA f ρ=.ok (yQ 0 k.toNat,ρ1):=by
 have c1:-(2 ^ 62:Int)<=k/\k < 2 ^ 62:=by lia
 simp [jA,h,-Int.reducePow,c1]
structure Told (ws:List Str) (p q r:Int) (ns:List Int):Prop where
 w:jp ws
 w5:ws.length<=6
 l:QJ p q
 r0:1<=r
 r9:r<=99
 n:wZ ws.length r ns
noncomputable def sg (l:Wk):Int:=if odd l=ir then -1 else 1
theorem qdu (k:Nat) (l:Wk):odd (k::l)=!odd l:=by
 unfold odd;rw [ah];by_cases h:l.length % 2=1;·rw [Ad h,Ac (by lia)]; rfl
 ·rw [Ac h,Ad (by lia)]; rfl
theorem qf4 (k:Nat) (l:Wk):sg (k::l)=- sg l:=by unfold sg;rw [qdu];cases odd l <;> rfl
theorem zg (ns:List Int) (t:Int) (k:Nat) (l:Wk):jX ns t (k::l)=jX ns (nI ns k - t) l:=rfl
theorem yo (ns:List Int):∀ (l:Wk) (t:Int),jX ns t l=jX ns 0 l+sg l * t
 | [],t=>by simp [jX,sg,odd]
 | k::l,t=>by
  have h1:=yo ns l (nI ns k - t);have h2:=yo ns l (nI ns k - 0);rw [zg,zg,h1,h2,qf4,ia,ia,Int.neg_mul];simp
  lia
theorem qdv (l:Wk):sg l=1\/sg l=-1:=by
 unfold sg;split;·exact .inr rfl
 ·exact .inl rfl
theorem qh6 {a:Int} (l:Wk):r ∣ sg l * a↔r ∣ a:=by
 rcases qdv l with h | h;·rw [h,Int.one_mul]
 ·rw [h,Int.neg_one_mul,Int.dvd_neg]
theorem qf5 {a b:Int}:a % r=b % r↔r ∣ a - b:=by rw [Int.emod_eq_emod_iff_emod_sub_eq_zero,Int.dvd_iff_emod_eq_zero]
def Sol (seen:List Pr) (r:Int) (ns:List Int) (v:Str->Int):Prop:=∀ (k:Nat) (p:Pr),seen[k]?=ii p->r ∣ v p.1+v p.2 - nI ns k
def okS (r:Int) (ns:List Int) (c:Wk) (s:Int):Prop:=r ∣ jX ns s c - s
variable {c:Wk}
theorem qdw (h:odd c=iq) (s:Int):okS r ns c s↔r ∣ jX ns 0 c:=by unfold okS;rw [yo,show sg c=1 by unfold sg; rw [h]; rfl,Int.one_mul,Int.add_sub_cancel]
theorem qf6 (h:odd c=ir) (s:Int):okS r ns c s↔r ∣ jX ns 0 c - 2 * s:=by unfold okS;rw [yo,show sg c=-1 by unfold sg; rw [h]; rfl,show jX ns 0 c + -1 * s - s=jX ns 0 c - 2 * s by lia]
theorem qbl (p:Pr):oth p p.1=p.2:=by unfold oth; rw [Aa rfl]
theorem qbm (S:Sn seen W) {p:Pr} (hp:p∈seen):(jx W p.1).1=(jx W p.2).1:=by obtain ⟨h1,h2⟩:=uU S.a p hp;obtain ⟨e,i,e1,e2⟩:=S.C _ (jQ h1) p hp (.inl rfl);simp only [] at e1 e2;rw [qbl] at e1;have:=gj S.w.nd i (jQ h2) e1;rw [this] at e2;exact e2.symm
noncomputable def vO (W:Wy) (r:Int) (ns:List Int) (σ:Str->Int) (x:Str):Int:=jX ns (σ (jx W x).1) (jx W x).2 % r
theorem qdx (h:odd c=iq):Xn c r ns=iq↔r ∣ jX ns 0 c:=by unfold Xn;rw [h,Ab bC,Int.dvd_iff_emod_eq_zero];simp
theorem qf7 (h:odd c=ir):Xn c r ns=iq↔¬(r % 2=0/\jX ns 0 c % 2=1):=by unfold Xn;rw [h,Aa rfl];simp
section
abbrev FF (W:Wy) (seen:List Pr):List Ci:=FO [] (CL W 0 seen)
end
theorem qjV {t s:Int} (hr:1<=r) (s0:0<=s) (s1:s < r) (hp:¬(r % 2=0/\t % 2=1)):r ∣ t - 2 * s↔s∈(if r % 2=0 then [QH t r,QH t r+r / 2] else [QH t r]):=by
 have d:0 < r:=by lia
 have k:=dZ t (show r≠0 by lia);have i:=dw t d;have hd:r ∣ t - t % r:=Int.dvd_self_sub_emod;have a:r % 2=0->t % r % 2=0:=λe=>by
  obtain ⟨m,c⟩:=hd;obtain ⟨j,D⟩:=Int.dvd_of_emod_eq_zero e;have:t % 2=0:=by
   have:=Int.emod_two_eq t;rcases this with h | h;·exact h
   ·exact absurd ⟨e,h⟩ hp
  have e2:r * m=2 * (j * m):=by rw [D,Int.mul_assoc]
  generalize t % r=u at c ⊢
  lia
 have key:r ∣ t - 2 * s↔(t % r - 2 * s=0\/t % r - 2 * s=-r):=by
  constructor
  ·intro h;have h2:r ∣ t % r - 2 * s:=by
    have e:t % r - 2 * s=(t - 2 * s) - (t - t % r):=by lia
    rw [e];exact Int.dvd_sub h hd
   generalize t % r=u at *;by_cases q:2 * s<=u;·refine .inl ?_;have:=et h2;rwa [cQ (by lia) (by lia)] at this
   ·by_cases b:2 * s<=u+r
    ·refine .inr ?_;have g:r ∣ u - 2 * s+r:=fM h2 ⟨1,by simp⟩;have:=et g;rw [cQ (by lia) (by lia)] at this
     lia
    ·exfalso;have g:r ∣ u - 2 * s+r+r:=fM (fM h2 ⟨1,by simp⟩) ⟨1,by simp⟩;have:=et g;rw [cQ (by lia) (by lia)] at this
     lia
  ·intro h;have e:t - 2 * s=(t - t % r)+(t % r - 2 * s):=by lia
   rw [e];refine fM hd ?_;rcases h with h | h;·rw [h]; exact ⟨0,by simp⟩
   ·rw [h]; exact ⟨-1,by simp⟩
 rw [key];clear hp hd key;unfold QH;by_cases q:r % 2=0
 ·have f:=a q;clear a;rw [Aa q,Aa f];generalize t % r=u at *;simp only [ac,aM,or_false];constructor
  ·rintro (h | h);·exact .inl (by lia)
   ·exact .inr (by lia)
  ·rintro (h | h);·exact .inl (by lia)
   ·exact .inr (by lia)
 ·rw [Ab q];clear a;generalize t % r=u at *;rw [aA];by_cases b:u % 2=0
  ·rw [Aa b];constructor;·rintro (h | h) <;> lia
   ·intro h; exact .inl (by lia)
  ·rw [Ab b];constructor;·rintro (h | h) <;> lia
   ·intro h; exact .inr (by lia)
section
abbrev ch (W:Wy) (seen:List Pr) (r:Int) (ns:List Int) (x:Str):List Int:=rW (Kz (FF W seen) x) r ns
end
abbrev Ln:=List (Str×Int)
theorem Xv (f:Str->Int) (L:List Str):qt (L.map λx=>(x,f x))=L:=by unfold qt;rw [bH];exact List.map_id' L
theorem Xw {α:Type} [DecidableEq α]:∀ {a b:List α},a.Nodup->(∀ x∈a,x∈b)->a.length<=b.length
 | [],b,_,_=>bh _
 | x::a,b,hn,h=>by
  have r:=aR.mp hn;have hx:=h x (aq ..);have i:=Xw (b:=b.erase x) r.2 λy C=>(List.mem_erase_of_ne (λz=>r.1 (by rw [<-z]; exact C))).mpr (h y (af _ C));rw [List.length_erase_of_mem hx] at i;have:=eZ hx;rw [ah]
  lia
section
theorem qf8 (S:Sn seen W) (C:y∈kW W):(jx W y).1∈kW W/\jx W (jx W y).1=((jx W y).1,[]):=by have h1:=S.R _ (jQ C);have h2:(jx W y).1∈kW W:=aw.mpr ⟨_,h1,rfl⟩;have:=gj S.w.nd (jQ h2) h1 rfl;refine ⟨h2,?_⟩;injection this
theorem qh7:x∈RT W↔x∈kW W/\(jx W x).1=x:=by unfold RT;rw [bV,(qI _).mem_iff];simp
theorem qjW (S:Sn seen W):(RT W).Nodup:=((qI _).nodup_iff.mpr S.w.nd).filter _
end
noncomputable def bl (W:Wy) (r:Int) (ns:List Int) (L:List Str) (l:Ln):Ln:=L.map λx=>(x,vO W r ns (je l) x)
theorem qbn (S:Sn seen W):kg (kW W)=LS seen:=by refine uu ?_ (qT _) (by unfold LS; exact qT _);exact (qI _).trans (Ww S.w.nd (qbk _) λx=>⟨λh=>S.w.sub x h,λh=>S.a x h⟩)
abbrev wfB:qN:=(qD (qU 7 (d2 ixD (qc 3) (d2 ixD (d2 ixD (qc 4) (qc 6)) (dC (.int 0)))))
  (kz (gz 5 ga (jT (qb (qc 6) (qb (d2 vL (qm [.vl,.vl,.vl] vo (qb (d2 ixD (d2 ixD (qc 4) (qc 6)) (dC (.int 1))) (qb (qc 2) (qb (qc 7) qr)))) (qc 1)) qr))))))
variable {st:Ln}
theorem qbo (S:Sn seen W) (hr:1<=r) (A:ns.length=seen.length) (c:∀ y∈kW W,(jx W y).1∈qt st) (a:Option D):∀ (L:List Str) (acc:Ln) (x y:Option D),(∀ z∈L,z∈kW W)->acc.length+L.length<=100 ->∃ n s,kO (gNm 6) wfB (L.map D.str) [a,ii (.int r),ii (nD ns),ii (.dct (bk st)),ii (.dct (wD W)),ii (.lst (prL acc)),x,y]=.ok (.nx,[a,ii (.int r),ii (nD ns),ii (.dct (bk st)),ii (.dct (wD W)),ii (.lst (prL (acc++bl W r ns L st))),n,s])
 | [],acc,x,y,_,_=>⟨x,y,by simp [kO,bl]⟩
 | z::L,acc,x,y,hL,hl=>by
  rw [ah] at hl;have b:=hL z (aq ..);have i1:=Ky S.w.nd b;have i2:=QG (c z b);have t:∀ k∈(jx W z).2,k < ns.length:=λk m=>by rw [A];exact (S.w.path _ (jQ b)).lt k m
  have g:=yO (Xm ns) t (je st (jx W z).1);obtain ⟨n,s,i⟩:=qbo S hr A c a L (acc++[(z,vO W r ns (je st) z)]) (ii (.str z)) (ii (.int (je st (jx W z).1))) (λw j=>hL w (af _ j)) (by rw [ae]; simp; lia);have f:0 < r:=by lia
  have z2:2<=sizeLine:=qY (by lia);have h:(prL acc).length < sizeLine:=aI (by simp [prL]; lia) big;have e:acc++[(z,vO W r ns (je st) z)]++bl W r ns L st=acc++bl W r ns (z::L) st:=by simp [bl]
  rw [e] at i;have e2:prL (acc++[(z,vO W r ns (je st) z)])=prL acc++[.tup [.str z,.int (jX ns (je st (jx W z).1) (jx W z).2 % r)]]:=by simp [prL,vO]
  refine ⟨n,s,eU (jP (d:=.str z) (ρ1:=[a,ii (.int r),ii (nD ns),ii (.dct (bk st)),ii (.dct (wD W)),ii (.lst (prL acc)),ii (.str z),y]) rfl ?_) i⟩;rw [e2];unfold wfB;rw [Qv (ρ1:=[a,ii (.int r),ii (nD ns),ii (.dct (bk st)),ii (.dct (wD W)),ii (.lst (prL acc)),ii (.str z),ii (.int (je st (jx W z).1))]) (by generalize D.dct (bk st)=Y at i2 ⊢;generalize D.dct (wD W)=Z at i1 ⊢;simp [i1,qf1,i2])];have hi:uo ([a,ii (.int r),ii (nD ns),ii (.dct (bk st)),ii (.dct (wD W)),ii (.lst (prL acc)),ii (.str z),ii (.int (je st (jx W z).1))]:Sl)[5]?=true:=rfl;generalize D.dct (bk st)=Y at i2 hi ⊢;generalize D.dct (wD W)=Z at i1 hi ⊢;generalize l:lD (jx W z).2=U at i1 g;simp [i1,qgs,g,vL,yz,f,z2,ga,h,uo]
theorem qf9 (S:Sn seen W) (hr:1<=r) (A:ns.length=seen.length) (c:∀ y∈kW W,(jx W y).1∈qt st):wP [sD seen,.int r,nD ns,.dct (bk st)]=.ok (.tup (prL (bl W r ns (LS seen) st)),[.non,.non,.non,.non]):=by
 have R:=S.w.le;have p:=S.s;have b:(kW W).length < 64:=by simp [kW]; lia
 have g:((kW W).all λy=>decide (y.length<=sizeLine))=true:=by rw [aL];intro y C;exact Ad (qY (S.z y (S.w.sub y C)))
 have o:kG (.dct (wD W))=.ok (.lst ((LS seen).map D.str)):=by unfold kG;simp only [UY];rw [Aa ⟨b,g⟩,qbn S]
 obtain ⟨n,d,e⟩:=qbo S hr A c (ii (sD seen)) (LS seen) [] ij ij (λz h=>S.a z h) (by simp; lia);rw [bW] at e;have f:=S.e;refine qw.trans ?_;unfold xE;rw [show qv xD [sD seen,.int r,nD ns,.dct (bk st)]=[ii (sD seen),ii (.int r),ii (nD ns),ii (.dct (bk st)),ij,ij,ij,ij] from rfl];refine (qx (ρ1:=[ii (sD seen),ii (.int r),ii (nD ns),ii (.dct (bk st)),ii (.dct (wD W)),ij,ij,ij]) (by simp [f])).trans ?_;refine (qx (ρ1:=[ii (sD seen),ii (.int r),ii (nD ns),ii (.dct (bk st)),ii (.dct (wD W)),ii (.lst []),ij,ij]) (by simp)).trans ?_;refine (qx (ρ1:=[ii (sD seen),ii (.int r),ii (nD ns),ii (.dct (bk st)),ii (.dct (wD W)),ii (.lst (prL (bl W r ns (LS seen) st))),n,d]) (by rw [jI,show jN (d1 kG (qc 4)) [ii (sD seen),ii (.int r),ii (nD ns),ii (.dct (bk st)),ii (.dct (wD W)),ii (.lst []),ij,ij]=.ok ((LS seen).map D.str,[ii (sD seen),ii (.int r),ii (nD ns),ii (.dct (bk st)),ii (.dct (wD W)),ii (.lst []),ij,ij]) by simp [o,jK],jR];exact e)).trans ?_;simp [jU]
def qkx (d:D):Prop:=Pl d/\∀ xs,d=.tup xs->∀ x∈xs,Pl x
noncomputable def qbp (room:Int):D->Bool
 | .tup [a,b]=>Wv a&&uR 0 (room - 1) b
 | _=>iq
theorem Yb (h:qkx d) (room:Int):yj [d,.int room]=.ok (.bl (qbp room d),[.non,.non]):=by
 refine qw.trans ?_;have ht:=Ql h.1;cases d with
 | tup xs=>
  have hp:=h.2 xs rfl
  match xs,hp with
  | [],_=>simp [vp,qv,ht,yM,neD,eqN,eqS,qbp]
  | [a],_=>simp [vp,qv,ht,yM,neD,eqN,eqS,qbp]
  | [a,b],hp=>have h1:=vU (hp a (by simp));have h2:=ke (hp b (by simp)) 0 (room - 1);cases f:Wv a <;> simp [vp,qv,ht,yM,neD,eqN,eqS,qbp,ixD,at0,at1,h1,h2,f,yz]
  | a::b::c::l,_=>
   have e:¬((l.length:Int)+1+1+1=2):=by lia
   simp [vp,qv,ht,yM,neD,eqN,eqS,qbp,e]
 | _=>first | exact h.1.elim | simp [vp,qv,ht,yM,qbp]
def OkW (room:Int) (l:List (Str×Int)):Prop:=∀ x∈l,Wv (.str x.1)=ir/\0<=x.2/\x.2 < room
variable {room:Int}
theorem qga (h:OkW room l):(prL l).all (qbp room)=true:=by
 rw [aL];intro d hd;obtain ⟨x,hx,rfl⟩:=aw.mp hd;obtain ⟨h1,h2,g⟩:=h x hx;simp [qbp,h1,uR,h2]
 lia
theorem WA:∀ (a b:List Str),wU (eqN 7) (a.map D.str) (b.map D.str)=ii (decide (a.take (min a.length b.length)=b.take (min a.length b.length)))
 | [],b=>by simp [wU]
 | a::l,[]=>by simp [wU]
 | a::l,b::m=>by have i:=WA l m;simp only [aH,wU,i,eqN,eqS,ah,Nat.succ_eq_add_one,Nat.add_min_add_right,List.take_succ_cons];by_cases h:a=b <;> simp [h]
theorem qdy (a b:List Str):eqD (.lst (a.map D.str)) (.lst (b.map D.str))=.ok (.bl (decide (a=b))):=by
 by_cases h:a.length=b.length;·have e:=WA a b;rw [h,Nat.min_self,fh,<-h,fh] at e;simp [eqD,eqN,h,e]
 ·have c:a≠b:=λz=>h (by rw [z]);simp [eqD,eqN,h,c]
noncomputable def KB (l:List (Str×Int)):Bool:=decide (qt l=kg ((qt l).foldl xm []))
theorem WB (h:Pl d) (hn:yM d=iq) (room:Int):kt [d,.int room]=.ok (.bl iq,[.non,.non]):=by refine qw.trans ?_;have ht:=Ql h;simp [wQ,qv,ht,hn]
theorem zK (h:∀ d∈ds,qkx d) (hl:ds.length<=50) (room:Int):(ds.all (qbp room)=iq->kt [.tup ds,.int room]=.ok (.bl iq,[.non,.non]))/\∀ l,ds=prL l->OkW room l->kt [.tup ds,.int room]=.ok (.bl (KB l),[.non,.non]):=by
 have z:ds.length<=sizeLine:=qY (by lia);have ht:=Ql (d:=.tup ds) trivial;have e1:=vS (cap:=[1]) (fi:=jN (qc 0)) (ρ:=[ii (.tup ds),ii (.int room),ij]) (ρ1:=[ii (.tup ds),ii (.int room),ij]) (ds:=ds) (fe:=qm [.vl,.vl] yj (qb (qc 0) (qb (qc 1) qr))) (λd=>.bl (qbp room d)) (by simp [jK]) z (λd hd=>by have h1:=Yb (h d hd) room;simp [h1]);have g:=wS (qbp room) ds;constructor;·intro c;refine qw.trans ?_;simp [wQ,qv,ht,yM,e1,g,c]
 ·rintro l rfl w;refine qw.trans ?_;have c:=qga w;have e2:=vS (cap:=[]) (fi:=jN (qc 0)) (ρ:=[ii (.tup (prL l)),ii (.int room),ij]) (ρ1:=[ii (.tup (prL l)),ii (.int room),ij]) (ds:=prL l) (fe:=d2 ixD (qc 0) (dC (.int 0))) (λd=>match d with | .tup [a,b]=>a | d=>d) (by simp [jK]) z (λd hd=>by obtain ⟨x,hx,rfl⟩:=aw.mp hd;simp [ixD,at0]);have f2:(prL l).map (λd=>match d with | .tup [a,b]=>a | d=>d)=(qt l).map D.str:=by simp [prL,qt]
  rw [f2] at e2;have j:(qt l).length < 64:=by
   simp [qt];simp [prL] at hl
   lia
  have m:=qdy (qt l) (kg ((qt l).foldl xm []));simp [wQ,qv,ht,yM,e1,g,c,e2,vN,yt,uQ,j,m,KB]
noncomputable def Yc:List Str->Bool
 | x::y::l=>vf x y&&Yc (y::l)
 | _=>ir
theorem qjX (h:vf x y=ir):leS x y/\x≠y:=by
 unfold vf at h;have h:=Ae h;constructor;·exact List.le_of_lt h
 ·rintro rfl;exact List.lt_irrefl _ h
theorem qjY (h:leS x y) (n:x≠y):vf x y=true:=by
 cases e:vf x y with
 | true=>rfl
 | false=>exact absurd (JG h (yF.mp e)) n
theorem Yd:∀ (l:List Str),Yc l=ir->l.Pairwise (λx y=>leS x y/\x≠y)
 | [],_=>eI
 | [x],_=>ej _ _
 | x::y::l,h=>by
  have h:(vf x y&&Yc (y::l))=true:=h;rw [aS] at h;have i:=Yd (y::l) h.2;have b:=qjX h.1;refine bf.mpr ⟨λz c=>?_,i⟩;rcases ac.mp c with rfl | c;·exact b
  ·have a:=(bf.mp i).1 z c;refine ⟨gJ b.1 a.1,λe=>?_⟩;subst e;exact b.2 (JG b.1 a.1)
theorem KC:∀ (l:List Str),l.Pairwise (λx y=>leS x y/\x≠y)->Yc l=ir
 | [],_=>rfl
 | [x],_=>rfl
 | x::y::l,h=>by have h1:=bf.mp h;have b:=h1.1 y (aq ..);show (vf x y&&Yc (y::l))=ir;rw [qjY b.1 b.2,KC (y::l) h1.2];rfl
theorem Xx {l:List Str} (h:l.Pairwise (λx y=>leS x y/\x≠y)):l.Nodup:=h.imp λh=>h.2
theorem KF (L:List Str):decide (L=kg (L.foldl xm []))=Yc L:=by
 cases e:Yc L with
 | true=>
  have p:=Yd L e;have hn:=Xx p;have f:L.foldl xm []=L:=by rw [yN L [] hn (by simp)]; simp
  rw [f];exact Ad (uu (qI L).symm (p.imp λh=>h.1) (qT L))
 | false=>refine Ac λz=>?_;have hn:(kg (L.foldl xm [])).Nodup:=(qI _).nodup_iff.mpr (uS L [] cm).1;have c:=qT (L.foldl xm []);rw [<-z] at hn c;have p:L.Pairwise (λx y=>leS x y/\x≠y):=c.and hn;rw [KC L p] at e;cases e
theorem ZG (h:KB l=ir):(qt l).Nodup:=by unfold KB at h;rw [KF] at h;exact Xx (Yd _ h)
theorem WC (l:List (Str×Int)) (x:Str):XZ (bk l) (.inr x)=decide (x∈qt l):=by
 unfold XZ bk qt;rw [List.any_map]
 induction l with
 | nil=>simp
 | cons a l i=>
  simp only [cG,aH,ac,i];by_cases h:a.1=x;·simp [h]
  ·simp [h,bw h]
theorem qei (w:OkW room l) (h:x∈qt l):0<=je l x/\je l x < room:=(w _ (UU h).1).2
theorem uV {b:Bool} (h:kt [d,.int room]=.ok (.bl b,[.non,.non])):wc [d,.int room]=if b=ir then .ok (.non,[.non,.non]) else .exc "NoWorths" [ii .non,ii .non]:=by refine qw.trans ?_;cases b <;> simp [yy,qv,h,vc]
theorem qbq (t room:Int):gi [.int t,.int room]=.ok (.int (if room<=t then t - room else t),[.non,.non]):=by refine qw.trans ?_;by_cases h:room<=t <;> simp [Xj,qv,geD,yz,h]
theorem qk2 {a b:Int} (g:0<=a/\a < r) (d:0<=b/\b < r):(if r<=a+b then a+b - r else a+b)=(a+b) % r:=by
 split;·rw [<-Int.sub_emod_right,cQ (by lia) (by lia)]
 ·rw [cQ (by lia) (by lia)]
theorem Qr (w:jp ws) (hl:QJ p q) (hr:uR 1 99 (.int r)=ir) (j:OkW r l) (s:KB l=ir) (h:kt [.tup (prL l),.int r]=.ok (.bl ir,[.non,.non])):ku [Wd ws,Ld p q,.int r,.tup (prL l)]=if (LS (qo ws p q)).all (λx=>decide (x∈qt l))=ir then .ok (.tup (qiW l (qo ws p q) r),[.non,.non,.non,.non]) else .exc "NoWorths" nn4:=by
 refine qw.trans ?_;have h1:=Kw w hl;have h2:=wT (d:=.int r) trivial;rw [hr] at h2;have f:=uV h;have c:=qa7 (ZG s);have hn:(qo ws p q).length<=6:=by simp [qo]; exact w.2.1
 have i:=xI (l:=qo ws p q) (by omega);have n:(LS (qo ws p q)).length<=2000:=by unfold LS;rw [(qI _).length_eq];have:=gF ((qo ws p q).map (·.1)++(qo ws p q).map (·.2)) [];simp only [ae,aB,aQ] at this;omega
 have e1:=vS (cap:=[5]) (fi:=jN (qm [.vl] jW (qb (qc 4) qr))) (ρ:=[ii (Wd ws),ii (Ld p q),ii (.int r),ii (.tup (prL l)),ii (.lst (jb (qo ws p q))),ii (.dct (bk l))]) (ρ1:=[ii (Wd ws),ii (Ld p q),ii (.int r),ii (.tup (prL l)),ii (.lst (jb (qo ws p q))),ii (.dct (bk l))]) (ds:=(LS (qo ws p q)).map D.str)
  (fe:=d2 inA (qc 0) (qc 1)) (λd=>match d with | .str x=>.bl (decide (x∈qt l)) | d=>d) (by simp [i,jK]) (by rw [aB]; exact qY n) (λd hd=>by obtain ⟨x,hx,rfl⟩:=aw.mp hd;simp [inA,xQ,WC])
 rw [bH] at e1;have g:=wS (λx=>decide (x∈qt l)) (LS (qo ws p q));have e:jo [] 1 [5] (jN (qm [.vl] jW (qb (qc 4) qr))) (gNm 0) ftT (d2 inA (qc 0) (qc 1)) [ii (Wd ws),ii (Ld p q),ii (.int r),ii (.tup (prL l)),ii (.lst (jb (qo ws p q))),ii (.dct (bk l))]=.ok (.lst ((LS (qo ws p q)).map λx=>.bl (decide (x∈qt l))),[ii (Wd ws),ii (Ld p q),ii (.int r),ii (.tup (prL l)),ii (.lst (jb (qo ws p q))),ii (.dct (bk l))]):=e1;cases hA:(LS (qo ws p q)).all (λx=>decide (x∈qt l)) with
 | false=>rw [hA] at g;simp [ym,qv,h1,h2,f,c,e,g,vc]
 | true=>
  rw [hA] at g;have y:∀ x∈qo ws p q,x.1∈qt l/\x.2∈qt l:=λx hx=>by rw [aL] at hA;exact ⟨Ae (hA x.1 (vV.mpr ⟨x,hx,.inl rfl⟩)),Ae (hA x.2 (vV.mpr ⟨x,hx,.inr rfl⟩))⟩
  have e2:=vS (cap:=[2,5]) (fi:=jN (qc 4)) (ρ:=[ii (Wd ws),ii (Ld p q),ii (.int r),ii (.tup (prL l)),ii (.lst (jb (qo ws p q))),ii (.dct (bk l))]) (ρ1:=[ii (Wd ws),ii (Ld p q),ii (.int r),ii (.tup (prL l)),ii (.lst (jb (qo ws p q))),ii (.dct (bk l))]) (ds:=jb (qo ws p q))
   (fe:=qm [.vl,.vl] gi (qb (d2 jL (d2 ixD (qc 2) (d2 ixD (qc 0) (dC (.int 0)))) (d2 ixD (qc 2) (d2 ixD (qc 0) (dC (.int 1))))) (qb (qc 1) qr))) (λd=>match d with | .tup [.str a,.str b]=>.int ((je l a+je l b) % r) | d=>d) (by simp [jK]) (by simp [jb]; exact qY (by omega)) (λd hd=>by
    obtain ⟨x,hx,rfl⟩:=aw.mp hd;obtain ⟨i1,i2⟩:=y x hx;have S:=QG i1;have R:=QG i2;have wr:=qk2 (qei j i1) (qei j i2);have wi:=qbq (je l x.1+je l x.2) r;rw [wr] at wi;have k0:ixD (.tup [.str x.1,.str x.2]) (.int 0)=.ok (.str x.1):=by simp [ixD,at0]
    have k1:ixD (.tup [.str x.1,.str x.2]) (.int 1)=.ok (.str x.2):=by simp [ixD,at1]
    simp [k0,k1,S,R,wi])
  have f2:(jb (qo ws p q)).map (λd=>match d with | .tup [.str a,.str b]=>.int ((je l a+je l b) % r) | d=>d)=qiW l (qo ws p q) r:=by simp [jb,qiW]
  rw [f2] at e2;simp [ym,qv,h1,h2,f,c,e,g,e2,jU]
noncomputable def hd0 (l:List Int):Int:=(l.head?).getD 0
theorem qh8 (S:Sn seen W) (hr:1<=r) (hn:wZ seen.length r ns) (d:BO W seen r ns=ij):∀ x∈RT W,ch W seen r ns x≠[]:=by
 intro x _ z;have:∃ s,s∈ch W seen r ns x:=by
  unfold ch rW;split;·exact ⟨0,aw.mpr ⟨0,cj.mpr (by lia),rfl⟩⟩
  ·split;·exact ⟨_,aq ..⟩
   ·exact ⟨_,aq ..⟩
 rw [z] at this;obtain ⟨_,h⟩:=this;cases h
theorem qjZ:(RO W seen r ns).map rd=(RT W).map λx=>rd (x,ch W seen r ns x):=by unfold RO;rw [bH];rfl
theorem qh9 (S:Sn seen W):(RT W).length<=100:=by
 have l:=cK (λx=>decide ((jx W x).1=x)) (kg (kW W));have h6:(kg (kW W)).length=(LS seen).length:=by rw [qbn S]
 have:=S.s;unfold RT
 lia
theorem qbr {c:Str->List Int}:∀ (R:List Str) (x y:Option D),(∀ x∈R,c x≠[])->∃ n s,jw (qX 2 (qp (gNm 0) (qp (gNm 1) qW))) ftT (jT (qb (qc 0) (qb (d2 ixD (qc 1) (dC (.int 0))) qr))) (R.map λx=>rd (x,c x)) [x,y]=.ok (prL (R.map λx=>(x,hd0 (c x))),[n,s])
 | [],x,y,_=>⟨x,y,rfl⟩
 | z::R,x,y,h=>by
  obtain ⟨n,s,i⟩:=qbr R (ii (.str z)) (ii (iD (c z))) λw b=>h w (af _ b);have i1:ixD (iD (c z)) (.int 0)=.ok (.int (hd0 (c z))):=by
   have:=h z (aq ..);generalize c z=e at this ⊢;cases e with
   | nil=>exact absurd rfl this
   | cons v e=>simp [ixD,at0,hd0]
  have a:2<=sizeLine:=qY (by lia);refine ⟨n,s,?_⟩;show jw _ _ _ (.tup [.str z,iD (c z)]::_) _=.ok (.tup [.str z,.int (hd0 (c z))]::prL _,_);generalize iD (c z)=I at *;simp [jw,xi,qX,qp,qW,i1,i,a]
theorem qbs (w:jp ws) (hl:QJ p q) (a:1<=r) (h9:r<=99) (hn:wZ ws.length r ns) (S:Sn (qo ws p q) W) (b:BO W (qo ws p q) r ns=ij):∃ l:Ln,(qt l=LS (qo ws p q)/\∀ e∈l,0<=e.2/\e.2 < r)/\gh [Wd ws,Ld p q,.int r,nD ns]=.ok (.tup (prL l),[.non,.non,.non,.non]):=by
 have v:(qo ws p q).length=ws.length:=by simp [qo]
 have Z:wZ (qo ws p q).length r ns:=by rw [v]; exact hn
 have e1:=qbj w hl a h9 hn S;rw [b] at e1;have e2:=Xu w hl;have e3:=UZ S Z.1 a h9;have h:=qh8 S a Z b;generalize qo ws p q=seen at *;rw [qjZ] at e3;have k:qt ((RT W).map λx=>(x,hd0 (ch W seen r ns x)))=RT W:=Xv _ _;obtain ⟨n,f,c⟩:=qbr (RT W) ij ij h;have hd:=qds (l:=(RT W).map λx=>(x,hd0 (ch W seen r ns x))) (by rw [k]; exact qjW S);have d:=qf9 S a Z.1 (st:=(RT W).map λx=>(x,hd0 (ch W seen r ns x))) λy C=>by rw [k];obtain ⟨r1,r2⟩:=qf8 S C;exact qh7.mpr ⟨r1,by rw [r2]⟩
 have z:((RT W).map λx=>rd (x,ch W seen r ns x)).length<=sizeLine:=by have:=qh9 S;rw [aB];exact qY (by lia)
 refine ⟨bl W r ns (LS seen) ((RT W).map λx=>(x,hd0 (ch W seen r ns x))),⟨Xv _ _,λe i=>?_⟩,?_⟩;·obtain ⟨x,_,rfl⟩:=aw.mp i;exact ⟨dZ _ (by lia),dw _ (by lia)⟩
 refine qw.trans ?_;generalize (RT W).map (λx=>rd (x,ch W seen r ns x))=R at e3 c z;generalize prL (bl W r ns (LS seen) ((RT W).map λx=>(x,hd0 (ch W seen r ns x))))=V at d ⊢;generalize D.dct (bk ((RT W).map λx=>(x,hd0 (ch W seen r ns x))))=U at hd d;generalize prL ((RT W).map λx=>(x,hd0 (ch W seen r ns x)))=P at hd c;generalize nD ns=Y at *;generalize sD seen=Q at *;generalize Wd ws=W' at *;generalize Ld p q=L' at *;have s:=yn (own:=[]) (cap:=[]) (nt:=2) (fi:=jN (qm [.vl,.vl,.vl] yi (qb (qc 4) (qb (qc 2) (qb (qc 3) qr))))) (ρ:=[ii W',ii L',ii (.int r),ii Y,ii Q,ij]) (ρ1:=[ii W',ii L',ii (.int r),ii Y,ii Q,ij]) (by simp [e3,jK]) z c;simp [Xi,qv,e1,e2,s,kl,hd,d]
theorem Qs:∀ (a b:List Int),wU (eqN 7) (a.map D.int) (b.map D.int)=ii (decide (a.take (min a.length b.length)=b.take (min a.length b.length)))
 | [],b=>by simp [wU]
 | a::l,[]=>by simp [wU]
 | a::l,b::m=>by have i:=Qs l m;simp only [aH,wU,i,eqN,eqS,ah,Nat.succ_eq_add_one,Nat.add_min_add_right,List.take_succ_cons];by_cases h:a=b <;> simp [h]
theorem qdz (a b:List Int):eqD (nD a) (nD b)=.ok (.bl (decide (a=b))):=by
 by_cases h:a.length=b.length;·have e:=Qs a b;rw [h,Nat.min_self,fh,<-h,fh] at e;simp [eqD,eqN,h,e]
 ·have c:a≠b:=λz=>h (by rw [z]);simp [eqD,eqN,h,c,Qs]
variable {ca:Str->Addr}
section
theorem qgb (T:Told ws p q r ns) {ks:List Int} (h:ku [Wd ws,Ld p q,.int r,d]=.ok (nD ks,[.non,.non,.non,.non])):kw ca [Wd ws,Ld p q,.int r,nD ns,d]=.ok (.bl (decide (ks=ns)),[.non,.non,.non,.non,.non]):=by have h1:=Qq T.w T.l T.r0 (by have:=T.r9; lia) T.n;have h2:=qdz ks ns;refine qw.trans ?_;generalize sD (qo ws p q)=Z at *;generalize Wd ws=W at *;generalize Ld p q=L at *;generalize nD ks=K at *;generalize nD ns=N at *;simp [uM,qfn,qv,h1,h,h2]
theorem qbt (T:Told ws p q r ns) (h:ku [Wd ws,Ld p q,.int r,d]=.exc "NoWorths" nn4):kw ca [Wd ws,Ld p q,.int r,nD ns,d]=.ok (.bl iq,[.non,.non,.non,.non,.non]):=by
 have h1:=Qq T.w T.l T.r0 (by have:=T.r9; lia) T.n;have a:qhs ca ["NoWorths"] "NoWorths"=ii (ca "NoWorths"):=by simp [qhs]
 refine qw.trans ?_;generalize sD (qo ws p q)=Z at *;generalize Wd ws=W at *;generalize Ld p q=L at *;generalize nD ns=N at *;simp [uM,qfn,qv,h1,h,a]
end
def qj0 (ca:Str->Addr):Prop:=∀ x∈CS,∀ y∈CS,ca x=ca y->x=y
abbrev qia:qN:=(kz (gz 2 qfo (kJ (qb (qc 3) (qb (qc 4) qr)))))
theorem WD (a b:Option D):∀ (l:List (Str×Str)) (m:List Str) (x y:Option D),m.length+2 * l.length<=1000->∃ n s,kO (qX 2 (qp (gNm 3) (qp (gNm 4) qW))) qia (jb l) [a,b,ii (.lst (m.map D.str)),x,y]=.ok (.nx,[a,b,ii (.lst ((m++l.flatMap λp=>[p.1,p.2]).map D.str)),n,s])
 | [],m,x,y,_=>⟨x,y,by simp [jb,kO]⟩
 | p::l,m,x,y,h=>by rw [ah] at h;obtain ⟨n,s,e⟩:=WD a b l (m++[p.1,p.2]) (ii (.str p.1)) (ii (.str p.2)) (by rw [ae]; simp; lia);refine ⟨n,s,?_⟩;have z:2<=sizeLine:=qY (by lia);have c:m.length+2<=sizeLine:=qY (by lia);rw [show (m++(p::l).flatMap λp=>[p.1,p.2])=(m++[p.1,p.2])++l.flatMap λp=>[p.1,p.2] by simp,<-e];simp [jb,kO,qX,qp,qW,qia,uo,qfo,z,c]
theorem qbu (w:jp ws) (hl:QJ p q):vI [.tup (ws.map D.str),.tup [.int p,.int q]]=.ok (.lst ((LS (qo ws p q)).map D.str),[.non,.non]):=by
 refine qw.trans ?_;have h1:=kY w hl;have hn:(qo ws p q).length<=6:=by simp [qo]; exact w.2.1
 obtain ⟨n,s,e⟩:=WD (ii (.tup (ws.map D.str))) (ii (.tup [.int p,.int q])) (qo ws p q) [] ij ij (by simp; lia);have h:((qo ws p q).flatMap λp=>[p.1,p.2]).length < 64:=by
  rw [Xl]
  lia
 have c:kg (((qo ws p q).flatMap λp=>[p.1,p.2]).foldl xm [])=LS (qo ws p q):=qa6 λx=>by
  simp only [List.mem_flatMap,ao,aw,ac,aM,or_false];constructor
  ·rintro ⟨p,hp,rfl | rfl⟩;·exact .inl ⟨p,hp,rfl⟩
   ·exact .inr ⟨p,hp,rfl⟩
  ·rintro (⟨p,hp,rfl⟩ | ⟨p,hp,rfl⟩);·exact ⟨p,hp,.inl rfl⟩
   ·exact ⟨p,hp,.inr rfl⟩
 simp only [bO,bW] at e;simp [qaR,qv,h1,jK];rw [e];simp only [jR,qag,qaf,List.getElem?_cons_succ,List.getElem?_cons_zero,vN,yt,uQ,Aa h,c];simp
abbrev En:=Pr×Int
theorem KG (l m:Ln):qt (l++m)=qt l++qt m:=by simp [qt]
variable {m:Ln}
theorem qdA {l:Ln} (h:x∈qt l):je (l++m) x=je l x:=by
 obtain ⟨y,C,rfl⟩:=aw.mp h;unfold je;rw [List.find?_append];cases q:l.find? λz=>decide (z.1=y.1) with
 | none=>exact absurd (dA.mp q y C) (by simp)
 | some z=>rfl
theorem Xy {l:Ln} (h:x∉qt l):je (l++m) x=je m x:=by
 unfold je;rw [List.find?_append];cases q:l.find? λz=>decide (z.1=x) with
 | none=>rfl
 | some z=>exact absurd (aw.mpr ⟨z,bA q,by simpa using fB q⟩) h
noncomputable def st1 (r:Int) (l:Ln) (x y:Str) (n:Int):Ln:=if x∈qt l/\y∉qt l then l++[(y,(n - je l x) % r)] else l
noncomputable def stp (r:Int) (l:Ln) (e:En):Option Ln:=
 if e.1.1∈qt (st1 r (st1 r l e.1.1 e.1.2 e.2) e.1.2 e.1.1 e.2)/\(je (st1 r (st1 r l e.1.1 e.1.2 e.2) e.1.2 e.1.1 e.2) e.1.1+je (st1 r (st1 r l e.1.1 e.1.2 e.2) e.1.2 e.1.1 e.2) e.1.2) % r≠e.2 then ij else ii (st1 r (st1 r l e.1.1 e.1.2 e.2) e.1.2 e.1.1 e.2)
noncomputable def rnd (r:Int):List En->Ln->Option Ln
 | [],l=>ii l
 | e::es,l=>(stp r l e).bind (rnd r es)
noncomputable def KQ (r:Int) (es:List En):Nat->Ln->Option Ln
 | 0,l=>ii l
 | n+1,l=>(rnd r es l).bind (KQ r es n)
noncomputable def gd (l:Ln) (e:En):Bool:=decide (e.1.1∈qt l/\e.1.2∈qt l)
def Pre (l m:Ln):Prop:=∃ k,m=l++k
theorem Pre.rfl {l:Ln}:Pre l l:=⟨[],by simp⟩
theorem Pre.tr {a b c:Ln} (h:Pre a b) (k:Pre b c):Pre a c:=by obtain ⟨x,rfl⟩:=h;obtain ⟨y,rfl⟩:=k;exact ⟨x++y,by simp⟩
theorem Pre.key {a b:Ln} (h:Pre a b) (hx:x∈qt a):x∈qt b:=by obtain ⟨k,rfl⟩:=h;rw [KG];exact bI _ hx
theorem Pre.eq {a b:Ln} (h:Pre a b) (k:Pre b a):a=b:=by obtain ⟨x,rfl⟩:=h;obtain ⟨y,C⟩:=k;have:=congrArg fI C;simp at this;rw [this.1];simp
theorem zh (r:Int) (l:Ln) (x y:Str) (n:Int):Pre l (st1 r l x y n):=by
 unfold st1;split;·exact ⟨_,rfl⟩
 ·exact .rfl
theorem WE {l:Ln} {n:Int} (h:x∈qt l):y∈qt (st1 r l x y n):=by
 unfold st1;by_cases q:y∈qt l;·rw [Ab λz=>z.2 q]; exact q
 ·rw [Aa ⟨h,q⟩,KG]; simp [qt]
theorem uW {l:Ln} {n:Int} (h:x∉qt l):st1 r l x y n=l:=Ab λz=>h z.1
theorem qbv {l:Ln} {n:Int} (h:y∈qt l):st1 r l x y n=l:=Ab λz=>z.2 h
variable {e:En}
theorem qbw {l i:Ln} (h:stp r l e=ii i):Pre l i/\(e.1.1∈qt i↔e.1.2∈qt i)/\(e.1.1∈qt i->(je i e.1.1+je i e.1.2) % r=e.2)/\(i=l\/gd l e=iq/\gd i e=ir):=by
 unfold stp at h;split at h;·cases h
 ·rename_i hq;have h:st1 r (st1 r l e.1.1 e.1.2 e.2) e.1.2 e.1.1 e.2=i:=aK.inj h;rw [h] at hq;have hp:Pre l i:=by rw [<-h]; exact (zh ..).tr (zh ..)
  refine ⟨hp,?_,λz=>Decidable.byContradiction λy=>hq ⟨z,y⟩,?_⟩
  ·by_cases a:e.1.1∈qt l
   ·have b:e.1.2∈qt i:=by rw [<-h]; exact (zh ..).key (WE a)
    exact ⟨λ_=>b,λ_=>hp.key a⟩
   ·by_cases b:e.1.2∈qt l
    ·have c:e.1.1∈qt i:=by rw [<-h,uW a]; exact WE b
     exact ⟨λ_=>hp.key b,λ_=>c⟩
    ·have:i=l:=by rw [<-h,uW a,uW b]
     rw [this];exact ⟨λz=>absurd z a,λz=>absurd z b⟩
  ·by_cases a:e.1.1∈qt l
   ·by_cases b:e.1.2∈qt l;·exact .inl (by rw [<-h,qbv b,qbv a])
    ·exact .inr ⟨Ac λz=>b z.2,Ad ⟨hp.key a,by rw [<-h]; exact (zh ..).key (WE a)⟩⟩
   ·by_cases b:e.1.2∈qt l;·exact .inr ⟨Ac λz=>a z.1,Ad ⟨by rw [<-h,uW a]; exact WE b,hp.key b⟩⟩
    ·exact .inl (by rw [<-h,uW a,uW b])
theorem qbx {l:Ln} (h:Pre l m) (q:gd l e=ir):gd m e=true:=by have:=Ae q;exact Ad ⟨h.key this.1,h.key this.2⟩
theorem KH:∀ {es:List En} {l i:Ln},rnd r es l=ii i->Pre l i/\(i=l\/∃ e∈es,gd l e=iq/\gd i e=ir)
 | [],l,i,h=>by cases h; exact ⟨.rfl,.inl rfl⟩
 | e::es,l,i,h=>by
  obtain ⟨m,h1,h2⟩:=aY.mp h;obtain ⟨p1,_,_,c⟩:=qbw h1;obtain ⟨p2,d⟩:=KH h2;refine ⟨p1.tr p2,?_⟩;rcases c with rfl | ⟨c1,c2⟩
  ·rcases d with rfl | ⟨e',he,d1,d2⟩
   ·exact .inl rfl
   ·exact .inr ⟨e',af _ he,d1,d2⟩
  ·exact .inr ⟨e,aq ..,c1,qbx p2 c2⟩
theorem qej (p q:α->Bool):∀ l:List α,(∀ x∈l,q x=ir->p x=ir)->l.countP q<=l.countP p
 | [],_=>by simp
 | x::l,h=>by
  have i:=qej p q l λy C=>h y (af _ C);have hx:=h x (aq ..);rw [fj,fj];cases a:q x;·simp; lia
  ·rw [hx a]; simp; lia
theorem qek (p q:α->Bool):∀ l:List α,(∀ x∈l,q x=ir->p x=ir)->(∃ x∈l,p x=ir/\q x=iq)->l.countP q < l.countP p
 | [],_,⟨x,hx,_⟩=>by cases hx
 | x::l,h,⟨y,C,h1,h2⟩=>by
  have hx:=h x (aq ..);rw [fj,fj];rcases ac.mp C with rfl | C
  ·have:=qej p q l λy C=>h y (af _ C);rw [h1,h2]; simp; lia
  ·have i:=qek p q l (λy C=>h y (af _ C)) ⟨y,C,h1,h2⟩;cases a:q x;·simp; lia
   ·rw [hx a]; simp; lia
variable {es:List En} {l':Ln}
theorem Xz {l:Ln} (h:rnd r es l=ii l):∀ n,KQ r es n l=ii l'->l'=l
 | 0,q=>by cases q; rfl
 | n+1,q=>by unfold KQ at q;rw [h] at q;exact Xz h n q
theorem XA:∀ (k:Nat) {l l':Ln},es.countP (λe=>!gd l e)<=k->KQ r es (k+1) l=ii l'->rnd r es l'=ii l'
 | k,l,l',hk,h=>by
  obtain ⟨m,h1,h2⟩:=aY.mp h;obtain ⟨p1,c⟩:=KH h1;rcases c with rfl | ⟨e,he,c1,c2⟩
  ·have:=Xz h1 k h2;rw [this];exact h1
  ·have t:=qek (λe=>!gd l e) (λe=>!gd m e) es (λx _ q=>by
    cases a:gd l x;·rfl
    ·rw [qbx p1 a] at q; exact q) ⟨e,he,by simp [c1],by simp [c2]⟩
   match k,hk,h2 with
   | 0,hk,_=>lia
   | k+1,hk,h2=>exact XA k (by lia) h2
theorem qby:∀ {es:List En} {l:Ln},rnd r es l=ii l->∀ e∈es,stp r l e=ii l
 | [],_,_,e,i=>by cases i
 | x::es,l,h,e,i=>by
  obtain ⟨m,h1,h2⟩:=aY.mp h;have p1:=(qbw h1).1;have p2:=(KH h2).1;have:=p1.eq p2;subst this;rcases ac.mp i with rfl | i;·exact h1
  ·exact qby h2 e i
def Cls (r:Int) (es:List En) (l:Ln):Prop:=∀ e∈es,(e.1.1∈qt l↔e.1.2∈qt l)/\(e.1.1∈qt l->(je l e.1.1+je l e.1.2) % r=e.2)
theorem qdB {l:Ln} (h:KQ r es (es.length+1) l=ii l'):Cls r es l':=λe i=>by obtain ⟨_,a,b,_⟩:=qbw (qby (XA es.length List.countP_le_length h) e i);exact ⟨a,b⟩
theorem XB:∀ (n:Nat) {l l':Ln},KQ r es n l=ii l'->Pre l l'
 | 0,l,l',h=>by cases h; exact .rfl
 | n+1,l,l',h=>by obtain ⟨m,h1,h2⟩:=aY.mp h;exact (KH h1).1.tr (XB n h2)
theorem qgc (l:Ln) (x:Str):inA (.str x) (.dct (bk l))=.ok (.bl (decide (x∈qt l))):=by unfold inA;simp only [xQ];rw [WC]
theorem qbz (l:Ln) (x:Str):ub (.str x) (.dct (bk l))=.ok (.bl (!decide (x∈qt l))):=by unfold ub;simp only [xQ];rw [WC]
theorem qbA {l:Ln} {v:Int} (h:x∉qt l):zR (bk l) (.inr x) (.int v)=bk (l++[(x,v)]):=by have k:=WC l x;rw [Ac h] at k;unfold zR;unfold XZ at k;rw [k];simp [bk]
abbrev zB1:qN:=(sIf (QM (qC (d2 inA (qc 6) (qc 3))) (qC (d2 ub (qc 7) (qc 3)))) (uc 3 (d2 vL (d2 zM (qc 5) (d2O 3 ixD (qc 6))) (qc 1)) (qc 7)) qK)
abbrev zB2:qN:=(sIf (QM (qC (d2 inA (qc 7) (qc 3))) (qC (d2 ub (qc 6) (qc 3)))) (uc 3 (d2 vL (d2 zM (qc 5) (d2O 3 ixD (qc 7))) (qc 1)) (qc 6)) qK)
abbrev zB3:qN:=(sIf (QM (qC (d2 inA (qc 6) (qc 3))) (qC (d2 neD (d2 vL (d2 jL (d2O 3 ixD (qc 6)) (d2O 3 ixD (qc 7))) (qc 1)) (qc 5)))) (jr (dC .non)) qK)
abbrev zB:qN:=(qD zB1 (qD zB2 zB3))
theorem qdC {a:Int} (hr:1<=r) (h9:r<=99):vL (.int a) (.int r)=.ok (.int (a % r)):=by
 have d:qgo a r:=⟨by lia,by lia⟩
 have h:0 < r:=by lia
 simp [vL,yz,d,h]
variable {b a:Option D}
section
variable (hr:1<=r) (h9:r<=99) {c:Option D} {l:Ln} {n:Int}
include hr h9
theorem qib (d:l.length < 1000):zB1 [a,ii (.int r),b,ii (.dct (bk l)),c,ii (.int n),ii (.str x),ii (.str y)]=.ok (.nx,[a,ii (.int r),b,ii (.dct (bk (st1 r l x y n))),c,ii (.int n),ii (.str x),ii (.str y)]):=by
 have s:(bk l).length < sizeLine:=by
  have:(bk l).length=l.length:=by simp [bk]
  rw [this];exact aI (by lia) big
 have i1:=qgc l x;have i2:=qbz l y;unfold st1;by_cases q:x∈qt l
 ·have hi:=QG q;rw [Ad q] at i1;by_cases e:y∈qt l;·rw [Ad e] at i2;rw [Ab λz=>z.2 e];generalize bk l=B at *;simp [i1,i2]
  ·rw [Ac e] at i2;rw [Aa ⟨q,e⟩,<-qbA e];have m:=qdC (a:=n - je l x) hr h9;have h:zM (.int n) (.int (je l x))=.ok (.int (n - je l x)):=rfl;generalize bk l=B at *;simp [i1,i2,uc,d2O,hi,h,m,xQ,s]
 ·rw [Ac q] at i1;rw [Ab λz=>q z.1];generalize bk l=B at *;simp [i1]
theorem qic (d:l.length < 1000):zB2 [a,ii (.int r),b,ii (.dct (bk l)),c,ii (.int n),ii (.str x),ii (.str y)]=.ok (.nx,[a,ii (.int r),b,ii (.dct (bk (st1 r l y x n))),c,ii (.int n),ii (.str x),ii (.str y)]):=by
 have s:(bk l).length < sizeLine:=by
  have:(bk l).length=l.length:=by simp [bk]
  rw [this];exact aI (by lia) big
 have i1:=qgc l y;have i2:=qbz l x;unfold st1;by_cases q:y∈qt l
 ·have hi:=QG q;rw [Ad q] at i1;by_cases e:x∈qt l;·rw [Ad e] at i2;rw [Ab λz=>z.2 e];generalize bk l=B at *;simp [i1,i2]
  ·rw [Ac e] at i2;rw [Aa ⟨q,e⟩,<-qbA e];have m:=qdC (a:=n - je l y) hr h9;have h:zM (.int n) (.int (je l y))=.ok (.int (n - je l y)):=rfl;generalize bk l=B at *;simp [i1,i2,uc,d2O,hi,h,m,xQ,s]
 ·rw [Ac q] at i1;rw [Ab λz=>q z.1];generalize bk l=B at *;simp [i1]
theorem qid (h:x∈qt l->y∈qt l):zB3 [a,ii (.int r),b,ii (.dct (bk l)),c,ii (.int n),ii (.str x),ii (.str y)]=(if x∈qt l/\(je l x+je l y) % r≠n then .ok (.rt .non,[a,ii (.int r),b,ii (.dct (bk l)),c,ii (.int n),ii (.str x),ii (.str y)]) else .ok (.nx,[a,ii (.int r),b,ii (.dct (bk l)),c,ii (.int n),ii (.str x),ii (.str y)])):=by
 have i1:=qgc l x;by_cases q:x∈qt l
 ·have h1:=QG q;have h2:=QG (h q);rw [Ad q] at i1;have m:=qdC (a:=je l x+je l y) hr h9;generalize bk l=B at *;by_cases z:(je l x+je l y) % r=n
  ·have e:neD (.int ((je l x+je l y) % r)) (.int n)=.ok (.bl iq):=by simp [neD,eqN,eqS,z]
   rw [Ab λw=>w.2 z];simp [i1,d2O,h1,h2,m,e]
  ·have e:neD (.int ((je l x+je l y) % r)) (.int n)=.ok (.bl ir):=by simp [neD,eqN,eqS,z]
   rw [Aa ⟨q,z⟩];simp [i1,d2O,h1,h2,m,e]
 ·rw [Ac q] at i1;rw [Ab λw=>q w.1];generalize bk l=B at *;simp [i1]
theorem qbB (l:Ln) (x y:Str) (n:Int):(st1 r l x y n).length<=l.length+1:=by
 unfold st1;split;·simp
 ·lia
theorem qj1 (h:l.length < 900):(∃ m,stp r l ((x,y),n)=ii m/\m.length<=l.length+2/\zB [a,ii (.int r),b,ii (.dct (bk l)),c,ii (.int n),ii (.str x),ii (.str y)]=.ok (.nx,[a,ii (.int r),b,ii (.dct (bk m)),c,ii (.int n),ii (.str x),ii (.str y)]))
  \/ stp r l ((x,y),n)=ij/\∃ ρ,zB [a,ii (.int r),b,ii (.dct (bk l)),c,ii (.int n),ii (.str x),ii (.str y)]=.ok (.rt .non,ρ):=by
 have i:=qbB hr h9 l x y n;have d:=qbB hr h9 (st1 r l x y n) y x n;have e1:=qib hr h9 (a:=a) (b:=b) (c:=c) (l:=l) (x:=x) (y:=y) (n:=n) (by lia);have e2:=qic hr h9 (a:=a) (b:=b) (c:=c) (l:=st1 r l x y n) (x:=x) (y:=y) (n:=n) (by lia);have e3:=qid hr h9 (a:=a) (b:=b) (c:=c) (l:=st1 r (st1 r l x y n) y x n) (x:=x) (y:=y) (n:=n) (λz=>by
  by_cases p:x∈qt l;·exact (zh ..).key (WE p)
  ·rw [uW p] at z ⊢;by_cases q:y∈qt l;·exact (zh ..).key q
   ·rw [uW q] at z; exact absurd z p)
 have e:zB [a,ii (.int r),b,ii (.dct (bk l)),c,ii (.int n),ii (.str x),ii (.str y)]=zB3 [a,ii (.int r),b,ii (.dct (bk (st1 r (st1 r l x y n) y x n))),c,ii (.int n),ii (.str x),ii (.str y)]:=(Qv e1).trans (Qv e2);rw [e3] at e;by_cases q:x∈qt (st1 r (st1 r l x y n) y x n)/\(je (st1 r (st1 r l x y n) y x n) x+je (st1 r (st1 r l x y n) y x n) y) % r≠n;·rw [Aa q] at e;exact .inr ⟨Aa q,_,e⟩
 ·rw [Ab q] at e;exact .inl ⟨_,Ab q,by lia,e⟩
abbrev zG:D->Sl->Out Sl:=(qX 2 (qp (qX 2 (qp (gNm 6) (qp (gNm 7) qW))) (qp (gNm 5) qW)))
noncomputable def enD (e:En):D:=.tup [pD e.1,.int e.2]
theorem qel:∀ (es:List En) (l:Ln) (u v w:Option D),l.length+2 * es.length < 900->(∃ m V U S,rnd r es l=ii m/\m.length<=l.length+2 * es.length/\kO zG zB (es.map enD) [a,ii (.int r),b,ii (.dct (bk l)),c,u,v,w]=.ok (.nx,[a,ii (.int r),b,ii (.dct (bk m)),c,V,U,S]))
  \/ rnd r es l=ij/\∃ ρ,kO zG zB (es.map enD) [a,ii (.int r),b,ii (.dct (bk l)),c,u,v,w]=.ok (.rt .non,ρ)
 | [],l,u,v,w,_=>.inl ⟨l,u,v,w,rfl,by lia,rfl⟩
 | e::es,l,u,v,w,hz=>by
  rw [ah] at hz;obtain ⟨⟨x,y⟩,n⟩:=e;have hg:zG (enD ((x,y),n)) [a,ii (.int r),b,ii (.dct (bk l)),c,u,v,w]=.ok [a,ii (.int r),b,ii (.dct (bk l)),c,ii (.int n),ii (.str x),ii (.str y)]:=rfl;rcases qj1 hr h9 (a:=a) (b:=b) (c:=c) (l:=l) (x:=x) (y:=y) (n:=n) (by lia) with ⟨m,e1,i,e2⟩ | ⟨e1,ρ,e2⟩
  ·rcases qel es m (ii (.int n)) (ii (.str x)) (ii (.str y)) (by lia) with ⟨A,V,U,S,k1,k2,k3⟩ | ⟨k1,ρ,k3⟩
   ·exact .inl ⟨A,V,U,S,by unfold rnd; rw [e1]; exact k1,by rw [ah]; lia,(jP hg e2).trans k3⟩
   ·exact .inr ⟨by unfold rnd; rw [e1]; exact k1,ρ,(jP hg e2).trans k3⟩
  ·exact .inr ⟨by unfold rnd; rw [e1]; rfl,ρ,Jm hg e2⟩
end
abbrev rB:qN:=(wW (qd2 (qb (qc 0) (qb (qc 2) qr))) zG zB)
theorem qem:∀ (seen:List Pr) (ns:List Int),KL (jb seen) (ns.map D.int)=(seen.zip ns).map enD
 | [],_=>by simp [KL,jb]
 | _::_,[]=>by simp [KL]
 | p::seen,n::ns=>by have i:=qem seen ns;unfold KL at i ⊢;exact congrArg (D.tup [pD p,.int n]::·) i
section
variable (hr:1<=r) (h9:r<=99)
include hr h9
theorem qen (h6:(seen.zip ns).length<=6):∀ (ds:List D) (l:Ln) (t u v w:Option D),l.length+12 * ds.length < 800->(∃ m t' V U S,KQ r (seen.zip ns) ds.length l=ii m/\kO (gNm 4) rB ds [ii (sD seen),ii (.int r),ii (nD ns),ii (.dct (bk l)),t,u,v,w]=.ok (.nx,[ii (sD seen),ii (.int r),ii (nD ns),ii (.dct (bk m)),t',V,U,S]))
  \/ KQ r (seen.zip ns) ds.length l=ij/\∃ ρ,kO (gNm 4) rB ds [ii (sD seen),ii (.int r),ii (nD ns),ii (.dct (bk l)),t,u,v,w]=.ok (.rt .non,ρ)
 | [],l,t,u,v,w,_=>.inl ⟨l,t,u,v,w,rfl,rfl⟩
 | d::ds,l,t,u,v,w,hz=>by
  rw [ah] at hz;have hg:gNm 4 d [ii (sD seen),ii (.int r),ii (nD ns),ii (.dct (bk l)),t,u,v,w]=.ok [ii (sD seen),ii (.int r),ii (nD ns),ii (.dct (bk l)),ii d,u,v,w]:=rfl;have hit:qd2 (qb (qc 0) (qb (qc 2) qr)) [ii (sD seen),ii (.int r),ii (nD ns),ii (.dct (bk l)),ii d,u,v,w]=.ok ((seen.zip ns).map enD,[ii (sD seen),ii (.int r),ii (nD ns),ii (.dct (bk l)),ii d,u,v,w]):=by rw [<-qem];rfl
  rcases qel hr h9 (a:=ii (sD seen)) (b:=ii (nD ns)) (c:=ii d) (seen.zip ns) l u v w (by lia) with ⟨m,V,U,S,k1,k2,k3⟩ | ⟨k1,ρ,k3⟩
  ·have h:rB [ii (sD seen),ii (.int r),ii (nD ns),ii (.dct (bk l)),ii d,u,v,w]=.ok (.nx,[ii (sD seen),ii (.int r),ii (nD ns),ii (.dct (bk m)),ii d,V,U,S]):=by show wW _ _ _ _=_;rw [jI,hit,jR];exact k3
   rcases qen h6 ds m (ii d) V U S (by lia) with ⟨A,g,f,e,w2,j,R⟩ | ⟨j,ρ,R⟩
   ·exact .inl ⟨A,g,f,e,w2,by rw [ah]; unfold KQ; rw [k1]; exact j,(jP hg h).trans R⟩
   ·exact .inr ⟨by rw [ah]; unfold KQ; rw [k1]; exact j,ρ,(jP hg h).trans R⟩
  ·have h:rB [ii (sD seen),ii (.int r),ii (nD ns),ii (.dct (bk l)),ii d,u,v,w]=.ok (.rt .non,ρ):=by show wW _ _ _ _=_;rw [jI,hit,jR];exact k3
   exact .inr ⟨by rw [ah]; unfold KQ; rw [k1]; rfl,ρ,Jm hg h⟩
theorem ZH (h6:seen.length<=6) (hn:ns.length=seen.length) {l:Ln} (hl:l.length<=1):(∃ m,KQ r (seen.zip ns) ((seen.zip ns).length+1) l=ii m/\uJ [sD seen,.int r,nD ns,.dct (bk l)]=.ok (.dct (bk m),[.non,.non,.non,.non]))
  \/ KQ r (seen.zip ns) ((seen.zip ns).length+1) l=ij/\uJ [sD seen,.int r,nD ns,.dct (bk l)]=.ok (.non,[.non,.non,.non,.non]):=by
 have d:(seen.zip ns).length=seen.length:=by rw [List.length_zip]; lia
 have n:kZ (sD seen)=.ok (.int seen.length):=by simp [jb]
 have hit:jA (d2 jL (d1 kZ (qc 0)) (dC (.int 1))) [ii (sD seen),ii (.int r),ii (nD ns),ii (.dct (bk l)),ij,ij,ij,ij]=.ok (yQ 0 (seen.length+1),[ii (sD seen),ii (.int r),ii (nD ns),ii (.dct (bk l)),ij,ij,ij,ij]):=by have:=iR0 (f:=d2 jL (d1 kZ (qc 0)) (dC (.int 1))) (ρ:=[ii (sD seen),ii (.int r),ii (nD ns),ii (.dct (bk l)),ij,ij,ij,ij]) (ρ1:=[ii (sD seen),ii (.int r),ii (nD ns),ii (.dct (bk l)),ij,ij,ij,ij]) (k:=seen.length+1) (by lia) (by lia) (by generalize sD seen=S at *;simp [n]);rw [this];congr 2
 have h:(yQ 0 (seen.length+1)).length=(seen.zip ns).length+1:=by rw [d]; simp [yQ]
 have key:=qen hr h9 (seen:=seen) (ns:=ns) (by lia) (yQ 0 (seen.length+1)) l ij ij ij ij (by lia);rw [h] at key;rcases key with ⟨m,t',V,U,w,k1,k2⟩ | ⟨k1,ρ,k2⟩
 ·refine .inl ⟨m,k1,qw.trans ?_⟩;unfold Qg;rw [show qv Qf [sD seen,.int r,nD ns,.dct (bk l)]=[ii (sD seen),ii (.int r),ii (nD ns),ii (.dct (bk l)),ij,ij,ij,ij] from rfl];refine (qx (by rw [jI,hit,jR]; exact k2)).trans ?_;simp
 ·refine .inr ⟨k1,qw.trans ?_⟩;unfold Qg;rw [show qv Qf [sD seen,.int r,nD ns,.dct (bk l)]=[ii (sD seen),ii (.int r),ii (nD ns),ii (.dct (bk l)),ij,ij,ij,ij] from rfl];rw [yG,jI,hit,jR,k2];rfl
end
theorem KI (e:Str×Int) (l:Ln) (y:Str):je (e::l) y=if e.1=y then e.2 else je l y:=by
 unfold je;rw [cL];by_cases h:e.1=y;·simp [h]
 ·simp [h]
noncomputable def wf (b:Ln) (x:Str) (v:Int):Ln:=if x∈qt b then b.map (λe=>if e.1=x then (e.1,v) else e) else b++[(x,v)]
theorem qbC (x:Str) (v:Int):∀ b:Ln,qt (b.map (λe=>if e.1=x then (e.1,v) else e))=qt b
 | []=>rfl
 | e::b=>by have i:=qbC x v b;unfold qt at i ⊢;rw [aH,aH,aH,i];split <;> rfl
theorem qgd (b:Ln) (x:Str) (v:Int) (y:Str):y∈qt (wf b x v)↔y∈qt b\/y=x:=by
 unfold wf;split;·rename_i h;rw [qbC];exact ⟨.inl,λz=>z.elim id λz=>z ▸ h⟩
 ·rw [KG];simp [qt]
theorem yP (x:Str) (v:Int) (y:Str):∀ b:Ln,x∈qt b->je (b.map (λe=>if e.1=x then (e.1,v) else e)) y=if y=x then v else je b y
 | [],h=>by cases h
 | e::b,h=>by
  rw [aH,KI,KI];by_cases q:e.1=x
  ·by_cases z:y=x;·subst z; simp [q]
   ·have:¬x=y:=λw=>z w.symm;simp only [q,Aa,this,Ab,z,if_false];by_cases k:x∈qt b;·rw [yP x v y b k,Ab z]
    ·have:b.map (λe=>if e.1=x then (e.1,v) else e)=b:=by
      conv=>rhs; rw [<-List.map_id b]
      refine dS λa g=>?_;rw [Ab (λ(w:a.1=x)=>k (aw.mpr ⟨a,g,w⟩))];rfl
     rw [this]
  ·have k:x∈qt b:=by
    rcases ac.mp h with w | w;·exact absurd w.symm q
    ·exact w
   rw [Ab q,yP x v y b k];by_cases z:y=x;·subst z; rw [Ab q,Aa rfl,Aa rfl]
   ·rw [Ab z,Ab z]
theorem qge (b:Ln) (x:Str) (v:Int) (y:Str):je (wf b x v) y=if y=x then v else je b y:=by
 unfold wf;split;·rename_i h; exact yP x v y b h
 ·rename_i h;by_cases z:y=x;·subst z; rw [Xy h,Aa rfl]; simp [je]
  ·rw [Ab z];by_cases k:y∈qt b;·exact qdA k
   ·rw [Xy k];have:¬x=y:=λw=>z w.symm;have e1:je [(x,v)] y=0:=by simp [je,this]
    have e2:je b y=0:=by unfold je;rw [dA.mpr λa g w=>k (aw.mpr ⟨a,g,by simpa using w⟩)];rfl
    rw [e1,e2]
theorem qbD (b:Ln) (x:Str) (v:Int):zR (bk b) (.inr x) (.int v)=bk (wf b x v):=by
 unfold wf;by_cases h:x∈qt b
 ·rw [Aa h];have k:=WC b x;rw [Ad h] at k;unfold XZ at k;unfold zR;rw [k,Aa rfl];unfold bk;rw [bH,bH];refine dS λa _=>?_;by_cases q:a.1=x;·simp [q]
  ·simp [q]
 ·rw [Ab h]; exact qbA h
noncomputable def mg (b m:Ln):Ln:=m.foldl (λa e=>wf a e.1 e.2) b
theorem qie:∀ (m b:Ln),gP (bk b) (bk m)=bk (mg b m)
 | [],b=>rfl
 | e::m,b=>by show gP (zR (bk b) (.inr e.1) (.int e.2)) (bk m)=bk (mg (wf b e.1 e.2) m);rw [qbD,qie m]
theorem WF:∀ (m b:Ln) (y:Str),y∈qt (mg b m)↔y∈qt b\/y∈qt m
 | [],b,y=>by simp [mg,qt]
 | e::m,b,y=>by
  show y∈qt (mg (wf b e.1 e.2) m)↔_;rw [WF m,qgd];have:y∈qt (e::m)↔y=e.1\/y∈qt m:=by simp [qt]
  rw [this,or_assoc]
theorem qbE:∀ (m b:Ln) (y:Str),(qt m).Nodup->je (mg b m) y=if y∈qt m then je m y else je b y
 | [],b,y,_=>by simp [mg,qt]
 | e::m,b,y,h=>by
  obtain ⟨h1,h2⟩:=aR.mp (show (e.1::qt m).Nodup from h);show je (mg (wf b e.1 e.2) m) y=_;rw [qbE m _ y h2,qge,KI];have:y∈qt (e::m)↔y=e.1\/y∈qt m:=by simp [qt]
  by_cases k:y∈qt m;·have:¬e.1=y:=λw=>h1 (w ▸ k);rw [Aa k,Aa (by rw [‹y∈qt (e::m)↔_›]; exact .inr k),Ab this]
  ·rw [Ab k];by_cases z:y=e.1;·rw [Aa z,Aa (by rw [this]; exact .inl z),Aa z.symm]
   ·rw [Ab z,Ab (by rw [this]; exact λw=>w.elim z k)]
theorem qeo:∀ (m b:Ln),(mg b m).length<=b.length+m.length
 | [],b=>by simp [mg]
 | e::m,b=>by
  have h1:=qeo m (wf b e.1 e.2);have h2:(wf b e.1 e.2).length<=b.length+1:=by
   unfold wf;split;·rw [aB]; lia
   ·simp
  show (mg (wf b e.1 e.2) m).length<=_;rw [ah]
  lia
theorem qif {b:Ln} (d:Cls r es b) (c:Cls r es m) (hn:(qt m).Nodup):Cls r es (mg b m):=λe i=>by
 obtain ⟨b1,b2⟩:=d e i;obtain ⟨m1,A⟩:=c e i;rw [WF,WF,qbE m b _ hn,qbE m b _ hn];refine ⟨by rw [b1,m1],λh=>?_⟩;by_cases k:e.1.1∈qt m;·rw [Aa k,Aa (m1.mp k)];exact A k
 ·rw [Ab k,Ab λw=>k (m1.mpr w)];exact b2 (h.resolve_right k)
theorem qep {l:Ln} {n:Int} (h:(qt l).Nodup):(qt (st1 r l x y n)).Nodup:=by
 unfold st1;split
 ·rename_i d;rw [KG];refine bT.mpr ⟨h,by simp [qt],λa g b c=>?_⟩;have:b=y:=by simpa [qt] using c
  rw [this];rintro rfl;exact d.2 g
 ·exact h
theorem qeq (r:Int) (l:Ln) (x y:Str) (n:Int):(st1 r l x y n).length<=l.length+1:=by
 unfold st1;split;·simp
 ·lia
theorem qig {l:Ln} (h:(qt l).Nodup) (q:stp r l e=ii m):(qt m).Nodup/\m.length<=l.length+2:=by
 unfold stp at q;split at q;·cases q
 ·cases q;have a:=qeq r l e.1.1 e.1.2 e.2;have b:=qeq r (st1 r l e.1.1 e.1.2 e.2) e.1.2 e.1.1 e.2;exact ⟨qep (qep h),by lia⟩
theorem qer:∀ {es:List En} {l m:Ln},(qt l).Nodup->rnd r es l=ii m->(qt m).Nodup/\m.length<=l.length+2 * es.length
 | [],l,m,h,q=>by cases q; exact ⟨h,by lia⟩
 | e::es,l,m,h,q=>by obtain ⟨k,q1,f⟩:=aY.mp q;obtain ⟨a,b⟩:=qig h q1;obtain ⟨c,d⟩:=qer a f;exact ⟨c,by rw [ah]; lia⟩
theorem qbF (h6:es.length<=6):∀ (n:Nat) {l m:Ln},(qt l).Nodup->KQ r es n l=ii m->(qt m).Nodup/\m.length<=l.length+12 * n
 | 0,l,m,h,q=>by cases q; exact ⟨h,by lia⟩
 | n+1,l,m,h,q=>by obtain ⟨k,q1,e⟩:=aY.mp q;obtain ⟨a,b⟩:=qer h q1;obtain ⟨c,d⟩:=qbF h6 n a e;exact ⟨c,by lia⟩
def qk3 (r:Int) (es:List En) (v:Str->Int):Prop:=∀ e∈es,r ∣ v e.1.1+v e.1.2 - e.2
abbrev GF:=ko
noncomputable def wG (G:GF):qN:=(sIf (qC (d2 qbX (qc 7) (dC .non))) (qU 7 (qm [.vl,.vl,.vl,.fr] G (qb (qc 4) (qb (qc 2) (qb (qc 3) (qb (VP (qc 6) (qc 8)) qr)))))) qK)
abbrev wB:qN:=wG uJ
variable {G:GF}
theorem qih {R N S B:Option D} {r n s:D} {k:Int} {F:D} {o:List D} (h:G [s,r,n,.dct [(.inr x,.int k)]]=.ok (F,[.non,.non,.non,.non])):wG G [a,b,ii r,ii n,ii s,B,ii (.str x),ii .non,ii (.int k)]=.ok (.nx,[a,b,ii r,ii n,ii s,B,ii (.str x),ii F,ii (.int k)]):=by simp [wG,VP,xQ,h]
theorem qj2 {R N S B:Option D} {x:Option D} {m:List (Key×D)} {k:Option D}:wG G [a,b,R,N,S,B,x,ii (.dct m),k]=.ok (.nx,[a,b,R,N,S,B,x,ii (.dct m),k]):=by simp [wG]
noncomputable def oG (F:qN):qN:=(sIf (qC (d2 ub (qc 6) (qc 5))) (qD (qU 7 (dC .non))
  (qD F
  (qD (sIf (qC (d2 qbX (qc 7) (dC .non))) (jr (dC .non)) qK)
  (kz (qhI 5 (qc 7)))))) qK)
theorem qj3 {F:qN} {R N S u w:Option D} {C x:D} (hi:ub x C=.ok (.bl iq)):oG F [a,b,R,N,S,ii C,ii x,u,w]=.ok (.nx,[a,b,R,N,S,ii C,ii x,u,w]):=by simp [oG,hi]
theorem qj4 {F:qN} {R N S u w c:Option D} {C x:D} (hi:ub x C=.ok (.bl ir)) (h:F [a,b,R,N,S,ii C,ii x,ii .non,w]=.ok (.nx,[a,b,R,N,S,ii C,ii x,ii .non,c])):oG F [a,b,R,N,S,ii C,ii x,u,w]=.ok (.rt .non,[a,b,R,N,S,ii C,ii x,ii .non,c]):=by simp [oG,hi,h]
theorem qj5 {F:qN} {R N S u w d:Option D} {c m:List (Key×D)} {x:D} (hi:ub x (.dct c)=.ok (.bl ir)) (h:F [a,b,R,N,S,ii (.dct c),ii x,ii .non,w]=.ok (.nx,[a,b,R,N,S,ii (.dct c),ii x,ii (.dct m),d])) (z:c.length+m.length<=sizeLine):oG F [a,b,R,N,S,ii (.dct c),ii x,u,w]=.ok (.nx,[a,b,R,N,S,ii (.dct (gP c m)),ii x,ii (.dct m),d]):=by simp [oG,hi,h,qhI,z]
section
variable (hr:1<=r) (h9:r<=99) (h6:seen.length<=6) (hn:ns.length=seen.length) {B:Option D}
include hr h9 h6 hn
theorem qii (F:D) (C:F=.non\/∃ m,F=.dct (bk m)) (k:Int):∃ F',wB [a,b,ii (.int r),ii (nD ns),ii (sD seen),B,ii (.str x),ii F,ii (.int k)]=.ok (.nx,[a,b,ii (.int r),ii (nD ns),ii (sD seen),B,ii (.str x),ii F',ii (.int k)]) /\
  ((∃ m,F=.dct (bk m))->F'=F)/\(F=.non->F'=.non/\KQ r (seen.zip ns) ((seen.zip ns).length+1) [(x,k)]=ij\/∃ m,KQ r (seen.zip ns) ((seen.zip ns).length+1) [(x,k)]=ii m/\F'=.dct (bk m)):=by
 rcases C with rfl | ⟨m,rfl⟩
 ·rcases ZH hr h9 h6 hn (l:=[(x,k)]) (by simp) with ⟨m,e1,e2⟩ | ⟨e1,e2⟩
  ·exact ⟨.dct (bk m),qih (R:=ij) (N:=ij) (S:=ij) (o:=[]) e2,(λ⟨_,z⟩=>by cases z),λ_=>.inr ⟨m,e1,rfl⟩⟩
  ·exact ⟨.non,qih (R:=ij) (N:=ij) (S:=ij) (o:=[]) e2,(λ⟨_,z⟩=>by cases z),λ_=>.inl ⟨rfl,e1⟩⟩
 ·exact ⟨.dct (bk m),qj2,(λ_=>rfl),λz=>by cases z⟩
theorem qes:∀ (ks:List Int) (F:D) (w:Option D),(F=.non\/∃ m,F=.dct (bk m))->∃ F' S,kO (gNm 8) wB (ks.map D.int) [a,b,ii (.int r),ii (nD ns),ii (sD seen),B,ii (.str x),ii F,w]=.ok (.nx,[a,b,ii (.int r),ii (nD ns),ii (sD seen),B,ii (.str x),ii F',S]) /\
  ((∃ m,F=.dct (bk m))->F'=F)/\(F=.non->(F'=.non/\∀ k∈ks,KQ r (seen.zip ns) ((seen.zip ns).length+1) [(x,k)]=ij)\/∃ k m,KQ r (seen.zip ns) ((seen.zip ns).length+1) [(x,k)]=ii m/\F'=.dct (bk m))
 | [],F,w,_=>⟨F,w,rfl,λ_=>rfl,λh=>.inl ⟨h,λk d=>by cases d⟩⟩
 | k::ks,F,w,hF=>by
  obtain ⟨F1,e1,f1,f2⟩:=qii hr h9 h6 hn (a:=a) (b:=b) (B:=B) (x:=x) F hF k;have f:F1=.non\/∃ m,F1=.dct (bk m):=by
   rcases hF with h | h
   ·rcases f2 h with ⟨z,_⟩ | ⟨m,_,z⟩
    ·exact .inl z
    ·exact .inr ⟨m,z⟩
   ·rw [f1 h]; exact .inr h
  obtain ⟨F',S,e2,g1,W⟩:=qes ks F1 (ii (.int k)) f;refine ⟨F',S,(jP rfl e1).trans e2,λh=>?_,λh=>?_⟩;·have:=f1 h;rw [g1 (by rw [this]; exact h),this]
  ·rcases f2 h with ⟨z,q⟩ | ⟨m,q,z⟩
   ·rcases W z with ⟨z2,q2⟩ | z2
    ·exact .inl ⟨z2,λj c=>by
      rcases ac.mp c with rfl | c;·exact q
      ·exact q2 j c⟩
    ·exact .inr z2
   ·exact .inr ⟨k,m,q,by rw [g1 ⟨m,z⟩,z]⟩
abbrev oB:qN:=oG (wW (jA (qc 2)) (gNm 8) wB)
theorem qdD (n:Nat):yQ 0 n=((aP n).map λ(k:Nat)=>(k:Int)).map D.int:=by unfold yQ;rw [bH];refine dS λk _=>?_;simp
theorem qij (A:∀ y∈ns,0<=y/\y < r) {c:Ln} (i:Cls r (seen.zip ns) c) (j:c.length<=1500) (u w:Option D):(∃ T V S,oB [a,b,ii (.int r),ii (nD ns),ii (sD seen),ii (.dct (bk c)),ii (.str x),u,w]=.ok (.nx,[a,b,ii (.int r),ii (nD ns),ii (sD seen),ii (.dct (bk T)),ii (.str x),V,S])/\Cls r (seen.zip ns) T/\x∈qt T/\(∀ y∈qt c,y∈qt T)/\T.length<=c.length+90)
  \/ (∃ ρ,oB [a,b,ii (.int r),ii (nD ns),ii (sD seen),ii (.dct (bk c)),ii (.str x),u,w]=.ok (.rt .non,ρ)):=by
 have d:(seen.zip ns).length=seen.length:=by rw [List.length_zip]; lia
 have hi:=qbz c x;by_cases q:x∈qt c;·rw [Ad q] at hi;exact .inl ⟨c,u,w,qj3 hi,i,q,λy C=>C,by lia⟩
 ·rw [Ac q] at hi;obtain ⟨F,S,e,_,f⟩:=qes hr h9 h6 hn (a:=a) (b:=b) (B:=ii (.dct (bk c))) (x:=x) ((aP r.toNat).map λ(k:Nat)=>(k:Int)) .non w (.inl rfl);have hit:jA (qc 2) [a,b,ii (.int r),ii (nD ns),ii (sD seen),ii (.dct (bk c)),ii (.str x),ii .non,w]=.ok (((aP r.toNat).map λ(k:Nat)=>(k:Int)).map D.int,[a,b,ii (.int r),ii (nD ns),ii (sD seen),ii (.dct (bk c)),ii (.str x),ii .non,w]):=by rw [<-qdD hr h9 h6 hn];exact iR0 (by lia) (by lia) rfl
  have h:wW (jA (qc 2)) (gNm 8) wB [a,b,ii (.int r),ii (nD ns),ii (sD seen),ii (.dct (bk c)),ii (.str x),ii .non,w]=.ok (.nx,[a,b,ii (.int r),ii (nD ns),ii (sD seen),ii (.dct (bk c)),ii (.str x),ii F,S]):=by rw [jI,hit,jR];exact e
  rcases f rfl with ⟨rfl,o⟩ | ⟨k,m,g,rfl⟩
  ·exact .inr ⟨_,qj4 hi h⟩
  ·obtain ⟨nd,len⟩:=qbF (by lia) _ (l:=[(x,k)]) (by simp [qt]) g;have ln:m.length<=90:=by rw [d] at len; simp at len; lia
   have lb:∀ l:Ln,(bk l).length=l.length:=λl=>by simp [bk]
   refine .inl ⟨mg c m,_,_,(qj5 hi h (by rw [lb,lb]; exact qY (by lia))).trans (by rw [qie]),qif i (qdB g) nd,(WF m c x).mpr (.inr ((XB _ g).key (by simp [qt]))),λy C=>(WF m c y).mpr (.inl C),?_⟩;have:=qeo m c
   lia
theorem qet (A:∀ y∈ns,0<=y/\y < r):∀ (L:List Str) (c:Ln) (z u w:Option D),Cls r (seen.zip ns) c->c.length+90 * L.length<=1500 ->(∃ T l V S,kO (gNm 6) oB (L.map D.str) [a,b,ii (.int r),ii (nD ns),ii (sD seen),ii (.dct (bk c)),z,u,w]=.ok (.nx,[a,b,ii (.int r),ii (nD ns),ii (sD seen),ii (.dct (bk T)),l,V,S])/\Cls r (seen.zip ns) T/\(∀ y∈L,y∈qt T)/\∀ y∈qt c,y∈qt T)
  \/ (∃ ρ,kO (gNm 6) oB (L.map D.str) [a,b,ii (.int r),ii (nD ns),ii (sD seen),ii (.dct (bk c)),z,u,w]=.ok (.rt .non,ρ))
 | [],c,z,u,w,hc,_=>.inl ⟨c,z,u,w,rfl,hc,(λy C=>by cases C),λy C=>C⟩
 | x::L,c,z,u,w,hc,hl=>by
  rw [ah] at hl;have hg:gNm 6 (.str x) [a,b,ii (.int r),ii (nD ns),ii (sD seen),ii (.dct (bk c)),z,u,w]=.ok [a,b,ii (.int r),ii (nD ns),ii (sD seen),ii (.dct (bk c)),ii (.str x),u,w]:=rfl;rcases qij hr h9 h6 hn (a:=a) (b:=b) (x:=x) A hc (by lia) u w with ⟨c1,i,w1,e1,U,hx,k,g⟩ | ⟨ρ,e1⟩
  ·rcases qet A L c1 (ii (.str x)) i w1 U (by lia) with ⟨c2,z2,e,w2,e2,d,f,h⟩ | ⟨ρ,e2⟩
   ·exact .inl ⟨c2,z2,e,w2,(jP hg e1).trans e2,d,(λy C=>by
     rcases ac.mp C with rfl | C;·exact h _ hx
     ·exact f y C),λy C=>h y (k y C)⟩
   ·exact .inr ⟨ρ,(jP hg e1).trans e2⟩
  ·exact .inr ⟨ρ,Jm hg e1⟩
end
variable {v:Str->Int}
theorem qgf (hn:ns.length=seen.length):qk3 r (seen.zip ns) v↔Sol seen r ns v:=by
 constructor
 ·intro h k p hp;have a:k < ns.length:=by rw [hn]; exact (aF.mp hp).1
  have:=h (p,nI ns k) (ck (i:=k) (by rw [List.getElem?_zip_eq_some];refine ⟨hp,?_⟩;unfold nI;rw [aE a];rfl));exact this
 ·intro h e b;obtain ⟨k,a⟩:=fq b;obtain ⟨h1,h2⟩:=List.getElem?_zip_eq_some.mp a;have:=h k e.1 h1;unfold nI at this;rw [h2] at this;exact this
theorem qdE (w:jp ws) (hl:QJ p q) (hr:1<=r) (h9:r<=99) (hn:wZ ws.length r ns):∃ d,Kp [Wd ws,Ld p q,.int r,nD ns]=.ok (d,[.non,.non,.non,.non])/\(d=.non\/(∃ m,d=.dct m)/\∃ v,Sol (qo ws p q) r ns v):=by
 have l:(qo ws p q).length=ws.length:=by simp [qo]
 have h:ns.length=(qo ws p q).length:=by rw [l]; exact hn.1
 have h6:=w.2.1;have j:=Wx w p q;have hp:kb [Wd ws,Ld p q]=.ok (sD (qo ws p q),[.non,.non]):=kY w hl;have s:vI [Wd ws,Ld p q]=.ok (.lst ((LS (qo ws p q)).map D.str),[.non,.non]):=qbu w hl;have key:=qet hr h9 (seen:=qo ws p q) (ns:=ns) (by lia) h (a:=ii (Wd ws)) (b:=ii (Ld p q)) (λy C=>hn.2 y C) (LS (qo ws p q)) [] ij ij ij (λe _=>by simp [qt]) (by simp; lia);have hit:jN (qm [.vl,.vl] vI (qb (qc 0) (qb (qc 1) qr))) [ii (Wd ws),ii (Ld p q),ii (.int r),ii (nD ns),ii (sD (qo ws p q)),ii (.dct []),ij,ij,ij]=.ok ((LS (qo ws p q)).map D.str,[ii (Wd ws),ii (Ld p q),ii (.int r),ii (nD ns),ii (sD (qo ws p q)),ii (.dct []),ij,ij,ij]):=by have c:jK (.lst ((LS (qo ws p q)).map D.str))=.ok ((LS (qo ws p q)).map D.str):=rfl;generalize D.lst ((LS (qo ws p q)).map D.str)=A at *;generalize (LS (qo ws p q)).map D.str=B at *;generalize sD (qo ws p q)=S at *;generalize Wd ws=W at *;generalize Ld p q=L at *;simp [s,c]
 have ud:∀ fb:qN,KM [.val,.val,.val,.val] (qD (qU 4 (qm [.vl,.vl] kb (qb (qc 0) (qb (qc 1) qr)))) (qD (qU 5 (dC (.dct []))) fb) (qv Ko [Wd ws,Ld p q,.int r,nD ns]))=KM [.val,.val,.val,.val] (fb [ii (Wd ws),ii (Ld p q),ii (.int r),ii (nD ns),ii (sD (qo ws p q)),ii (.dct []),ij,ij,ij]):=λfb=>by rw [show qv Ko [Wd ws,Ld p q,.int r,nD ns]=[ii (Wd ws),ii (Ld p q),ii (.int r),ii (nD ns),ij,ij,ij,ij,ij] from rfl];generalize sD (qo ws p q)=S at *;generalize Wd ws=W at *;generalize Ld p q=L at *;refine (qx (ρ1:=[ii W,ii L,ii (.int r),ii (nD ns),ii S,ij,ij,ij,ij]) (by simp [hp])).trans ?_;exact qx (ρ1:=[ii W,ii L,ii (.int r),ii (nD ns),ii S,ii (.dct []),ij,ij,ij]) (by simp)
 have o:∀ ρ,wW (jN (qm [.vl,.vl] vI (qb (qc 0) (qb (qc 1) qr)))) (gNm 6) oB ρ=(jN (qm [.vl,.vl] vI (qb (qc 0) (qb (qc 1) qr))) ρ).bind λp=>kO (gNm 6) oB p.1 p.2:=λρ=>rfl;rcases key with ⟨T,z,V,t,e,k,n,_⟩ | ⟨ρ,e⟩
 ·refine ⟨.dct (bk T),qw.trans ?_,.inr ⟨⟨_,rfl⟩,je T,?_⟩⟩;·refine (ud _).trans ((qx (f:=wW (jN (qm [.vl,.vl] vI (qb (qc 0) (qb (qc 1) qr)))) (gNm 6) oB) (by rw [o,hit,jR]; exact e)).trans ?_);simp
  ·refine (qgf h).mp λe i=>?_;obtain ⟨h1,h2⟩:=k e i;have g:=h2 (n _ (vV.mpr ⟨_,(dB i).1,.inl rfl⟩));have:=hn.2 e.2 (dB i).2;refine qf5.mp ?_;rw [g,cQ this.1 this.2]
 ·refine ⟨.non,qw.trans ?_,.inl rfl⟩;refine (ud _).trans ?_;show KM _ (qD (wW (jN (qm [.vl,.vl] vI (qb (qc 0) (qb (qc 1) qr)))) (gNm 6) oB) (jr (qc 5)) _)=_;have e:kO (gNm 6) oB ((LS (qo ws p q)).map D.str) [ii (Wd ws),ii (Ld p q),ii (.int r),ii (nD ns),ii (sD (qo ws p q)),ii (.dct []),ij,ij,ij]=.ok (.rt .non,ρ):=e;rw [yG,o,hit,jR];show KM _ ((kO _ _ _ _).bind _)=_;rw [e];rfl
theorem gk {a b c:Str} {l m:Wk} (h:Path seen a l b) (k:Path seen b m c):Path seen a (l++m) c:=by
 induction k with
 | nil=>rw [be]; exact h
 | snoc _ e1 e2 i=>rw [<-aU]; exact .snoc i e1 e2
theorem qdF {a b:Str} {l:Wk} (h:Path seen a l b):Path seen b l.reverse a:=by
 induction h with
 | nil=>exact .nil
 | @snoc l x y k p _ e1 e2 ih=>rw [List.reverse_append];exact gk (.snoc (l:=[]) .nil e1 e2.symm) ih
theorem qeu {l:Wk} (h:l.Nodup) (hl:∀ k∈l,k < n):l.length<=n:=by have:=Xw h (b:=aP n) λx hx=>cj.mpr (hl x hx);rw [cu] at this;exact this
def Rnd (seen:List Pr) (n:Nat) (c:Ci):Prop:=Path seen c.1 c.2 c.1/\1<=c.2.length/\c.2.length<=n
section
variable (S:Sn seen W)
include S
theorem qdG {p:Pr} {k:Nat} (h:seen[k]?=ii p):Rnd seen 13 (ZM W p k):=by
 have hp:p∈seen:=ck h;obtain ⟨h1,h2⟩:=uU S.a p hp;have m1:=jQ h1;have A:=jQ h2;have p1:=S.w.path _ m1;have p2:=S.w.path _ A;have hr:(jx W p.2).1=(jx W p.1).1:=(qbm S hp).symm;have n1:=qeu (S.w.nr _ m1).1 p1.lt;have n2:=qeu (S.w.nr _ A).1 p2.lt;have hn:=S.n;simp only [] at n1 n2 p1 p2;rw [hr] at p2;refine ⟨gk (gk p1 (.snoc (l:=[]) .nil h (.inl rfl))) (qdF p2),?_,?_⟩;·unfold ZM; simp; lia
 ·unfold ZM; simp; lia
theorem qbG:∀ c∈CL W 0 seen,Rnd seen 13 c:=λc d=>by obtain ⟨q,hq,rfl⟩:=aw.mp d;obtain ⟨p,j⟩:=q;have D:=fZ hq;refine qdG S ?_;rw [aF];have h2:=D.2.2;simp only [Nat.sub_zero] at h2;exact ⟨by have:=D.2.1; lia,h2.symm⟩
theorem qik {c:Ci} (h:BO W seen r ns=ii c):Rnd seen 26 c/\Xn c.2 r ns=true:=by
 unfold BO at h;refine ⟨?_,by simpa using fB h⟩;rcases ao.mp (bA h) with m | m
 ·obtain ⟨a,b,d⟩:=qbG S c m;exact ⟨a,b,by lia⟩
 ·obtain ⟨M,f,rfl⟩:=aw.mp m;obtain ⟨f,j⟩:=bV.mp f;obtain ⟨a,b,d⟩:=qbG S M f;obtain ⟨f1,_,f3,_⟩:=Wz (CL W 0 seen) [];have k:=f3 M f j;have hg:∃ c1∈CL W 0 seen,c1.1=M.1/\Kz (FO [] (CL W 0 seen)) M.1=c1.2:=by
   unfold Kz;cases q:(FO [] (CL W 0 seen)).find? λc=>decide (c.1=M.1) with
   | none=>obtain ⟨z,g,e⟩:=aw.mp k;exact absurd (dA.mp q z g) (by simp [e])
   | some c1=>
    have m:=bA q;rcases f1 c1 m with z | z;·cases z
    ·exact ⟨c1,z,by simpa using fB q,rfl⟩
  obtain ⟨c1,h1,e1,e2⟩:=hg;obtain ⟨i,b1,d1⟩:=qbG S c1 h1;rw [e2];refine ⟨gk (e1 ▸ i) a,?_,?_⟩;·show 1<=(c1.2++M.2).length; rw [ae]; lia
  ·show (c1.2++M.2).length<=26; rw [ae]; lia
end
noncomputable def go (seen:List Pr):Str->Wk->Option Str
 | x,[]=>ii x
 | x,k::l=>match seen[k]? with
  | some p=>if x=p.1\/x=p.2 then go seen (oth p x) l else ij
  | none=>ij
theorem uX (seen:List Pr) (x:Str) (k:Nat) (l:Wk):go seen x (k::l)=match seen[k]? with
  | some p=>if x=p.1\/x=p.2 then go seen (oth p x) l else ij
  | none=>none:=rfl
theorem qev (seen:List Pr):∀ (l m:Wk) (x:Str),go seen x (l++m)=(go seen x l).bind λy=>go seen y m
 | [],m,x=>rfl
 | k::l,m,x=>by
  rw [dg,uX,uX];cases seen[k]? with
  | none=>rfl
  | some p=>
   simp only [];by_cases h:x=p.1\/x=p.2;·rw [Aa h,Aa h]; exact qev seen l m _
   ·rw [Ab h,Ab h]; rfl
theorem qgg {a b:Str} {l:Wk} (h:Path seen a l b):go seen a l=ii b:=by
 induction h with
 | nil=>rfl
 | @snoc l x y k p _ e1 e2 ih=>
  rw [qev,ih];show go seen x [k]=ii y;unfold go;rw [e1];simp only [];rcases e2 with rfl | rfl
  ·rw [Aa (.inl rfl)];show ii (oth (x,y) x)=ii y;unfold oth;rw [Aa rfl]
  ·rw [Aa (.inr rfl)];show ii (oth (y,x) x)=ii y;unfold oth;by_cases z:x=y;·rw [Aa z,z]
   ·rw [Ab z]
theorem Ye {k:Nat} {p:Pr} (h:seen[k]?=ii p):ixD (sD seen) (.int (k:Nat))=.ok (pD p):=by unfold ixD;simp only [];rw [uP];unfold jb;rw [aG,h];rfl
theorem gl (p:Pr) (x:Str):ub (.str x) (pD p)=.ok (.bl (!decide (x=p.1\/x=p.2))):=by
 have h:(inD (.str x) (pD p)).bind (λb=>Out.ok (D.bl b))=.ok (.bl (decide (x=p.1\/x=p.2))):=UV p x;show (inD (.str x) (pD p)).bind (λb=>Out.ok (D.bl (!b)))=_;cases q:inD (.str x) (pD p) with
 | ok b=>rw [q] at h;have h:Out.ok (D.bl b)=.ok (.bl (decide (x=p.1\/x=p.2))):=h;have:b=decide (x=p.1\/x=p.2):=D.bl.inj (Out.ok.inj h);rw [this];rfl
 | exc c o=>rw [q] at h; cases h
 | bad=>rw [q] at h; cases h
abbrev lbB:qN:=(qD (qdX (d2 ixD (qc 6) (qc 9)) (qX 2 (qp (gNm 10) (qp (gNm 11) qW))))
  (qD (sIf (qC (d2 ub (qc 7) (jT (qb (qc 10) (qb (qc 11) qr))))) (jr (dC (.bl iq))) qK)
  (qD (qU 7 (dIf (qC (d2 eqD (qc 7) (qc 10))) (qc 11) (qc 10)))
  (qU 8 (d2 zM (d2 ixD (qc 3) (qc 9)) (qc 8))))))
variable {N S:D}
theorem qbH {a b c e f u v:Option D} {p:Pr} {k:D} {n t:Int} (h1:ixD S k=.ok (pD p)) (h2:ixD N k=.ok (.int n)) (hx:x=p.1\/x=p.2):lbB [a,b,c,ii N,e,f,ii S,ii (.str x),ii (.int t),ii k,u,v]=.ok (.nx,[a,b,c,ii N,e,f,ii S,ii (.str (oth p x)),ii (.int (n - t)),ii k,ii (.str p.1),ii (.str p.2)]):=by
 have z2:2<=sizeLine:=qY (by lia);have hn:=gl p x;rw [Ad hx] at hn;obtain ⟨y,z⟩:=p;have hn:ub (.str x) (.tup [.str y,.str z])=.ok (.bl iq):=hn;have h:zM (.int n) (.int t)=.ok (.int (n - t)):=rfl;have hg:qX 2 (qp (gNm 10) (qp (gNm 11) qW)) (pD (y,z)) [a,b,c,ii N,e,f,ii S,ii (.str x),ii (.int t),ii k,u,v]=.ok [a,b,c,ii N,e,f,ii S,ii (.str x),ii (.int t),ii k,ii (.str y),ii (.str z)]:=rfl;unfold lbB;rw [Qv (ρ1:=[a,b,c,ii N,e,f,ii S,ii (.str x),ii (.int t),ii k,ii (.str y),ii (.str z)]) (by simp [h1,hg])];rw [Qv (ρ1:=[a,b,c,ii N,e,f,ii S,ii (.str x),ii (.int t),ii k,ii (.str y),ii (.str z)]) (by simp [hn,z2])];by_cases q:x=y
 ·have hq:eqD (.str x) (.str y)=.ok (.bl ir):=by simp [eqD,eqN,eqS,q]
  have j:oth (y,z) x=z:=Aa q;rw [j,Qv (ρ1:=[a,b,c,ii N,e,f,ii S,ii (.str z),ii (.int t),ii k,ii (.str y),ii (.str z)]) (by simp [hq])];simp [h2,h]
 ·have hq:eqD (.str x) (.str y)=.ok (.bl iq):=by simp [eqD,eqN,eqS,q]
  have j:oth (y,z) x=y:=Ab q;rw [j,Qv (ρ1:=[a,b,c,ii N,e,f,ii S,ii (.str y),ii (.int t),ii k,ii (.str y),ii (.str z)]) (by simp [hq])];simp [h2,h]
theorem qbI {a b c e f:Option D} {seen:List Pr} {ns:List Int} (hn:ns.length=seen.length):∀ (l:Wk) (x y:Str) (t:Int) (w u v:Option D),go seen x l=ii y->∃ S V U,kO (gNm 9) lbB (inL l) [a,b,c,ii (nD ns),e,f,ii (sD seen),ii (.str x),ii (.int t),w,u,v]=.ok (.nx,[a,b,c,ii (nD ns),e,f,ii (sD seen),ii (.str y),ii (.int (jX ns t l)),S,V,U])
 | [],x,y,t,w,u,v,h=>by cases h;exact ⟨w,u,v,rfl⟩
 | k::l,x,y,t,w,u,v,h=>by
  rw [uX] at h;cases q:seen[k]? with
  | none=>rw [q] at h; cases h
  | some p=>
   rw [q] at h;simp only [] at h;by_cases hx:x=p.1\/x=p.2
   ·rw [Aa hx] at h;have d:k < ns.length:=by rw [hn]; exact (aF.mp q).1
    obtain ⟨S,V,U,i⟩:=qbI (a:=a) (b:=b) (c:=c) (e:=e) (f:=f) hn l (oth p x) y (nI ns k - t) (ii (.int (k:Nat))) (ii (.str p.1)) (ii (.str p.2)) h;exact ⟨S,V,U,(jP rfl (qbH (Ye q) (qa8 d) hx)).trans i⟩
   ·rw [Ab hx] at h; cases h
abbrev eoB:qN:=(qD (sIf (qC (d2 ub (qc 3) (d2 ixD (qc 0) (qc 4)))) (jr (dC .non)) qK)
  (qU 3 (qm [.vl,.vl] jM (qb (d2 ixD (qc 0) (qc 4)) (qb (qc 3) qr)))))
theorem qbJ {k:D} {p:Pr} (h1:ixD S k=.ok (pD p)) (hx:x=p.1\/x=p.2):eoB [ii S,a,b,ii (.str x),ii k]=.ok (.nx,[ii S,a,b,ii (.str (oth p x)),ii k]):=by have hn:=gl p x;rw [Ad hx] at hn;have j:=Xo p x;generalize pD p=P at *;simp [h1,hn,j]
theorem qbK {a b:Option D} {seen:List Pr}:∀ (l:Wk) (x y:Str) (w:Option D),go seen x l=ii y->∃ S,kO (gNm 4) eoB (inL l) [ii (sD seen),a,b,ii (.str x),w]=.ok (.nx,[ii (sD seen),a,b,ii (.str y),S])
 | [],x,y,w,h=>by cases h;exact ⟨w,rfl⟩
 | k::l,x,y,w,h=>by
  rw [uX] at h;cases q:seen[k]? with
  | none=>rw [q] at h; cases h
  | some p=>
   rw [q] at h;simp only [] at h;by_cases hx:x=p.1\/x=p.2;·rw [Aa hx] at h;obtain ⟨S,i⟩:=qbK (a:=a) (b:=b) l (oth p x) y (ii (.int (k:Nat))) h;exact ⟨S,(jP rfl (qbJ (Ye q) hx)).trans i⟩
   ·rw [Ab hx] at h; cases h
theorem qdH (w:jp ws) (hl:QJ p q) (f:1<=r) (h9:r<=99) {l:Ln} (k:qt l=LS (qo ws p q)) (v:∀ e∈l,0<=e.2/\e.2 < r):ku [Wd ws,Ld p q,.int r,.tup (prL l)]=.ok (nD (qdt l (qo ws p q) r),[.non,.non,.non,.non]):=by
 have j:OkW r l:=λx hx=>by obtain ⟨c,a,e⟩:=ZE w p q x.1 (by rw [<-k]; exact aw.mpr ⟨x,hx,rfl⟩);have:=v x hx;exact ⟨by rw [e]; exact Xk a,this.1,this.2⟩
 have h:KB l=true:=by unfold KB;rw [KF];refine KC _ ?_;rw [k];exact (qT _).and (qbk _)
 have b:uR 1 99 (.int r)=true:=by
  simp [uR]
  lia
 have n:l.length<=12:=by
  have h1:=Wx w p q;have e:l.length=(LS (qo ws p q)).length:=by rw [<-k]; simp [qt]
  lia
 have hi:=(zK (ds:=prL l) (λd hd=>by
  obtain ⟨x,_,rfl⟩:=aw.mp hd;refine ⟨trivial,λxs e y C=>?_⟩;cases e;rcases ac.mp C with rfl | C;·trivial
  ·rw [aA.mp C];trivial) (by simp [prL]; lia) r).2 l rfl j
 rw [h] at hi;rw [Qr w hl b j h hi,Aa (by rw [aL];intro x hx;rw [k];exact Ad hx)];unfold qiW qdt nD;rw [bH];rfl
noncomputable def qil (l:Wk):Bool:=decide (1<=l.length)&&decide (l.length<=40)
noncomputable def brB (seen:List Pr) (r:Int) (ns:List Int) (x:Str) (l:Wk):Bool:=decide (go seen x l=ii x)&&qil l&&Xn l r ns
theorem qbL (l:Wk):∃ b1 b2,leD (.int 1) (.int l.length)=.ok (.bl b1)/\leD (.int l.length) (.int 40)=.ok (.bl b2)/\qil l=(b1&&b2):=by
 refine ⟨decide (1<=l.length),decide (l.length<=40),?_,?_,rfl⟩;·show Out.ok (D.bl (decide _))=_;congr 2;exact decide_eq_decide.mpr (by lia)
 ·show Out.ok (D.bl (decide _))=_;congr 2;exact decide_eq_decide.mpr (by lia)
theorem qgh {a b c e f u v:Option D} {N:D} {p:Pr} {k:D} {t:Int} (h1:ixD S k=.ok (pD p)) (hx:¬(x=p.1\/x=p.2)):lbB [a,b,c,ii N,e,f,ii S,ii (.str x),ii (.int t),ii k,u,v]=.ok (.rt (.bl iq),[a,b,c,ii N,e,f,ii S,ii (.str x),ii (.int t),ii k,ii (.str p.1),ii (.str p.2)]):=by have z2:2<=sizeLine:=qY (by lia);have hn:=gl p x;rw [Ac hx] at hn;obtain ⟨y,z⟩:=p;have hn:ub (.str x) (.tup [.str y,.str z])=.ok (.bl ir):=hn;have hg:qX 2 (qp (gNm 10) (qp (gNm 11) qW)) (pD (y,z)) [a,b,c,ii N,e,f,ii S,ii (.str x),ii (.int t),ii k,u,v]=.ok [a,b,c,ii N,e,f,ii S,ii (.str x),ii (.int t),ii k,ii (.str y),ii (.str z)]:=rfl;unfold lbB;rw [Qv (ρ1:=[a,b,c,ii N,e,f,ii S,ii (.str x),ii (.int t),ii k,ii (.str y),ii (.str z)]) (by simp [h1,hg])];simp [hn,z2]
theorem qbM {a b c e f:Option D} {seen:List Pr} {ns:List Int} (hn:ns.length=seen.length):∀ (l:Wk) (x:Str) (t:Int) (w u v:Option D),(∀ k∈l,k < seen.length)->go seen x l=ij->∃ ρ,kO (gNm 9) lbB (inL l) [a,b,c,ii (nD ns),e,f,ii (sD seen),ii (.str x),ii (.int t),w,u,v]=.ok (.rt (.bl iq),ρ)
 | [],x,t,w,u,v,hk,h=>by cases h
 | k::l,x,t,w,u,v,hk,h=>by
  have d:=hk k (aq ..);rw [uX] at h;have q:=aE d;rw [q] at h;simp only [] at h;by_cases hx:x=(seen[k]).1\/x=(seen[k]).2;·rw [Aa hx] at h;obtain ⟨ρ,i⟩:=qbM (a:=a) (b:=b) (c:=c) (e:=e) (f:=f) hn l _ (nI ns k - t) (ii (.int (k:Nat))) (ii (.str (seen[k]).1)) (ii (.str (seen[k]).2)) (λj g=>hk j (af _ g)) h;exact ⟨ρ,(jP rfl (qbH (Ye q) (qa8 (by lia)) hx)).trans i⟩
  ·exact ⟨_,Jm rfl (qgh (Ye q) hx)⟩
theorem WG (u:jp ws) (hl:QJ p q) (hr:1<=r) (h9:r<=99) (hn:wZ ws.length r ns) {x:Str} {l:Wk} (D:∀ k∈l,k < (qo ws p q).length):Kq [Wd ws,Ld p q,.int r,nD ns,.str x,lD l]=.ok (.bl (brB (qo ws p q) r ns x l),[.non,.non,.non,.non,.non,.non]):=by
 have v:(qo ws p q).length=ws.length:=by simp [qo]
 have d:ns.length=(qo ws p q).length:=by rw [v]; exact hn.1
 have s:kb [Wd ws,Ld p q]=.ok (sD (qo ws p q),[.non,.non]):=kY u hl;have n:kZ (lD l)=.ok (.int l.length):=by simp [inL]
 have A:vL (.int l.length) (.int 2)=.ok (.int ((l.length % 2:Nat):Int)):=by have:=qdC (a:=(l.length:Int)) (r:=2) (by lia) (by lia);rw [this];congr 2
 refine qw.trans ?_;unfold qaU;rw [show qv qaT [Wd ws,Ld p q,.int r,nD ns,.str x,lD l]=[ii (Wd ws),ii (Ld p q),ii (.int r),ii (nD ns),ii (.str x),ii (lD l),ij,ij,ij,ij,ij,ij] from rfl];have hit:jN (qc 5) [ii (Wd ws),ii (Ld p q),ii (.int r),ii (nD ns),ii (.str x),ii (lD l),ii (sD (qo ws p q)),ii (.str x),ii (.int 0),ij,ij,ij]=.ok (inL l,[ii (Wd ws),ii (Ld p q),ii (.int r),ii (nD ns),ii (.str x),ii (lD l),ii (sD (qo ws p q)),ii (.str x),ii (.int 0),ij,ij,ij]):=rfl;refine (qx (ρ1:=[ii (Wd ws),ii (Ld p q),ii (.int r),ii (nD ns),ii (.str x),ii (lD l),ii (sD (qo ws p q)),ij,ij,ij,ij,ij]) (by generalize sD (qo ws p q)=S at *;generalize Wd ws=W at *;generalize Ld p q=L at *;simp [s])).trans ?_;refine (qx (ρ1:=[ii (Wd ws),ii (Ld p q),ii (.int r),ii (nD ns),ii (.str x),ii (lD l),ii (sD (qo ws p q)),ii (.str x),ij,ij,ij,ij]) (by simp)).trans ?_;refine (qx (ρ1:=[ii (Wd ws),ii (Ld p q),ii (.int r),ii (nD ns),ii (.str x),ii (lD l),ii (sD (qo ws p q)),ii (.str x),ii (.int 0),ij,ij,ij]) (by simp)).trans ?_;cases hg:go (qo ws p q) x l with
 | none=>obtain ⟨ρ,j⟩:=qbM (a:=ii (Wd ws)) (b:=ii (Ld p q)) (c:=ii (.int r)) (e:=ii (.str x)) (f:=ii (lD l)) d l x 0 ij ij ij D hg;rw [yG,jI,hit,jR,j,jR];simp [brB,hg]
 | some y=>
  obtain ⟨w,V,U,j⟩:=qbI (a:=ii (Wd ws)) (b:=ii (Ld p q)) (c:=ii (.int r)) (e:=ii (.str x)) (f:=ii (lD l)) d l x y 0 ij ij ij hg;refine (qx (by rw [jI,hit,jR]; exact j)).trans ?_;unfold brB;rw [hg];unfold Xn;generalize jX ns 0 l=T at *;generalize lD l=LD at *;generalize sD (qo ws p q)=S at *;generalize Wd ws=W at *;generalize Ld p q=L at *;generalize nD ns=N at *;obtain ⟨b1,b2,k1,k2,E⟩:=qbL l;by_cases C:y=x
  ·subst C;have h:neD (.str y) (.str y)=.ok (.bl iq):=by simp [neD,eqN,eqS]
   rw [E];by_cases g:b1=iq;·subst g;simp [h,n,k1]
   obtain rfl:b1=true:=by simpa using g
   cases b2 with
   | false=>simp [h,n,k1,k2]
   | true=>
    refine (qx (ρ1:=[ii W,ii L,ii (.int r),ii N,ii (.str y),ii LD,ii S,ii (.str y),ii (.int T),w,V,U]) (by simp [h,n,k1,k2])).trans ?_;by_cases o:odd l=ir
    ·rw [Aa o];have o':l.length % 2=1:=Ae o;have mr:=qdC (a:=r) (r:=2) (by lia) (by lia);have m:=qdC (a:=T) (r:=2) (by lia) (by lia);rw [o'] at A;have i:eqD (.int 1) (.int 0)=.ok (.bl iq):=rfl;have q1:eqD (.int (r % 2)) (.int 0)=.ok (.bl (decide (r % 2=0))):=by simp [eqD,eqN,eqS]; rfl
     have t:eqD (.int (T % 2)) (.int 1)=.ok (.bl (decide (T % 2=1))):=by simp [eqD,eqN,eqS]; rfl
     cases hq:decide (r % 2=0) <;> rw [hq] at q1 <;> simp [n,A,i,mr,m,q1,t,hq]
    ·rw [Ab o];have o':l.length % 2=0:=by
      have:¬l.length % 2=1:=λz=>o (Ad z)
      lia
     have m:=qdC (a:=T) hr h9;rw [o'] at A;have i:eqD (.int 0) (.int 0)=.ok (.bl ir):=rfl;have q1:neD (.int (T % r)) (.int 0)=.ok (.bl (!decide (T % r=0))):=by simp [neD,eqN,eqS]; rfl
     simp [n,A,i,m,q1]
  ·have h:neD (.str y) (.str x)=.ok (.bl ir):=by simp [neD,eqN,eqS,C]
   have B:¬ii y=ii x:=λz=>C (aK.inj z);simp [h,B,C]
abbrev o5:List D:=[.non,.non,.non,.non,.non]
theorem qgi {k:D} {p:Pr} (h1:ixD S k=.ok (pD p)) (hx:¬(x=p.1\/x=p.2)):eoB [ii S,a,b,ii (.str x),ii k]=.ok (.rt .non,[ii S,a,b,ii (.str x),ii k]):=by have hn:=gl p x;rw [Ac hx] at hn;generalize pD p=P at *;simp [h1,hn]
theorem qbN {a b:Option D} {seen:List Pr}:∀ (l:Wk) (x:Str) (w:Option D),(∀ k∈l,k < seen.length)->go seen x l=ij->∃ ρ,kO (gNm 4) eoB (inL l) [ii (sD seen),a,b,ii (.str x),w]=.ok (.rt .non,ρ)
 | [],x,w,_,h=>by cases h
 | k::l,x,w,hk,h=>by
  have q:=aE (hk k (aq ..));rw [uX,q] at h;simp only [] at h;by_cases hx:x=(seen[k]'(hk k (aq ..))).1\/x=(seen[k]'(hk k (aq ..))).2;·rw [Aa hx] at h;obtain ⟨ρ,i⟩:=qbN (a:=a) (b:=b) l _ (ii (.int (k:Nat))) (λj c=>hk j (af _ c)) h;exact ⟨ρ,(jP rfl (qbJ (Ye q) hx)).trans i⟩
  ·exact ⟨_,Jm rfl (qgi (Ye q) hx)⟩
noncomputable def oS:Option Str->D
 | some y=>.str y
 | none=>.non
theorem ZI {l:Wk} (c:∀ k∈l,k < seen.length):Ke [sD seen,.str x,lD l]=.ok (oS (go seen x l),[.non,.non,.non]):=by
 refine qw.trans ?_;unfold Xb;rw [show qv Xa [sD seen,.str x,lD l]=[ii (sD seen),ii (.str x),ii (lD l),ij,ij] from rfl];have hit:jN (qc 2) [ii (sD seen),ii (.str x),ii (lD l),ii (.str x),ij]=.ok (inL l,[ii (sD seen),ii (.str x),ii (lD l),ii (.str x),ij]):=rfl;refine (qx (ρ1:=[ii (sD seen),ii (.str x),ii (lD l),ii (.str x),ij]) (by simp)).trans ?_;cases h:go seen x l with
 | none=>obtain ⟨ρ,j⟩:=qbN (a:=ii (.str x)) (b:=ii (lD l)) l x ij c h;rw [yG,jI,hit,jR,j,jR];simp [oS]
 | some y=>obtain ⟨S,j⟩:=qbK (a:=ii (.str x)) (b:=ii (lD l)) l x y ij h;refine (qx (by rw [jI,hit,jR]; exact j)).trans ?_;simp [oS]
noncomputable def wkB (n:Nat):D->Bool
 | .lst ds=>decide (1<=ds.length)&&decide (ds.length<=40)&&ds.all (uR 0 ((n:Int) - 1))
 | _=>iq
theorem Qt (h:Pl d) (hp:∀ ds,d=.lst ds->∀ x∈ds,Pl x) (n:Nat):xB [d,.int (n:Nat)]=.ok (.bl (wkB n d),[.non,.non]):=by
 refine qw.trans ?_;cases d <;> first
  | exact h.elim
  | (simp [uI,qv,uq,tyN,wkB,show km "NoneType" "list"=ii iq by decide +kernel,show km "bool" "list"=ii iq by decide +kernel,show km "int" "list"=ii iq by decide +kernel,show km "str" "list"=ii iq by decide +kernel,show km "tuple" "list"=ii iq by decide +kernel]; done)
  | skip
 rename_i ds;have hp:=hp ds rfl;have ht:uq "list" (.lst ds)=.ok (.bl ir):=by simp [uq,tyN]; rfl
 by_cases h1:1<=ds.length
 ·by_cases h2:ds.length<=40
  ·have c:(1:Int)<=ds.length:=by lia
   have a:(ds.length:Int)<=40:=by lia
   have e:=vS (cap:=[1]) (fi:=jN (qc 0)) (ρ:=[ii (.lst ds),ii (.int (n:Nat))]) (ρ1:=[ii (.lst ds),ii (.int (n:Nat))]) (ds:=ds) (fe:=qm [.vl,.vl,.vl] ja (qb (qc 0) (qb (dC (.int 0)) (qb (d2 zM (qc 1) (dC (.int 1))) qr)))) (λd=>.bl (uR 0 ((n:Int) - 1) d)) rfl (qY (by lia)) (λd hd=>by have h1:=ke (hp d hd) 0 ((n:Int) - 1);simp [yz,h1]);have g:=wS (uR 0 ((n:Int) - 1)) ds;have w:wkB n (.lst ds)=ds.all (uR 0 ((n:Int) - 1)):=by simp [wkB,h1,h2]
   rw [w];unfold uI;rw [show qv Wj [.lst ds,.int (n:Nat)]=[ii (.lst ds),ii (.int (n:Nat))] from rfl];refine (qx (ρ1:=[ii (.lst ds),ii (.int (n:Nat))]) (by simp [ht,wV,c,a])).trans ?_;generalize jo [] 1 [1] (jN (qc 0)) (gNm 0) ftT (qm [.vl,.vl,.vl] ja (qb (qc 0) (qb (dC (.int 0)) (qb (d2 zM (qc 1) (dC (.int 1))) qr))))=CC at *;generalize D.lst (ds.map λd=>.bl (uR 0 ((n:Int) - 1) d))=BL at *;simp [e,g]
  ·have a:¬(ds.length:Int)<=40:=by lia
   simp [uI,qv,ht,wkB,h2,a]
 ·have c:¬(1:Int)<=ds.length:=by lia
  simp [uI,qv,ht,wkB,h1,c]
theorem qj6 {l:Wk} (h:∀ k∈l,k < n):wkB n (lD l)=qil l:=by
 have c:(inL l).all (uR 0 ((n:Int) - 1))=true:=by
  rw [aL];intro d hd;obtain ⟨i,hi,rfl⟩:=aw.mp hd;have:=h i hi;simp [uR]
  lia
 simp only [wkB,c,qil,uT,Bool.and_true]
variable {L T:D}
section
variable {W R:D} (e1:jV [W,L,R,N]=.ok (S,[.non,.non,.non,.non]))
include e1
theorem Qu (hT:Pl T) (h:∀ a b,T≠.tup [a,b]):jO [W,L,R,N,T]=.ok (.bl iq,o5):=by
 have ht:=Ql hT;refine qw.trans ?_;cases q:yM T with
 | false=>rw [q] at ht;simp [yg,qv,e1,ht]
 | true=>
  rw [q] at ht;cases T <;> first | cases q | skip
  rename_i ds;have h2:¬(ds.length:Int)=2:=λz=>by
   match ds,z with
   | [a,b],_=>exact h a b rfl
  have e:neD (.int ds.length) (.int 2)=.ok (.bl ir):=by simp [neD,eqN,eqS,h2]
  simp [yg,qv,e1,ht,e]
theorem qbO {a b:D} {f d:Bool} (s:kZ S=.ok (.int (n:Nat))) (g:kr [a]=.ok (.bl f,[.non])) (j:xB [b,.int (n:Nat)]=.ok (.bl d,[.non,.non])) (h:(f&&d)=iq):jO [W,L,R,N,.tup [a,b]]=.ok (.bl iq,o5):=by
 have ht:uq "tuple" (.tup [a,b])=.ok (.bl ir):=Ql trivial;have e:neD (.int 2) (.int 2)=.ok (.bl iq):=rfl;have c:kZ (.tup [a,b])=.ok (.int 2):=by simp
 have i:ixD (.tup [a,b]) (.int 0)=.ok a:=qf1;have i1:ixD (.tup [a,b]) (.int 1)=.ok b:=qgs;refine qw.trans ?_;generalize D.tup [a,b]=T at *;cases f with
 | false=>simp [yg,qv,e1,ht,yM,c,e,i,i1,g]
 | true=>
  cases d with
  | false=>simp [yg,qv,e1,ht,yM,c,e,i,i1,g,s,j]
  | true=>cases h
end
theorem ZJ (w:jp ws) (hl:QJ p q) (hr:1<=r) (h9:r<=99) (hn:wZ ws.length r ns) (hx:Wv (.str x)=ir) {l:Wk} (j:∀ k∈l,k < (qo ws p q).length):jO [Wd ws,Ld p q,.int r,nD ns,.tup [.str x,lD l]]=.ok (.bl (brB (qo ws p q) r ns x l),o5):=by
 have v:(qo ws p q).length=ws.length:=by simp [qo]
 have e1:=Qq w hl hr h9 hn;have e2:=ZI (x:=x) j;have e3:=Qt (d:=lD l) trivial (λds e y t=>by cases e;obtain ⟨i,_,rfl⟩:=aw.mp t;trivial) (qo ws p q).length;rw [qj6 j] at e3;have u:=qa9 (Xm ns) (l:=l) (λk h=>by rw [hn.1,<-v]; exact j k h) hr;have o:=vU (d:=.str x) trivial;rw [hx] at o;have f:kZ (sD (qo ws p q))=.ok (.int (qo ws p q).length):=by simp [jb]
 cases c:qil l with
 | false=>rw [c] at e3;rw [qbO e1 f o e3 rfl];simp [brB,c]
 | true=>
  rw [c] at e3;have ht:uq "tuple" (.tup [.str x,lD l])=.ok (.bl ir):=Ql trivial;have g:neD (.int 2) (.int 2)=.ok (.bl iq):=rfl;have a:kZ (.tup [.str x,lD l])=.ok (.int 2):=by simp
  have s:ixD (.tup [.str x,lD l]) (.int 0)=.ok (.str x):=qf1;have i1:ixD (.tup [.str x,lD l]) (.int 1)=.ok (lD l):=qgs;have m:eqD (oS (go (qo ws p q) x l)) (.str x)=.ok (.bl (decide (go (qo ws p q) x l=ii x))):=by
   cases go (qo ws p q) x l with
   | none=>simp [oS,eqD,eqN,eqS]
   | some y=>simp [oS,eqD,eqN,eqS]; rfl
  unfold brB;rw [c];refine qw.trans ?_;generalize D.tup [.str x,lD l]=C at *;generalize lD l=LD at *;generalize sD (qo ws p q)=S at *;generalize oS (go (qo ws p q) x l)=O at *;generalize decide (go (qo ws p q) x l=ii x)=b at *;generalize ((qo ws p q).length:Int)=n at *;generalize Wd ws=W at *;generalize Ld p q=L at *;generalize nD ns=N at *;generalize Xn l r ns=bb at *;cases b <;> simp [yg,qv,e1,ht,yM,a,g,s,i1,o,f,e3,e2,m,u]
theorem qew (S:Sol seen r ns v):∀ (l:Wk) (x y:Str),go seen x l=ii y->r ∣ v y - jX ns (v x) l
 | [],x,y,h=>by cases h;exact ⟨0,by simp [jX]⟩
 | k::l,x,y,h=>by
  rw [uX] at h;cases q:seen[k]? with
  | none=>rw [q] at h; cases h
  | some p=>
   rw [q] at h;simp only [] at h;by_cases hx:x=p.1\/x=p.2
   ·rw [Aa hx] at h;have i:=qew S l _ _ h;have e:v (oth p x)+v x=v p.1+v p.2:=by
     rcases hx with rfl | rfl;·rw [qbl]; lia
     ·unfold oth;split;·rename_i z; rw [z]
      ·lia
    have c:=S k p q;rw [zg,yo];rw [yo] at i;have hd:r ∣ sg l * (v (oth p x) - (nI ns k - v x)):=(qh6 l).mpr (by
     have:v (oth p x) - (nI ns k - v x)=v p.1+v p.2 - nI ns k:=by lia
     rw [this];exact c)
    have:=fM i hd;have e2:v y - (jX ns 0 l+sg l * v (oth p x))+sg l * (v (oth p x) - (nI ns k - v x))=v y - (jX ns 0 l+sg l * (nI ns k - v x)):=by
     rw [ia]
     lia
    rw [e2] at this;exact this
   ·rw [Ab hx] at h; cases h
theorem qdI {l:Wk} (h:brB seen r ns x l=ir):¬∃ v,Sol seen r ns v:=λ⟨v,S⟩=>by
 unfold brB at h;rw [aS,aS] at h;obtain ⟨⟨hg,_⟩,b⟩:=h;have e:=qew S l x x (Ae hg);have j:okS r ns l (v x):=by
  unfold okS;have:jX ns (v x) l - v x=-(v x - jX ns (v x) l):=by lia
  rw [this];exact Int.dvd_neg.mpr e
 cases o:odd l with
 | false=>have:=(qdx o).mpr ((qdw o _).mp j);rw [b] at this;cases this
 | true=>
  have hd:=(qf6 o _).mp j;have:=(qf7 (r:=r) (ns:=ns) o).mpr λ⟨z1,z2⟩=>by
   obtain ⟨c,a⟩:=hd;obtain ⟨d,hd⟩:=Int.dvd_of_emod_eq_zero z1;rw [hd,Int.mul_assoc] at a;generalize d * c=m at a
   lia
  rw [b] at this;cases this
theorem qex:∀ {L:List Str},L.Pairwise (λx y=>leS x y/\x≠y)->qfG L=ir
 | [],_=>rfl
 | [_],_=>rfl
 | x::y::r,h=>by obtain ⟨h1,h2⟩:=bf.mp h;obtain ⟨a,b⟩:=h1 y (aq ..);unfold qfG;rw [qex h2,Ad (bw b),Ac (show ¬y.cps.toList < x.cps.toList from a)];rfl
theorem qj7 (l:List (Str×Str)):(LS l).Pairwise (λx y=>leS x y/\x≠y):=(qT _).and (qbk l)
theorem XC:∀ m:List (Str×Int),xU (bk m)=ii (qt m)
 | []=>rfl
 | e::m=>by have:=XC m;simp [bk,qt,xU] at this ⊢;exact this
theorem qdJ (m:List (Str×Int)):YT (bk m)=prL m:=by unfold YT bk prL;rw [bH];rfl
theorem qim (l:List (Str×Str)):(LS l).length<=2 * l.length:=by
 unfold LS;rw [(qI _).length_eq];have:=gF (l.map (·.1)++l.map (·.2)) [];simp only [ae,aB,aQ] at this
 lia
noncomputable def OR (br wo pr pk dr te:GF):qN:=(qD (sIf (qC (d2 zO (qm [.vl,.vl,.vl,.vl] br (qb (qc 11) (qb (qc 12) (qb (qc 13) (qb (qc 14) qr))))) (dC .non))) (jr (dC (.bl ir))) qK)
  (qD (qU 6 (d1 Uj (qm [.vl,.vl,.vl,.vl] wo (qb (qc 11) (qb (qc 12) (qb (qc 13) (qb (qc 14) qr)))))))
  (qD (qU 7 (qm [.vl,.vl] pr (qb (qc 11) (qb (qc 12) qr))))
  (qD (qU 8 (qm [.vl,.sl 1,.vl] pk (qb (qc 0) (qZ (qb (d1 zu (qc 6)) qr)))))
  (qD (uc 6 (d2 vL (d2 jL (d2O 6 ixD (qc 8)) (qm [.vl,.sl 1,.vl] dr (qb (qc 0) (qZ (qb (dC (.int 3)) qr))))) (qc 13)) (qc 8))
  (qD (qU 9 (d1 Ui (jo [1] 3 [13,6] (qd2 (qb (qc 7) (qb (qc 14) qr))) (qX 2 (qp (qX 2 (qp (gNm 1) (qp (gNm 2) qW))) (qp (gNm 0) qW))) ftT (d2 eqD (d2 vL (d2 jL (d2 ixD (qc 4) (qc 1)) (d2 ixD (qc 4) (qc 2))) (qc 3)) (qc 0)))))
  (qD (sIf (qC (d2 neD (qm [.vl,.vl,.vl,.vl,.vl] te (qb (qc 11) (qb (qc 12) (qb (qc 13) (qb (qc 14) (qb (d1 jU (d1 jB (qc 6))) qr)))))) (qc 9))) (jr (dC (.bl iq))) qK)
  (qD (qU 10 (d1 jU (jo [1] 1 [8] (jN (d1 jB (qc 6))) (gNm 0) (qC (d2 neD (d2 ixD (qc 0) (dC (.int 0))) (qc 1))) (qc 0))))
  (jr (d2 eqD (jo [1] 1 [11,12,13,14] (jN (jT (qb (qc 10) (qb (dC .non) qr)))) (gNm 0) ftT (qm [.vl,.vl,.vl,.vl,.vl] te (qb (qc 1) (qb (qc 2) (qb (qc 3) (qb (qc 4) (qb (qc 0) qr))))))) (d2 Ut (kJ (qb (dC (.bl iq)) qr)) (dC (.int 2)))))))))))))
noncomputable def OG (ib br wo pr pk dr te:GF):qN:=(qD (qdX (qc 2) (qX 4 (qp (gNm 11) (qp (gNm 12) (qp (gNm 13) (qp (gNm 14) qW))))))
  (qD (qU 5 (kJ (qb (dC .non) (qb (jT qr) (qb (jT (qb (qc 3) qr)) (qb (kJ (qb (qc 3) (qb (qc 4) qr))) (qb (jT (qb (qc 3) (qb (d1 jU (qc 4)) qr))) (qb (jT (qb (qc 3) (qb (kJ qr) qr))) (qb (jT (qb (dC .non) (qb (qc 4) qr))) (qb (jT (qb (dC (.str "zz")) (qb (qc 4) qr))) (qb (dC (.str "x")) qr)))))))))))
  (qD (kz (gz 5 qfo (kJ (qb (jT (qb (qc 3) (qb (d2 jL (qc 4) (kJ (qb (dC .non) qr))) qr))) (qb (jT (qb (qc 3) (qb (d2 jL (qc 4) (kJ (qb (d1 kZ (qc 11)) qr))) qr))) (qb (jT (qb (qc 3) (qb (kJ (qb (d1 WN (dC (.int 1))) qr)) qr))) (qb (jT (qb (qc 3) (qb (kJ (qb (dC (.bl ir)) qr)) qr))) qr)))))))
  (qD (kz (gz 5 ga (jT (qb (qc 3) (qb (d2 Ut (kJ (qb (dC (.int 0)) qr)) (dC (.int 41))) qr)))))
  (qD (sIf (qC (d2 neD (qm [.vl,.vl,.vl,.vl,.vl] ib (qb (qc 11) (qb (qc 12) (qb (qc 13) (qb (qc 14) (qb (qm [.vl,.sl 1,.vl] pk (qb (qc 0) (qZ (qb (qc 5) qr)))) qr)))))) (dC (.bl iq)))) (jr (dC (.bl iq))) qK)
  (OR br wo pr pk dr te))))))
theorem qin (ca:Str->Addr):uO ca=kn vJ [.val,.io,.val,.val,.val] (OG jO UE gh kb ju qP (kw ca)):=rfl
abbrev vv:List PM:=[.val,.io,.val,.val,.val]
noncomputable def BDS (st wk wt w1 w2:D):List D:=[.non,.tup [],.tup [st],.lst [st,wk],.tup [st,wt],.tup [st,.lst []],.tup [.non,wk],.tup [.str "zz",wk],.str "x"]++[.tup [st,w1],.tup [st,w2],.tup [st,.lst [.int (-1)]],.tup [st,.lst [.bl ir]]]++[.tup [st,.lst (aJ 41 (.int 0))]]
variable {t:List D}
section
variable {ib br wo pr pk dr te:GF} {s W R st wk wt w1 w2 n B:D}
variable (k1:jU wk=.ok wt) (k2:jL wk (.lst [.non])=.ok w1) (k3:kZ W=.ok n) (k4:jL wk (.lst [n])=.ok w2)
 (p1:pk [s,.lst t,.lst (BDS st wk wt w1 w2)]=.ok (T,[.non,.lst (t++[.int 0]),.non])) (b1:ib [W,L,R,N,T]=.ok (.bl iq,o5)) (b2:br [W,L,R,N]=.ok (B,[.non,.non,.non,.non]))
include k1 k2 k3 k4 p1 b1
theorem qbP:kn vJ vv (OG ib br wo pr pk dr te) [s,.lst t,.tup [W,L,R,N],st,wk]=KM vv (OR br wo pr pk dr te [ii s,ii (.lst (t++[.int 0])),ii (.tup [W,L,R,N]),ii st,ii wk,ii (.lst (BDS st wk wt w1 w2)),ij,ij,ij,ij,ij,ii W,ii L,ii R,ii N]):=by
 have d:=big;have z1:1<=sizeLine:=by lia
 have z2:2<=sizeLine:=by lia
 have c:4<=sizeLine:=by lia
 have b:9<=sizeLine:=by lia
 have a:13<=sizeLine:=by lia
 have z:13 < sizeLine:=by lia
 refine qw.trans ?_;unfold OG;rw [show qv vJ [s,.lst t,.tup [W,L,R,N],st,wk]=[ii s,ii (.lst t),ii (.tup [W,L,R,N]),ii st,ii wk,ij,ij,ij,ij,ij,ij,ij,ij,ij,ij] from rfl];refine (qx (ρ1:=[ii s,ii (.lst t),ii (.tup [W,L,R,N]),ii st,ii wk,ij,ij,ij,ij,ij,ij,ii W,ii L,ii R,ii N]) (by simp [qX,qp,qW])).trans ?_;refine (qx (ρ1:=[ii s,ii (.lst t),ii (.tup [W,L,R,N]),ii st,ii wk,ii (.lst [.non,.tup [],.tup [st],.lst [st,wk],.tup [st,wt],.tup [st,.lst []],.tup [.non,wk],.tup [.str "zz",wk],.str "x"]),ij,ij,ij,ij,ij,ii W,ii L,ii R,ii N]) (by simp [k1,z1,z2,b])).trans ?_;refine (qx (ρ1:=[ii s,ii (.lst t),ii (.tup [W,L,R,N]),ii st,ii wk,ii (.lst ([.non,.tup [],.tup [st],.lst [st,wk],.tup [st,wt],.tup [st,.lst []],.tup [.non,wk],.tup [.str "zz",wk],.str "x"]++[.tup [st,w1],.tup [st,w2],.tup [st,.lst [.int (-1)]],.tup [st,.lst [.bl ir]]])),ij,ij,ij,ij,ij,ii W,ii L,ii R,ii N]) (by simp [uo,qfo,k2,k3,k4,WN,z1,z2,c,a])).trans ?_;refine (qx (ρ1:=[ii s,ii (.lst t),ii (.tup [W,L,R,N]),ii st,ii wk,ii (.lst (BDS st wk wt w1 w2)),ij,ij,ij,ij,ij,ii W,ii L,ii R,ii N]) (by simp [uo,ga,Ut,z1,z2,z,BDS])).trans ?_;refine (qx (ρ1:=[ii s,ii (.lst (t++[.int 0])),ii (.tup [W,L,R,N]),ii st,ii wk,ii (.lst (BDS st wk wt w1 w2)),ij,ij,ij,ij,ij,ii W,ii L,ii R,ii N]) (by generalize BDS st wk wt w1 w2=BB at *;have e:neD (.bl iq) (.bl iq)=.ok (.bl iq):=rfl;simp [p1,b1,e])).trans ?_;rfl
include b2
theorem qgj (h:zO B .non=.ok (.bl ir)):kn vJ vv (OG ib br wo pr pk dr te) [s,.lst t,.tup [W,L,R,N],st,wk]=.ok (.bl ir,[.non,.lst (t++[.int 0]),.non,.non,.non]):=by refine (qbP k1 k2 k3 k4 p1 b1).trans ?_;unfold OR;generalize BDS st wk wt w1 w2=BB at *;simp [b2,h]
variable {TL y:D} {kv kv':List (Key×D)} {ks DL LL LS':List D} {ky:Key} {v d w:Int} {b:Bool}
 (hB:B=.non) (c1:wo [W,L,R,N]=.ok (TL,[.non,.non,.non,.non])) (c2:Uj TL=.ok (.dct kv)) (c3:pr [W,L]=.ok (S,[.non,.non])) (c4:zu (.dct kv)=.ok (.lst ks))
 (c5:pk [s,.lst (t++[.int 0]),.lst ks]=.ok (y,[.non,.lst (t++[.int 0,.int 0]),.non])) (c6:dr [s,.lst (t++[.int 0,.int 0]),.int 3]=.ok (.int d,[.non,.lst (t++[.int 0,.int 0,.int 0]),.non])) (c7:ixD (.dct kv) y=.ok (.int v)) (c8:xQ y=ii ky) (c9:vL (.int (v+d)) R=.ok (.int w)) (c10:zR kv ky (.int w)=kv') (c11:kv.length < sizeLine)
 (q1:∀ ρ:Sl,ρ[7]?=ii (ii S)->ρ[14]?=ii (ii N)->(ρ[13]?).getD ij=ii R->(ρ[6]?).getD ij=ii (.dct kv')->jo [1] 3 [13,6] (qd2 (qb (qc 7) (qb (qc 14) qr))) (qX 2 (qp (qX 2 (qp (gNm 1) (qp (gNm 2) qW))) (qp (gNm 0) qW))) ftT (d2 eqD (d2 vL (d2 jL (d2 ixD (qc 4) (qc 1)) (d2 ixD (qc 4) (qc 2))) (qc 3)) (qc 0)) ρ=.ok (.lst DL,ρ)) (d2':Ui (.lst DL)=.ok (.bl b))
 (e1:jB (.dct kv')=.ok (.lst LL)) (e2:LL.length<=2000) (e3:te [W,L,R,N,.tup LL]=.ok (.bl b,o5))
 (f0:LS'.length<=2000) (f2:te [W,L,R,N,.tup LS']=.ok (.bl iq,o5)) (f3:te [W,L,R,N,.non]=.ok (.bl iq,o5))
 (f1:∀ ρ:Sl,ρ[6]?=ii (ii (.dct kv'))->(ρ[8]?).getD ij=ii y->jo [1] 1 [8] (jN (d1 jB (qc 6))) (gNm 0) (qC (d2 neD (d2 ixD (qc 0) (dC (.int 0))) (qc 1))) (qc 0) ρ=.ok (.lst LS',ρ))
include hB c1 c2 c3 c4 c5 c6 c7 c8 c9 c10 c11 q1 d2' e1 e2 e3 f0 f1 f2 f3
theorem qdK:kn vJ vv (OG ib br wo pr pk dr te) [s,.lst t,.tup [W,L,R,N],st,wk]=.ok (.bl ir,[.non,.lst (t++[.int 0,.int 0,.int 0]),.non,.non,.non]):=by
 refine (qbP k1 k2 k3 k4 p1 b1).trans ?_;unfold OR;subst hB;have z1:1<=sizeLine:=qY (by lia);have z2:2<=sizeLine:=qY (by lia);generalize B:D.lst (BDS st wk wt w1 w2)=BB at *;have n:zO .non .non=.ok (.bl iq):=rfl;refine (qx (ρ1:=[ii s,ii (.lst (t++[.int 0])),ii (.tup [W,L,R,N]),ii st,ii wk,ii BB,ij,ij,ij,ij,ij,ii W,ii L,ii R,ii N]) (by simp [b2,n])).trans ?_;refine (qx (ρ1:=[ii s,ii (.lst (t++[.int 0])),ii (.tup [W,L,R,N]),ii st,ii wk,ii BB,ii (.dct kv),ij,ij,ij,ij,ii W,ii L,ii R,ii N]) (by simp [c1,c2])).trans ?_;refine (qx (ρ1:=[ii s,ii (.lst (t++[.int 0])),ii (.tup [W,L,R,N]),ii st,ii wk,ii BB,ii (.dct kv),ii S,ij,ij,ij,ii W,ii L,ii R,ii N]) (by simp [c3])).trans ?_;refine (qx (ρ1:=[ii s,ii (.lst (t++[.int 0,.int 0])),ii (.tup [W,L,R,N]),ii st,ii wk,ii BB,ii (.dct kv),ii S,ii y,ij,ij,ii W,ii L,ii R,ii N]) (by simp [c4,c5])).trans ?_;refine (qx (ρ1:=[ii s,ii (.lst (t++[.int 0,.int 0,.int 0])),ii (.tup [W,L,R,N]),ii st,ii wk,ii BB,ii (.dct kv'),ii S,ii y,ij,ij,ii W,ii L,ii R,ii N]) (by simp [uc,d2O,c6,c7,c8,c9,c10,c11])).trans ?_;refine (qx (ρ1:=[ii s,ii (.lst (t++[.int 0,.int 0,.int 0])),ii (.tup [W,L,R,N]),ii st,ii wk,ii BB,ii (.dct kv'),ii S,ii y,ii (.bl b),ij,ii W,ii L,ii R,ii N]) (by rw [gN,qag,q1 _ rfl rfl rfl rfl,jR];simp [d2'])).trans ?_;refine (qx (ρ1:=[ii s,ii (.lst (t++[.int 0,.int 0,.int 0])),ii (.tup [W,L,R,N]),ii st,ii wk,ii BB,ii (.dct kv'),ii S,ii y,ii (.bl b),ij,ii W,ii L,ii R,ii N]) (by
  have ht:jU (.lst LL)=.ok (.tup LL):=by simp [jU,qY e2]
  have h:neD (.bl b) (.bl b)=.ok (.bl iq):=by cases b <;> rfl
  simp [e1,ht,e3,h])).trans ?_
 refine (qx (ρ1:=[ii s,ii (.lst (t++[.int 0,.int 0,.int 0])),ii (.tup [W,L,R,N]),ii st,ii wk,ii BB,ii (.dct kv'),ii S,ii y,ii (.bl b),ii (.tup LS'),ii W,ii L,ii R,ii N]) (by
  have ht:jU (.lst LS')=.ok (.tup LS'):=by simp [jU,qY f0]
  rw [gN,qag,f1 _ rfl rfl,jR];simp [ht])).trans ?_
 have e:=qa4 (own:=[1]) (cap:=[11,12,13,14]) (fi:=jN (jT (qb (qc 10) (qb (dC .non) qr)))) (fe:=qm [.vl,.vl,.vl,.vl,.vl] te (qb (qc 1) (qb (qc 2) (qb (qc 3) (qb (qc 4) (qb (qc 0) qr)))))) (ρ:=[ii s,ii (.lst (t++[.int 0,.int 0,.int 0])),ii (.tup [W,L,R,N]),ii st,ii wk,ii BB,ii (.dct kv'),ii S,ii y,ii (.bl b),ii (.tup LS'),ii W,ii L,ii R,ii N]) (ρ1:=[ii s,ii (.lst (t++[.int 0,.int 0,.int 0])),ii (.tup [W,L,R,N]),ii st,ii wk,ii BB,ii (.dct kv'),ii S,ii y,ii (.bl b),ii (.tup LS'),ii W,ii L,ii R,ii N]) (ds:=[.tup LS',.non]) (λ_=>.bl iq) (by decide) (by simp [jK,z2]) (qY (by simp)) (λx hx=>by
  simp only [ac,aM,or_false] at hx;rcases hx with rfl | rfl;·simp [f2]
  ·simp [f3])
 rw [JH,qfy,e,jR];simp [z1,Ut,aJ,eqD,eqN,wU,eqS]
end
theorem qgk {W R:D} (e1:jV [W,L,R,N]=.ok (S,[.non,.non,.non,.non])) (s:kZ S=.ok (.int (n:Nat))) (x:Str) (l:Wk):∀ T∈BDS (.str x) (lD l) (.tup (inL l)) (.lst (inL l++[.non])) (.lst (inL l++[.int (n:Nat)])),jO [W,L,R,N,T]=.ok (.bl iq,o5):=by
 have pl:∀ d∈inL l,Pl d:=λd hd=>by obtain ⟨i,_,rfl⟩:=aw.mp hd;trivial
 have two:∀ a b:D,Pl a->Pl b->(∀ ds,b=.lst ds->∀ x∈ds,Pl x)->(Wv a&&wkB n b)=iq->jO [W,L,R,N,.tup [a,b]]=.ok (.bl iq,o5):=λa b c pb f h=>qbO e1 s (vU c) (Qt pb f n) h;have lst:∀ (a:D) (xs:List D),Pl a->(∀ y∈xs,Pl y)->(Wv a&&wkB n (.lst xs))=iq->jO [W,L,R,N,.tup [a,.lst xs]]=.ok (.bl iq,o5):=λa xs c px h=>two a _ c trivial (λds e=>by cases e; exact px) h;have p:∀ y:D,Pl y->uR 0 ((n:Int) - 1) y=iq->jO [W,L,R,N,.tup [.str x,.lst (inL l++[y])]]=.ok (.bl iq,o5):=λy py C=>lst _ _ trivial (λd hd=>by
   rcases ao.mp hd with hd | hd;·exact pl d hd
   ·rw [aA.mp hd];exact py) (by
   have:(inL l++[y]).all (uR 0 ((n:Int) - 1))=false:=by rw [List.all_append];simp [C]
   simp only [wkB,this,Bool.and_false])
 intro T hT;unfold BDS at hT;simp only [ao,ac,aM,or_false] at hT;rcases hT with ((rfl | rfl | rfl | rfl | rfl | rfl | rfl | rfl | rfl) | rfl | rfl | rfl | rfl) | rfl;·exact Qu e1 trivial λ_ _ z=>by cases z
 ·exact Qu e1 trivial λ_ _ z=>by cases z
 ·exact Qu e1 trivial λ_ _ z=>by cases z
 ·exact Qu e1 trivial λ_ _ z=>by cases z
 ·exact two _ _ trivial trivial (λ_ e=>by cases e) (by simp [wkB])
 ·exact lst _ _ trivial (by simp) (by simp [wkB])
 ·exact lst _ _ trivial pl (by simp [Wv])
 ·exact lst _ _ trivial pl (by rw [show Wv (.str "zz")=iq by decide +kernel]; rfl)
 ·exact Qu e1 trivial λ_ _ z=>by cases z
 ·exact p _ trivial rfl
 ·exact p _ trivial (by simp [uR]; lia)
 ·exact lst _ _ trivial (λy C=>by rw [aA.mp C]; trivial) (by simp [wkB,uR])
 ·exact lst _ _ trivial (λy C=>by rw [aA.mp C]; trivial) (by simp [wkB,uR])
 ·exact lst _ _ trivial (λy C=>by rw [List.eq_of_mem_replicate C]; trivial) (by simp [wkB])
theorem qdL {b:Ln} (v:Int) (h:x∈qt b):qt (wf b x v)=qt b:=by unfold wf;rw [Aa h];unfold qt;rw [bH];refine dS λe _=>?_;show (if e.1=x then (e.1,v) else e).1=e.1;split <;> rfl
theorem qio {b:Ln} {v:Int} (h:x∈qt b) (c:0<=v/\v < r) (d:∀ e∈b,0<=e.2/\e.2 < r):∀ e∈wf b x v,0<=e.2/\e.2 < r:=λe i=>by
 unfold wf at i;rw [Aa h] at i;obtain ⟨a,g,rfl⟩:=aw.mp i;show 0<=(if a.1=x then (a.1,v) else a).2/\_;split;·exact c
 ·exact d a g
theorem XD (hr:1<=r) (h9:r<=99):∀ (seen:List Pr) (ns:List Int) (a b c:Option D),(∀ p∈seen,p.1∈qt m/\p.2∈qt m)->∃ u g T,jw (qX 2 (qp (qX 2 (qp (gNm 1) (qp (gNm 2) qW))) (qp (gNm 0) qW))) ftT (d2 eqD (d2 vL (d2 jL (d2 ixD (qc 4) (qc 1)) (d2 ixD (qc 4) (qc 2))) (qc 3)) (qc 0)) (KL (jb seen) (ns.map D.int)) [a,b,c,ii (.int r),ii (.dct (bk m))]
   = .ok ((seen.zip ns).map λe=>.bl (decide ((je m e.1.1+je m e.1.2) % r=e.2)),[u,g,T,ii (.int r),ii (.dct (bk m))])
 | [],ns,a,b,c,_=>⟨a,b,c,by simp [KL,jb,jw]⟩
 | p::seen,[],a,b,c,_=>⟨a,b,c,by simp [KL,jw]⟩
 | p::seen,n::ns,a,b,c,h=>by
  obtain ⟨u,g,T,i⟩:=XD hr h9 seen ns (ii (.int n)) (ii (.str p.1)) (ii (.str p.2)) λq hq=>h q (af _ hq);refine ⟨u,g,T,?_⟩;obtain ⟨h1,h2⟩:=h p (aq ..);have S:=QG h1;have R:=QG h2;have mr:=qdC (a:=je m p.1+je m p.2) hr h9;have eq:eqD (.int ((je m p.1+je m p.2) % r)) (.int n)=.ok (.bl (decide ((je m p.1+je m p.2) % r=n))):=by simp [eqD,eqN,eqS]; rfl
  have ad:jL (.int (je m p.1)) (.int (je m p.2))=.ok (.int (je m p.1+je m p.2)):=rfl;rw [dq];show jw _ _ _ (.tup [.tup [.str p.1,.str p.2],.int n]::KL (jb seen) (ns.map D.int)) _=.ok (D.bl (decide ((je m p.1+je m p.2) % r=n))::(seen.zip ns).map (λe=>D.bl (decide ((je m e.1.1+je m e.1.2) % r=e.2))),_);generalize (seen.zip ns).map (λe=>D.bl (decide ((je m e.1.1+je m e.1.2) % r=e.2)))=ZZ at *;generalize D.dct (bk m)=M at *;generalize KL (jb seen) (ns.map D.int)=Z at *;simp [jw,xi,qX,qp,qW,S,R,ad,mr,eq,i]
theorem qbQ {r:Int} {m:Ln}:∀ (seen:List Pr) (ns:List Int),ns.length=seen.length->((seen.zip ns).all λe=>decide ((je m e.1.1+je m e.1.2) % r=e.2))=decide (qdt m seen r=ns)
 | [],ns,h=>by have:ns=[]:=db.mp h;subst this;rfl
 | p::seen,[],h=>by cases h
 | p::seen,n::ns,h=>by have i:=qbQ (r:=r) (m:=m) seen ns (Nat.succ.inj h);rw [dq,fP,i];unfold qdt;rw [aH];simp
theorem qbR {l:List (Str×Str)} (hn:l.length<=6) (z:∀ x∈LS l,∃ c,az c/\x=⟨#[c]⟩) (k:qt m=LS l):jB (.dct (bk m))=.ok (.lst (prL m))/\zu (.dct (bk m))=.ok (.lst ((LS l).map D.str)):=by
 have o:=qim l;have h:((LS l).all λy=>decide (y.length<=sizeLine))=true:=by rw [aL];intro x hx;obtain ⟨c,_,rfl⟩:=z x hx;exact Ad (show (1:Nat)<=sizeLine from qY (by lia))
 have a:=XC m;rw [k] at a;constructor;·simp only [jB,a];rw [Aa ⟨by lia,qex (qj7 l),h⟩,qdJ]
 ·simp only [zu,a];rw [Aa ⟨by lia,h⟩]
theorem WH (y:Str):∀ (m:Ln) (a:Option D),∃ u,jw (gNm 0) (qC (d2 neD (d2 ixD (qc 0) (dC (.int 0))) (qc 1))) (qc 0) (prL m) [a,ii (.str y)]=.ok (prL (m.filter λe=>!decide (e.1=y)),[u,ii (.str y)])
 | [],a=>⟨a,rfl⟩
 | e::m,a=>by
  obtain ⟨u,i⟩:=WH y m (ii (.tup [.str e.1,.int e.2]));refine ⟨u,?_⟩;have b:ixD (.tup [.str e.1,.int e.2]) (.int 0)=.ok (.str e.1):=qf1;show jw _ _ _ (.tup [.str e.1,.int e.2]::prL m) _=_;rw [List.filter_cons];by_cases z:e.1=y
  ·have h:neD (.str e.1) (.str y)=.ok (.bl iq):=by simp [neD,eqN,eqS,z]
   rw [Ab (by simp [z])];generalize prL m=M at *;generalize prL (m.filter λe=>!decide (e.1=y))=M' at *;generalize D.tup [.str e.1,.int e.2]=E at *;simp [jw,xi,b,h,i]
  ·have h:neD (.str e.1) (.str y)=.ok (.bl ir):=by simp [neD,eqN,eqS,z]
   rw [Aa (by simp [z])];show _=Out.ok (.tup [.str e.1,.int e.2]::prL _,_);generalize prL m=M at *;generalize prL (m.filter λe=>!decide (e.1=y))=M' at *;generalize D.tup [.str e.1,.int e.2]=E at *;simp [jw,xi,b,h,i]
theorem Yg (w:jp ws) (hl:QJ p q) (a:1<=r) (h9:r<=99):ku [Wd ws,Ld p q,.int r,.non]=.exc "NoWorths" nn4:=by have h1:=Kw w hl;have h2:=wT (d:=.int r) trivial;rw [Aa (by simp [uR]; exact ⟨a,h9⟩)] at h2;have g:=uV (WB (d:=.non) trivial rfl r);rw [Ab (by simp)] at g;refine qw.trans ?_;generalize Wd ws=W at *;generalize Ld p q=L at *;generalize D.lst (jb (qo ws p q))=S at *;simp [ym,qv,h1,h2,g]
theorem qgl (w:jp ws) (hl:QJ p q) (f:1<=r) (h9:r<=99) {l:Ln} (k:qt l=LS (qo ws p q)) (v:∀ e∈l,0<=e.2/\e.2 < r) (C:y∈LS (qo ws p q)):ku [Wd ws,Ld p q,.int r,.tup (prL (l.filter λe=>!decide (e.1=y)))]=.exc "NoWorths" nn4:=by
 have sub:∀ e∈l.filter (λe=>!decide (e.1=y)),e∈l:=λe i=>(bV.mp i).1;have j:OkW r (l.filter λe=>!decide (e.1=y)):=λx hx=>by obtain ⟨c,a,e⟩:=ZE w p q x.1 (by rw [<-k]; exact aw.mpr ⟨x,sub x hx,rfl⟩);have:=v x (sub x hx);exact ⟨by rw [e]; exact Xk a,this.1,this.2⟩
 have h:KB (l.filter λe=>!decide (e.1=y))=true:=by
  unfold KB;rw [KF];refine KC _ ?_;have hp:(qt l).Pairwise (λx y=>leS x y/\x≠y):=by rw [k];exact (qT _).and (qbk _)
  exact List.Pairwise.sublist ((List.filter_sublist (l:=l)).map _) hp
 have b:uR 1 99 (.int r)=true:=by
  simp [uR]
  lia
 have n:(l.filter λe=>!decide (e.1=y)).length<=12:=by
  have h1:=Wx w p q;have e:l.length=(LS (qo ws p q)).length:=by rw [<-k]; simp [qt]
  have:=cK (λe:Str×Int=>!decide (e.1=y)) l
  lia
 have hi:=(zK (ds:=prL (l.filter λe=>!decide (e.1=y))) (λd hd=>by
  obtain ⟨x,_,rfl⟩:=aw.mp hd;refine ⟨trivial,λxs e y C=>?_⟩;cases e;rcases ac.mp C with rfl | C;·trivial
  ·rw [aA.mp C];trivial) (by unfold prL; rw [aB]; lia) r).2 _ rfl j
 rw [h] at hi;rw [Qr w hl b j h hi,Ab];intro z;rw [aL] at z;have:=Ae (z y C);obtain ⟨e,i,e1⟩:=aw.mp this;have:=(bV.mp i).2;rw [e1] at this;simp at this
theorem qbS {ca:Str->Addr} (ns0:List Int) (T:Told ws p q r ns) (ht:t.length < 900) {x:Str} {l:Wk} (K:l.length<=1950):∃ t',uO ca [scr ns0,.lst t,.tup [Wd ws,Ld p q,.int r,nD ns],.str x,lD l]=.ok (.bl ir,[.non,.lst t',.non,.non,.non]):=by
 have h:=T.w;have hl:=T.l;have hr:=T.r0;have h9:=T.r9;have hn:=T.n;have Z:=h.2.1;have v:(qo ws p q).length=ws.length:=by simp [qo]
 have e1:=Qq h hl hr h9 hn;have j:kZ (sD (qo ws p q))=.ok (.int (qo ws p q).length):=by simp [jb]
 have k1:jU (lD l)=.ok (.tup (inL l)):=by simp [jU,uT,qY (show l.length<=2000 by lia)]
 have k0:l.length+1<=sizeLine:=qY (by lia);have k2:jL (lD l) (.lst [.non])=.ok (.lst (inL l++[.non])):=by simp [uT,k0]
 have k3:kZ (Wd ws)=.ok (.int (qo ws p q).length):=by simp [v]
 have k4:jL (lD l) (.lst [.int (qo ws p q).length])=.ok (.lst (inL l++[.int (qo ws p q).length])):=by simp [uT,k0]
 obtain ⟨X,N,p1⟩:=wR ns0 t (BDS (.str x) (lD l) (.tup (inL l)) (.lst (inL l++[.non])) (.lst (inL l++[.int ((qo ws p q).length:Nat)]))) (by simp [BDS]) (by lia);have b1:=qgk e1 j x l X N;obtain ⟨W,S⟩:=qh5 h p q;have g:=qbj h hl hr h9 hn S;rw [qin];cases hB:BO W (qo ws p q) r ns with
 | some c=>rw [hB] at g;exact ⟨_,qgj k1 k2 k3 k4 p1 b1 g rfl⟩
 | none=>
  rw [hB] at g;obtain ⟨m,⟨f,J⟩,c1⟩:=qbs h hl hr h9 hn S hB;have u:(qt m).Nodup:=by rw [f]; exact qbk _
  have c2:=qa7 u;have c3:kb [Wd ws,Ld p q]=.ok (sD (qo ws p q),[.non,.non]):=kY h hl;obtain ⟨_,c4⟩:=qbR (l:=qo ws p q) (by lia) (ZE h p q) f;have s:(LS (qo ws p q)).map D.str≠[]:=by simpa using qhW h p q
  obtain ⟨Y,M,c5⟩:=wR ns0 (t++[.int 0]) _ s (by rw [ae]; simp; lia);obtain ⟨y,E,rfl⟩:=aw.mp M;have k:y∈qt m:=by rw [f]; exact E
  obtain ⟨d,d0,d3,c6⟩:=kI ns0 (t++[.int 0]++[.int 0]) (many:=3) (by lia) (by rw [ae,ae]; simp; lia);have c7:=QG k;have c9:=qdC (a:=je m y+d) hr h9;have c10:=qbD m y ((je m y+d) % r);have b:qt (wf m y ((je m y+d) % r))=LS (qo ws p q):=by rw [qdL _ k,f]
  have L:=qio k ⟨dZ (je m y+d) (show r≠0 by lia),dw (je m y+d) (show 0 < r by lia)⟩ J;have G:m.length=(LS (qo ws p q)).length:=by rw [<-f]; simp [qt]
  have z:(wf m y ((je m y+d) % r)).length=(LS (qo ws p q)).length:=by rw [<-b]; simp [qt]
  have O:=Wx h p q;generalize wf m y ((je m y+d) % r)=m' at *;obtain ⟨e2,_⟩:=qbR (l:=qo ws p q) (by lia) (ZE h p q) b;have te:=qgb (ca:=ca) T (qdH h hl hr h9 b L);have tl:=qbt (ca:=ca) T (qgl h hl hr h9 b L E);have tn:=qbt (ca:=ca) T (Yg h hl hr h9);have A:∀ P∈qo ws p q,P.1∈qt m'/\P.2∈qt m':=λP H=>by rw [b];exact ⟨vV.mpr ⟨P,H,.inl rfl⟩,vV.mpr ⟨P,H,.inr rfl⟩⟩
  obtain ⟨a',b',c',U⟩:=XD hr h9 (qo ws p q) ns ij ij ij A;have V:=qbQ (r:=r) (m:=m') (qo ws p q) ns (by rw [v]; exact hn.1);have dl:=wS (λe:En=>decide ((je m' e.1.1+je m' e.1.2) % r=e.2)) ((qo ws p q).zip ns);rw [V] at dl;obtain ⟨a2,I⟩:=WH y m' ij;have o:(prL m').length=m'.length:=by unfold prL; rw [aB]
  have i:(KL (jb (qo ws p q)) (ns.map D.int)).length<=sizeLine:=by
   refine qY ?_;unfold KL;rw [fC];have:(jb (qo ws p q)).length=ws.length:=by unfold jb; rw [aB,v]
   lia
  have F:=cK (λe:Str×Int=>!decide (e.1=y)) m';simp only [aU,dg,bW] at c5 c6;refine ⟨_,qdK k1 k2 k3 k4 p1 b1 g rfl c1 c2 c3 c4 c5 c6 c7 rfl c9 c10 (by unfold bk; rw [aB]; exact aI (show m.length < 2000 by lia) big) (λρ R B C h6=>?_) dl e2 (by lia) te (by unfold prL; rw [aB]; lia) tl tn (λρ h6 Q=>?_)⟩;·refine (yn (ρ1:=ρ) (ds:=KL (jb (qo ws p q)) (ns.map D.int)) (by simp [qd2,R,B,xf]) i (by rw [show kU 3 [13,6] ρ=[ij,ij,ij,ii (.int r),ii (.dct (bk m'))] by simp [kU,C,h6]];exact U)).trans ?_;rw [wv _ _ _ _ (by decide)]
  ·refine (yn (ρ1:=ρ) (ds:=prL m') (by simp [jN,h6,e2,jK]) (qY (by rw [o]; lia)) (by rw [show kU 1 [8] ρ=[ij,ii (.str y)] by simp [kU,Q]];exact I)).trans ?_;rw [wv _ _ _ _ (by decide)]
noncomputable def enI (i:Nat) (seen:List Pr):List D:=((jb seen).zipIdx i).map λp=>.tup [.int (p.2:Nat),p.1]
theorem qbT (h:Str):∀ (seen:List Pr) (i:Nat) (a b:Option D),∃ (s:Wk) (u g:Option D),(∀ j∈s,i<=j/\j < i+seen.length)/\((∃ p∈seen,h=p.1\/h=p.2)->s≠[])/\jw (qX 2 (qp (gNm 0) (qp (gNm 1) qW))) (qC (d2 inA (qc 2) (qc 1))) (qc 0) (enI i seen) [a,b,ii (.str h)]=.ok (inL s,[u,g,ii (.str h)])
 | [],i,a,b=>⟨[],a,b,by simp,(λ⟨p,hp,_⟩=>by cases hp),rfl⟩
 | p::seen,i,a,b=>by
  obtain ⟨s,u,g,h1,h2,f⟩:=qbT h seen (i+1) (ii (.int (i:Nat))) (ii (pD p));have hp:=UV p h;have e:enI i (p::seen)=.tup [.int (i:Nat),pD p]::enI (i+1) seen:=rfl;rw [e];generalize enI (i+1) seen=E at *;generalize pD p=P at *;by_cases q:h=p.1\/h=p.2
  ·rw [Ad q] at hp;refine ⟨i::s,u,g,λj c=>?_,λ_=>by simp,?_⟩
   ·rcases ac.mp c with rfl | c;·exact ⟨ax _,by rw [ah]; lia⟩
    ·have:=h1 j c;rw [ah];exact ⟨by lia,by lia⟩
   ·show _=Out.ok (.int (i:Nat)::inL s,_);simp [jw,xi,qX,qp,qW,hp,f]
  ·rw [Ac q] at hp;refine ⟨s,u,g,λj c=>?_,λ⟨w,d,z⟩=>?_,?_⟩;·have:=h1 j c;rw [ah];exact ⟨by lia,by lia⟩
   ·rcases ac.mp d with rfl | d;·exact absurd z q
    ·exact h2 ⟨w,d,z⟩
   ·simp [jw,xi,qX,qp,qW,hp,f]
noncomputable def bB (pk:GF):qN:=(qD (qU 17 (qm [.vl,.sl 1,.vl] pk (qb (qc 0) (qZ (qb (jo [10,1] 2 [14] (gO (qc 6)) (qX 2 (qp (gNm 0) (qp (gNm 1) qW))) (qC (d2 inA (qc 2) (qc 1))) (qc 0)) qr)))))
  (qD (qU 14 (d2 ixD (d2 ixD (qc 6) (qc 17)) (d1 qaw (d2 eqD (d2 ixD (d2 ixD (qc 6) (qc 17)) (dC (.int 0))) (qc 14)))))
  (kz (gz 10 ga (qc 17)))))
theorem qip (ns0:List Int) (ht:t.length < 1000) {h:Str} (r:h∈LS seen) (h6:seen.length<=6) {l:Wk} (hl:l.length < 1000) (k c b p i a8 w a11 a12 a a15 a16 a17:Option D):∃ (j:Nat) (h':Str),j < seen.length/\h'∈LS seen/\bB ju [ii (scr ns0),ii (.lst t),k,c,b,p,ii (sD seen),i,a8,w,ii (lD l),a11,a12,a,ii (.str h),a15,a16,a17]
   = .ok (.nx,[ii (scr ns0),ii (.lst (t++[.int 0])),k,c,b,p,ii (sD seen),i,a8,w,ii (lD (l++[j])),a11,a12,a,ii (.str h'),a15,a16,ii (.int (j:Nat))]):=by
 obtain ⟨s,E,A,h1,h2,x⟩:=qbT h seen 0 ij ij;have f:=h2 (vV.mp r);obtain ⟨d,hd,pk⟩:=wR ns0 t (inL s) (by simpa [inL] using f) ht;obtain ⟨j,o,rfl⟩:=aw.mp hd;have B:j < seen.length:=by have:=(h1 j o).2; lia
 have q:=aE B;have ix:=Ye q;have pk:ju [scr ns0,.lst t,lD s]=_:=pk;have n:l.length < sizeLine:=aI (by lia) big;have u:jo [10,1] 2 [14] (gO (qc 6)) (qX 2 (qp (gNm 0) (qp (gNm 1) qW))) (qC (d2 inA (qc 2) (qc 1))) (qc 0) [ii (scr ns0),ii (.lst t),k,c,b,p,ii (sD seen),i,a8,w,ii (lD l),a11,a12,a,ii (.str h),a15,a16,a17]=.ok (lD s,[ii (scr ns0),ii (.lst t),k,c,b,p,ii (sD seen),i,a8,w,ii (lD l),a11,a12,a,ii (.str h),a15,a16,a17]):=by refine (yn (ρ1:=[ii (scr ns0),ii (.lst t),k,c,b,p,ii (sD seen),i,a8,w,ii (lD l),a11,a12,a,ii (.str h),a15,a16,a17]) (ds:=enI 0 seen) rfl (qY (by unfold enI jb; rw [aB,fG,aB]; lia)) x).trans ?_;rw [wv _ _ _ _ (by decide)]
 generalize v:seen[j]=P at *;have e:P∈seen:=by rw [<-v]; exact ce B
 obtain ⟨y,z⟩:=P;have g:ixD (pD (y,z)) (.int 0)=.ok (.str y):=qf1;have i1:ixD (pD (y,z)) (.int 1)=.ok (.str z):=qgs;have m:ga (inL l) (.int (j:Nat))=.ok (inL (l++[j])):=by simp [ga,inL,n]
 unfold bB;have e1:qU 17 (qm [.vl,.sl 1,.vl] ju (qb (qc 0) (qZ (qb (jo [10,1] 2 [14] (gO (qc 6)) (qX 2 (qp (gNm 0) (qp (gNm 1) qW))) (qC (d2 inA (qc 2) (qc 1))) (qc 0)) qr)))) [ii (scr ns0),ii (.lst t),k,c,b,p,ii (sD seen),i,a8,w,ii (lD l),a11,a12,a,ii (.str h),a15,a16,a17]
   = .ok (.nx,[ii (scr ns0),ii (.lst (t++[.int 0])),k,c,b,p,ii (sD seen),i,a8,w,ii (lD l),a11,a12,a,ii (.str h),a15,a16,ii (.int (j:Nat))]):=by
  generalize jo [10,1] 2 [14] (gO (qc 6)) (qX 2 (qp (gNm 0) (qp (gNm 1) qW))) (qC (d2 inA (qc 2) (qc 1))) (qc 0)=CC at *;generalize lD l=LL at *;generalize sD seen=SS at *;generalize J:lD s=JJ at *;simp [u,pk]
 by_cases C:y=h
 ·have hq:eqD (.str y) (.str h)=.ok (.bl ir):=by simp [eqD,eqN,eqS,C]
  refine ⟨j,z,B,vV.mpr ⟨_,e,.inr rfl⟩,?_⟩;rw [Qv e1];generalize sD seen=SS at *;generalize pD (y,z)=PP at *;show qD _ _ [_,_,_,_,_,_,_,_,_,_,ii (.lst (inL l)),_,_,_,_,_,_,_]=_;generalize inL l=IL at *;rw [Qv (ρ1:=[ii (scr ns0),ii (.lst (t++[.int 0])),k,c,b,p,ii SS,i,a8,w,ii (.lst IL),a11,a12,a,ii (.str z),a15,a16,ii (.int (j:Nat))]) (by simp [ix,g,i1,hq,qaw])];simp [uo,m]
 ·have hq:eqD (.str y) (.str h)=.ok (.bl iq):=by simp [eqD,eqN,eqS,C]
  refine ⟨j,y,B,vV.mpr ⟨_,e,.inl rfl⟩,?_⟩;rw [Qv e1];generalize sD seen=SS at *;generalize pD (y,z)=PP at *;show qD _ _ [_,_,_,_,_,_,_,_,_,_,ii (.lst (inL l)),_,_,_,_,_,_,_]=_;generalize inL l=IL at *;rw [Qv (ρ1:=[ii (scr ns0),ii (.lst (t++[.int 0])),k,c,b,p,ii SS,i,a8,w,ii (.lst IL),a11,a12,a,ii (.str y),a15,a16,ii (.int (j:Nat))]) (by simp [ix,g,i1,hq,qaw])];simp [uo,m]
theorem qey (ns0:List Int) (h6:seen.length<=6) (g f q p i a8 w a12 a a15 a16:Option D):∀ (ds:List D) (t:List D) (h:Str) (l:Wk) (a11 a17:Option D),t.length+ds.length < 1000->h∈LS seen->l.length+ds.length < 1000->(∀ k∈l,k < seen.length) ->∃ (t':List D) (h':Str) (l':Wk) (c b:Option D),t'.length=t.length+ds.length/\l'.length=l.length+ds.length/\(∀ k∈l',k < seen.length)/\kO (gNm 11) (bB ju) ds [ii (scr ns0),ii (.lst t),g,f,q,p,ii (sD seen),i,a8,w,ii (lD l),a11,a12,a,ii (.str h),a15,a16,a17]
   = .ok (.nx,[ii (scr ns0),ii (.lst t'),g,f,q,p,ii (sD seen),i,a8,w,ii (lD l'),c,a12,a,ii (.str h'),a15,a16,b])
 | [],t,h,l,a11,a17,_,_,_,hk=>⟨t,h,l,a11,a17,by simp,by simp,hk,rfl⟩
 | d::ds,t,h,l,a11,a17,ht,hh,hl,hk=>by
  rw [ah] at ht hl;obtain ⟨j,h',o,n,e⟩:=qip ns0 (t:=t) (by lia) hh h6 (l:=l) (by lia) g f q p i a8 w (ii d) a12 a a15 a16 a17;obtain ⟨t',h2,l',c,b,c1,c2,c3,c4⟩:=qey ns0 h6 g f q p i a8 w a12 a a15 a16 ds (t++[.int 0]) h' (l++[j]) (ii d) (ii (.int (j:Nat))) (by rw [ae]; simp; lia) n (by rw [ae]; simp; lia) (λk m=>by
   rcases ao.mp m with z | z;·exact hk k z
   ·rw [aA.mp z]; exact o)
  rw [ae] at c1 c2;simp only [ah,aQ] at c1 c2;exact ⟨t',h2,l',c,b,by rw [ah]; lia,by rw [ah]; lia,c3,(jP rfl e).trans c4⟩
theorem qbU (l:Wk) (lo hi:Option Int):qjP lo hi (lD l)=.ok (lD (KN l lo hi)):=by
 have:KN (inL l) lo hi=inL (KN l lo hi):=by unfold KN;rw [uT];unfold inL;rw [List.map_take,List.map_drop]
 show Out.ok (D.lst (KN (inL l) lo hi))=_;rw [this]
theorem Yh {l:Wk} {lo hi:Option Int}:∀ k∈KN l lo hi,k∈l:=λk h=>List.mem_of_mem_drop (List.mem_of_mem_take h)
theorem Yi (l:Wk) (lo hi:Option Int):(KN l lo hi).length<=l.length:=by
 unfold KN;rw [fg,List.length_drop]
 lia
theorem qiq {a:Wk} (h:a.length<=5000):Ut (lD a) (.int 2)=.ok (lD (a++a)):=by
 have h2:(inL a).length * 2<=1000000:=by rw [uT]; lia
 show (if _ then Out.ok (D.lst (aJ 2 (inL a)).flatten) else .bad)=_;rw [Aa ⟨by decide,h2⟩];show _=Out.ok (D.lst (inL (a++a)));rw [<-qbd];simp [aJ]
theorem qir (l:Wk):qiV ij ij (ii (-1)) (lD l)=.ok (lD l.reverse):=by show (if (ij:Option Int)=ij/\(ij:Option Int)=ij/\ii (-1:Int)=ii (-1) then Out.ok (D.lst (inL l).reverse) else .bad)=_;rw [Aa ⟨rfl,rfl,rfl⟩];simp [inL]
noncomputable def cB (dr pk:GF):qN:=(qD (qU 15 (qm [.vl,.sl 1,.vl] dr (qb (qc 0) (qZ (qb (d2 jL (d1 kZ (qc 10)) (dC (.int 1))) qr)))))
  (qD (qU 16 (kJ (qb (kJ (qb (qm [.vl,.sl 1,.vl] dr (qb (qc 0) (qZ (qb (d1 kZ (qc 2)) qr)))) qr)) (qb (kJ qr) (qb (d2 Ut (vC (qc 10) (ii (qc 15)) (ii (d2 jL (qc 15) (dC (.int 1))))) (dC (.int 2))) (qb (vC (qc 10) (ii (qc 15)) (ii (d2 jL (qc 15) (dC (.int 1))))) qr))))))
  (qD (qU 10 (d2 jL (d2 jL (vC (qc 10) ij (ii (qc 15))) (qm [.vl,.sl 1,.vl] pk (qb (qc 0) (qZ (qb (qc 16) qr))))) (vC (qc 10) (ii (d2 jL (qc 15) (dC (.int 1)))) ij)))
  (qU 10 (qm [.vl,.sl 1,.vl] pk (qb (qc 0) (qZ (qb (kJ (qb (qc 10) (qb (xV (qc 10) ij ij (ii (d1 WN (dC (.int 1))))) (qb (d2 jL (qc 10) (qc 10)) (qb (d2 jL (qc 10) (xV (qc 10) ij ij (ii (d1 WN (dC (.int 1)))))) qr))))) qr))))))))
variable {Wd0:D}
theorem qez (ns0:List Int) (n1:1<=n) (Q:kZ Wd0=.ok (.int (n:Nat))) (ht:t.length < 900) {l:Wk} (c:∀ k∈l,k < n) {m:Nat} (hl:l.length<=m) (m2:m<=240) (u s r a6 q a8 w a11 a12 f a14 a15 a16 a17:Option D):∃ (t':List D) (l':Wk) (C B:Option D),t'.length=t.length+4/\l'.length<=8 * m+2/\(∀ k∈l',k < n)/\cB qP ju [ii (scr ns0),ii (.lst t),ii Wd0,u,s,r,a6,q,a8,w,ii (lD l),a11,a12,f,a14,a15,a16,a17]=.ok (.nx,[ii (scr ns0),ii (.lst t'),ii Wd0,u,s,r,a6,q,a8,w,ii (lD l'),a11,a12,f,a14,C,B,a17]):=by
 obtain ⟨i,i0,i1,g1⟩:=kI ns0 t (many:=(l.length:Int)+1) (by lia) (by lia);obtain ⟨v,I,F,W⟩:=kI ns0 (t++[.int 0]) (many:=(n:Int)) (by lia) (by rw [ae]; simp; lia);obtain ⟨j,rfl⟩:=Int.eq_ofNat_of_zero_le I;have A:j < n:=by lia
 have s1:=qbU l (ii i) (ii (i+1));have s2:=qbU l ij (ii i);have s3:=qbU l (ii (i+1)) ij;have c1:=Yi l (ii i) (ii (i+1));have c2:=Yi l ij (ii i);have c3:=Yi l (ii (i+1)) ij;have E:∀ k∈KN l (ii i) (ii (i+1)),k < n:=λk h=>c k (Yh k h);have K:∀ k∈KN l ij (ii i),k < n:=λk h=>c k (Yh k h);have J:∀ k∈KN l (ii (i+1)) ij,k < n:=λk h=>c k (Yh k h);generalize KN l (ii i) (ii (i+1))=x1 at *;generalize KN l ij (ii i)=x2 at *;generalize KN l (ii (i+1)) ij=x3 at *;have P:=qiq (a:=x1) (by lia);obtain ⟨d,hd,U⟩:=wR ns0 (t++[.int 0]++[.int 0]) [lD [j],lD [],lD (x1++x1),lD x1] (by simp) (by rw [ae,ae]; simp; lia);obtain ⟨y,rfl,yl,yk⟩:∃ y:Wk,d=lD y/\y.length<=2 * m+1/\∀ k∈y,k < n:=by
  simp only [ac,aM,or_false] at hd;rcases hd with rfl | rfl | rfl | rfl;·exact ⟨_,rfl,by simp,λk c=>by rw [aA.mp c]; exact A⟩
  ·exact ⟨[],rfl,by simp,by simp⟩
  ·refine ⟨_,rfl,by rw [ae]; lia,λk c=>?_⟩;rcases ao.mp c with h | h <;> exact E k h
  ·exact ⟨_,rfl,by lia,E⟩
 have A1:=Qp (a:=x2) (b:=y) (by lia);have V:=Qp (a:=x2++y) (b:=x3) (by rw [ae]; lia);have X:(x2++y++x3).length<=4 * m+1:=by rw [ae,ae]; lia
 have g:∀ k∈x2++y++x3,k < n:=λk h=>by
  rcases ao.mp h with h | h
  ·rcases ao.mp h with h | h;·exact K k h
   ·exact yk k h
  ·exact J k h
 generalize x2++y++x3=z at *;have M:=qir z;have T:=Qp (a:=z) (b:=z) (by lia);have S:=Qp (a:=z) (b:=z.reverse) (by rw [cA]; lia);obtain ⟨e,G,L⟩:=wR ns0 (t++[.int 0]++[.int 0]++[.int 0]) [lD z,lD z.reverse,lD (z++z),lD (z++z.reverse)] (by simp) (by rw [ae,ae,ae]; simp; lia);obtain ⟨l',rfl,el,ek⟩:∃ y:Wk,e=lD y/\y.length<=8 * m+2/\∀ k∈y,k < n:=by
  simp only [ac,aM,or_false] at G;rcases G with rfl | rfl | rfl | rfl;·exact ⟨_,rfl,by lia,g⟩
  ·exact ⟨_,rfl,by rw [cA]; lia,λk h=>g k (fS.mp h)⟩
  ·refine ⟨_,rfl,by rw [ae]; lia,λk c=>?_⟩;rcases ao.mp c with h | h <;> exact g k h
  ·refine ⟨_,rfl,by rw [ae,cA]; lia,λk c=>?_⟩;rcases ao.mp c with h | h;·exact g k h
   ·exact g k (fS.mp h)
 have p:kZ (lD l)=.ok (.int (l.length:Nat)):=by simp [inL]
 have R:jL (.int (l.length:Nat)) (.int 1)=.ok (.int ((l.length:Int)+1)):=rfl;have H:jL (.int i) (.int 1)=.ok (.int (i+1)):=rfl;have x:1<=sizeLine:=qY (by lia);have o:4<=sizeLine:=qY (by lia);have O:WN (.int 1)=.ok (.int (-1)):=rfl;have q1:lD [j]=.lst [.int (j:Nat)]:=rfl;have N:lD []=.lst []:=rfl;rw [q1,N] at U;simp only [aU,dg,bW] at W U L;refine ⟨t++[.int 0,.int 0,.int 0,.int 0],l',ii (.int i),ii (.lst [.lst [.int (j:Nat)],.lst [],lD (x1++x1),lD x1]),by simp,el,ek,?_⟩;generalize lD (x1++x1)=X11 at *;generalize lD x1=X1 at *;generalize lD (x2++y)=X2y at *;generalize lD x2=X2 at *;generalize lD x3=X3 at *;generalize lD y=Y at *;generalize lD (z++z)=Zz at *;generalize lD (z++z.reverse)=Zr at *;generalize lD z.reverse=Zv at *;generalize lD z=Z at *;generalize lD l'=L' at *;generalize lD l=LL at *;unfold cB;rw [Qv (ρ1:=[ii (scr ns0),ii (.lst (t++[.int 0])),ii Wd0,u,s,r,a6,q,a8,w,ii LL,a11,a12,f,a14,ii (.int i),a16,a17]) (by simp [p,R,g1])];rw [Qv (ρ1:=[ii (scr ns0),ii (.lst (t++[.int 0,.int 0])),ii Wd0,u,s,r,a6,q,a8,w,ii LL,a11,a12,f,a14,ii (.int i),ii (.lst [.lst [.int (j:Nat)],.lst [],X11,X1]),a17]) (by simp [vC,vZ,Q,W,H,s1,P,x,o])];rw [Qv (ρ1:=[ii (scr ns0),ii (.lst (t++[.int 0,.int 0,.int 0])),ii Wd0,u,s,r,a6,q,a8,w,ii Z,a11,a12,f,a14,ii (.int i),ii (.lst [.lst [.int (j:Nat)],.lst [],X11,X1]),a17]) (by simp [vC,vZ,U,H,s2,s3,A1,V])];simp [xV,vZ,O,M,T,S,o,L]
noncomputable def TG (ib lb ot:GF):qN:=(qD (qU 12 (qm [.vl,.vl,.vl,.vl,.vl] ib (qb (qc 2) (qb (qc 3) (qb (qc 4) (qb (qc 5) (qb (jT (qb (qc 9) (qb (qc 10) qr))) qr)))))))
  (qD (sIf (dOr (qC (d2 neD (qc 12) (qm [.vl,.vl,.vl,.vl,.vl,.vl] lb (qb (qc 2) (qb (qc 3) (qb (qc 4) (qb (qc 5) (qb (qc 9) (qb (qc 10) qr))))))))) (dOr (xK (ui (d1 (uq "bool") (qc 12)))) (QM (ui (qc 12)) (xK (ui (qc 7)))))) (jr (dC (.bl iq))) qK)
  (qD (wW (jN (jT (qb (dC (.int 1)) (qb (dC (.int 19)) (qb (dC (.int 20)) (qb (dC (.int 21)) qr)))))) (gNm 13)
  (sIf (qC (d2 neD (qm [.vl,.vl,.vl,.vl,.vl] ib (qb (jT (qb (dC (.str "ab")) (qb (dC (.str "axb")) qr))) (qb (jT (qb (dC (.int 0)) (qb (d1 WN (dC (.int 1))) qr))) (qb (dC (.int 11)) (qb (jT (qb (dC (.int 0)) (qb (dC (.int 1)) qr))) (qb (jT (qb (dC (.str "a")) (qb (d2 Ut (kJ (qb (dC (.int 0)) (qb (dC (.int 1)) qr))) (qc 13)) qr))) qr)))))) (d2 ltD (qc 13) (dC (.int 21))))) (jr (dC (.bl iq))) qK))
  (jr (qm [.vl,.sl 1,.vl,.vl,.vl] ot (qb (qc 0) (qZ (qb (jT (qb (qc 2) (qb (qc 3) (qb (qc 4) (qb (qc 5) qr))))) (qb (qc 9) (qb (qc 10) qr))))))))))
theorem qis:∀ m∈([1,19,20,21]:List Int),jO [.tup [.str "ab",.str "axb"],.tup [.int 0,.int (-1)],.int 11,.tup [.int 0,.int 1],.tup [.str "a",.lst (aJ m.toNat [.int 0,.int 1]).flatten]]=.ok (.bl (decide (m < 21)),o5):=by intro m c;simp only [ac,aM,or_false] at c;rcases c with rfl | rfl | rfl | rfl <;> kernel_rfl
section
variable {ib lb ot:GF} {ns0:List Int} {W R st wk:D} {t':List D} {f b:Bool} {a6 a8 a11 a14 a15 a16 a17:Option D}
theorem WJ (d:∀ m∈([1,19,20,21]:List Int),ib [.tup [.str "ab",.str "axb"],.tup [.int 0,.int (-1)],.int 11,.tup [.int 0,.int 1],.tup [.str "a",.lst (aJ m.toNat [.int 0,.int 1]).flatten]]=.ok (.bl (decide (m < 21)),o5)) {F:qN} (C:F=(sIf (qC (d2 neD (qm [.vl,.vl,.vl,.vl,.vl] ib (qb (jT (qb (dC (.str "ab")) (qb (dC (.str "axb")) qr))) (qb (jT (qb (dC (.int 0)) (qb (d1 WN (dC (.int 1))) qr))) (qb (dC (.int 11)) (qb (jT (qb (dC (.int 0)) (qb (dC (.int 1)) qr))) (qb (jT (qb (dC (.str "a")) (qb (d2 Ut (kJ (qb (dC (.int 0)) (qb (dC (.int 1)) qr))) (qc 13)) qr))) qr)))))) (d2 ltD (qc 13) (dC (.int 21))))) (jr (dC (.bl iq))) qK)):∀ (ms:List Int) (a:Option D),(∀ m∈ms,m∈([1,19,20,21]:List Int))->∃ c,kO (gNm 13) F (ms.map D.int) [ii (scr ns0),ii (.lst t),ii W,ii L,ii R,ii N,a6,ii (.bl b),a8,ii st,ii wk,a11,ii (.bl f),a,a14,a15,a16,a17]=.ok (.nx,[ii (scr ns0),ii (.lst t),ii W,ii L,ii R,ii N,a6,ii (.bl b),a8,ii st,ii wk,a11,ii (.bl f),c,a14,a15,a16,a17])
 | [],a,_=>⟨a,rfl⟩
 | m::ms,a,h=>by
  obtain ⟨c,i⟩:=WJ d C ms (ii (.int m)) λx hx=>h x (af _ hx);refine ⟨c,(jP rfl ?_).trans i⟩;have g:=h m (aq ..);have e:=d m g;have j:0<=m/\m<=21:=by simp only [ac,aM,or_false] at g;rcases g with rfl | rfl | rfl | rfl <;> decide
  have z2:2<=sizeLine:=qY (by lia);have u:Ut (.lst [.int 0,.int 1]) (.int m)=.ok (.lst (aJ m.toNat [.int 0,.int 1]).flatten):=by show (if (0<=m/\m<=100000)/\2 * m.toNat<=1000000 then _ else _)=_;rw [Aa ⟨⟨j.1,by lia⟩,by lia⟩]
  have lt:ltD (.int m) (.int 21)=.ok (.bl (decide (m < 21))):=rfl;have ne:neD (.bl (decide (m < 21))) (.bl (decide (m < 21)))=.ok (.bl iq):=by cases decide (m < 21) <;> rfl
  have O:WN (.int 1)=.ok (.int (-1)):=rfl;subst C;generalize (aJ m.toNat [D.int 0,.int 1]).flatten=XX at *;generalize decide (m < 21)=bb at *;simp [z2,O,u,e,lt,ne]
theorem qgm (hi:ib [W,L,R,N,.tup [st,wk]]=.ok (.bl f,o5)) (d:lb [W,L,R,N,st,wk]=.ok (.bl f,[.non,.non,.non,.non,.non,.non])) (a:f=ir->b=ir) (e:∀ m∈([1,19,20,21]:List Int),ib [.tup [.str "ab",.str "axb"],.tup [.int 0,.int (-1)],.int 11,.tup [.int 0,.int 1],.tup [.str "a",.lst (aJ m.toNat [.int 0,.int 1]).flatten]]=.ok (.bl (decide (m < 21)),o5)) (o:ot [scr ns0,.lst t,.tup [W,L,R,N],st,wk]=.ok (.bl ir,[.non,.lst t',.non,.non,.non])):KM [.val] (TG ib lb ot [ii (scr ns0),ii (.lst t),ii W,ii L,ii R,ii N,a6,ii (.bl b),a8,ii st,ii wk,a11,ij,ij,a14,a15,a16,a17])=.ok (.bl ir,[.non]):=by
 have z2:2<=sizeLine:=qY (by lia);have z:4<=sizeLine:=qY (by lia);have ne:neD (.bl f) (.bl f)=.ok (.bl iq):=by cases f <;> rfl
 have ty:uq "bool" (.bl f)=.ok (.bl ir):=by simp [uq,tyN]
 obtain ⟨c,j⟩:=WJ (ns0:=ns0) (W:=W) (L:=L) (R:=R) (N:=N) (st:=st) (wk:=wk) (t:=t) (f:=f) (b:=b) (a6:=a6) (a8:=a8) (a11:=a11) (a14:=a14) (a15:=a15) (a16:=a16) (a17:=a17) e rfl [1,19,20,21] ij λ_ h=>h;unfold TG;refine (qx (ρ1:=[ii (scr ns0),ii (.lst t),ii W,ii L,ii R,ii N,a6,ii (.bl b),a8,ii st,ii wk,a11,ii (.bl f),ij,a14,a15,a16,a17]) (by simp [z2,hi])).trans ?_;refine (qx (ρ1:=[ii (scr ns0),ii (.lst t),ii W,ii L,ii R,ii N,a6,ii (.bl b),a8,ii st,ii wk,a11,ii (.bl f),ij,a14,a15,a16,a17]) (by
  cases f with
  | false=>simp [d,ne,ty]
  | true=>rw [a rfl];simp [d,ne,ty])).trans ?_
 refine (qx (ρ1:=[ii (scr ns0),ii (.lst t),ii W,ii L,ii R,ii N,a6,ii (.bl b),a8,ii st,ii wk,a11,ii (.bl f),c,a14,a15,a16,a17]) (by rw [jI];rw [show jN (jT (qb (dC (.int 1)) (qb (dC (.int 19)) (qb (dC (.int 20)) (qb (dC (.int 21)) qr))))) [ii (scr ns0),ii (.lst t),ii W,ii L,ii R,ii N,a6,ii (.bl b),a8,ii st,ii wk,a11,ii (.bl f),ij,a14,a15,a16,a17]=.ok ([1,19,20,21].map D.int,[ii (scr ns0),ii (.lst t),ii W,ii L,ii R,ii N,a6,ii (.bl b),a8,ii st,ii wk,a11,ii (.bl f),ij,a14,a15,a16,a17]) by simp [jN,jK,z],jR];exact j)).trans ?_;simp [z,o]
end
noncomputable def IG (dr pk:GF):qN:=(sIf (QM (qC (d2 zO (qc 8) (dC .non))) (qC (d2 gtD (qm [.vl,.sl 1,.vl] dr (qb (qc 0) (qZ (qb (dC (.int 3)) qr)))) (dC (.int 0))))) (qdX (qc 8) (qX 2 (qp (gNm 9) (qp (gNm 10) qW)))) (qD (qU 14 (qc 9))
  (qD (wW (jA (qm [.vl,.sl 1,.vl] dr (qb (qc 0) (qZ (qb (dC (.int 8)) qr))))) (gNm 11)
  (bB pk)) qK)))
def Th (seen:List Pr) (d:D):Prop:=d=.non\/∃ c:Ci,d=cd c/\Rnd seen 26 c
theorem qit {c:Ci} (h:Rnd seen 26 c):c.1∈LS seen:=by
 obtain ⟨hp,i,_⟩:=h;cases hg:c.2 with
 | nil=>rw [hg] at i; simp at i
 | cons k l=>
  have:=qgg hp;rw [hg,uX] at this;cases q:seen[k]? with
  | none=>rw [q] at this; cases this
  | some w=>
   rw [q] at this;simp only [] at this;by_cases hx:c.1=w.1\/c.1=w.2;·exact vV.mpr ⟨w,ck q,hx⟩
   ·rw [Ab hx] at this; cases this
theorem qj8 (ns0:List Int) (h6:seen.length<=6) (ht:t.length < 800) (hT:Th seen T) (hx:x∈LS seen) (h g q p i:Option D):∃ (t':List D) (y:Str) (l:Wk) (a d b:Option D),t'.length<=t.length+10/\y∈LS seen/\l.length<=26/\(∀ k∈l,k < seen.length)/\IG qP ju [ii (scr ns0),ii (.lst t),h,g,q,p,ii (sD seen),i,ii T,ii (.str x),ii (.lst []),ij,ij,ij,ij,ij,ij,ij]=.ok (.nx,[ii (scr ns0),ii (.lst t'),h,g,q,p,ii (sD seen),i,ii T,ii (.str y),ii (lD l),a,ij,ij,d,ij,ij,b]):=by
 have other:∀ n:List D,n.length<=t.length+1->∃ (t':List D) (l:Wk) (a d b:Option D),t'.length<=t.length+10/\l.length<=26/\(∀ k∈l,k < seen.length)/\qD (qU 14 (qc 9)) (qD (wW (jA (qm [.vl,.sl 1,.vl] qP (qb (qc 0) (qZ (qb (dC (.int 8)) qr))))) (gNm 11) (bB ju)) qK) [ii (scr ns0),ii (.lst n),h,g,q,p,ii (sD seen),i,ii T,ii (.str x),ii (.lst []),ij,ij,ij,ij,ij,ij,ij]=.ok (.nx,[ii (scr ns0),ii (.lst t'),h,g,q,p,ii (sD seen),i,ii T,ii (.str x),ii (lD l),a,ij,ij,d,ij,ij,b]):=λn r=>by
  obtain ⟨m,m0,m1,g1⟩:=kI ns0 n (many:=8) (by lia) (by lia);have j:(yQ 0 m.toNat).length=m.toNat:=by simp [yQ]
  obtain ⟨t',h',l',a,b,c1,c2,c3,c4⟩:=qey ns0 h6 h g q p i (ii T) (ii (.str x)) ij ij ij ij (yQ 0 m.toNat) (n++[.int 0]) x [] ij ij (by rw [j,ae]; simp; lia) hx (by rw [j]; simp; lia) (by simp);rw [j,ae] at c1;rw [j] at c2;simp only [ah,aQ] at c1 c2;refine ⟨t',l',a,ii (.str h'),b,by lia,by lia,c3,?_⟩;rw [Qv (ρ1:=[ii (scr ns0),ii (.lst n),h,g,q,p,ii (sD seen),i,ii T,ii (.str x),ii (.lst []),ij,ij,ij,ii (.str x),ij,ij,ij]) (by simp)];have e:jA (qm [.vl,.sl 1,.vl] qP (qb (qc 0) (qZ (qb (dC (.int 8)) qr)))) [ii (scr ns0),ii (.lst n),h,g,q,p,ii (sD seen),i,ii T,ii (.str x),ii (.lst []),ij,ij,ij,ii (.str x),ij,ij,ij]=.ok (yQ 0 m.toNat,[ii (scr ns0),ii (.lst (n++[.int 0])),h,g,q,p,ii (sD seen),i,ii T,ii (.str x),ii (.lst []),ij,ij,ij,ii (.str x),ij,ij,ij]):=iR0 m0 (by lia) (by generalize sD seen=S at *;simp [g1]);rw [Qv (f:=wW _ _ _) (by rw [jI,e,jR]; exact c4)];rfl
 unfold IG;rcases hT with rfl | ⟨c,rfl,hc⟩
 ·obtain ⟨t',l,a,d,b,d1,d2,J,o⟩:=other t (by lia);refine ⟨t',x,l,a,d,b,d1,hx,d2,J,?_⟩;have hn:zO .non .non=.ok (.bl iq):=rfl;rw [qah];simp only [QM,qcV,qfy,qaf,qjD,List.getElem?_cons_succ,List.getElem?_cons_zero,jR,hn,Out.plain,qjz];exact o
 ·obtain ⟨m,m0,m1,g1⟩:=kI ns0 t (many:=3) (by lia) (by lia);have hn:zO (cd c) .non=.ok (.bl ir):=rfl;by_cases z:0 < m
  ·have gt:gtD (.int m) (.int 0)=.ok (.bl ir):=by show Out.ok (D.bl (decide _))=_;rw [Ad z]
   have hg:qX 2 (qp (gNm 9) (qp (gNm 10) qW)) (cd c) [ii (scr ns0),ii (.lst (t++[.int 0])),h,g,q,p,ii (sD seen),i,ii (cd c),ii (.str x),ii (.lst []),ij,ij,ij,ij,ij,ij,ij]=.ok [ii (scr ns0),ii (.lst (t++[.int 0])),h,g,q,p,ii (sD seen),i,ii (cd c),ii (.str c.1),ii (lD c.2),ij,ij,ij,ij,ij,ij,ij]:=rfl;refine ⟨t++[.int 0],c.1,c.2,ij,ij,ij,by rw [ae]; simp,qit hc,hc.2.2,hc.1.lt,?_⟩;generalize sD seen=S at *;generalize cd c=C at *;generalize lD c.2=LL at *;simp [QM,hn,g1,gt,hg]
  ·have gt:gtD (.int m) (.int 0)=.ok (.bl iq):=by show Out.ok (D.bl (decide _))=_;rw [Ac z]
   obtain ⟨t',l,a,d,b,d1,d2,J,o⟩:=other (t++[.int 0]) (by rw [ae]; simp);refine ⟨t',x,l,a,d,b,d1,hx,d2,J,?_⟩;rw [<-o,qah];generalize sD seen=S at *;generalize cd c=C at *;simp [QM,hn,g1,gt]
theorem qiu (ns0:List Int) (n1:1<=n) (W:kZ Wd0=.ok (.int (n:Nat))) (z q p a6 i a8 w a12 a a14 a17:Option D):∀ (ds:List D) (m:Nat) (t:List D) (l:Wk) (a11 a15 a16:Option D),ds.length<=2->t.length+4 * ds.length < 890->(∀ k∈l,k < n)->l.length<=m->(ds.length=2->m<=29)->m<=240 ->∃ (t':List D) (l':Wk) (f C B:Option D),t'.length<=t.length+8/\l'.length<=1922/\(∀ k∈l',k < n)/\kO (gNm 11) (cB qP ju) ds [ii (scr ns0),ii (.lst t),ii Wd0,z,q,p,a6,i,a8,w,ii (lD l),a11,a12,a,a14,a15,a16,a17]
   = .ok (.nx,[ii (scr ns0),ii (.lst t'),ii Wd0,z,q,p,a6,i,a8,w,ii (lD l'),f,a12,a,a14,C,B,a17])
 | [],m,t,l,a11,a15,a16,_,_,hk,hl,_,hm=>⟨t,l,a11,a15,a16,by lia,by lia,hk,rfl⟩
 | d::ds,m,t,l,a11,a15,a16,h2,ht,hk,hl,hm2,hm=>by
  rw [ah] at h2 ht hm2;obtain ⟨g,o,C,B,c1,c2,c3,c4⟩:=qez ns0 n1 W (t:=t) (by lia) hk hl hm z q p a6 i a8 w (ii d) a12 a a14 a15 a16 a17
  match ds,h2,ht,hm2 with
  | [],_,_,_=>exact ⟨g,o,ii d,C,B,by lia,by lia,c3,jP rfl c4⟩
  | e::r,h2,ht,hm2=>rw [ah] at h2 ht hm2;obtain rfl:r=[]:=db.mp (by lia);have s:=hm2 rfl;obtain ⟨h,j,c,b,d1,d2,J,u⟩:=qez ns0 n1 W (t:=g) (by simp at ht; lia) c3 (m:=8 * m+2) c2 (by lia) z q p a6 i a8 w (ii e) a12 a a14 C B a17;exact ⟨h,j,ii e,c,b,by lia,by lia,J,(jP rfl c4).trans (jP rfl u)⟩
theorem XE (ns0:List Int) (hr:0 < r):∀ (ws:List Str) (t:List D) (x:Option D),t.length+ws.length < 1000 ->∃ (ks:List Int) (b:List D) (n:Option D),wZ ws.length r ks/\b.length=t.length+ws.length /\
   jw (gNm 0) ftT (qm [.vl,.sl 2,.vl] qP (qb (qc 1) (qZ (qb (qc 3) qr)))) (ws.map D.str) [x,ii (scr ns0),ii (.lst t),ii (.int r)]=.ok (ks.map D.int,[n,ii (scr ns0),ii (.lst b),ii (.int r)])
 | [],t,x,_=>⟨[],t,x,⟨rfl,by simp⟩,by simp,rfl⟩
 | a::ws,t,x,h=>by
  rw [ah] at h;obtain ⟨v,j,i,hd⟩:=kI ns0 t (many:=r) hr (by lia);obtain ⟨ks,b,n,m,k,z⟩:=XE ns0 hr ws (t++[.int 0]) (ii (.str a)) (by rw [ae]; simp; lia);refine ⟨v::ks,b,n,⟨by rw [ah,ah,m.1],λy C=>?_⟩,by rw [k,ae]; simp; lia,?_⟩
  ·rcases ac.mp C with rfl | C;·exact ⟨j,i⟩
   ·exact m.2 y C
  ·simp [jw,xi,hd,z]
theorem qiv {ca:Str->Addr} (ns0:List Int) (o:Told ws p q r ns) (ht:t.length < 700) (hx:x∈LS (qo ws p q)) (hT:Th (qo ws p q) T) {b:Bool} (D:(¬∃ v,Sol (qo ws p q) r ns v)->b=ir):KM [.val] (qD (IG qP ju) (qD (wW (jA (qm [.vl,.sl 1,.vl] qP (qb (qc 0) (qZ (qb (dC (.int 3)) qr))))) (gNm 11) (cB qP ju)) (TG jO Kq (uO ca))) [ii (scr ns0),ii (.lst t),ii (Wd ws),ii (Ld p q),ii (.int r),ii (nD ns),ii (sD (qo ws p q)),ii (.bl b),ii T,ii (.str x),ii (.lst []),ij,ij,ij,ij,ij,ij,ij])=.ok (.bl ir,[.non]):=by
 have i:=o.w;have u:(qo ws p q).length=ws.length:=by simp [qo]
 have w1:=i.1;have Z:=i.2.1;have k:kZ (Wd ws)=.ok (.int ((qo ws p q).length:Nat)):=by simp [u]
 obtain ⟨s,y,l,g,d,a,c1,c2,c3,c4,c5⟩:=qj8 ns0 (seen:=qo ws p q) (by lia) (t:=t) (by lia) hT hx (ii (Wd ws)) (ii (Ld p q)) (ii (.int r)) (ii (nD ns)) (ii (.bl b));refine (qx c5).trans ?_;obtain ⟨m,m0,m3,g1⟩:=kI ns0 s (many:=3) (by lia) (by lia);have j:(yQ 0 m.toNat).length=m.toNat:=by simp [yQ]
 obtain ⟨A,B,I,H,G,d1,d2,J,K⟩:=qiu ns0 (n:=(qo ws p q).length) (by lia) k (ii (Ld p q)) (ii (.int r)) (ii (nD ns)) (ii (sD (qo ws p q))) (ii (.bl b)) (ii T) (ii (.str y)) ij ij d a (yQ 0 m.toNat) 26 (s++[.int 0]) l g ij ij (by rw [j]; lia) (by rw [j,ae]; simp; lia) c4 c3 (λ_=>by lia) (by lia);rw [ae] at d1;simp only [ah,aQ] at d1;obtain ⟨c,z,E⟩:=ZE i p q y c2;have C:Wv (.str y)=true:=by rw [E]; exact Xk z
 have ib:=ZJ i o.l o.r0 o.r9 o.n C J;have lb:=WG (x:=y) i o.l o.r0 o.r9 o.n J;obtain ⟨L,ot⟩:=qbS (ca:=ca) ns0 o (t:=A) (by lia) (x:=y) (l:=B) (by lia);have e:jA (qm [.vl,.sl 1,.vl] qP (qb (qc 0) (qZ (qb (dC (.int 3)) qr)))) [ii (scr ns0),ii (.lst s),ii (Wd ws),ii (Ld p q),ii (.int r),ii (nD ns),ii (sD (qo ws p q)),ii (.bl b),ii T,ii (.str y),ii (lD l),g,ij,ij,d,ij,ij,a]=.ok (yQ 0 m.toNat,[ii (scr ns0),ii (.lst (s++[.int 0])),ii (Wd ws),ii (Ld p q),ii (.int r),ii (nD ns),ii (sD (qo ws p q)),ii (.bl b),ii T,ii (.str y),ii (lD l),g,ij,ij,d,ij,ij,a]):=iR0 m0 (by lia) (by generalize sD (qo ws p q)=S at *;generalize lD l=LL at *;simp [g1]);refine (qx (f:=wW _ _ _) (by rw [jI,e,jR]; exact K)).trans ?_;exact qgm ib lb (λh=>D (qdI h)) qis ot
theorem qiw (_:qj0 ca) (ns0:List Int):qdm ca [scr ns0]=.ok (.bl ir,[.non]):=by
 refine qw.trans ?_;obtain ⟨ws,B,w,n,g1⟩:=qdp ns0 [] (by simp);rw [aQ] at n;obtain ⟨p,q,f,hl,E,J⟩:=qfX ns0 B (by lia);obtain ⟨pk,j,U⟩:=wR ns0 f [.int 2,.int 4,.int 9] (by simp) (by lia);obtain ⟨mx,rfl,mx1,mx2⟩:∃ k:Int,pk=.int k/\1<=k/\k<=99:=by
  simp only [ac,aM,or_false] at j;rcases j with rfl | rfl | rfl;·exact ⟨2,rfl,by lia,by lia⟩
  ·exact ⟨4,rfl,by lia,by lia⟩
  ·exact ⟨9,rfl,by lia,by lia⟩
 obtain ⟨r',r0,r1,L⟩:=kI ns0 (f++[.int 0]) (many:=mx) (by lia) (by rw [ae]; simp; lia);have Z:=w.2.1;have G:(qo ws p q).length=ws.length:=by simp [qo]
 obtain ⟨ns,e,K,hn,i,c5⟩:=XE ns0 (r:=1+r') (by lia) ws (f++[.int 0]++[.int 0]) ij (by rw [ae,ae]; simp; lia);rw [ae,ae] at i;simp only [ah,aQ] at i;have o:Told ws p q (1+r') ns:=⟨w,Z,hl,by lia,by lia,hn⟩
 obtain ⟨W,S⟩:=qh5 w p q;obtain ⟨T,a,hT⟩:∃ T,UE [Wd ws,Ld p q,.int (1+r'),nD ns]=.ok (T,[.non,.non,.non,.non])/\Th (qo ws p q) T:=by
  have a:=qbj w hl o.r0 o.r9 hn S;cases hB:BO W (qo ws p q) (1+r') ns with
  | none=>rw [hB] at a;exact ⟨_,a,.inl rfl⟩
  | some c=>rw [hB] at a;exact ⟨_,a,.inr ⟨c,rfl,(qik S hB).1⟩⟩
 obtain ⟨d,es,hd⟩:=qdE w hl o.r0 o.r9 hn;obtain ⟨b,hbd,hb⟩:∃ b,qbX d .non=.ok (.bl b)/\((¬∃ v,Sol (qo ws p q) (1+r') ns v)->b=ir):=by
  rcases hd with rfl | ⟨⟨m,rfl⟩,z⟩
  ·exact ⟨ir,rfl,λ_=>rfl⟩
  ·exact ⟨iq,rfl,λh=>absurd z h⟩
 have s:vI [Wd ws,Ld p q]=.ok (.lst ((LS (qo ws p q)).map D.str),[.non,.non]):=qbu w hl;have u:kb [Wd ws,Ld p q]=.ok (sD (qo ws p q),[.non,.non]):=kY w hl;obtain ⟨Y,H,I⟩:=wR ns0 e ((LS (qo ws p q)).map D.str) (by simpa using qhW w p q) (by lia);obtain ⟨x,hx,rfl⟩:=aw.mp H;have l:=qiv (ca:=ca) ns0 o (t:=e++[.int 0]) (by rw [ae]; simp; lia) hx hT hb;have C:3<=sizeLine:=qY (by lia);have y:jL (.int 1) (.int r')=.ok (.int (1+r')):=rfl;unfold qfT;rw [show qv qfS [scr ns0]=[ii (scr ns0),ij,ij,ij,ij,ij,ij,ij,ij,ij,ij,ij,ij,ij,ij,ij,ij,ij] from rfl];refine (qx (ρ1:=[ii (scr ns0),ii (.lst []),ij,ij,ij,ij,ij,ij,ij,ij,ij,ij,ij,ij,ij,ij,ij,ij]) (by simp)).trans ?_;refine (qx (ρ1:=[ii (scr ns0),ii (.lst B),ii (Wd ws),ij,ij,ij,ij,ij,ij,ij,ij,ij,ij,ij,ij,ij,ij,ij]) (by simp [g1])).trans ?_;refine (qx (ρ1:=[ii (scr ns0),ii (.lst f),ii (Wd ws),ii (Ld p q),ij,ij,ij,ij,ij,ij,ij,ij,ij,ij,ij,ij,ij,ij]) (by generalize Wd ws=W' at *;simp [J])).trans ?_;refine (qx (ρ1:=[ii (scr ns0),ii (.lst (f++[.int 0]++[.int 0])),ii (Wd ws),ii (Ld p q),ii (.int (1+r')),ij,ij,ij,ij,ij,ij,ij,ij,ij,ij,ij,ij,ij]) (by generalize Wd ws=W' at *;generalize Ld p q=L' at *;generalize f++[.int 0]++[.int 0]=tt at *;generalize f++[.int 0]=tu at *;simp [C,U,L,y])).trans ?_;generalize f++[.int 0]++[.int 0]=t4 at *;have A:=yn (own:=[1]) (cap:=[0,1,4]) (nt:=1) (fi:=jN (qc 2)) (g:=gNm 0) (ft:=ftT) (fe:=qm [.vl,.sl 2,.vl] qP (qb (qc 1) (qZ (qb (qc 3) qr)))) (ρ:=[ii (scr ns0),ii (.lst t4),ii (Wd ws),ii (Ld p q),ii (.int (1+r')),ij,ij,ij,ij,ij,ij,ij,ij,ij,ij,ij,ij,ij]) (ρ1:=[ii (scr ns0),ii (.lst t4),ii (Wd ws),ii (Ld p q),ii (.int (1+r')),ij,ij,ij,ij,ij,ij,ij,ij,ij,ij,ij,ij,ij]) (ds:=ws.map D.str) rfl (by rw [aB]; exact qY (by lia)) c5;have A:jo [1] 1 [0,1,4] (jN (qc 2)) (gNm 0) ftT (qm [.vl,.sl 2,.vl] qP (qb (qc 1) (qZ (qb (qc 3) qr)))) [ii (scr ns0),ii (.lst t4),ii (Wd ws),ii (Ld p q),ii (.int (1+r')),ij,ij,ij,ij,ij,ij,ij,ij,ij,ij,ij,ij,ij]=.ok (.lst (ns.map D.int),[ii (scr ns0),ii (.lst e),ii (Wd ws),ii (Ld p q),ii (.int (1+r')),ij,ij,ij,ij,ij,ij,ij,ij,ij,ij,ij,ij,ij]):=A;have tn:jU (.lst (ns.map D.int))=.ok (nD ns):=by
  have:(ns.map D.int).length<=sizeLine:=by rw [aB,hn.1]; exact qY (by lia)
  simp [jU,this]
 refine (qx (ρ1:=[ii (scr ns0),ii (.lst e),ii (Wd ws),ii (Ld p q),ii (.int (1+r')),ii (nD ns),ij,ij,ij,ij,ij,ij,ij,ij,ij,ij,ij,ij]) (by rw [gN,qag,A,jR];generalize D.lst (ns.map D.int)=NL at *;generalize nD ns=N' at *;simp [tn])).trans ?_;refine (qx (ρ1:=[ii (scr ns0),ii (.lst e),ii (Wd ws),ii (Ld p q),ii (.int (1+r')),ii (nD ns),ii (sD (qo ws p q)),ij,ij,ij,ij,ij,ij,ij,ij,ij,ij,ij]) (by generalize nD ns=N' at *;generalize Wd ws=W' at *;generalize Ld p q=L' at *;generalize sD (qo ws p q)=S' at *;simp [u])).trans ?_;refine (qx (ρ1:=[ii (scr ns0),ii (.lst e),ii (Wd ws),ii (Ld p q),ii (.int (1+r')),ii (nD ns),ii (sD (qo ws p q)),ii (.bl b),ij,ij,ij,ij,ij,ij,ij,ij,ij,ij]) (by generalize nD ns=N' at *;generalize Wd ws=W' at *;generalize Ld p q=L' at *;generalize sD (qo ws p q)=S' at *;simp [es,hbd])).trans ?_;refine (qx (ρ1:=[ii (scr ns0),ii (.lst e),ii (Wd ws),ii (Ld p q),ii (.int (1+r')),ii (nD ns),ii (sD (qo ws p q)),ii (.bl b),ii T,ij,ij,ij,ij,ij,ij,ij,ij,ij]) (by generalize nD ns=N' at *;generalize Wd ws=W' at *;generalize Ld p q=L' at *;generalize sD (qo ws p q)=S' at *;simp [a])).trans ?_;refine (qx (ρ1:=[ii (scr ns0),ii (.lst (e++[.int 0])),ii (Wd ws),ii (Ld p q),ii (.int (1+r')),ii (nD ns),ii (sD (qo ws p q)),ii (.bl b),ii T,ii (.str x),ij,ij,ij,ij,ij,ij,ij,ij]) (by generalize nD ns=N' at *;generalize Wd ws=W' at *;generalize Ld p q=L' at *;generalize sD (qo ws p q)=S' at *;generalize (LS (qo ws p q)).map D.str=LL at *;simp [s,I])).trans ?_;refine (qx (ρ1:=[ii (scr ns0),ii (.lst (e++[.int 0])),ii (Wd ws),ii (Ld p q),ii (.int (1+r')),ii (nD ns),ii (sD (qo ws p q)),ii (.bl b),ii T,ii (.str x),ii (.lst []),ij,ij,ij,ij,ij,ij,ij]) (by simp)).trans ?_;exact l
end Kx
namespace Kx
open PySem PySem.Spec PyProof.Rows L2 L2.D2
variable {us:List ip} {P:List ip->Prop}
theorem qky (hl:us.length=0) (h:P []):P us:=db.mp hl ▸ h
theorem qgt {n:Nat} (hl:us.length=n+1):∃ a l,us=a::l/\l.length=n:=by
 cases us with
 | nil=>cases hl
 | cons a l=>exact ⟨a,l,rfl,Nat.succ.inj hl⟩
theorem qkz (hl:us.length=1) (h:∀ a,P [a]):P us:=by obtain ⟨a,l,rfl,e⟩:=qgt hl;exact qky (P:=λl=>P (a::l)) e (h a)
theorem qkA (hl:us.length=2) (h:∀ a b,P [a,b]):P us:=by obtain ⟨a,l,rfl,e⟩:=qgt hl;exact qkz (P:=λl=>P (a::l)) e (h a)
theorem qkB (hl:us.length=3) (h:∀ a b c,P [a,b,c]):P us:=by obtain ⟨a,l,rfl,e⟩:=qgt hl;exact qkA (P:=λl=>P (a::l)) e (h a)
theorem qkC (hl:us.length=4) (h:∀ a b c d,P [a,b,c,d]):P us:=by obtain ⟨a,l,rfl,e⟩:=qgt hl;exact qkB (P:=λl=>P (a::l)) e (h a)
theorem qkD (hl:us.length=5) (h:∀ a b c d e,P [a,b,c,d,e]):P us:=by obtain ⟨a,l,rfl,e⟩:=qgt hl;exact qkC (P:=λl=>P (a::l)) e (h a)
theorem qk4 (hl:us.length=6) (h:∀ a b c d e f,P [a,b,c,d,e,f]):P us:=by obtain ⟨a,l,rfl,e⟩:=qgt hl;exact qkD (P:=λl=>P (a::l)) e (h a)
variable {K:Frag} {h:Heap}
theorem qgn {mg:Str->Option ip} (X:K.In h) (G:h.Ns iB mg) {x:Str} {st:Stmt} {ps:List Str} {f:Addr} {oc:ip} {od an:Option Addr} {osl:Array (Option ip)} {kV doc pm cdv ct:ip}
  (a:nsIn K iB x=ii (ii (.ref f))) (l:K.lookup f=ii ⟨oc,od,.func (cE x x (uf st) (vt st) (jg st) .none kV doc pm an cdv ct),osl⟩) (c:codeIn K cdv x=ir) (k:keepIn K (.ref f)=ir)
  (d:∀ (kV doc pm:ip) (an:Option Addr) (cdv ct:ip) (us:List ip),us.length=ps.length->lx (cE x x (uf st) (vt st) (jg st) .none kV doc pm an cdv ct) ⟨us,[]⟩=pure (ps.zip us)):kL K mg x st ps:=
 ⟨f,_,Gd l c k,l6 X G a,(Gd l c k).binds d⟩
variable {x:Str}
theorem qbV {l:List Str} {f:Str->Addr} (nd:(l.map f).Nodup) {y:Str} (hx:x∈l) (C:y∈l) (e:f x=f y):x=y:=by obtain ⟨i,hi,rfl⟩:=fy.mp hx;obtain ⟨j,D,rfl⟩:=fy.mp C;have q:=(fR (h₀:=by simpa using hi) (h₁:=by simpa using D) nd).mp (show (l.map f)[i]'(by simpa using hi)=(l.map f)[j]'(by simpa using D) by simpa using e);subst q;rfl
noncomputable def caT (T:List (Str×Addr)) (x:Str):Addr:=(T.lookup x).getD 0
noncomputable def qdM (K:Frag) (C:List Addr) (W:Addr):Bool:=decide C.Nodup&&C.all λc=>xcB K c&&decide (bS K (.ref c) (.ref W)=ii ir)&&decide (cI K (.ref c) (.type "ValueError")=ii ir)&&dX K c bmV "ValueError.__new__"&&C.all λd=>decide (cI K (.ref c) (.ref d)=ii (decide (c=d)))
theorem qdN {C:List Addr} {W:Addr} (h:qdM K C W=ir):C.Nodup/\∀ c∈C,xcB K c=ir/\bS K (.ref c) (.ref W)=ii ir/\cI K (.ref c) (.type "ValueError")=ii ir/\dX K c bmV "ValueError.__new__"=ir/\∀ d∈C,cI K (.ref c) (.ref d)=ii (decide (c=d)):=by unfold qdM at h;rw [aS,aL] at h;refine ⟨Ae h.1,λc a=>?_⟩;have q:=h.2 c a;simp only [aS,decide_eq_true_eq,aL] at q;exact ⟨q.1.1.1.1,q.1.1.1.2,q.1.1.2,q.1.2,q.2⟩
noncomputable def ZS:List Str:=["all", "bool", "dict", "enumerate", "int", "isinstance", "len", "list", "max", "min", "range", "reversed", "set", "sorted", "str", "tuple", "zip"]
noncomputable def zsB (K:Frag):Bool:=ZS.all λx=>decide (nsIn K iB x=ii ij)
theorem uY (h:zsB K=ir) (x:Str) (hx:x∈ZS:=by decide +kernel):nsIn K iB x=ii none:=Ae (aL.mp h x hx)
theorem qix {c:Str} (h:c∈CS):c = "NoWords"\/c = "NoLook"\/c = "NoNumbers"\/c = "NoRoom"\/c = "NoWorths"\/c = "Never":=by simpa [CS] using h
theorem qj9 {mg:Str->Option ip} (X:K.In h) (G:h.Ns iB mg) {CW l k j i C g:Addr}  {E t a M b S:Tok}
    (D:nsIn K iB "WordError"=ii (ii (.ref CW)))
    (B:nsIn K iB "NoWords"=ii (ii (.ref l)))
    (A:nsIn K iB "NoLook"=ii (ii (.ref k)))
    (w:nsIn K iB "NoNumbers"=ii (ii (.ref j)))
    (v:nsIn K iB "NoRoom"=ii (ii (.ref i)))
    (u:nsIn K iB "NoWorths"=ii (ii (.ref C)))
    (r:nsIn K iB "Never"=ii (ii (.ref g)))
    (z:zsB K=ir)
    (c_LEAST_PLACE:nsIn K iB "LEAST_PLACE"=ii (ii (.int (-3) E)))
    (c_MOST_LETTERS:nsIn K iB "MOST_LETTERS"=ii (ii (.int 6 t)))
    (c_MOST_PLACE:nsIn K iB "MOST_PLACE"=ii (ii (.int 2 a)))
    (c_MOST_ROOM:nsIn K iB "MOST_ROOM"=ii (ii (.int 99 M)))
    (c_MOST_WALK:nsIn K iB "MOST_WALK"=ii (ii (.int 40 b)))
    (c_MOST_WORDS:nsIn K iB "MOST_WORDS"=ii (ii (.int 6 S)))
    (ex:qdM K [l,k,j,i,C,g] CW=ir)
    (s:bS K (.ref C) (.ref C)=ii ir)
     :
    Zt K mg (λx=>.ref (caT [("WordError",CW),("NoWords",l),("NoLook",k),("NoNumbers",j),("NoRoom",i),("NoWorths",C),("Never",g)] x)) (caT [("WordError",CW),("NoWords",l),("NoLook",k),("NoNumbers",j),("NoRoom",i),("NoWorths",C),("Never",g)])/\qj0 (caT [("WordError",CW),("NoWords",l),("NoLook",k),("NoNumbers",j),("NoRoom",i),("NoWorths",C),("Never",g)]):=by
  obtain ⟨nd,R⟩:=qdN ex;generalize hT:([("WordError",CW),("NoWords",l),("NoLook",k),("NoNumbers",j),("NoRoom",i),("NoWorths",C),("Never",g)]:List (Str×Addr))=T;have W:caT T "WordError"=CW:=by subst hT; kernel_rfl
  have e0:caT T "NoWords"=l:=by subst hT; kernel_rfl
  have e1:caT T "NoLook"=k:=by subst hT; kernel_rfl
  have e2:caT T "NoNumbers"=j:=by subst hT; kernel_rfl
  have e3:caT T "NoRoom"=i:=by subst hT; kernel_rfl
  have m:caT T "NoWorths"=C:=by subst hT; kernel_rfl
  have p:caT T "Never"=g:=by subst hT; kernel_rfl
  have o:CS.map (caT T)=[l,k,j,i,C,g]:=by unfold CS;simp only [aH,bO,e0,e1,e2,e3,m,p]
  have n:∀ c∈CS,caT T c∈[l,k,j,i,C,g]:=λc f=>o ▸ aw.mpr ⟨c,f,rfl⟩;refine ⟨⟨⟨λc f=>rfl,λc f=>?_,λc f=>(R _ (n c f)).1,λc f d hd=>(R _ (n c f)).2.2.2.2 _ (n d hd),λc f=>(R _ (n c f)).2.2.1⟩,λc f=>?_,λc f=>(R _ (n c f)).2.2.2.1,λx hx=>absurd hx (by simp [FS]),iN X G (uY z "all"),iN X G (uY z "bool"),iN X G (uY z "dict"),iN X G (uY z "enumerate"),iN X G (uY z "int"),iN X G (uY z "isinstance"),iN X G (uY z "len"),iN X G (uY z "list"),iN X G (uY z "max"),iN X G (uY z "min"),iN X G (uY z "range"),iN X G (uY z "reversed"),iN X G (uY z "set"),iN X G (uY z "sorted"),iN X G (uY z "str"),iN X G (uY z "tuple"),iN X G (uY z "zip"),⟨_,l6 X G c_LEAST_PLACE⟩,⟨_,l6 X G c_MOST_LETTERS⟩,⟨_,l6 X G c_MOST_PLACE⟩,⟨_,l6 X G c_MOST_ROOM⟩,⟨_,l6 X G c_MOST_WALK⟩,⟨_,l6 X G c_MOST_WORDS⟩,?sX4⟩,λx hx y q e=>?_⟩
  case sX4=>rw [m]; exact s
  · show bS K (.ref (caT T c)) (.ref (caT T "WordError"))=ii ir;rw [W];exact (R _ (n c f)).2.1
  · rcases qix f with rfl | rfl | rfl | rfl | rfl | rfl;· rw [e0]; exact l6 X G B
    · rw [e1]; exact l6 X G A
    · rw [e2]; exact l6 X G w
    · rw [e3]; exact l6 X G v
    · rw [m]; exact l6 X G u
    · rw [p]; exact l6 X G r
  ·
    rw [<-o] at nd;exact qbV nd hx q e
structure Tx (K:Frag) (mg:Str->Option ip) (ca:Str->Addr):Prop where
 x_is_between:kL K mg "is_between" uw ["thing", "least", "most"]
 x_check_room:kL K mg "check_room" uy ["thing"]
 x_is_numbers:kL K mg "is_numbers" uz ["thing", "count", "room"]
 x_check_numbers:kL K mg "check_numbers" vE ["thing", "count", "room"]
 x_is_letter:kL K mg "is_letter" yH ["thing"]
 x_is_word:kL K mg "is_word" gR ["thing"]
 x_is_words:kL K mg "is_words" xW ["thing"]
 x_check_words:kL K mg "check_words" wE ["thing"]
 x_is_look:kL K mg "is_look" gT ["thing"]
 x_check_look:kL K mg "check_look" uC ["thing"]
 x_letter_at:kL K mg "letter_at" yI ["word", "place"]
 x_pairs:kL K mg "pairs" UB ["words", "look"]
 x_told_pairs:kL K mg "told_pairs" uE ["words", "look", "room", "numbers"]
 x_is_odd:kL K mg "is_odd" JV ["walk"]
 x_comes_to:kL K mg "comes_to" xZ ["walk", "numbers", "start"]
 x_bars:kL K mg "bars" qaC ["walk", "room", "numbers"]
 x_letters_of:kL K mg "letters_of" uF ["seen"]
 x_other_letter:kL K mg "other_letter" wa ["pair", "letter"]
 x_spread:kL K mg "spread" JY ["seen", "root", "ways"]
 x_ways_of:kL K mg "ways_of" gX ["seen"]
 x_circles_of:kL K mg "circles_of" uG ["seen", "ways"]
 x_first_odd:kL K mg "first_odd" yK ["circles"]
 x_bar_of:kL K mg "bar_of" Ka ["seen", "room", "numbers"]
 x_bar:kL K mg "bar" qfL ["words", "look", "room", "numbers"]
 x_is_walk:kL K mg "is_walk" Qa ["thing", "count"]
 x_end_of:kL K mg "end_of" Kc ["seen", "letter", "walk"]
 x_is_bar:kL K mg "is_bar" Kf ["words", "look", "room", "numbers", "thing"]
 x_Lcell_at:kL K mg "_law_cell_at" za ["_law_script", "_law_k"]
 x_Lmixed:kL K mg "_law_mixed" Kg ["_law_script", "_law_k", "_law_many"]
 x_Ldraw:kL K mg "_law_draw" UG ["_law_script", "_law_town", "_law_many"]
 x_Lpick:kL K mg "_law_pick" UH ["_law_script", "_law_town", "_law_some"]
 x_Lword:kL K mg "_law_word" UI ["_law_script", "_law_town", "_law_few"]
 x_Lwords:kL K mg "_law_words" Kj ["_law_script", "_law_town", "_law_most"]
 x_Llook:kL K mg "_law_look" UJ ["_law_script", "_law_town"]
 x_Lletter:kL K mg "_law_letter" Qd ["_law_word_here", "_law_place"]
 x_Lpairs:kL K mg "_law_pairs" Kl ["_law_words_here", "_law_look_here"]
 x_Lseen:kL K mg "_law_seen" UL ["_law_words_here", "_law_look_here"]
 x_Lspread:kL K mg "_law_spread" Qe ["_law_some", "_law_room", "_law_numbers", "_law_book"]
 x_Lsolve:kL K mg "_law_solve" Kn ["_law_words_here", "_law_look_here", "_law_room", "_law_numbers"]
 x_Lbars:kL K mg "_law_bars" UM ["_law_words_here", "_law_look_here", "_law_room", "_law_numbers", "_law_start", "_law_walk"]
 x_half:kL K mg "half" qaV ["total", "room"]
 x_root_worths:kL K mg "root_worths" wN ["walk", "room", "numbers"]
 x_roots_of:kL K mg "roots_of" zc ["seen", "room", "numbers"]
 x_worths_from:kL K mg "worths_from" wO ["seen", "room", "numbers", "starts"]
 x_worths:kL K mg "worths" Ks ["words", "look", "room", "numbers"]
 x_is_worth:kL K mg "is_worth" zd ["thing", "room"]
 x_is_worths:kL K mg "is_worths" yL ["thing", "room"]
 x_check_worths:kL K mg "check_worths" wb ["thing", "room"]
 x_within:kL K mg "within" Kt ["total", "room"]
 x_numbered:kL K mg "numbered" ze ["words", "look", "room", "worths"]
 x_is_telling:kL K mg "is_telling" uL ["words", "look", "room", "numbers", "thing"]
 x_Lothers:kL K mg "_law_others" uN ["_law_script", "_law_town", "_law_asked", "_law_start", "_law_walk"]
variable {ca:Str->Addr}
theorem qiy {e0:Ev} {f:Addr} {fd:li} (Z:ZtE e0 ca) (T:Tx e0.K e0.mg ca) (F:Fun e0.K "law" "law" qa1 f fd):FnOk e0.P e0.w e0.K e0.mg e0.base (CXk e0.P e0.w) 10 f fd ["_law_script"] (spD e0.K e0.cv [.val] .sh (qdm ca)):=by have o:=JP Z T.x_is_between ;have m:=JQ Z T.x_check_room o;have x:=JR Z T.x_is_numbers o;have l:=zT Z T.x_check_numbers x;have r:=VU Z T.x_is_letter ;have J:=Zm Z T.x_is_word r;have G:=Uz Z T.x_is_words J;have u:=QA Z T.x_check_words G;have M:=Zo Z T.x_is_look o;have y:=JT Z T.x_check_look M;have A:=VZ Z T.x_letter_at ;have t:=qc7 Z T.x_pairs u y A;have s:=JU Z T.x_told_pairs m l t;have j:=qaB Z T.x_is_odd ;have d:=UC Z T.x_comes_to ;have S:=qfK Z T.x_bars d j;have e:=JX Z T.x_letters_of ;have c:=gW Z T.x_other_letter ;have W:=qaE Z T.x_spread c;have h:=Zp Z T.x_ways_of e W;have g:=JZ Z T.x_circles_of ;have i:=Wh Z T.x_first_odd j;have Y:=qaF Z T.x_bar_of j S h g i;have N:=qhO Z T.x_bar s Y;have L:=Zq Z T.x_is_walk o;have X:=qaG Z T.x_end_of c;have z:=qaH Z T.x_is_bar r L s X S;have I:=UF Z T.x_Lcell_at ;have o_Lmixed:=qaI Z T.x_Lmixed I;have b:=qdb Z T.x_Ldraw o_Lmixed;have k:=qdc Z T.x_Lpick b;have o_Lword:=qdd Z T.x_Lword b k;have o_Lwords:=qaM Z T.x_Lwords b k o_Lword;have o_Llook:=qdf Z T.x_Llook b;have R:=Zu Z T.x_Lletter ;have a:=qaQ Z T.x_Lpairs R;have H:=qdh Z T.x_Lseen a;have O:=Zw Z T.x_Lspread ;have o_Lsolve:=qaS Z T.x_Lsolve a H O;have o_Lbars:=qdj Z T.x_Lbars a;have o_half:=qfR Z T.x_half ;have q:=QC Z T.x_root_worths d o_half;have C:=UN Z T.x_roots_of h g i q;have p:=QD Z T.x_worths_from d h;have U:=qaY Z T.x_worths t N C p;have E:=UO Z T.x_is_worth o r;have B:=Wq Z T.x_is_worths E;have n:=Qj Z T.x_check_worths B;have V:=qaZ Z T.x_within ;have D:=UQ Z T.x_numbered m n t e V;have v:=Ku Z T.x_is_telling D s;have Q:=ZA Z T.x_Lothers N U v z b k a;exact qhS Z F N z b k o_Lwords o_Llook a H o_Lsolve o_Lbars Q
def qdO (K:Frag):Sp:=λvs H Q _=>∃ (a:Addr) (ns:List Int),vs=[.ref a]/\SqL K H a (ns.map V.int)/\∀ H',Q (.bl ir) H'
theorem XF {F:Hp}:∀ ns:List Int,IsL K F (ns.map V.int) (ns.map D.int)
 | []=>.nil
 | n::ns=>.cons (.int n) (XF ns)
theorem qka {cv:Str->ip} (h:qj0 ca) (vs:List V) (H:Hp) (Q:VK) (E:XK) (q:qdO K vs H Q E):spD K cv [.val] .sh (qdm ca) vs H Q E:=by obtain ⟨a,ns,rfl,c,hq⟩:=q;refine ⟨H,[scr ns],Same.refl _,⟨.lst c (XF ns),trivial⟩,cm,?_⟩;rw [qiw h ns];intro v F' H' m k z b;have b:Is K F' v (.bl ir):=b;cases b;exact hq H'
abbrev NsX (K:Frag) (x:Str) (f:Addr):Prop:=nsIn K iB x=ii (ii (.ref f))
abbrev CdX (K:Frag) (v:ip) (x:Str):Prop:=codeIn K v x=ir
abbrev KpX (K:Frag) (f:Addr):Prop:=keepIn K (.ref f)=ir
abbrev LkX (K:Frag) (x:Str) (st:Stmt) (f:Addr) (oc:ip) (od an:Option Addr) (sl:Array (Option ip)) (kV U pm cd ct:ip):Prop:=K.lookup f=ii ⟨oc,od,.func (cE x x (uf st) (vt st) (jg st) .none kV U pm an cd ct),sl⟩
def Dx (K:Frag) (x:Str) (st:Stmt):Prop:=∃ (f:Addr) (oc:ip) (od an:Option Addr) (sl:Array (Option ip)) (kV U pm cd ct:ip),NsX K x f/\LkX K x st f oc od an sl kV U pm cd ct/\CdX K cd x/\KpX K f
theorem jf {mg:Str->Option ip} (X:K.In h) (G:h.Ns iB mg) {st:Stmt} {ps:List Str} (q:Dx K x st) (d:∀ (kV doc pm:ip) (an:Option Addr) (cdv ct:ip) (us:List ip),us.length=ps.length->lx (cE x x (uf st) (vt st) (jg st) .none kV doc pm an cdv ct) ⟨us,[]⟩=pure (ps.zip us):=by
  intro _ _ _ _ _ _ us hl;first | refine qky (P:=λus=>lx _ ⟨us,[]⟩=pure (fU _ us)) hl ?_ | refine qkz (P:=λus=>lx _ ⟨us,[]⟩=pure (fU _ us)) hl ?_ | refine qkA (P:=λus=>lx _ ⟨us,[]⟩=pure (fU _ us)) hl ?_ | refine qkB (P:=λus=>lx _ ⟨us,[]⟩=pure (fU _ us)) hl ?_ | refine qkC (P:=λus=>lx _ ⟨us,[]⟩=pure (fU _ us)) hl ?_ | refine qkD (P:=λus=>lx _ ⟨us,[]⟩=pure (fU _ us)) hl ?_ | refine qk4 (P:=λus=>lx _ ⟨us,[]⟩=pure (fU _ us)) hl ?_
  all_goals intros; rfl):kL K mg x st ps:=by
 obtain ⟨f,oc,od,an,sl,kV,U,pm,cd,ct,a,l,c,k⟩:=q;exact qgn X G a l c k d
theorem qiz {l:fX} {w:iG} {mg:Str->Option ip} {fa:Addr} (X:K.In h) (G:h.Ns iB mg) (hfa:mg "law"=ii (.ref fa)) {CW C0 C1 C2 C3 C C5:Addr} {a t b M c S:Tok}
  (aW:nsIn K iB "WordError"=ii (ii (.ref CW)))
  (a0:nsIn K iB "NoWords"=ii (ii (.ref C0)))
  (a1:nsIn K iB "NoLook"=ii (ii (.ref C1)))
  (a2:nsIn K iB "NoNumbers"=ii (ii (.ref C2)))
  (a3:nsIn K iB "NoRoom"=ii (ii (.ref C3)))
  (a4:nsIn K iB "NoWorths"=ii (ii (.ref C)))
  (a5:nsIn K iB "Never"=ii (ii (.ref C5)))
  (zz:zsB K=ir)
  (c_LEAST_PLACE:nsIn K iB "LEAST_PLACE"=ii (ii (.int (-3) a)))
  (c_MOST_LETTERS:nsIn K iB "MOST_LETTERS"=ii (ii (.int 6 t)))
  (c_MOST_PLACE:nsIn K iB "MOST_PLACE"=ii (ii (.int 2 b)))
  (c_MOST_ROOM:nsIn K iB "MOST_ROOM"=ii (ii (.int 99 M)))
  (c_MOST_WALK:nsIn K iB "MOST_WALK"=ii (ii (.int 40 c)))
  (c_MOST_WORDS:nsIn K iB "MOST_WORDS"=ii (ii (.int 6 S)))
  (ex:qdM K [C0,C1,C2,C3,C,C5] CW=ir)
  (i:bS K (.ref C) (.ref C)=ii ir)
  (q0:Dx K "is_between" uw)
  (q1:Dx K "check_room" uy)
  (q2:Dx K "is_numbers" uz)
  (q3:Dx K "check_numbers" vE)
  (q4:Dx K "is_letter" yH)
  (q5:Dx K "is_word" gR)
  (q6:Dx K "is_words" xW)
  (q7:Dx K "check_words" wE)
  (q8:Dx K "is_look" gT)
  (q9:Dx K "check_look" uC)
  (q10:Dx K "letter_at" yI)
  (q11:Dx K "pairs" UB)
  (q12:Dx K "told_pairs" uE)
  (q13:Dx K "is_odd" JV)
  (q14:Dx K "comes_to" xZ)
  (q15:Dx K "bars" qaC)
  (q16:Dx K "letters_of" uF)
  (q17:Dx K "other_letter" wa)
  (q18:Dx K "spread" JY)
  (q19:Dx K "ways_of" gX)
  (q20:Dx K "circles_of" uG)
  (q21:Dx K "first_odd" yK)
  (q22:Dx K "bar_of" Ka)
  (q23:Dx K "bar" qfL)
  (q24:Dx K "is_walk" Qa)
  (q25:Dx K "end_of" Kc)
  (q26:Dx K "is_bar" Kf)
  (q27:Dx K "_law_cell_at" za)
  (q28:Dx K "_law_mixed" Kg)
  (Y:Dx K "_law_draw" UG)
  (W:Dx K "_law_pick" UH)
  (V:Dx K "_law_word" UI)
  (U:Dx K "_law_words" Kj)
  (R:Dx K "_law_look" UJ)
  (P:Dx K "_law_letter" Qd)
  (O:Dx K "_law_pairs" Kl)
  (N:Dx K "_law_seen" UL)
  (L:Dx K "_law_spread" Qe)
  (J:Dx K "_law_solve" Kn)
  (I:Dx K "_law_bars" UM)
  (D:Dx K "half" qaV)
  (B:Dx K "root_worths" wN)
  (A:Dx K "roots_of" zc)
  (z:Dx K "worths_from" wO)
  (y:Dx K "worths" Ks)
  (x:Dx K "is_worth" zd)
  (u:Dx K "is_worths" yL)
  (r:Dx K "check_worths" wb)
  (p:Dx K "within" Kt)
  (o:Dx K "numbered" ze)
  (n:Dx K "is_telling" uL)
  (m:Dx K "_law_others" uN)
  (j:Dx K "law" qa1) :
  ∃ fd:li,(∀ (s:iu) (v:ip),mE s fd ⟨[v],[]⟩ [("_law_script",v)])/\∀ base:Heap,K.In base->base.Ns iB mg->FnOk l.prog w K mg base (CXk l.prog w) 10 fa fd ["_law_script"] (qdO K):=by
 obtain ⟨f52,_,_,_,_,_,_,_,_,_,g,d,f,k⟩:=j;have e:=hfa.symm.trans (l6 X G g);cases e;obtain ⟨Z,cok⟩:=qj9 X G aW a0 a1 a2 a3 a4 a5 zz c_LEAST_PLACE c_MOST_LETTERS c_MOST_PLACE c_MOST_ROOM c_MOST_WALK c_MOST_WORDS ex i;have T:Tx K mg (caT [("WordError",CW),("NoWords",C0),("NoLook",C1),("NoNumbers",C2),("NoRoom",C3),("NoWorths",C),("Never",C5)]):=⟨jf X G q0,jf X G q1,jf X G q2,jf X G q3,jf X G q4,jf X G q5,jf X G q6,jf X G q7,jf X G q8,jf X G q9,jf X G q10,jf X G q11,jf X G q12,jf X G q13,jf X G q14,jf X G q15,jf X G q16,jf X G q17,jf X G q18,jf X G q19,jf X G q20,jf X G q21,jf X G q22,jf X G q23,jf X G q24,jf X G q25,jf X G q26,jf X G q27,jf X G q28,jf X G Y,jf X G W,jf X G V,jf X G U,jf X G R,jf X G P,jf X G O,jf X G N,jf X G L,jf X G J,jf X G I,jf X G D,jf X G B,jf X G A,jf X G z,jf X G y,jf X G x,jf X G u,jf X G r,jf X G p,jf X G o,jf X G n,jf X G m⟩
 have F:=Gd (st:=qa1) d f k;exact ⟨_,λs v=>.of_eq rfl,λbase _ _=>(qiy (e0:=⟨l.prog,w,K,mg,base,_⟩) Z T F).imp λvs H Q E q=>qka cok vs H Q E q⟩
theorem qk5 {l:fX} {q:iE} {loose:List Str} {XP:(Str->Option ip)->Heap->Prop} {YP:iG->Heap->Prop} {d:DefRec} {K:lS->Frag} (hn:l.most=ii 63) (hdf:d.params.defaults=[])
  (B:∀ (w:iG) (h:Heap),YP w h->(K w.params).In h)
  (F:∀ (w:iG) (mg:Str->Option ip) (fa:Addr) (h:Heap),(K w.params).In h->h.Ns iB mg->mg d.name=ii (.ref fa) ->∃ fd:li,(∀ (s:iu) (u:ip),mE s fd ⟨[u],[]⟩ [("_law_script",u)])/\∀ base:Heap,(K w.params).In base->base.Ns iB mg->FnOk l.prog w (K w.params) mg base (CXk l.prog w) 10 fa fd ["_law_script"] (qdO (K w.params))) :
  PySem.W.WalkO q loose XP YP l.row.toRowW d [] (λf vs=>ig f vs):=
 L2.qeY (n:=63) (k:=10) (x := "_law_script") (CX:=λw=>CXk l.prog w) (sp:=λw=>qdO (K w.params)) hn (by decide) hdf ⟨rfl,by decide,by decide⟩ B F (λ_ _ a ns hl _ S=>⟨a,ns,rfl,S,λ_=>rfl⟩) λw H s e s' z=>by obtain ⟨ex,T,C,H',_,_,_,_,_,_,_,_,_,_,q⟩:=z;exact q.elim
end Kx
open PySem PySem.W PyProof.Rows
set_option maxRecDepth 100000 in
set_option maxHeartbeats 0 in
theorem PySem.Challenge.cw_lookwords_k04_whole_bars_holds : PySem.Challenge.rw_lookwords_k04_whole_bars.Holds := by
  refine Kx.hd ?_;k_fill
  refine Kx.qk5 (l := PySem.Challenge.rw_lookwords_k04_whole_bars) rfl rfl (λw h Y => PySem.W.kIn_of Y) ?F
  case F =>
    intro w mg fa h X G g;refine' Kx.qiz X G g ?_ ?_ ?_ ?_ ?_ ?_ ?_ ?_ ?_ ?_ ?_ ?_ ?_ ?_ ?_ ?_ ?_ ?_ ?_ ?_ ?_ ?_ ?_ ?_ ?_ ?_ ?_ ?_ ?_ ?_ ?_ ?_ ?_ ?_ ?_ ?_ ?_ ?_ ?_ ?_ ?_ ?_ ?_ ?_ ?_ ?_ ?_ ?_ ?_ ?_ ?_ ?_ ?_ ?_ ?_ ?_ ?_ ?_ ?_ ?_ ?_ ?_ ?_ ?_ ?_ ?_ ?_ ?_ ?_;all_goals try first | k_is | exact ⟨_, _, _, _, _, _, _, _, _, _, by unfold Kx.NsX; k_is, by unfold Kx.LkX; k_is, by unfold Kx.CdX; k_is, by unfold Kx.KpX; k_is⟩ | kernel_rfl
