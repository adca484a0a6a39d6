import PyProof.Rows.All
import KE.KTryMore
import KE.KDictOf
import KE.KItem
import KE.KRevSl
import KE.KRevIter
import KE.KDictList
import PySem.Challenge.RW_lookwords_k03_whole_telling
open Option renaming some→ij,none→im
open PySem renaming wpAny_bind→ip,Value→iq,Shared→iw,wpAny_pure→iy,starEach→iA,wpAny→iB,mainGlobals→iC,bootBuiltins→iE,Program→iF,World→iG,wpAny_newObj_type→iH,compareOp→iI,Around→iJ,wpAny_callSpecial?_slot→iK,wpAny_call_entry→iL,sizeLine_eq→iM,wpAny_seqItems→iN,wpAny_holding→iP,codeAny_builtin→iQ,wpAny_field→iR,backTo→iS,rawInt→iT,wpAny_askSetting→iU,wpAny_setState_of→iV,cLine→iW,builtinLookup_eq_fast→iX,binaryOp→iY,keywordEach→iZ,wpAny_truthy_bool→i4,Keyword→i5,assignEach→i6,attributeBase→i7,wpAny_attempt→i8,wpAny_isInstance→i9,sysModules→j0,wpAny_mono→j3,wpAny_Call_Name_kw→j4,wpAny_setField→j5,wpAny_setField_rec→j6,OsState→j7,wpAny_passesOwn→j9,foldedSetIterable→k4,FuncData→k6,plainId_quiet→k7,IsPair→k8,wpAny_setEntries_of→k9,pyNext→la,NameKind→lc,codeAny→lg,tupleKind_room_in1→lh,wpAny_typeOf→li,wpAny_pyIter_tuple→lj,typeLookup_type→ll,swapsWith→lm,backToKw→lq,call_meets→lr,wpAny_rule→lu,isSubtype_type→lv,firstArgMember→lw,Scope→lz,behindInMarks→lA,bindArgs→lB,getattributeRaised→lE,treeTable→lF,pickOrder→lG,codeAny_mono→lH,fits_of_scanBound→lI,scanBound→lJ,SetTable→lL,importedModules→lM,wpAny_execs_nil→lN,letOwnedTupleGo→lO,wpAny_loadPart'→lP,Params→lR,recursionLimit→lS,IsPart→lT,wpAny_fieldsOf→lU,setsByText→lV,IsZip→lW,typeOf→lX,wpAny_onRaise→lZ,tupleKind→l4,getAttr?→l5,relayAll→l6,concat_meets→l8,typeLookup→l9,setNext→md,GenState→mj,Paired→ml,wpAny_of_eq→mn,wpAny_letGo→mq,DictEntry→my,BindsTo→mz,cellsFrom→mB,callerA→mC,valueAt→mD,pyIter→mF,Result→mG,setEntries→mH,getItem→mI,ItemsOf→mJ
open Bool renaming false→ir,true→iu
open PySem.W renaming mg_none_of→iO,boot_heap→j8,behindTheImports→lx,mg_of→lC,openGood→lK,findIn→lY,boot_drawn→l7,topFrame→mi,keepIn→mm
open PyProof.Rows renaming envOfC→lf,AllBare→lQ,seqObj→mh,StrsAre→mE
open PySem.Heap renaming get?_push_of_some→aa,get?_push_size→ai,lt_size→aw,get?_update_self→bf,SameBut→bI,size_push→bL,get?_update_other→cG,ExtBut→fY
open List renaming mem_cons→ac,mem_cons_of_mem→ae,length_append→af,mem_map→ah,mem_append→aj,length_cons→ao,mem_cons_self→ap,size_toArray→aq,mem_singleton→au,getElem?_set_ne→ax,length_map→ay,getElem?_eq_some_iff→aB,map_cons→aD,getElem?_eq_getElem→aE,getElem?_set_self→aG,getElem?_map→aH,replicate→aJ,nodup_cons→aK,not_mem_nil→aN,range→aO,mem_of_getElem?→aP,all_eq_true→aQ,mem_append_right→aR,append_assoc→aV,length_nil→aX,append_nil→aZ,mem_of_find?_eq_some→ba,map_map→bg,pairwise_cons→bn,filterMap_cons→bq,mem_range→bv,getElem?_replicate→bw,find?_cons_of_neg→bD,mem_filter→bF,mem_append_left→bK,find?_cons_of_pos→bN,getElem?_eq_none_iff→bO,map_nil→bU,getElem?_append_right→bZ,nodup_append→cg,foldl_cons→cj,nil_append→cm,getElem?_eq_none→cq,getElem_mem→cu,find?_eq_none→cw,nodup_nil→cy,length_range→cA,replicate_zero→cE,map_congr_left→cF,any_cons→cI,countP_cons→cJ,getElem?_append_left→cM,of_mem_zip→cO,find?_cons→cP,replicate_succ→c6,length_pos_of_mem→df,length_set→dg,find?_some→dh,length_replicate→dm,reverse_cons→dw,flatten_cons→dD,zipIdx_cons→dF,cons_append→dH,filter_eq_self→dL,pairwise_singleton→dX,ext_getElem?→ei,getElem?_toArray→ez,length_filter_le→eG,lookup_cons→eI,take_length→eJ,getElem?_of_mem→eZ,mem_iff_getElem→fg,map_append→fh,mem_filterMap→fm,findIdx?_cons→fy,length→fB,getElem_inj→fM,length_take→fN,mem_flatMap→fO,zip→fP,forIn_cons→fU,mem_zipIdx→fW,all_cons→g0
open Nat renaming le_refl→aA,ne_of_lt→aC,lt_of_lt_of_le→aF,zero_le→bH,le_trans→bY,ne_of_gt→cx,lt_irrefl→cH,le_of_lt→c8,lt_succ_of_lt→dA,le_add_right→dG,lt_trans→eh,sub_self→ej,le_succ→fC,le_of_eq→fR,le_antisymm→fV
open Option renaming some→aI,bind_eq_some_iff→aU,map_eq_some_iff→aY,isSome_map→fE
open PySem.Str renaming ofString→aL,length→fQ
open PySem.PassesOwn renaming leaving→aM
open Bool renaming and_eq_true→aS,false_ne_true→bj,and_eq_true_iff→eX
open PySem.Value renaming bool→bb,ref→bA,none→bV,isStrOf_shape→cY,builtin→dj,type→fj,isStrOf→fI,str→f9,int→hZ
open Int renaming emod_eq_of_lt→be,emod_lt_of_pos→bX,emod_nonneg→ck,dvd_self_sub_emod→dq,dvd_sub→dE,dvd_of_emod_eq_zero→dY,emod_eq_zero_of_dvd→dZ,dvd_add→d4,toNat_natCast→fF,mul_sub→fG,mul_assoc→fL,one_mul→fZ
open PySem.Builtin.SmallTypes renaming nextOf→bh,ownedTupleIsFree→bT
open PySem.W renaming hideAll→bi,exmOne→bM,fnOf→ce,kitOne→cf,kia_one→cQ,hideAll_none→cR,hideAll_get→cZ,excIn→dO,of_hideAll→dQ,cellsFrom_some→d7,callWith_K→fq,methodObj→fz,OpenLaw→fS
open Ne renaming symm→bo
open PySem.Builtin.List renaming listExtendWith→bp,listTooLong→cT,listSameRef→cW
open PySem renaming mem_of_lookup→br,call→ig
open PySem.Heap.SameBut renaming update→bu
open PySem.SetTable renaming below→bx,grown→c7,laid→g9
open PySem.Around renaming under_plainId→bz
open PySem.Builtin.Slice renaming sliceAdjust→bB,slicePlaces→dI
open Sum renaming inr→bC,inl→eU
open Or renaming inl→bE,inr→db
open PySem.NameKind renaming free→bG
open PyProof.Rows renaming callWith_type1→bJ,slot_tuple_getitem→cX
open Classical renaming byContradiction→bP
open Array renaming getElem?_eq_getElem→bQ,length_toList→bR,getElem?_toList→bS,getElem?_eq_none→c9,mk→fX
open PySem.F renaming called_set→bW,slot_tuple_iterator_next→ci,plainAttrs_list→cz,slot_zip_next→dn,slot_tuple_getattribute→dJ,args_tuple_add_2→dM,slot_list_getattribute→dP,entry_tuple_add→dS,slot_tuple_add→d8,slot_dict_get→et
open False renaming elim→cr
open ForInStep renaming yield→cB
open PySem.Builtin.Frozenset renaming updateFrom→cC
open List.Perm renaming refl→cK
open PySem.Obj renaming mapSeq→cS,putSet→hV
open True renaming intro→cU
open PySem.Builtin.Tuple renaming tupleExact→cV
open PySem.Builtin.Str renaming strSliceIndices→dB
open Eq renaming trans→dN
open PySem.Calls renaming spliced_cons→dR,evalArgs_plain→eY,spliced_nil→fA
open PyProof.Rows.F renaming plain_set_update_loop→dU
open List.Pairwise renaming nil→d9,map→fH
open PySem.Paired renaming length→fJ
open PySem.Shared renaming TypeIs→fK,heap→ia
open PySem.Expr renaming Constant→g7
open PySem.W.KF renaming type_class→g8
open PySem.Txt renaming partition→hJ
open Prod renaming ext→ic
open PySem.SeqAt renaming EqAt→ii
theorem Aa {c:Prop}{h:Decidable c}(k:c){a:Sort _}{t e:a}:ite c t e=t:=if_pos k
theorem Ab {c:Prop}{h:Decidable c}(k:¬c){a:Sort _}{t e:a}:ite c t e=e:=if_neg k
theorem Ac {p:Prop}[h:Decidable p](k:¬p):decide p=false:=decide_eq_false k
theorem Ad {p:Prop}[h:Decidable p](k:p):decide p=true:=decide_eq_true k
theorem Ae {p:Prop}[h:Decidable p](k:decide p=true):p:=of_decide_eq_true k
noncomputable section
open PySem.W (Frag nsIn keepIn codeIn mg_of mg_none_of)
set_option Elab.async false
set_option linter.all false
set_option maxRecDepth 100000
namespace Kx
noncomputable section
open PySem PySem.W PySem.Calls PyProof.Rows
noncomputable def zP:Pos:=⟨0,0,0,0⟩
noncomputable def anV:Option iq:=ij (.ref 6)
noncomputable def hA (P:lR):List Obj:=(j8 P).objs.toList++[⟨.type "tuple",im,.seq #[] 0,#[]⟩,⟨.none,im,.fields #[],#[]⟩,
 ⟨.type "code",im,.fields #[.str "<module>" 182,.str "<module>" 183,.str "/claim/cut.py" 184,.int 1 0,.int 0 0,.int 0 0,.int 0 0,.int 0 0,.ref 11,.bool ir,.int 181 0,.ref 12,.none,.none,.none,.none,.int 185 0,.int 1 0,.str "/claim/cut.py" 186],#[]⟩,
 ⟨.type "frame",im,.plain,#[ij (.ref 13),ij (.ref 3),ij (.ref 3),im,ij (.str "__main__" 164),im,ij (.ref 0)]⟩]
noncomputable def enP (p:iF):Env:={ scope:=p.main.scope,locals:=mainNs,globals:=mainNs,cells:=[],code:=.ref 13,frame:=ij 14 }
noncomputable def cdP (p:iF):Code:=.body (lx p) (enP p)
noncomputable def trA:List Obj->Nat->BT->BT
 | [],_,t=>t
 | o::l,i,t=>trA l (i+1) (t.ins i o)
noncomputable def SA (w:iG) (os:j7):SharedT:=⟨trA (hA w.params) 0 .nil,15,(j8 w.params).life,fX [],l7,187,os⟩
noncomputable def kH (P:lR) (s:Str) (t:Nat) (v:iq):my:=⟨PyData.keyHash P s,.str s t,v⟩
noncomputable def eM:iq:=.str "lookwords.errors" 187
noncomputable def eT (a:List iq):Obj:=⟨.type "tuple",im,.seq ⟨a⟩ 0,#[]⟩
noncomputable def eF (c:iq) (a:List iq):Obj:=⟨c,im,.fields ⟨a⟩,#[]⟩
noncomputable def eB:iq:=.type "builtin_function_or_method"
noncomputable def eD (a:List my) (n:Nat):Obj:=⟨.type "dict",im,.dict ⟨a⟩ n,#[]⟩
noncomputable def eA (P:lR) (s:Str) (b:iq) (n t l:Nat):List Obj:=[eT [b],eF eB [.builtin "type.__prepare__",.type "type"],
 eD [kH P "__module__" (t+7) eM,kH P "__qualname__" (t+9) (.str s (t+8)),kH P "__firstlineno__" (t+11) (.int l (t+10)),kH P "__static_attributes__" (t+12) (.ref (n+7))] 4,
 eT [],eF .none [],eF (.type "code") [.str s (t+2),.str s (t+3),.str "/claim/cut.py" (t+4),.int l 0,.int 0 0,.int 0 0,.int 0 0,.int 0 0,.ref (n+3),.bool ir,.int 181 0,.ref (n+4),.none,.none,.none,.none,.int ((t+5:Nat):Int) 0,.int l 0,.str "/claim/cut.py" (t+6)],
 ⟨.type "frame",im,.plain,#[ij (.ref (n+5)),ij (.ref 3),ij (.ref (n+2)),im,ij eM,im,ij (.ref 0)]⟩,eT []]
noncomputable def eC (s:Str) (b:iq) (n t:Nat) (m sub:List iq):Obj:=⟨.type "type",im,.cls { name:=s,bases:=[b],mro:=.ref (n+9)::m,ns:=n+8,qualname:=s,subclasses:=sub },#[ij (.ref n),im,ij (.str s t),ij (.str s (t+8)),ij (.builtin "ValueError.__new__"),ij (.bool iu)]⟩
noncomputable def eS (a:Nat):List Obj:=[eF (.type "super") [.ref a,.ref a,.ref a],eF eB [.builtin "object.__init_subclass__",.ref a]]
noncomputable def eK (P:lR) (t l:Nat) (n:Nat):List my:=[kH P "__module__" (t+7) eM,kH P "__firstlineno__" (t+11) (.int l (t+10)),kH P "__static_attributes__" (t+12) (.ref (n+7))]
noncomputable def eV:List iq:=[.type "ValueError",.type "Exception",.type "BaseException",.type "object"]
noncomputable def eL (P:lR):List Str->Nat->Nat->Nat->List Obj
 | [],_,_,_=>[]
 | s::r,n,t,l=>eA P s (.ref 24) n t l++eD (eK P t l n++[kH P "__doc__" (t+13) .none]) 2::eC s (.ref 24) n t (.ref 24::eV) []::eS (n+9)++eL P r (n+12) (t+16) (l+2)
noncomputable def eE (P:lR):List Str->Nat->Nat->List my
 | [],_,_=>[]
 | s::r,n,t=>kH P s (t+15) (.ref (n+9))::eE P r (n+12) (t+16)
noncomputable def eR:Nat->Nat->List iq
 | 0,_=>[]
 | k+1,n=>.ref n::eR k (n+12)
noncomputable def eQ:Nat->Nat->Nat->List iq
 | 0,_,_=>[]
 | k+1,n,l=>.int l 0::.int 0 0::.ref n::eQ k (n+12) (l+2)
noncomputable def eO (P:lR) (L:List Str):Obj:=match (boot_o_3 P).data with
 | .dict a _=>eD (kH P "__name__" 165 eM::a.toList.drop 1++kH P "WordError" 206 (.ref 24)::eE P L 28 207) (L.length+10)
 | _=>eT []
noncomputable def hC (P:lR) (L:List Str):List Obj:=(hA P).take 3++eO P L::((hA P).drop 4).take 8++eF .none (.int 2 0::.int 0 0::.ref 20::eQ L.length 33 4)::(hA P).drop 13 ++
 eA P "WordError" (.type "ValueError") 15 189 2++eD (eK P 189 2 15++[kH P "__weakref__" 203 (.ref 25),kH P "__doc__" 204 .none]) 3::eC "WordError" (.type "ValueError") 15 189 eV (eR L.length 37) ::
 eF (.type "getset_descriptor") [.str "__weakref__" 202,.ref 24,.builtin "ExceptionGroup.__weakref__",.none]::eS 24++eL P L 28 207 4
noncomputable def SC (L:List Str) (w:iG) (os:j7):SharedT:=⟨trA (hC w.params L) 0 .nil,12 * L.length+28,(j8 w.params).life,fX [],l7,16 * L.length+207,os⟩
noncomputable def zC (L:List Str):Pos:=⟨2 * L.length+2,0,2 * L.length+3,8⟩
noncomputable def Gf (L:List Str) (p:iF) (w:iG) (M:Nat) (os:j7):Option (Flow×Code×iw):=
 (segRunT lF p w 11 anV 1 M (SC L w os) (piecesOf ((lx p).drop (L.length+2)) (enP p) (cdP p) (zC L) [mi zP])).bind λr=>
  (topRun lF p w 11 anV 5 r.2.1.abs (restOf [] (enP p) (cdP p) r.2.2.2 [mi zP])).map λs=>(r.1,r.2.2.1,s)
abbrev qe0 (p:iF) (w:iG) (x:Flow×Code×iw):=
 (x.1,x.2.1,(staticsOk (lM p.main.body) (j8 w.params) x.2.2.heap&&namesBound p x.2.2.heap&&gensDone x.2.2&&laidKept (j8 w.params) x.2.2.heap))
abbrev Vb (p q:iF) (loose:List Str) (Xt:iw->Bool) (x:Flow×Code×iw):=openSeen q loose (lM p.main.body) Xt iu x.2.2
theorem left_T {L:List Str} {p q:iF} {loose:List Str} {Xt:iw->Bool} {α:Type} {Yf:iw->α} {Ya:iG->α} {N M:Nat}
  (e:opening p=plainProg p.main.scope.names) (hN:Nat.ble 600 N=iu) (f:∀ s,fenceModules? p s=ij s)
  (size:∀ w:iG,((j8 w.params).isNs iC&&(fX []:Array mj).size == 0,(j8 w.params).objs.size,(j8 w.params).nsMap iC "__annotations__")=(iu,11,anV))
  (pre:∀ (w:iG) (os:j7),topGo lF p w 11 anV 12 ⟨j8 w.params,fX [],l7,boot_toks,os⟩ (topStub p)=ij ((SA w os).abs,⟨denote lF (cdP p),cdP p,zP,[mi zP]⟩))
  (blk:∀ (w:iG) (os:j7),segRun lF p w 11 anV 1 1 (SA w os).abs (blockOf (lx p) (enP p) (cdP p) zP [mi zP])=ij (.next,(SA w os).abs,cdP p,zP))
  (le:Nat.ble (12+(1+(3500+(M+5)))) N=iu)
  (m6:∀ (w:iG) (os:j7),segRunT lF p w 11 anV 1 3500 (SA w os) (piecesOf ((lx p).take (L.length+2)) (enP p) (cdP p) zP [mi zP])=ij (.next,SC L w os,cdP p,zC L))
  (m0:∀ (w:iG) (os:j7),(Gf L p w M os).map (qe0 p w)=ij (.next,cdP p,iu))
  (m1:∀ (w:iG) (os:j7),(Gf L p w M os).map (λx=>(Vb p q loose Xt x).1)=ij (lK q loose).1)
  (m3:∀ (w:iG) (os:j7),(Gf L p w M os).map (λx=>(Vb p q loose Xt x).2.1)=ij (lK q loose).2.1)
  (m4:∀ (w:iG) (os:j7),(Gf L p w M os).map (λx=>(Vb p q loose Xt x).2.2.1)=ij (lK q loose).2.2.1)
  (m5:∀ (w:iG) (os:j7),(Gf L p w M os).map (λx=>(Vb p q loose Xt x).2.2.2)=ij (lK q loose).2.2.2)
  (m2:∀ (w:iG) (os:j7),(Gf L p w M os).map (λx=>Yf x.2.2)=ij (Ya w)):LeftO p q loose Xt Yf Ya N:=λw=>by
 obtain ⟨⟨h,gs,d,k,os⟩,a,a'⟩:=aY.mp (boot_open e hN f w)
 obtain ⟨rfl,rfl,rfl,rfl⟩:h=j8 w.params/\gs=fX []/\d=l7/\k=boot_toks:=by simpa using a'
 obtain ⟨x,hx,hl⟩:=aY.mp (m0 w os)
 have l2:openSeen q loose (lM p.main.body) Xt iu x.2.2=lK q loose:=by
  have a1:=m1 w os
  have a3:=m3 w os
  have a4:=m4 w os
  have a5:=m5 w os
  rw [hx] at a1 a3 a4 a5
  exact ic (aI.inj a1) (ic (aI.inj a3) (ic (aI.inj a4) (aI.inj a5)))
 obtain ⟨y,hy,hY⟩:=aY.mp (m2 w os)
 obtain rfl:y=x:=aI.inj (hy.symm.trans hx)
 obtain ⟨r,hr,hz⟩:=aU.mp hx
 obtain ⟨s,hs,rfl⟩:=aY.mp hz
 obtain ⟨fl,st,co,po⟩:=r
 unfold qe0 at hl
 simp only [Prod.mk.injEq] at hl
 obtain ⟨rfl,rfl,l1⟩:=hl
 have t1:=piece_app (rest:=[]) (segRun_of hr) hs
 rw [aZ] at t1
 have t1:=piece_app (segRun_of (m6 w os)) t1
 rw [List.take_append_drop] at t1
 have t2:=piece_block (blk w os) t1
 have t3:=topRun_mono (N - (12+(1+(3500+(M+5))))) _ _ _ _ (go_top (pre w os) t2)
 rw [show 12+(1+(3500+(M+5)))+(N - (12+(1+(3500+(M+5)))))=N by have:=Nat.le_of_ble_eq_true le; omega] at t3
 obtain ⟨z1,z2,z3⟩:_/\_/\_:=by simpa only [Prod.mk.injEq] using size w
 have t:topFrom lF p w N ⟨j8 w.params,fX [],l7,boot_toks,os⟩=ij s:=by
  unfold topFrom
  dsimp only
  rw [z1,z2,z3,t3]
  show (match staticsOk (lM p.main.body) (j8 w.params) s.heap&&namesBound p s.heap&&gensDone s&&laidKept (j8 w.params) s.heap with | true=>_ | false=>_)=_
  rw [l1]
 unfold openEnds
 rw [a]
 show (topFrom lF p w N _).map _=_
 rw [t]
 exact congrArg ij (ic l2 hY)
end
end Kx
noncomputable section
open PySem PySem.W PyProof.Rows
noncomputable def Kx.vq:iF:=view PySem.Challenge.pw_lookwords_k03_whole_telling [1,2,3,4,5,6,7,8,9,10,12,13,14,15,16,17,18,19,20,21,22,23,24,25,26,27,28,29,30,31,33,34,35,36,37,39,40,41,42,43,44,45,46,47,48,49,50,51,52,53,54,55,56,57,59,60,61,62,63,64,65,66,67,68,69,70,71,72,73,74]
noncomputable def Kx.eN:List Str:=["NoWords", "NoLook", "NoNumbers", "NoRoom", "NoWord", "NoWorths", "Never", "Full", "Known"]
noncomputable def Kx.xt (s:iw):Bool:=xlAt Kx.vq [] s&&recOk (RowW.records (OpenRow.toRowW (OpenLaw.row PySem.Challenge.rw_lookwords_k03_whole_telling))) s
theorem Kx.m6:∀ (w:iG) (os:j7),segRunT lF PySem.Challenge.pw_lookwords_k03_whole_telling w 11 Kx.anV 1 3500 (Kx.SA w os) (piecesOf ((lx PySem.Challenge.pw_lookwords_k03_whole_telling).take (Kx.eN.length+2)) (Kx.enP PySem.Challenge.pw_lookwords_k03_whole_telling) (Kx.cdP PySem.Challenge.pw_lookwords_k03_whole_telling) Kx.zP [mi Kx.zP])=ij (.next,Kx.SC Kx.eN w os,Kx.cdP PySem.Challenge.pw_lookwords_k03_whole_telling,Kx.zC Kx.eN):=by intro w os; kernel_rfl
theorem Kx.m0:∀ (w:iG) (os:j7),(Kx.Gf Kx.eN PySem.Challenge.pw_lookwords_k03_whole_telling w 15000 os).map (Kx.qe0 PySem.Challenge.pw_lookwords_k03_whole_telling w)=ij (.next,Kx.cdP PySem.Challenge.pw_lookwords_k03_whole_telling,iu):=by intro w os; kernel_rfl
theorem Kx.m1:∀ (w:iG) (os:j7),(Kx.Gf Kx.eN PySem.Challenge.pw_lookwords_k03_whole_telling w 15000 os).map (λx=>(Kx.Vb PySem.Challenge.pw_lookwords_k03_whole_telling Kx.vq [] Kx.xt x).1)=ij (lK Kx.vq []).1:=by intro w os; kernel_rfl
theorem Kx.m3:∀ (w:iG) (os:j7),(Kx.Gf Kx.eN PySem.Challenge.pw_lookwords_k03_whole_telling w 15000 os).map (λx=>(Kx.Vb PySem.Challenge.pw_lookwords_k03_whole_telling Kx.vq [] Kx.xt x).2.1)=ij (lK Kx.vq []).2.1:=by intro w os; kernel_rfl
theorem Kx.m4:∀ (w:iG) (os:j7),(Kx.Gf Kx.eN PySem.Challenge.pw_lookwords_k03_whole_telling w 15000 os).map (λx=>(Kx.Vb PySem.Challenge.pw_lookwords_k03_whole_telling Kx.vq [] Kx.xt x).2.2.1)=ij (lK Kx.vq []).2.2.1:=by intro w os; kernel_rfl
theorem Kx.m5:∀ (w:iG) (os:j7),(Kx.Gf Kx.eN PySem.Challenge.pw_lookwords_k03_whole_telling w 15000 os).map (λx=>(Kx.Vb PySem.Challenge.pw_lookwords_k03_whole_telling Kx.vq [] Kx.xt x).2.2.2)=ij (lK Kx.vq []).2.2.2:=by intro w os; kernel_rfl
local macro_rules | `(tactic| o_head $H) => `(tactic| (refine holds_open (q := Kx.vq) (loose := []) (Xt := Kx.xt) (XP := XL Kx.vq []) (Yf := Hook.obs $H) (Ya := Hook.val $H) (YP := Hook.says $H) (N := 20000) ?hl (Hook.of $H) (Hook.keeps $H) (fun s e => xl_of s (Bool.and_eq_true_iff.mp e).1) XL.keeps (by rfl) (by rfl) (by rfl) (fun s e => recFacts_of (Bool.and_eq_true_iff.mp e).2) (by rfl) (by first | assumption | decide +kernel) (by decide +kernel) ⟨rfl, rfl, rfl, rfl, rfl, by decide +kernel⟩ ?hw ?hc; (case hl => refine Kx.left_T (p := PySem.Challenge.pw_lookwords_k03_whole_telling) (M := 15000) ?e rfl ?f ?s ?p ?b rfl Kx.m6 Kx.m0 Kx.m1 Kx.m3 Kx.m4 Kx.m5 ?m; (case e => kernel_rfl); (case f => intro s; kernel_rfl); (case s => intro w; kernel_rfl); (case p => intro w os; kernel_rfl); (case b => intro w os; kernel_rfl); (case m => intro w os; kernel_rfl))))
set_option maxHeartbeats 0 in
open_top Kx.hd for PySem.Challenge.rw_lookwords_k03_whole_telling
end
set_option hygiene false
local macro_rules | `($c:char)=>match c.getChar with
|'a'=>`((by decide +kernel))
|'b'=>`((by lia))
|'c'=>`((model X.prog X.w))
|'d'=>`((by decide))
|'e'=>`((model prog w))
|'f'=>`((dC (.int 1)))
|'g'=>`((by simp))
|'h'=>`((qv ws p q))
|'i'=>`((dC (.int 0)))
|'j'=>`((qa vr (qa vr qd)))
|'k'=>`((.int r))
|'l'=>`((qE (jJ rfl) rfl Z.z_len jH vr))
|'m'=>`((.ref s.heap.objs.size))
|'n'=>`((sD seen))
|'o'=>`((.dct (wD W)))
|_=>Lean.Macro.throwUnsupported
namespace L2
open PySem PySem.Spec PyProof.Rows
abbrev Key:=Sum Int Str
noncomputable def zU:Key->iq->Bool
 | .inl k,v=>Value.isInt k v
 | .inr x,v=>fI x v
noncomputable def qlj (w:iG):Key->Int
 | .inl k=>hashInt k
 | .inr x=>hashStr w x
theorem ju:∀ {k:Key} {v:iq},zU k v=iu->(∃ i t,k=eU i/\v=hZ i t)\/(∃ x t,k=bC x/\v=f9 x t)
 | .inl i,v,h=>by obtain ⟨t,e⟩:=Value.isInt_shape (k:=i) (v:=v) h;exact .inl ⟨i,t,rfl,e⟩
 | .inr x,v,h=>by obtain ⟨t,e⟩:=cY (x:=x) (v:=v) h;exact .inr ⟨x,t,rfl,e⟩
theorem Vc (i:Int) (t:Tok):zU (.inl i) (.int i t)=true:=by simp [zU,Value.isInt]
theorem Vd (x:Str) (t:Tok):zU (.inr x) (.str x t)=true:=by simp [zU,fI]
theorem qg0 (a b:Int):decide ((eU a:Key)=eU b)=(a == b):=by
 by_cases e:a=b;·subst e; simp
 ·have h:¬(eU a:Key)=eU b:=λq=>e (eU.inj q);rw [Ac h];exact (beq_eq_false_iff_ne.mpr e).symm
theorem qg1 (a b:Str):decide ((bC a:Key)=bC b)=decide (a=b):=by
 by_cases e:a=b;·subst e; simp
 ·have h:¬(bC a:Key)=bC b:=λq=>e (bC.inj q);rw [Ac h,Ac e]
theorem qg2 (a:Int) (b:Str):decide ((eU a:Key)=bC b)=false:=Ac (λq=>nomatch q)
theorem qg3 (a:Str) (b:Int):decide ((bC a:Key)=eU b)=false:=Ac (λq=>nomatch q)
noncomputable def qZ (prog:iF) (w:iG):PySem.KeyKind prog w Key where
 is:=zU
 hash:=qlj w
 inj:=λv a b g d=>by
  rcases ju g with ⟨i,t,rfl,rfl⟩ | ⟨x,t,rfl,rfl⟩
  ·rcases ju d with ⟨j,u,rfl,e⟩ | ⟨y,u,rfl,e⟩
   ·injection e with e1 _; rw [e1]
   ·exact nomatch e
  ·rcases ju d with ⟨j,u,rfl,e⟩ | ⟨y,u,rfl,e⟩
   ·exact nomatch e
   ·injection e with e1 _; rw [e1]
 byValue:=λk v h=>by rcases ju h with ⟨i,t,rfl,rfl⟩ | ⟨x,t,rfl,rfl⟩ <;> rfl
 pyHash:=λc h=>by
  rcases ju c with ⟨i,t,rfl,rfl⟩ | ⟨x,t,rfl,rfl⟩
  ·exact wpAny_pyHash_int h
  ·exact wpAny_pyHash_str h
 eqBool:=λf c h=>by
  rcases ju f with ⟨i,t,rfl,rfl⟩ | ⟨x,t,rfl,rfl⟩
  ·rcases ju c with ⟨j,u,rfl,rfl⟩ | ⟨y,u,rfl,rfl⟩
   ·rw [qg0] at h; exact wpAny_eqBool_int h
   ·rw [qg2] at h; exact SeqAt.EqAt.int_str i t y u _ _ _ _ h
  ·rcases ju c with ⟨j,u,rfl,rfl⟩ | ⟨y,u,rfl,rfl⟩
   ·rw [qg3] at h; exact SeqAt.EqAt.str_int x t j u _ _ _ _ h
   ·rw [qg1] at h; exact wpAny_eqBool_str h
 «strs»:=λk x t v h=>by
  rcases ju h with ⟨i,u,rfl,e⟩ | ⟨y,u,rfl,e⟩
  ·exact nomatch e
  ·injection e with e1 _;subst e1;cases v <;> rfl
theorem WQ (prog:iF) (w:iG) (i:Int) (t:Tok):(qZ prog w).is (.inl i) (.int i t)=true:=Vc i t
theorem WR (prog:iF) (w:iG) (x:Str) (t:Tok):(qZ prog w).is (.inr x) (.str x t)=true:=Vd x t
inductive V where
 | non | bl (b:Bool) | int (i:Int) | str (x:Str) | byt (b:Array UInt8) | flt (b:UInt64) | ref (a:Addr) | ty (n:String)
 deriving DecidableEq
def RelV:V->iq->Prop
 | .non,u=>u=bV
 | .bl b,u=>u=bb b
 | .int i,u=>∃ t,u=hZ i t
 | .str x,u=>∃ t,u=f9 x t
 | .byt b,u=>∃ t,u=Value.bytes b t
 | .flt b,u=>∃ t,u=Value.float b t
 | .ref a,u=>u=bA a
 | .ty n,u=>u=fj n
abbrev Vals:List V->List iq->Prop:=ml RelV
variable {xs:List V} {us:List iq}
theorem Vals.length (r:Vals xs us):xs.length=us.length:=fJ r
theorem Vals.get:∀ {xs:List V} {us:List iq} {i:Nat} {x:V},Vals xs us->xs[i]?=ij x->∃ u,us[i]?=ij u/\RelV x u
 | _,_,_,_,.nil,e=>by simp at e
 | _,_,0,_,.cons r _,e=>by simp at e; subst e; exact ⟨_,rfl,r⟩
 | _,_,i+1,x,.cons _ t,e=>by obtain ⟨u,h1,h2⟩:=Vals.get (i:=i) (x:=x) t (by simpa using e);exact ⟨u,by simpa using h1,h2⟩
variable {u:iq}
theorem Vals.set {x:V} (r:RelV x u):∀ {xs:List V} {us:List iq} (i:Nat),Vals xs us->Vals (xs.set i x) (us.set i u)
 | _,_,_,.nil=>.nil
 | _,_,0,.cons _ t=>.cons r t
 | _,_,i+1,.cons q t=>.cons q (Vals.set r i t)
theorem Vals.append:∀ {xs ys:List V} {us ws:List iq},Vals xs us->Vals ys ws->Vals (xs++ys) (us++ws)
 | _,_,_,_,.nil,s=>s
 | _,_,_,_,.cons r t,s=>.cons r (Vals.append t s)
theorem Vals.none_of:∀ {xs:List V} {us:List iq} {i:Nat},Vals xs us->xs[i]?=im->us[i]?=none:=λ{xs us i} r e=>by have h1:=r.length;have h2:xs.length<=i:=bO.mp e;exact bO.mpr 'b'
def RelO:Option V->Option iq->Prop
 | some v,ij u=>RelV v u
 | none,im=>True
 | _,_=>False
def KV {κ:Type}:List (κ×V)->List (κ×iq)->Prop:=ml λ(p:κ×V) (q:κ×iq)=>p.1=q.1/\RelV p.2 q.2
noncomputable def kV:Key->V
 | .inl i=>.int i
 | .inr x=>.str x
inductive HO where
 /-- a list -/
 | lst (xs:List V)
 /-- a tuple (never changes) -/
 | tup (xs:List V)
 /-- a dict whose keys are ints and texts; one whose keys are tuples of ints and texts (the empty one is both) -/
 | dK (kvs:List (Key×V)) | dT (kvs:List (List Key×V))
 /-- a set of ints: its members,its size -/
 | set (S:Int->Bool) (n:Nat)
 /-- an instance of the class at C,its dict at dx,its attributes -/
 | ins (C dx:Addr) (fs:List (Str×V))
 /-- the dict of the instance at x -/
 | own (x:Addr)
 /-- the dict of an exception -/
 | xd (fs:List (Str×V))
 /-- a bound method,f of x -/
 | met (f x:Addr)
 /-- a range object lo,lo+1,.. below hi -/
 | rng (lo hi:Int)
 /-- a thing that is known to the object (the script; a dict while a loop walks it): read,never written while it is so -/
 | frz (o:Obj) (u:HO)
 /-- a code object's table -/
 | tbl (ps:Array iq)
 /-- any other thing,by what is iu of its one object (a def of one's own: SetO a S n:=HO.ext λh=>..) -/
 | ext (φ:Heap->Prop)
abbrev Hp:=Addr->Option HO
noncomputable def upd (H:Hp) (a:Addr) (o:HO):Hp:=λb=>if b=a then ij o else H b
variable {H:Hp} {a:Addr} {o:HO}
theorem qu:upd H a o a=ij o:=by unfold upd; rw [Aa rfl]
variable {b:Addr}
theorem qB (h:b≠a):upd H a o b=H b:=by unfold upd; rw [Ab h]
theorem qjC {u:HO} (h:H a=ij o) (h':H b=ij u) (d:o≠u):a≠b:=by intro e; subst e; rw [h] at h'; exact d (aI.inj h')
theorem qL (h:H a=ij o) (h':H b=im):a≠b:=by intro e; subst e; rw [h] at h'; cases h'
section
variable (P:iF) (w:iG)
def ObjOk (H:Hp) (h:Heap) (a:Addr):HO->Prop
 | .lst xs=>xs.length<=sizeLine/\∃ (its:List iq) (n:Nat),Vals xs its/\h.get? a=ij { cls:=.type "list",data:=.seq its.toArray n }
 | .tup xs=>(xs.length<=sizeLine/\∃ o,h.get? a=ij o/\o.dict=im)/\∃ its:List iq,Vals xs its/\IsTup h a its.toArray
 | .dK kvs=>kvs.length<=sizeLine/\(a == j0)=ir/\∃ vs,KV kvs vs/\h.DictOf (qZ P w) a vs
 | .dT kvs=>kvs.length<=sizeLine/\(a == j0)=ir/\∃ xs:List (List Key×Addr×iq),ml (λ(p:List Key×V) (q:List Key×Addr×iq)=>p.1=q.1/\H q.2.1=ij (.tup (p.1.map kV))/\RelV p.2 q.2.2) kvs xs /\
   ∃ o es ep,h.get? a=ij o/\o.ExactDict/\o.data=.dict es ep/\es.toList=xs.map (entryOfKey (l4 (qZ P w)))/\(xs.map (·.1)).Nodup
 | .set S n=>h.SetOf (intKind P w) a S n
 | .ins C dx fs=>H dx=ij (.own a)/\fs.length<=1000/\dx≠a/\h.get? a=ij (PySem.W.instObj C dx) /\
   ∃ m,h.Ns1 dx m/\(∀ f,RelO (fs.lookup f) (m f))/\PySem.Within m (fs.map (·.1))
 | .own _=>∃ o,h.get? a=ij o
 | .xd fs=>∃ m,h.Ns1 a m/\∀ f,RelO (fs.lookup f) (m f)
 | .rng lo hi=>∃ t u v,h.get? a=ij { cls:=.type "range",data:=.fields #[.int lo t,.int hi u,.int 1 v] }
 | .frz o u=>h.get? a=ij o/\ObjOk H h a u
 | .tbl ps=>h.get? a=ij { cls:=.none,data:=.fields ps }
 | .met f x=>h.get? a=ij (fz (.ref f) (.ref x))
 | .ext φ=>φ h/\(∃ o,h.get? a=ij o)/\∀ h1 h2:Heap,φ h1->(∀ o,h1.get? a=ij o->h2.get? a=ij o)->φ h2
def HOk (H:Hp) (h:Heap):Prop:=∀ a o,H a=ij o->ObjOk P w H h a o
end
variable {P:iF} {w:iG} {H':Hp} {h h':Heap} {α:Type}
section
theorem ObjOk.lt (x:ObjOk P w H h a o):a < h.objs.size:=by
 cases o with
 | lst xs=>obtain ⟨_,_,_,_,e⟩:=x; exact aw e
 | tup xs=>obtain ⟨_,_,_,p⟩:=x; exact p.lt
 | dK kvs=>obtain ⟨_,_,_,_,o,_,_,e,_⟩:=x; exact aw e
 | dT kvs=>obtain ⟨_,_,_,_,o,_,_,e,_⟩:=x; exact aw e
 | set S n=>obtain ⟨o,_,_,_,e,_⟩:=x; exact aw e
 | ins C dx fs=>obtain ⟨_,_,_,e,_⟩:=x; exact aw e
 | own y=>obtain ⟨_,e⟩:=x; exact aw e
 | xd fs=>obtain ⟨_,⟨_,_,_,e,_⟩,_⟩:=x; exact aw e
 | rng lo hi=>obtain ⟨_,_,_,e⟩:=x; exact aw e
 | frz b u=>obtain ⟨e,_⟩:=x; exact aw e
 | tbl ps=>exact aw (show h.get? a=ij _ from x)
 | met f y=>exact aw (show h.get? a=ij _ from x)
 | ext φ=>obtain ⟨_,⟨_,e⟩,_⟩:=x; exact aw e
theorem Paired.mapP {β:Type} {F G:α->β->Prop}:∀ {c:List α} {l:List β},ml F c l->(∀ a b,F a b->G a b)->ml G c l
 | _,_,.nil,_=>.nil
 | _,_,.cons r t,f=>.cons (f _ _ r) (Paired.mapP t f)
theorem ObjOk.stay (x:ObjOk P w H h a o) (k:∀ b u,(b=a\/H b=ij (.own a))->h.get? b=ij u->h'.get? b=ij u)
  (l:∀ b,H b=ij (.own a)->H' b=ij (.own a)) (ht:∀ b xs,H b=ij (.tup xs)->H' b=ij (.tup xs)):ObjOk P w H' h' a o:=by
 induction o with
 | lst xs=>obtain ⟨z,its,n,r,e⟩:=x; exact ⟨z,its,n,r,k _ _ (.inl rfl) e⟩
 | tup xs=>obtain ⟨⟨z,o2,i,d2⟩,its,r,g,e,c⟩:=x; exact ⟨⟨z,o2,k _ _ (.inl rfl) i,d2⟩,its,r,g,k _ _ (.inl rfl) e,c⟩
 | dK kvs=>obtain ⟨z,y,vs,r,g,es,ep,e,c⟩:=x; exact ⟨z,y,vs,r,g,es,ep,k _ _ (.inl rfl) e,c⟩
 | dT kvs=>obtain ⟨z,y,xs,r,g,es,ep,e,c⟩:=x;exact ⟨z,y,xs,Paired.mapP r λp q z=>⟨z.1,ht _ _ z.2.1,z.2.2⟩,g,es,ep,k _ _ (.inl rfl) e,c⟩
 | set S n=>obtain ⟨g,es,ep,t,e,c⟩:=x; exact ⟨g,es,ep,t,k _ _ (.inl rfl) e,c⟩
 | ins C dx fs=>obtain ⟨d,z,ne,e,m,⟨od,es,ep,i,c⟩,r⟩:=x;exact ⟨l _ d,z,ne,k _ _ (.inl rfl) e,m,⟨od,es,ep,k _ _ (.inr d) i,c⟩,r⟩
 | own y=>obtain ⟨g,e⟩:=x; exact ⟨g,k _ _ (.inl rfl) e⟩
 | xd fs=>obtain ⟨m,⟨od,es,ep,e,c⟩,r⟩:=x; exact ⟨m,⟨od,es,ep,k _ _ (.inl rfl) e,c⟩,r⟩
 | rng lo hi=>obtain ⟨t,u,v,e⟩:=x; exact ⟨t,u,v,k _ _ (.inl rfl) e⟩
 | frz g u j=>obtain ⟨e,q⟩:=x; exact ⟨k _ _ (.inl rfl) e,j q⟩
 | tbl ps=>have e:h.get? a=ij { cls:=.none,data:=.fields ps }:=x;show h'.get? a=ij { cls:=.none,data:=.fields ps };exact k a _ (.inl rfl) e
 | met f y=>have e:h.get? a=ij (fz (.ref f) (.ref y)):=x;show h'.get? a=ij (fz (.ref f) (.ref y));exact k a _ (.inl rfl) e
 | ext φ=>obtain ⟨p,⟨o,e⟩,st⟩:=x; exact ⟨st _ _ p λo q=>k _ _ (.inl rfl) q,⟨o,k _ _ (.inl rfl) e⟩,st⟩
theorem HOk.lt (x:HOk P w H h) (e:H a=ij o):a < h.objs.size:=(x a o e).lt
theorem HOk.fresh (x:HOk P w H h) (e:h.objs.size<=a):H a=none:=by
 cases q:H a with
 | none=>rfl
 | some u=>exact absurd (aF (x.lt q) e) (cH _)
theorem HOk.kept (x:HOk P w H h) (k:∀ b u,h.get? b=ij u->h'.get? b=ij u):HOk P w H h':=λa o e=>
 (x a o e).stay (λb u _ q=>k b u q) (λ_ q=>q) λ_ _ q=>q
theorem HOk.laid (x:HOk P w H h) (k:∀ b u,h.get? b=ij u->h'.get? b=ij u) (hp:h.objs.size<=a) (new:ObjOk P w (upd H a o) h' a o):HOk P w (upd H a o) h':=λb u e=>by
 have hn:=x.fresh hp;by_cases d:b=a;·subst d; rw [qu] at e; cases e; exact new
 ·rw [qB d] at e;exact (x b u e).stay (λc v _ q=>k c v q) (λc q=>by rw [qB (qL q hn)]; exact q) λc xs q=>by rw [qB (qL q hn)]; exact q
end
def Rd (H:Hp) (a:Addr) (u:HO):Prop:=H a=ij u\/∃ o,H a=ij (.frz o u)
theorem Rd.ok {u:HO} (r:Rd H a u) (x:HOk P w H h):ObjOk P w H h a u:=by
 rcases r with r | ⟨o,r⟩
 ·exact x a u r
 ·obtain ⟨_,q⟩:=x a _ r;exact q
def Mut:Option HO->Prop
 | some (.lst _)=>True
 | some (.dK _)=>True
 | some (.dT _)=>True
 | some (.set _ _)=>True
 | some (.ins _ _ _)=>True
 | some (.ext _)=>True
 | _=>False
section
variable {x e:Addr} {o':HO}
theorem HOk.write (ok:HOk P w H h) (m:Mut (H x)) (i:e=x\/H e=ij (.own x)) (k:∀ b u,b≠e->h.get? b=ij u->h'.get? b=ij u) (o:∃ u,h'.get? e=ij u)
  (new:ObjOk P w (upd H x o') h' x o'):HOk P w (upd H x o') h':=λb u q=>by
 have n:∀ c y,H c=ij (.own y)->c≠x:=λc y r z=>by subst z; rw [r] at m; exact m
 have p:∀ c xs,H c=ij (.tup xs)->c≠x:=λc xs r z=>by subst z; rw [r] at m; exact m
 by_cases f:b=x;·subst f; rw [qu] at q; cases q; exact new
 ·rw [qB f] at q;by_cases a:b=e
  ·have g:H b=ij (.own x):=by
    rcases i with z | z;·exact absurd (a.trans z) f
    ·rw [a]; exact z
   rw [q] at g; cases g;obtain ⟨v,j⟩:=o;exact ⟨v,by rw [a]; exact j⟩
  ·refine (ok b u q).stay (λc v d r=>k c v ?_ r) (λc r=>by rw [qB (n c b r)]; exact r) λc xs r=>by rw [qB (p c xs r)]; exact r
   rcases d with rfl | d;·exact a
   ·rintro rfl;rcases i with z | z;·exact n c b d z
    ·rw [d] at z; cases z; exact f rfl
end
structure Un (fs ex:List Addr) (H H':Hp) (h h':Heap):Prop where
 keep:∀ b o,h.get? b=ij o->H b=im->b∉fs->b∉ex->h'.get? b=ij o
 slot:∀ b o,h.get? b=ij o->H b=im->b∈fs->b∉ex->∃ sl,h'.get? b=ij { o with slots:=sl }
 free:∀ b o,h.get? b=ij o->H b=im->b∉ex->H' b=im
 there:∀ b o,h.get? b=ij o->b∉ex->∃ o',h'.get? b=ij o'
 tups:∀ b xs,H b=ij (.tup xs)->H' b=ij (.tup xs)
 frzs:∀ b o u,H b=ij (.frz o u)->H' b=ij (.frz o u)
 tbls:∀ b ps,H b=ij (.tbl ps)->∃ more,H' b=ij (.tbl (ps++more))
section
variable {fs fs' ex ex':List Addr} {H1 H2:Hp} {h1 h2:Heap} {x e:Addr}
theorem Un.any (u:Un fs ex H H1 h h1) {o:Obj} (q:h.get? b=ij o) (n:H b=im) (hx:b∉ex):∃ sl,h1.get? b=ij { o with slots:=sl }:=by
 by_cases d:b∈fs;·exact u.slot b o q n d hx
 ·exact ⟨o.slots,u.keep b o q n d hx⟩
theorem Un.kept (k:∀ b u,h.get? b=ij u->h'.get? b=ij u):Un fs ex H H h h':=
 ⟨λb o q _ _ _=>k b o q,λb o q _ _ _=>⟨o.slots,k b o q⟩,λ_ _ _ n _=>n,λb o q _=>⟨o,k b o q⟩,λ_ _ q=>q,λ_ _ _ q=>q,λ_ ps q=>⟨#[],by rw [q]; simp⟩⟩
theorem Un.refl:Un fs ex H H h h:=Un.kept λ_ _ q=>q
theorem Un.laid (k:∀ b u,h.get? b=ij u->h'.get? b=ij u) (hp:h.objs.size<=a) (hn:H a=im):Un fs ex H (upd H a o) h h' where
 keep:=λb u q _ _ _=>k b u q
 slot:=λb u q _ _ _=>⟨u.slots,k b u q⟩
 free:=λb u q n _=>by rw [qB (aC (aF (aw q) hp))]; exact n
 there:=λb u q _=>⟨u,k b u q⟩
 tups:=λb xs q=>by rw [qB (qL q hn)]; exact q
 frzs:=λb u xs q=>by rw [qB (qL q hn)]; exact q
 tbls:=λb ps q=>⟨#[],by rw [qB (qL q hn),q]; simp⟩
theorem Un.write (m:Mut (H x)) (i:e=x\/H e=ij (.own x)) (k:∀ b u,b≠e->h.get? b=ij u->h'.get? b=ij u) (d:∃ u,h'.get? e=ij u):Un fs ex H (upd H x o) h h':=by
 have hx:∀ b,H b=im->b≠x:=λb n z=>by subst z; rw [n] at m; exact m
 have f:∀ b,H b=im->b≠e:=λb n z=>by
  subst z;rcases i with r | r;·exact hx b n r
  ·rw [n] at r; cases r
 have c:∀ b u,H b=ij u->¬Mut (ij u)->b≠x:=λb u q nm z=>by subst z; rw [q] at m; exact nm m
 refine ⟨λb u q n _ _=>k b u (f b n) q,λb u q n _ _=>⟨u.slots,k b u (f b n) q⟩,λb u q n _=>by rw [qB (hx b n)]; exact n,λb u q _=>?_,λb xs q=>by rw [qB (c b _ q λz=>z)]; exact q,λb u xs q=>by rw [qB (c b _ q λz=>z)]; exact q,λb ps q=>⟨#[],by rw [qB (c b _ q λz=>z),q]; simp⟩⟩;by_cases a:b=e;·subst a; exact d
 ·exact ⟨u,k b u a q⟩
end
noncomputable def trk (h:Heap) (H:Hp):List Addr:=(aO h.objs.size).filter λa=>(H a).isSome
noncomputable def qcn (h:Heap) (H:Hp):Heap:=bi h (trk h H)
theorem Gg (h:Heap) (H:Hp):(qcn h H).objs.size=h.objs.size:=PySem.W.hideAll_size _ _
theorem qco {o:Obj} (e:h.get? b=ij o) (n:H b=im):(qcn h H).get? b=ij o:=
 cZ _ e λc=>by have q:(H b).isSome=true:=(bF.mp c).2;rw [n] at q; simp at q
theorem qe1 {o:Obj} (e:(qcn h H).get? b=ij o):h.get? b=ij o/\H b=none:=by
 have a:h.get? b=ij o:=dQ (trk h H) e;refine ⟨a,?_⟩;cases q:H b with
 | none=>rfl
 | some x=>have c:b∈trk h H:=bF.mpr ⟨bv.mpr (aw a),by simp [q]⟩;have z:(qcn h H).get? b=none:=cR (trk h H) c;rw [z] at e; cases e
structure Mod (K:Frag) (mg:Str->Option iq) (base:Heap):Prop where
 kin:K.In base
 glob:base.Ns iC mg
 blt:∃ mb,base.Ns builtinsNs mb/\∀ x:Str,x ≠ "__name__"->mb x=iE x
 nolimit:base.NoLimit
abbrev Pns:=List (Addr×Obj)
structure Cx where
 prog:iF
 w:iG
 K:Frag
 mg:Str->Option iq
 base:Heap
 A:iJ
 N:List Str
 s₀:iw
 H₀:Hp
 env:Env
 outer:List Env
 stack:List Env
 ex:List Addr
 fn:Str->Bool
 calm:Bool
 pn:Pns
 xe:iq->iw->Prop
noncomputable def frs (l:List Env):List Addr:=l.filterMap (·.frame)
abbrev Cx.fs (X:Cx):List Addr:=frs X.outer
def Vis (sc:lz) (x:Str):Prop:=sc.names.lookup x=ij .local\/sc.names.lookup x=ij .cell\/sc.names.lookup x=ij .free
def Loc (sc:lz) (x:Str):Prop:=sc.names.lookup x=ij .local\/sc.names.lookup x=ij .cell
def KW (env:Env) (h:Heap) (m:Str->Option iq) (x:Str) (u:iq):Prop:=
 (env.kindOf x=ij .local/\m x=ij u)\/((env.kindOf x=ij .cell\/env.kindOf x=ij .free)/\∃ c,env.cells.lookup x=ij c/\h.IsCell c (ij u))
structure Cx.Ok (X:Cx):Prop where
 mod:Mod X.K X.mg X.base
 kind:X.env.scope.kind=.function
 glob:X.env.globals=iC
 blt:X.env.builtins=builtinsNs
 above:X.s₀.heap.objs.size<=X.env.locals
 inj:∀ x y c,X.env.cells.lookup x=ij c->X.env.cells.lookup y=ij c->x=y
 has:∀ x,(X.env.kindOf x=ij .cell\/X.env.kindOf x=ij .free)->∃ c,X.env.cells.lookup x=ij c
 cab:∀ x c,X.fn x=iu->X.env.cells.lookup x=ij c->X.s₀.heap.objs.size<=c
 hd:X.calm=iu->X.A.handled=im
 frames:X.A.frames=ij X.stack
 stk:X.stack=X.outer\/(X.stack=X.env::X.outer/\X.env.frame=ij X.env.locals)
 exf:∀ b∈X.ex,b≠X.env.locals/\∀ x c,X.env.cells.lookup x=ij c->c≠b
 bs:∀ b o,X.base.get? b=ij o->X.s₀.heap.get? b=ij o/\X.H₀ b=im
 bsz:X.base.objs.size<=X.s₀.heap.objs.size
 noex:∀ b o,X.base.get? b=ij o->b∉X.ex
 exfs:∀ b∈X.ex,b∉X.fs
 funs:X.s₀.heap.FunFrames X.base X.outer
 frf:∀ b∈X.fs,X.H₀ b=im
structure Inv (X:Cx) (pins:Pns) (σ:List (Option V)) (H:Hp) (s:iw):Prop where
 ok:X.Ok
 os:s.os=X.s₀.os
 bare:lQ s.gens
 base:Un X.fs X.ex X.H₀ H X.s₀.heap s.heap
 loc:∃ m,s.heap.Ns X.env.locals m/\∀ (i:Nat) (x:Str) (v:V),X.N[i]?=ij x->σ[i]?=ij (ij v)->Vis X.env.scope x->∃ u,RelV v u/\KW X.env s.heap m x u
 cell:∀ x c,X.env.cells.lookup x=ij c->∃ v,s.heap.IsCell c v
 free:H X.env.locals=im
 freeC:∀ x c,X.env.cells.lookup x=ij c->H c=im
 pin:∀ p∈X.pn++pins,s.heap.get? p.1=ij p.2/\H p.1=im/\p.1≠X.env.locals/\p.1∉X.fs/\∀ v,p.2.data≠.cell v
 hok:HOk X.prog X.w H s.heap
 len:σ.length=X.N.length
variable {x:Str} {X:Cx} {pins:Pns} {s s':iw} {t' i j:Nat} {it:Addr} {v:V}
section
variable {σ:List (Option V)}
theorem Cx.Ok.nofr (ok:X.Ok) {o:Obj} (e:X.base.get? b=ij o):b∉X.fs:=λd=>by have:=(ok.funs.mem d).1;rw [e] at this; cases this
theorem Inv.bs (I:Inv X pins σ H s):∀ b o,X.base.get? b=ij o->s.heap.get? b=ij o/\H b=none:=λb o e=>
 ⟨I.base.keep b o (I.ok.bs b o e).1 (I.ok.bs b o e).2 (I.ok.nofr e) (I.ok.noex b o e),I.base.free b o (I.ok.bs b o e).1 (I.ok.bs b o e).2 (I.ok.noex b o e)⟩
theorem Inv.bk (I:Inv X pins σ H s):∀ b o,X.base.get? b=ij o->s.heap.get? b=ij o:=λb o e=>(I.bs b o e).1
theorem Inv.mod (I:Inv X pins σ H s):Mod X.K X.mg X.base:=I.ok.mod
theorem Inv.kIn (I:Inv X pins σ H s):X.K.In s.heap:=I.ok.mod.kin.keeps I.bk
theorem Inv.fr (I:Inv X pins σ H s):∃ m,Fr X.base X.env.locals s.heap m:=
 let ⟨m,hn,_⟩:=I.loc
 ⟨m,hn,I.bk,bY I.ok.bsz I.ok.above⟩
theorem Inv.lt (I:Inv X pins σ H s):X.env.locals < s.heap.objs.size:=let ⟨_,hn,_⟩:=I.loc; hn.lt
theorem Inv.sz (I:Inv X pins σ H s):X.s₀.heap.objs.size<=s.heap.objs.size:=bY I.ok.above (c8 I.lt)
theorem Inv.nofs (I:Inv X pins σ H s) (h:s.heap.objs.size<=a):a∉X.fs:=λd=>by obtain ⟨_,o,l,_⟩:=I.ok.funs.mem d;exact absurd (aF (aw l) (bY I.sz h)) (cH _)
theorem Inv.cne (I:Inv X pins σ H s):∀ x c,X.env.cells.lookup x=ij c->c≠X.env.locals:=λx c e z=>by obtain ⟨v,o,l,hd⟩:=I.cell x c e;obtain ⟨m,⟨o',es,ep,h,a,_⟩,_⟩:=I.loc;rw [z,h] at l; cases l; rw [a] at hd; cases hd
theorem Inv.funs (I:Inv X pins σ H s):s.heap.FunFrames X.base X.outer:=by
 have all:∀ (l:List Env),(∀ b∈frs l,b∈X.fs)->X.s₀.heap.FunFrames X.base l->s.heap.FunFrames X.base l:=by
  intro l
  induction l with
  | nil=>intro _ _; trivial
  | cons env r j=>intro c hl;obtain ⟨k,⟨L,o,h,hn,f,hd⟩,hr⟩:=hl;have a:L∈X.fs:=c L (by unfold frs; rw [bq,h]; exact ap);obtain ⟨sl,e⟩:=I.base.slot L o f (I.ok.frf L a) a λz=>I.ok.exfs L z a;exact ⟨k,⟨L,_,h,hn,e,hd⟩,j (λb d=>c b (by unfold frs; rw [bq,h]; exact ae _ d)) hr⟩
 exact all X.outer (λ_ d=>d) I.ok.funs
theorem Inv.stack (I:Inv X pins σ H s):s.heap.FunFrames X.base X.stack:=by
 rcases I.ok.stk with e | ⟨e,hf⟩
 ·rw [e]; exact I.funs
 ·rw [e];obtain ⟨m,hn,_⟩:=I.loc;refine .cons (by rw [I.ok.kind]; decide) hf hn ?_ I.funs;exact Heap.get?_none_of_le (bY I.ok.bsz I.ok.above)
theorem Inv.stkSub (I:Inv X pins σ H s):∀ b∈frs X.stack,b∈X.env.locals::X.fs:=λb d=>by
 rcases I.ok.stk with e | ⟨e,hf⟩
 ·rw [e] at d; exact ae _ d
 ·rw [e] at d;unfold frs at d;rw [bq,hf] at d;exact d
theorem Inv.stkFree (I:Inv X pins σ H s):∀ b∈frs X.stack,H b=none:=λb d=>by
 rcases ac.mp (I.stkSub b d) with e | d;·rw [e]; exact I.free
 ·obtain ⟨_,o,l,_⟩:=I.ok.funs.mem d;exact I.base.free b o l (I.ok.frf b d) λz=>I.ok.exfs b z d
theorem Inv.step {g':Array mj} {t':Nat} {d':Drawn} {ch:List Addr} (I:Inv X pins σ H s)
  (a:∀ b∈ch,(b∈X.ex\/X.s₀.heap.objs.size<=b)/\b≠X.env.locals/\(∀ x c,X.env.cells.lookup x=ij c->c≠b)/\∀ p∈X.pn++pins,p.1≠b)
  (keep:∀ b o,b≠X.env.locals->b∉X.fs->b∉ch->s.heap.get? b=ij o->H b=im->h'.get? b=ij o)
  (slot:∀ b o,b≠X.env.locals->b∈X.fs->b∉ch->s.heap.get? b=ij o->H b=im->∃ sl,h'.get? b=ij { o with slots:=sl }) (free:∀ b o,b∉ch->s.heap.get? b=ij o->H b=im->H' b=im)
  (there:∀ b o,b∉ch->s.heap.get? b=ij o->∃ o',h'.get? b=ij o')
  (tups:∀ b xs,H b=ij (.tup xs)->H' b=ij (.tup xs)) (frzs:∀ b o u,H b=ij (.frz o u)->H' b=ij (.frz o u)) (tbls:∀ b ps,H b=ij (.tbl ps)->∃ more,H' b=ij (.tbl (ps++more)))
  (ns:∀ m,s.heap.Ns X.env.locals m->h'.Ns X.env.locals m) (hok:HOk X.prog X.w H' h') (hg:lQ g') :
  Inv X pins σ H' { s with heap:=h',gens:=g',drawn:=d',toks:=t' }:=by
 have L:∀ b o,X.s₀.heap.get? b=ij o->b≠X.env.locals:=λb o e=>aC (aF (aw e) I.ok.above);have C:∀ b o,X.s₀.heap.get? b=ij o->b∉X.ex->b∉ch:=λb o e hx f=>by
  rcases (a b f).1 with z | z;·exact hx z
  ·exact absurd (aF (aw e) z) (cH _)
 have K:∀ x c,X.env.cells.lookup x=ij c->∀ v,s.heap.IsCell c v->h'.IsCell c v:=λx c e v ⟨o,g,hd⟩=>by
  have h:c∉ch:=λz=>(a c z).2.2.1 x c e rfl;by_cases A:c∈X.fs;·obtain ⟨sl,q⟩:=slot c o (I.cne x c e) A h g (I.freeC x c e);exact ⟨_,q,hd⟩
  ·exact ⟨o,keep c o (I.cne x c e) A h g (I.freeC x c e),hd⟩
 refine ⟨I.ok,I.os,hg,⟨λb o e n f hx=>?_,λb o e n f hx=>?_,λb o e n hx=>?_,λb o e hx=>?_,λb xs e=>tups b xs (I.base.tups b xs e),λb o xs e=>frzs b o xs (I.base.frzs b o xs e),λb ps e=>?_⟩,?_,λx c e=>?_,?_,λx c e=>?_,λp hp=>?_,hok,I.len⟩;·exact keep b o (L b o e) f (C b o e hx) (I.base.keep b o e n f hx) (I.base.free b o e n hx)
 ·obtain ⟨sl,e1⟩:=I.base.slot b o e n f hx;obtain ⟨t,j⟩:=slot b _ (L b o e) f (C b o e hx) e1 (I.base.free b o e n hx);exact ⟨t,j⟩
 ·obtain ⟨o',e1⟩:=I.base.there b o e hx;exact free b o' (C b o e hx) e1 (I.base.free b o e n hx)
 ·obtain ⟨o',e1⟩:=I.base.there b o e hx;exact there b o' (C b o e hx) e1
 ·obtain ⟨m1,e1⟩:=I.base.tbls b ps e;obtain ⟨B,j⟩:=tbls b _ e1;exact ⟨m1++B,by rw [j,Array.append_assoc]⟩
 ·obtain ⟨m,hn,hl⟩:=I.loc;refine ⟨m,ns m hn,λi x v e1 j D=>?_⟩;obtain ⟨u,r,l⟩:=hl i x v e1 j D;refine ⟨u,r,?_⟩;rcases l with l | ⟨k,c,e,z⟩
  ·exact .inl l
  ·exact .inr ⟨k,c,e,K x c e _ z⟩
 ·obtain ⟨v,z⟩:=I.cell x c e;exact ⟨v,K x c e v z⟩
 ·obtain ⟨m,⟨o,_,_,g,_⟩,_⟩:=I.loc;exact free _ o (λz=>(a _ z).2.1 rfl) g I.free
 ·obtain ⟨v,o,g,hd⟩:=I.cell x c e;exact free c o (λz=>(a c z).2.2.1 x c e rfl) g (I.freeC x c e)
 ·obtain ⟨e,n,ne,y,d⟩:=I.pin p hp;have h:p.1∉ch:=λz=>(a p.1 z).2.2.2 p hp rfl;exact ⟨keep p.1 p.2 ne y h e n,free p.1 p.2 h e n,ne,y,d⟩
theorem Inv.un (I:Inv X pins σ H s) (u:Un X.fs [] H H' s.heap h') (hok:HOk X.prog X.w H' h'):Inv X pins σ H' { s with heap:=h',toks:=t' }:=by obtain ⟨m,⟨o,es,ep,l,r⟩,_⟩:=id I.loc;obtain ⟨sl,L⟩:=u.any l I.free 'g';exact I.step (g':=s.gens) (d':=s.drawn) (ch:=[]) (λ_ z=>nomatch z) (λb o _ d _ e n=>u.keep b o e n d 'g') (λb o _ d _ e n=>u.slot b o e n d 'g') (λb o _ e n=>u.free b o e n 'g') (λb o _ e=>u.there b o e 'g') u.tups u.frzs u.tbls (λf c=>by obtain ⟨o',es',a,h,r'⟩:=c;rw [l] at h; cases h;exact ⟨_,es',a,L,r'⟩) hok I.bare
theorem Inv.call {g':Array mj} {t':Nat} {d':Drawn} {ch:List Addr} (I:Inv X pins σ H s) (u:Un (frs X.stack) ch H H' s.heap h') (hok:HOk X.prog X.w H' h') (hg:lQ g')
  (a:∀ b∈ch,(b∈X.ex\/X.s₀.heap.objs.size<=b)/\b≠X.env.locals/\(∀ x c,X.env.cells.lookup x=ij c->c≠b)/\∀ p∈X.pn++pins,p.1≠b) :
  Inv X pins σ H' { s with heap:=h',gens:=g',drawn:=d',toks:=t' }:=by
 obtain ⟨m,⟨o,es,ep,l,r⟩,_⟩:=id I.loc;obtain ⟨sl,L⟩:=u.any l I.free λz=>(a _ z).2.1 rfl;exact I.step (ch:=ch) a (λb o L i d e n=>u.keep b o e n (λz=>(ac.mp (I.stkSub b z)).elim L i) d) (λb o _ _ d e n=>u.any e n d) (λb o d e n=>u.free b o e n d) (λb o d e=>u.there b o e d) u.tups u.frzs u.tbls (λj g=>by obtain ⟨o',es',f,h,r'⟩:=g;rw [l] at h; cases h;exact ⟨_,es',f,L,r'⟩) hok hg
theorem Inv.turned {t':Nat} (I:Inv X pins σ H s) (k:∀ b o,b≠it->s.heap.get? b=ij o->h'.get? b=ij o) (hn:H it=im) (a:it≠X.env.locals)
  (h1:it∈X.ex\/X.s₀.heap.objs.size<=it) (h2:∀ x c,X.env.cells.lookup x=ij c->c≠it) (g:∀ p∈X.pn++pins,p.1≠it):Inv X pins σ H { s with heap:=h',toks:=t' }:=by
 have t:∀ b u,H b=ij u->b≠it:=λb u e z=>by rw [z,hn] at e; cases e
 refine I.step (g':=s.gens) (d':=s.drawn) (ch:=[it]) (λb f=>?_) (λb o _ _ d e _=>k b o (λz=>d (by simp [z])) e) (λb o _ _ d e _=>⟨o.slots,k b o (λz=>d (by simp [z])) e⟩) (λ_ _ _ _ n=>n)
  (λb o d e=>⟨o,k b o (λz=>d (by simp [z])) e⟩) (λ_ _ e=>e) (λ_ _ _ e=>e) (λb ps e=>⟨#[],by rw [e]; simp⟩) (λm h=>?_) (λb u e=>?_) I.bare
 ·have e:b=it:=by simpa using f
  subst e;exact ⟨h1,a,h2,g⟩
 ·obtain ⟨o,es,ep,l,r⟩:=h;exact ⟨o,es,ep,k _ o (bo a) l,r⟩
 ·refine (I.hok b u e).stay (λc v d q=>k c v ?_ q) (λ_ q=>q) λ_ _ q=>q;rcases d with z | z;·rw [z]; exact t b u e
  ·exact t c _ z
theorem Inv.tok (I:Inv X pins σ H s) (t:Nat):Inv X pins σ H { s with toks:=t }:=I.un (h':=s.heap) (t':=t) Un.refl I.hok
theorem Inv.kept (I:Inv X pins σ H s) (k:∀ b u,s.heap.get? b=ij u->h'.get? b=ij u):Inv X pins σ H { s with heap:=h',toks:=t' }:=I.un (Un.kept k) (I.hok.kept k)
theorem Inv.laid {t':Nat} (I:Inv X pins σ H s) (k:∀ b u,s.heap.get? b=ij u->h'.get? b=ij u) (hp:s.heap.objs.size<=a) (new:ObjOk X.prog X.w (upd H a o) h' a o):Inv X pins σ (upd H a o) { s with heap:=h',toks:=t' }:=I.un (Un.laid k hp (I.hok.fresh hp)) (I.hok.laid k hp new)
theorem Inv.write {x e:Addr} {o:HO} {t':Nat} (I:Inv X pins σ H s) (m:Mut (H x)) (i:e=x\/H e=ij (.own x)) (k:∀ b u,b≠e->s.heap.get? b=ij u->h'.get? b=ij u) (h:∃ u,h'.get? e=ij u)
  (new:ObjOk X.prog X.w (upd H x o) h' x o):Inv X pins σ (upd H x o) { s with heap:=h',toks:=t' }:=I.un (Un.write m i k h) (I.hok.write m i k h new)
theorem Inv.weak {σ':List (Option V)} (I:Inv X pins σ H s) (hl:σ'.length=σ.length) (w:∀ (i:Nat) v,σ'[i]?=ij (ij v)->σ[i]?=ij (ij v)):Inv X pins σ' H s:=
 ⟨I.ok,I.os,I.bare,I.base,let ⟨m,hn,h⟩:=I.loc; ⟨m,hn,λi x v e1 e D=>h i x v e1 (w i v e) D⟩,I.cell,I.free,I.freeC,I.pin,I.hok,hl.trans I.len⟩
theorem Inv.pins_of {a:Pns} (I:Inv X pins σ H s) (h:∀ p∈a,s.heap.get? p.1=ij p.2/\H p.1=im/\p.1≠X.env.locals/\p.1∉X.fs/\∀ v,p.2.data≠.cell v):Inv X a σ H s:=
 ⟨I.ok,I.os,I.bare,I.base,I.loc,I.cell,I.free,I.freeC,λp hp=>(aj.mp hp).elim (λz=>I.pin p (bK _ z)) (h p),I.hok,I.len⟩
theorem Yl {N:List Str} (h:N.Nodup) (a:N[i]?=ij x) (b:N[j]?=ij x):i=j:=by obtain ⟨h1,e1⟩:=aB.mp a;obtain ⟨h2,e⟩:=aB.mp b;exact (fM h).mp (e1.trans e.symm)
theorem Ve {M:Model} {A:iJ} {E:iq->iw->Prop} {Q:Unit->iw->Prop} (I:Inv X pins σ H s) (hN:X.N.Nodup) (hi:X.N[i]?=ij x) (hx:Loc X.env.scope x) (r:RelV v u)
  (h:∀ s',Inv X pins (σ.set i (ij v)) H s'->(∃ a,bI a s.heap s'.heap/\(a=X.env.locals\/X.env.cells.lookup x=ij a))->Q () s') (hf:X.fn x=iu\/X.env.scope.names.lookup x=ij .local:=by first | exact .inl rfl | exact .inr rfl | assumption):iB M A (storeName X.env x u) Q E s:=by
 obtain ⟨m,hn,hl⟩:=id I.loc;have P:(X.env.scope.kind == .class||(X.env.scope.kind == .module&&X.env.locals != X.env.globals))=false:=by rw [I.ok.kind]; rfl
 have D:i < σ.length:=by rw [I.len]; exact (aB.mp hi).1
 have cne:=I.cne;have t:∀ {a:Addr} {h':Heap},(∃ o,s.heap.get? a=ij o/\H a=im)->bI a s.heap h'->HOk X.prog X.w H h':=λ{a h'} ha f b ob e=>by
  obtain ⟨_,_,l⟩:=ha;refine (I.hok b ob e).stay (λc T g q=>(f.2 c ?_).trans q) (λ_ q=>q) λ_ _ q=>q;rintro rfl;rcases g with rfl | g;·rw [l] at e; cases e
  ·rw [l] at g; cases g
 rcases hx with C | C
 ·refine wpAny_storeName_local C hn (λh' F f=>?_) P;obtain ⟨oL,_,_,Z,_⟩:=id hn;refine h _ ⟨I.ok,I.os,I.bare,⟨λb o e n K hx=>?_,λb o e n K hx=>?_,I.base.free,λb o e hx=>?_,I.base.tups,I.base.frzs,I.base.tbls⟩,⟨_,F,λj y V e1 B e3=>?_⟩,λy c e=>?_,I.free,I.freeC,λp hp=>?_,t ⟨oL,Z,I.free⟩ f,by simpa using I.len⟩ ⟨_,f,.inl rfl⟩;·exact (f.2 b (aC (aF (aw e) I.ok.above))).trans (I.base.keep b o e n K hx)
  ·obtain ⟨sl,e1⟩:=I.base.slot b o e n K hx;exact ⟨sl,(f.2 b (aC (aF (aw e) I.ok.above))).trans e1⟩
  ·obtain ⟨o',e1⟩:=I.base.there b o e hx;exact ⟨o',(f.2 b (aC (aF (aw e) I.ok.above))).trans e1⟩
  ·by_cases G:j=i;·subst G;rw [hi] at e1; cases e1;rw [aG D] at B;cases B;exact ⟨u,r,.inl ⟨C,by simp⟩⟩
   ·rw [ax (bo G)] at B;obtain ⟨W,r',q⟩:=hl j y V e1 B e3;refine ⟨W,r',?_⟩;rcases q with ⟨k,e⟩ | ⟨k,c,e,z⟩
    ·refine .inl ⟨k,?_⟩;have:y≠x:=λe=>G (Yl hN e1 (e ▸ hi));simp [this,e]
    ·exact .inr ⟨k,c,e,z.sameBut f (cne y c e)⟩
  ·obtain ⟨T,z⟩:=I.cell y c e;exact ⟨T,z.sameBut f (cne y c e)⟩
  ·obtain ⟨e,n,ne,Y,d⟩:=I.pin p hp;exact ⟨(f.2 p.1 ne).trans e,n,ne,Y,d⟩
 ·have J:X.fn x=true:=by
   rcases hf with z | z;·exact z
   ·rw [z] at C; cases C
  obtain ⟨c,g⟩:=I.ok.has x (.inl C);obtain ⟨T,z⟩:=I.cell x c g;refine wpAny_storeName_cell I.ok.kind C g z (λh' S f=>?_);obtain ⟨oc,O,L⟩:=id z;refine h { s with heap:=h' } ⟨I.ok,I.os,I.bare,⟨λb o e n K hx=>?_,λb o e n K hx=>?_,I.base.free,λb o e hx=>?_,I.base.tups,I.base.frzs,I.base.tbls⟩,⟨m,hn.sameBut f (bo (cne x c g)),λj y V e1 B e3=>?_⟩,λy U e=>?_,I.free,I.freeC,λp hp=>?_,t ⟨oc,O,I.freeC x c g⟩ f,by simpa using I.len⟩ ⟨c,f,.inr g⟩;·exact (f.2 b (aC (aF (aw e) (I.ok.cab x c J g)))).trans (I.base.keep b o e n K hx)
  ·obtain ⟨sl,e1⟩:=I.base.slot b o e n K hx;exact ⟨sl,(f.2 b (aC (aF (aw e) (I.ok.cab x c J g)))).trans e1⟩
  ·obtain ⟨o',e1⟩:=I.base.there b o e hx;exact ⟨o',(f.2 b (aC (aF (aw e) (I.ok.cab x c J g)))).trans e1⟩
  ·by_cases G:j=i;·subst G;rw [hi] at e1; cases e1;rw [aG D] at B;cases B;exact ⟨u,r,.inr ⟨.inl C,c,g,S⟩⟩
   ·rw [ax (bo G)] at B;obtain ⟨W,r',q⟩:=hl j y V e1 B e3;refine ⟨W,r',?_⟩;rcases q with q | ⟨k,U,e,z'⟩
    ·exact .inl q
    ·refine .inr ⟨k,U,e,z'.sameBut f ?_⟩;rintro rfl;exact G (Yl hN e1 (I.ok.inj _ _ _ e g ▸ hi))
  ·by_cases R:U=c;·subst R; exact ⟨_,S⟩
   ·obtain ⟨w2,z2⟩:=I.cell y U e;exact ⟨w2,z2.sameBut f R⟩
  ·obtain ⟨e,n,ne,Y,d⟩:=I.pin p hp;refine ⟨(f.2 p.1 ?_).trans e,n,ne,Y,d⟩;intro q;rw [q,O] at e;have q':oc=p.2:=aI.inj e;exact d T (by rw [<-q']; exact L)
theorem Ju {M:Model} {A:iJ} {E:iq->iw->Prop} {Q:Unit->iw->Prop} (I:Inv X pins σ H s) (a:X.N.Nodup) (hi:X.N[i]?=ij x) (hx:Loc X.env.scope x) (r:RelV v u)
  (h:∀ s',Inv X pins (σ.set i (ij v)) H s'->Q () s') (f:X.fn x=iu\/X.env.scope.names.lookup x=ij .local:=by first | exact .inl rfl | exact .inr rfl | assumption):iB M A (storeName X.env x u) Q E s:=
 Ve I a hi hx r (λs' b _=>h s' b) f
theorem Inv.call' {ch:List Addr} (I:Inv X pins σ H s) (l:s'.os=s.os) (u:Un (frs X.stack) ch H H' s.heap s'.heap) (hok:HOk X.prog X.w H' s'.heap) (hg:lQ s'.gens)
  (a:∀ b∈ch,(b∈X.ex\/X.s₀.heap.objs.size<=b)/\b≠X.env.locals/\(∀ x c,X.env.cells.lookup x=ij c->c≠b)/\∀ p∈X.pn++pins,p.1≠b):Inv X pins σ H' s':=by
 obtain ⟨h',g',d',t',o'⟩:=s';have e:o'=s.os:=l;subst e;exact I.call (g':=g') (t':=t') (d':=d') u hok hg a
end
abbrev XK:=iq->Option Addr->Hp->Prop
abbrev St:=List (Option V)
abbrev VK:=V->Hp->Prop
abbrev TE:=St->Hp->VK->Prop
abbrev TT:=St->Hp->(Bool->Hp->Prop)->Prop
abbrev TA:=St->Hp->(List V->Hp->Prop)->Prop
structure Ends where
 nx:St->Hp->Prop
 rt:VK
 bk:St->Hp->Prop:=λ_ _=>False
 ct:St->Hp->Prop:=λ_ _=>False
abbrev TS:=Ends->St->Hp->Prop
def EP (X:Cx) (pins:Pns) (σ:St) (Q:VK) (u:iq) (s':iw):Prop:=∃ v H',Inv X pins σ H' s'/\RelV v u/\Q v H'
def TP (X:Cx) (pins:Pns) (σ:St) (Q:Bool->Hp->Prop) (b:Bool) (s':iw):Prop:=∃ H',Inv X pins σ H' s'/\Q b H'
def AP (X:Cx) (pins:Pns) (σ:St) (Q:List V->Hp->Prop) (us:List iq) (s':iw):Prop:=∃ vs H',Inv X pins σ H' s'/\Vals vs us/\Q vs H'
def SP (X:Cx) (pins:Pns) (D:Ends) (f:Flow) (s':iw):Prop:=
 match f with
 | .next=>∃ σ' H',Inv X pins σ' H' s'/\D.nx σ' H'
 | .brk=>∃ σ' H',Inv X pins σ' H' s'/\D.bk σ' H'
 | .cont=>∃ σ' H',Inv X pins σ' H' s'/\D.ct σ' H'
 | .ret u=>∃ v σ' H',Inv X pins σ' H' s'/\RelV v u/\D.rt v H'
structure PE (X:Cx) (e:Expr) (t:TE):Prop where
 run:∀ (pins:Pns) (s:iw) (σ:St) (H:Hp) (Q:VK),Inv X pins σ H s->t σ H Q->iB 'c' X.A (eval e X.env) (EP X pins σ Q) X.xe s
instance {X:Cx} {e:Expr} {t:TE}:CoeFun (PE X e t) (λ_=>∀ (pins:Pns) (s:iw) (σ:St) (H:Hp) (Q:VK),Inv X pins σ H s->t σ H Q->iB 'c' X.A (eval e X.env) (EP X pins σ Q) X.xe s):=⟨λh=>h.run⟩
structure PT (X:Cx) (e:Expr) (t:TT):Prop where
 run:∀ (pins:Pns) (s:iw) (σ:St) (H:Hp) (Q:Bool->Hp->Prop),Inv X pins σ H s->t σ H Q->iB 'c' X.A (isTrue e X.env (eval e X.env)) (TP X pins σ Q) X.xe s
instance {X:Cx} {e:Expr} {t:TT}:CoeFun (PT X e t) (λ_=>∀ (pins:Pns) (s:iw) (σ:St) (H:Hp) (Q:Bool->Hp->Prop),Inv X pins σ H s->t σ H Q->iB 'c' X.A (isTrue e X.env (eval e X.env)) (TP X pins σ Q) X.xe s):=⟨λh=>h.run⟩
structure PW (X:Cx) (e:Expr) (t:TT):Prop where
 run:∀ (whole:Sem iq) (pins:Pns) (s:iw) (σ:St) (H:Hp) (Q:Bool->Hp->Prop),Inv X pins σ H s->t σ H Q->iB 'c' X.A (isTrue e X.env whole) (TP X pins σ Q) X.xe s
instance {X:Cx} {e:Expr} {t:TT}:CoeFun (PW X e t) (λ_=>∀ (whole:Sem iq) (pins:Pns) (s:iw) (σ:St) (H:Hp) (Q:Bool->Hp->Prop),Inv X pins σ H s->t σ H Q->iB 'c' X.A (isTrue e X.env whole) (TP X pins σ Q) X.xe s):=⟨λh=>h.run⟩
variable {e:Expr}
theorem PW.pt {t:TT} (h:PW X e t):PT X e t:=⟨h.run _⟩
structure PA (X:Cx) (es:List Expr) (t:TA):Prop where
 run:∀ (pos:Pos) (pins:Pns) (s:iw) (σ:St) (H:Hp) (Q:List V->Hp->Prop),Inv X pins σ H s->t σ H Q->iB 'c' X.A (spliced (iS pos (iA es X.env))) (AP X pins σ Q) X.xe s
instance {X:Cx} {es:List Expr} {t:TA}:CoeFun (PA X es t) (λ_=>∀ (pos:Pos) (pins:Pns) (s:iw) (σ:St) (H:Hp) (Q:List V->Hp->Prop),Inv X pins σ H s->t σ H Q->iB 'c' X.A (spliced (iS pos (iA es X.env))) (AP X pins σ Q) X.xe s):=⟨λh=>h.run⟩
structure PS (X:Cx) (st:Stmt) (t:TS):Prop where
 run:∀ (pins:Pns) (s:iw) (σ:St) (H:Hp) (D:Ends),Inv X pins σ H s->t D σ H->iB 'c' X.A (exec st X.env) (SP X pins D) X.xe s
instance {X:Cx} {st:Stmt} {t:TS}:CoeFun (PS X st t) (λ_=>∀ (pins:Pns) (s:iw) (σ:St) (H:Hp) (D:Ends),Inv X pins σ H s->t D σ H->iB 'c' X.A (exec st X.env) (SP X pins D) X.xe s):=⟨λh=>h.run⟩
structure PSs (X:Cx) (st:List Stmt) (t:TS):Prop where
 run:∀ (pins:Pns) (s:iw) (σ:St) (H:Hp) (D:Ends),Inv X pins σ H s->t D σ H->iB 'c' X.A (execs st X.env) (SP X pins D) X.xe s
instance {X:Cx} {st:List Stmt} {t:TS}:CoeFun (PSs X st t) (λ_=>∀ (pins:Pns) (s:iw) (σ:St) (H:Hp) (D:Ends),Inv X pins σ H s->t D σ H->iB 'c' X.A (execs st X.env) (SP X pins D) X.xe s):=⟨λh=>h.run⟩
variable {A:iJ}
theorem thn {t:Sem α} {Q b:α->iw->Prop} {M:Model} {E:iq->iw->Prop} (h:iB M A t Q E s) (c:∀ a s,Q a s->b a s):iB M A t b E s:=j3 h c λ_ _ x=>x
variable {σ:St} {pos:Pos} {Q:iq->iw->Prop} {ta:TE} {c:Expr}
section
def qkL (i:Nat):TE:=λσ H Q=>∃ v,σ[i]?=ij (ij v)/\Q v H
def tC (v:V):TE:=λ_ H Q=>Q v H
abbrev Dbg (x:Str):Prop:=(x == ("__debug__":Str))=ir
abbrev Cdk (x:Str):Prop:=(x == ("__classdict__":Str))=ir
theorem yl (j:X.N[i]?=ij x) (f:Vis X.env.scope x) (hd:Dbg x:=by decide) (d:Cdk x:=by decide):PE X (.Name x pos) (qkL i):=by
 refine ⟨?_⟩;intro pins s σ H Q I h;obtain ⟨v,e,h⟩:=h;obtain ⟨m,hn,hl⟩:=I.loc;obtain ⟨u,r,l⟩:=hl i x v j e f;have fin:EP X pins σ Q u s:=⟨v,H,I,r,h⟩
 rcases l with ⟨k,g⟩ | ⟨k,c,b,a⟩
 ·exact wpAny_Name (wpAny_loadName_local I.ok.kind k hn g fin) hd
 ·rcases k with k | k;·exact wpAny_Name (wpAny_loadName_cell I.ok.kind k b a fin) hd
  ·exact wpAny_Name (wpAny_loadName_free I.ok.kind k b a fin d) hd
theorem qeb {i j pos}:PE X (.Constant (.int i) j pos) (tC (.int i)):=⟨λ_ _ _ H _ I h=>wpAny_Constant_int ⟨.int i,H,I.tok _,⟨_,rfl⟩,h⟩⟩
theorem qe2 {b j pos}:PE X (.Constant (.bool b) j pos) (tC (.bl b)):=⟨λ_ _ _ H _ I h=>Constant_bool ⟨.bl b,H,I,rfl,h⟩⟩
theorem qg4 {j pos}:PE X (.Constant .none j pos) (tC .non):=⟨λ_ _ _ H _ I h=>Constant_none ⟨.non,H,I,rfl,h⟩⟩
theorem qg5 {x j pos}:PE X (.Constant (.str x) j pos) (tC (.str x)):=⟨λ_ _ _ H _ I h=>Calls.Constant_str ⟨.str x,H,I.tok _,⟨_,rfl⟩,h⟩⟩
def Gl (X:Cx) (x:Str):Prop:=X.env.kindOf x=ij .globalImplicit
theorem xD {E:iq->iw->Prop} {pos:Pos} (I:Inv X pins σ H s) (hg:Gl X x) (c:X.mg x=ij u) (h:Q u s)
  (hd:Dbg x:=by decide):iB 'c' X.A (eval (.Name x pos) X.env) Q E s:=
 Calls.Name_function_global I.ok.kind hg (Calls.loadGlobal_global (by rw [I.ok.glob]; exact I.mod.glob.keeps I.bk) c h) hd
theorem xX {E:iq->iw->Prop} {pos:Pos} (I:Inv X pins σ H s) (hg:Gl X x) (m:X.mg x=im) (c:iE x=ij u) (h:Q u s)
  (hn:x ≠ "__name__":=by decide) (hd:Dbg x:=by decide):iB 'c' X.A (eval (.Name x pos) X.env) Q E s:=by
 obtain ⟨mb,h1,h2⟩:=I.mod.blt;exact Calls.Name_function_global I.ok.kind hg (Calls.loadGlobal_builtin (by rw [I.ok.glob]; exact I.mod.glob.keeps I.bk) m (by rw [I.ok.blt]; exact h1.keeps I.bk) ((h2 x hn).trans c) h) hd
theorem Gh (hg:Gl X x) (c:X.mg x=ij u) (r:RelV v u) (hd:Dbg x:=by decide):PE X (.Name x pos) (tC v):=⟨λ_ _ _ H _ I h=>xD I hg c ⟨v,H,I,r,h⟩ hd⟩
theorem Gi (hg:Gl X x) (m:X.mg x=im) (c:iE x=ij u) (r:RelV v u) (hn:x ≠ "__name__":=by decide) (hd:Dbg x:=by decide):PE X (.Name x pos) (tC v):=⟨λ_ _ _ H _ I h=>xX I hg m c ⟨v,H,I,r,h⟩ hn hd⟩
variable {a b:Expr} {tb:TE}
variable {tA tB':TT} {rest:List Expr}
def qlk (t u:TT):TT:=λσ H Q=>t σ H λc H1=>if c=iu then u σ H1 Q else Q ir H1
def tOr (t u:TT):TT:=λσ H Q=>t σ H λc H1=>if c=iu then Q iu H1 else u σ H1 Q
def qll (t:TT):TT:=λσ H Q=>t σ H λc H1=>Q (!c) H1
theorem qe3 (g:PT X a tA):PW X (.BoolOp .And [a] pos) tA:=by
 refine ⟨?_⟩;intro wh pins s σ H Q I h;refine isTrue_and (thn (g pins s σ H Q I h) λc s1 e=>?_);cases c with
 | true=>exact isTrue_and_nil e
 | false=>exact e
theorem qg6 (g:PT X a tA):PW X (.BoolOp .Or [a] pos) tA:=by
 refine ⟨?_⟩;intro wh pins s σ H Q I h;refine isTrue_or (thn (g pins s σ H Q I h) λc s1 e=>?_);cases c with
 | false=>exact isTrue_or_nil e
 | true=>exact e
theorem qg7 (g:PT X a tA) (e:PW X (.BoolOp .And (b::rest) pos) tB'):PW X (.BoolOp .And (a::b::rest) pos) (qlk tA tB'):=by
 refine ⟨?_⟩;intro wh pins s σ H Q I h;refine isTrue_and (thn (g pins s σ H _ I h) λc s1 ⟨H1,d,q⟩=>?_);cases c with
 | true=>exact e wh pins s1 σ H1 Q d q
 | false=>exact ⟨H1,d,q⟩
theorem qjD (g:PT X a tA) (e:PW X (.BoolOp .Or (b::rest) pos) tB'):PW X (.BoolOp .Or (a::b::rest) pos) (tOr tA tB'):=by
 refine ⟨?_⟩;intro wh pins s σ H Q I h;refine isTrue_or (thn (g pins s σ H _ I h) λc s1 ⟨H1,d,q⟩=>?_);cases c with
 | true=>exact ⟨H1,d,q⟩
 | false=>exact e wh pins s1 σ H1 Q d q
theorem qg8 (g:PT X a tA):PT X (.UnaryOp .Not a pos) (qll tA):=by refine ⟨?_⟩;intro pins s σ H Q I h;exact isTrue_not (g pins s σ H (λc H1=>Q (!c) H1) I h)
def qjE (ta tb:TE):TE:=λσ H Q=>ta σ H λx H1=>∃ c,x=.bl c/\if c=iu then tb σ H1 Q else Q (.bl ir) H1
theorem qg9 {op} {t:TE} (h:PE X a t):PE X (.BoolOp op [a] pos) t:=⟨λpins s σ H Q I w=>BoolOp_one (h pins s σ H Q I w)⟩
theorem qha (g:PE X a ta) (e:PE X (.BoolOp .And (b::rest) pos) tb):PE X (.BoolOp .And (a::b::rest) pos) (qjE ta tb):=by
 refine ⟨?_⟩;intro pins s σ H Q I h;refine BoolOp_and (thn (g pins s σ H _ I h) λv s1 ⟨x,H1,d,r1,q⟩=>?_);obtain ⟨c,rfl,q⟩:=q;cases r1;refine i4 ?_;cases c with
 | true=>exact e pins s1 σ H1 Q d q
 | false=>exact ⟨.bl ir,H1,d,rfl,q⟩
def tIf (t:TT) (ta tb:TE):TE:=λσ H Q=>t σ H λc H1=>if c=iu then ta σ H1 Q else tb σ H1 Q
theorem qcp (f:PT X c tA) (i:PE X a ta) (g:PE X b tb):PE X (.IfExp c a b pos) (tIf tA ta tb):=by
 refine ⟨?_⟩;intro pins s σ H Q I h;refine wpAny_IfExp (thn (f pins s σ H _ I h) λd s1 ⟨H1,e,q⟩=>?_);cases d with
 | true=>exact i pins s1 σ H1 Q e q
 | false=>exact g pins s1 σ H1 Q e q
end
def SqL (K:Frag) (H:Hp) (a:Addr) (xs:List V):Prop:=
 Rd H a (.lst xs) \/
  ∃ (o:Obj) (its:Array iq) (n:Nat),K.lookup a=ij o/\o.cls=.type "list"/\o.dict=im/\o.data=.seq its n/\its.size<=sizeLine/\Vals xs its.toList
def SqT (K:Frag) (H:Hp) (a:Addr) (xs:List V):Prop:=
 Rd H a (.tup xs) \/
  ∃ (o:Obj) (its:Array iq) (n:Nat),K.lookup a=ij o/\(o.cls=.type "tuple"/\o.dict=im)/\o.data=.seq its n/\its.size<=sizeLine/\Vals xs its.toList
noncomputable def qlm:iq->Option V
 | .none=>ij .non
 | .bool b=>ij (.bl b)
 | .int i _=>ij (.int i)
 | .str x _=>ij (.str x)
 | .bytes b _=>ij (.byt b)
 | .float b _=>ij (.flt b)
 | .ref a=>ij (.ref a)
 | .type n=>ij (.ty n)
 | _=>im
theorem RelV.abs {x:V} (r:RelV x u):qlm u=ij x:=by
 cases x with
 | non=>cases r; rfl
 | bl _=>cases r; rfl
 | int _=>obtain ⟨t,rfl⟩:=r; rfl
 | str _=>obtain ⟨t,rfl⟩:=r; rfl
 | byt _=>obtain ⟨t,rfl⟩:=r; rfl
 | flt _=>obtain ⟨t,rfl⟩:=r; rfl
 | ref _=>cases r; rfl
 | ty _=>cases r; rfl
theorem RelV.inj {x y:V} (r:RelV x u) (q:RelV y u):x=y:=aI.inj (r.abs.symm.trans q.abs)
variable {ys:List V}
theorem Vals.inj (h:Vals xs us) (h':Vals ys us):xs=ys:=by
 induction h generalizing ys with
 | nil=>cases h'; rfl
 | cons r t j=>
  cases h' with
  | cons r' t'=>rw [r.inj r',j t']
variable {K:Frag}
section
theorem SqT.of (h:H a=ij (.tup xs)):SqT K H a xs:=.inl (.inl h)
theorem Inv.list (I:Inv X pins σ H s) (h:SqL X.K H a xs):∃ its:List iq,Vals xs its/\PlainL s.heap a its.toArray/\xs.length<=sizeLine:=by
 rcases h with h | ⟨o,its,n,hk,hc,hd,hs,hz,r⟩
 ·obtain ⟨z,its,n,r,e⟩:=h.ok I.hok;exact ⟨its,r,⟨_,n,e,rfl,rfl,rfl⟩,z⟩
 ·refine ⟨its.toList,r,⟨o,n,I.kIn a o hk,hc,hd,by simpa using hs⟩,?_⟩;have e:=r.length;simp only [bR] at e
  lia
theorem Inv.tuple (I:Inv X pins σ H s) (h:SqT X.K H a xs):∃ its:List iq,Vals xs its/\IsTup s.heap a its.toArray/\xs.length<=sizeLine:=by
 rcases h with h | ⟨o,its,n,hk,hc,hs,hz,r⟩
 ·obtain ⟨⟨z,_⟩,its,r,p⟩:=h.ok I.hok;exact ⟨its,r,p,z⟩
 ·refine ⟨its.toList,r,⟨o,I.kIn a o hk,hc.1,n,by simpa using hs⟩,?_⟩;have e:=r.length;simp only [bR] at e
  lia
theorem Inv.tupleN (I:Inv X pins σ H s) (h:SqT X.K H a xs):∃ o,s.heap.get? a=ij o/\o.dict=none:=by
 rcases h with h | ⟨o,its,n,hk,hc,hs,hz,r⟩
 ·obtain ⟨⟨z,w⟩,its,r,p⟩:=h.ok I.hok;exact w
 ·exact ⟨o,I.kIn a o hk,hc.2⟩
theorem Inv.list_inj (I:Inv X pins σ H s) (h:SqL X.K H a xs) (h':SqL X.K H a ys):xs=ys:=by
 obtain ⟨its,r,⟨o,n,e,_,_,d⟩,_⟩:=I.list h;obtain ⟨its',r',⟨o',c,b,_,_,d'⟩,_⟩:=I.list h';rw [e] at b; cases b;rw [d] at d';injection d' with d1 _;have:its=its':=by simpa using congrArg Array.toList d1
 subst this;exact r.inj r'
theorem Inv.tuple_inj (I:Inv X pins σ H s) (h:SqT X.K H a xs) (h':SqT X.K H a ys):xs=ys:=by
 obtain ⟨its,r,⟨o,e,_,n,d⟩,_⟩:=I.tuple h;obtain ⟨its',r',⟨o',b,_,c,d'⟩,_⟩:=I.tuple h';rw [e] at b; cases b;rw [d] at d';injection d' with d1 _;have:its=its':=by simpa using congrArg Array.toList d1
 subst this;exact r.inj r'
end
variable {te:TE} {tc:TT}
section
variable {st:Stmt} {rest:List Stmt} {t u:TS}
def qjF:TS:=λD σ H=>D.nx σ H
def qln (t u:TS):TS:=λD σ H=>t { D with nx:=u D } σ H
theorem WS:PSs X [] qjF:=⟨λ_ _ σ H _ I h=>lN ⟨σ,H,I,h⟩⟩
theorem qcq (h1:PS X st t) (h2:PSs X rest u):PSs X (st::rest) (qln t u):=by
 refine ⟨?_⟩;intro pins s σ H D I h;refine wpAny_execs_cons (thn (h1 pins s σ H { D with nx:=u D } I h) λf s1 q=>?_);cases f with
 | next=>obtain ⟨σ',H',b,q⟩:=q;exact h2 pins s1 σ' H' D b q
 | ret v=>exact q
 | brk=>exact q
 | cont=>exact q
theorem qe4 (h1:PS X st t):PSs X [st] t:=by
 refine ⟨?_⟩;intro pins s σ H D I h;refine wpAny_execs_cons (thn (h1 pins s σ H D I h) λf s1 q=>?_);cases f with
 | next=>exact lN q
 | ret v=>exact q
 | brk=>exact q
 | cont=>exact q
theorem Inv.quiet (I:Inv X pins σ H s):interactive X.env=false:=by simp [interactive,I.ok.kind]
def qjG (te:TE):TS:=λD σ H=>te σ H λ_ H1=>D.nx σ H1
theorem qe5 (i:PE X e te) (c:lm e im pos.line X.env=pure false:=by rfl):PS X (.Expr e pos) (qjG te):=by refine ⟨?_⟩;intro pins s σ H D I h;exact wpAny_Expr_any (thn (i pins s σ H _ I h) λv s1 ⟨x,H1,d,r1,q⟩=>⟨σ,H1,d,q⟩) I.quiet c
def qlo (te:TE):TS:=λD σ H=>te σ H D.rt
theorem qhb (i:PE X e te):PS X (.Return (ij e) pos) (qlo te):=by refine ⟨?_⟩;intro pins s σ H D I h;exact wpAny_Return_some (thn (i pins s σ H _ I h) λv s1 ⟨x,H1,d,r1,q⟩=>⟨x,σ,H1,d,r1,q⟩)
def qlp (c:TT) (t u:TS):TS:=λD σ H=>c σ H λb H1=>if b=iu then t D σ H1 else u D σ H1
theorem qjH {a b:List Stmt} (f:PT X c tc) (i:PSs X a t) (g:PSs X b u):PS X (.If c a b pos) (qlp tc t u):=by
 refine ⟨?_⟩;intro pins s σ H D I h;refine wpAny_If (thn (f pins s σ H _ I h) λd s1 ⟨H1,e,q⟩=>?_);cases d with
 | true=>exact i pins s1 σ H1 D e q
 | false=>exact g pins s1 σ H1 D e q
end
abbrev TG:=V->St->Hp->(St->Hp->Prop)->Prop
abbrev TGs:=List V->St->Hp->(St->Hp->Prop)->Prop
structure PG (X:Cx) (target:Expr) (t:TG):Prop where
 run:∀ (pins:Pns) (s:iw) (σ:St) (H:Hp) (v:V) (u:iq) (Q:St->Hp->Prop),Inv X pins σ H s->RelV v u->t v σ H Q ->iB 'c' X.A (assign target X.env u) (λ_ s'=>∃ σ' H',Inv X pins σ' H' s'/\Q σ' H') X.xe s
instance {X:Cx} {target:Expr} {t:TG}:CoeFun (PG X target t) (λ_=>∀ (pins:Pns) (s:iw) (σ:St) (H:Hp) (v:V) (u:iq) (Q:St->Hp->Prop),Inv X pins σ H s->RelV v u->t v σ H Q ->iB 'c' X.A (assign target X.env u) (λ_ s'=>∃ σ' H',Inv X pins σ' H' s'/\Q σ' H') X.xe s):=⟨λh=>h.run⟩
structure PGs (X:Cx) (ts:List Expr) (t:TGs):Prop where
 run:∀ (pins:Pns) (s:iw) (σ:St) (H:Hp) (vs:List V) (us:List iq) (Q:St->Hp->Prop),Inv X pins σ H s->Vals vs us->t vs σ H Q ->iB 'c' X.A (assignInOrder ((i6 ts X.env).map (·.2)) us) (λ_ s'=>∃ σ' H',Inv X pins σ' H' s'/\Q σ' H') X.xe s
instance {X:Cx} {ts:List Expr} {t:TGs}:CoeFun (PGs X ts t) (λ_=>∀ (pins:Pns) (s:iw) (σ:St) (H:Hp) (vs:List V) (us:List iq) (Q:St->Hp->Prop),Inv X pins σ H s->Vals vs us->t vs σ H Q ->iB 'c' X.A (assignInOrder ((i6 ts X.env).map (·.2)) us) (λ_ s'=>∃ σ' H',Inv X pins σ' H' s'/\Q σ' H') X.xe s):=⟨λh=>h.run⟩
abbrev qjI:=V->V->V->Hp->(Hp->Prop)->Prop
def qkM (X:Cx) (t:qjI):Prop:=
 ∀ (pins:Pns) (s:iw) (σ:St) (H:Hp) (o i v:V) (a b u:iq) (Q:Hp->Prop),Inv X pins σ H s->RelV o a->RelV i b->RelV v u->t o i v H Q ->iB 'c' X.A (setItem a b u) (λ_ s'=>∃ H',Inv X pins σ H' s'/\Q H') X.xe s
variable {es:List Expr} {tg:Expr}
section
def qhc (i:Nat):TG:=λv σ H Q=>Q (σ.set i (ij v)) H
theorem qe6 (a:X.N.Nodup) (hi:X.N[i]?=ij x) (hx:Loc X.env.scope x) (f:X.fn x=iu\/X.env.scope.names.lookup x=ij .local:=by first | exact .inl rfl | exact .inr rfl | assumption):PG X (.Name x pos) (qhc i):=by refine ⟨?_⟩;intro pins s σ H v u Q I r h;exact wpAny_assign_Name (Ju I a hi hx r (λs' b=>⟨_,H,b,h⟩) f)
def qlq:TGs:=λvs σ H Q=>vs=[]/\Q σ H
def qjJ (t:TG) (u:TGs):TGs:=λvs σ H Q=>∃ v r,vs=v::r/\t v σ H λσ' H'=>u r σ' H' Q
theorem qe7:PGs X [] qlq:=by refine ⟨?_⟩;intro pins s σ H vs us Q I r h;obtain ⟨e,h⟩:=h;subst e;cases r;exact assignInOrder_nil ⟨σ,H,I,h⟩
theorem qcr {t:TG} {u:TGs} (h1:PG X e t) (h2:PGs X es u)
  (c:(i6 (e::es) X.env).map (·.2)=assign e X.env::(i6 es X.env).map (·.2):=by rfl):PGs X (e::es) (qjJ t u):=by
 refine ⟨?_⟩;intro pins s σ H vs us Q I r h;obtain ⟨v,vr,e1,h⟩:=h;subst e1;cases r with
 | cons r a=>rw [c];refine assignInOrder_cons (thn (h1 pins s σ H _ _ _ I r h) λ_ s1 ⟨σ1,H1,d,q⟩=>?_);exact h2 pins s1 σ1 H1 _ _ Q d a q
def qlr (K:Frag) (n:Nat) (t:TGs):TG:=λv σ H Q=>∃ a xs,v=.ref a/\SqT K H a xs/\xs.length=n/\t xs σ H Q
theorem qhd {k:Nat} {t:TGs} {n:Nat} (f:X.calm=iu) (h:PGs X es t)
  (hn:(i6 es X.env).length=n:=by rfl) (c:(i6 es X.env).findIdx? (·.1)=none:=by rfl):PG X (.Tuple es k pos) (qlr X.K n t):=by
 refine ⟨?_⟩;intro pins s σ H v u Q I r w;obtain ⟨a,xs,e1,hq,hl,w⟩:=w;subst e1;cases r;obtain ⟨its,d,ht,z⟩:=I.tuple hq;refine assign_Tuple_tuple (I.ok.hd f) ht (by simp [hn,<-hl,d.length]) c λh' hx=>?_;have g:Inv X pins σ H { s with heap:=h' }:=I.kept (t':=s.toks) λb o e=>hx b o (aC (aw e)) e;exact h pins _ σ H xs _ Q g (by simpa using d) w
def qls (to a:TE) (t:qjI):TG:=λv σ H Q=>to σ H λo H1=>a σ H1 λi H2=>t o i v H2 λb=>Q σ b
theorem qhe {o i:Expr} {to c:TE} {t:qjI} (l:PE X o to) (hi:PE X i c) (f:qkM X t)
  (g:∀ v,assign (.Subscript o i pos) X.env v=(do
   let a <-holding [v] (eval o X.env)
   let b <-holding [v,a] (eval i X.env)
   standAt pos
   holding [v,a,b] (setItem a b v)
   release [v,a,b] []):=by intro _; rfl):PG X (.Subscript o i pos) (qls to c t):=by
 refine ⟨?_⟩;intro pins s σ H v u Q I r h;rw [g];refine ip (iP (thn (l pins s σ H _ I h) λa s1 ⟨x,H1,m,r1,e⟩=>?_));refine ip (iP (thn (hi pins s1 σ H1 _ m e) λb s2 ⟨y,H2,k,r2,d⟩=>?_));refine ip (wpAny_standAt (ip (iP (thn (f pins s2 σ H2 x y v a b u _ k r1 r2 r d) λ_ s3 ⟨n,j,q⟩=>?_))));exact wpAny_release ⟨σ,n,j,q⟩
def qkN (te:TE) (g:TG):TS:=λD σ H=>te σ H λx H1=>g x σ H1 D.nx
theorem qec {g:TG} (i:PE X e te) (hg:PG X tg g) (c:swapsWithSole [tg] e pos.line X.env=pure false:=by rfl) (w:swappedStores [tg] e X.env=pure none:=by rfl)
  (h1:(i6 [tg] X.env).map (·.2)=[assign tg X.env]:=by rfl):PS X (.Assign [tg] e pos) (qkN te g):=by
 refine ⟨?_⟩;intro pins s σ H D I h;refine wpAny_Assign_stores (thn (i pins s σ H _ I h) λv s1 ⟨x,H1,d,r1,a⟩=>?_) c w;rw [h1];exact thn (hg pins s1 σ H1 x v _ d r1 a) λ_ s2 q=>q
theorem qed {pos':Pos} (b:X.N.Nodup) (hi:X.N[i]?=ij x) (hx:Loc X.env.scope x) (a:PE X e te) (c:lm e (ij (.Name x pos')) pos.line X.env=pure false:=by rfl) (f:X.fn x=iu\/X.env.scope.names.lookup x=ij .local:=by first | exact .inl rfl | exact .inr rfl | assumption):PS X (.Assign [.Name x pos'] e pos) (qkN te (qhc i)):=by refine ⟨?_⟩;intro pins s σ H D I h;refine wpAny_Assign_Name (thn (a pins s σ H _ I h) λv s1 ⟨y,H1,d,r1,q⟩=>?_) c;exact Ju d b hi hx r1 (λs2 k=>⟨_,H1,k,q⟩) f
end
variable {tb:TS} {body:List Stmt}
section
def qhf (c:TT) (tb:TS):TS:=λD σ H=>∃ W:Nat->St->Hp->Prop,(∃ m,W m σ H)/\∀ m σ H,W m σ H ->c σ H λb H1=>if b=iu then ∃ N:St->Hp->Prop,(∀ σ' H',N σ' H'->∃ f,f < m/\W f σ' H')/\tb { D with nx:=N,ct:=N,bk:=D.nx } σ H1 else D.nx σ H1
theorem qcs (hp:PassesOwn 'c' X.A X.env X.xe) (u:PT X c tc) (x:PSs X body tb):PS X (.While c body [] pos) (qhf tc tb):=by
 refine ⟨?_⟩;intro pins s σ H D I h;obtain ⟨W,⟨m0,r⟩,t⟩:=h;refine wpAny_While (codeAny_whileLoop (λn s'=>∃ σ' H',Inv X pins σ' H' s'/\W n σ' H') ?_ m0 ⟨σ,H,I,r⟩);rintro n s1 ⟨σ1,H1,y,p⟩;refine j9 hp (thn (u pins s1 σ1 H1 _ y (t n σ1 H1 p)) λb s2 ⟨H2,o,e⟩=>?_);cases b with
 | true=>
  obtain ⟨N,l,e⟩:=e;rw [Aa rfl];refine j9 hp (thn (x pins s2 σ1 H2 _ o e) λf s3 q=>?_);cases f with
  | next=>obtain ⟨a,d,k,i⟩:=q;obtain ⟨m,j,g⟩:=l a d i;exact ⟨m,j,a,d,k,g⟩
  | cont=>obtain ⟨a,d,k,i⟩:=q;obtain ⟨m,j,g⟩:=l a d i;exact ⟨m,j,a,d,k,g⟩
  | brk=>exact q
  | ret v=>exact q
 | false=>rw [Ab bj];exact lN ⟨σ1,H2,o,e⟩
end
structure It where
 go:Nat->Hp->Prop
 yld:Nat->Hp->V->Hp->Prop
 stop:Nat->Hp->Prop
def WL (X:Cx) (pins:Pns) (H:Hp) (b:Addr):Prop:=
 H b=im/\b≠X.env.locals/\b∉X.fs/\(b∈X.ex\/X.s₀.heap.objs.size<=b)/\(∀ x c,X.env.cells.lookup x=ij c->c≠b)/\∀ p∈X.pn++pins,p.1≠b
theorem Inv.fpOk (I:Inv X pins σ H s) (d:s.heap.objs.size<=b) (hn:H' b=im):WL X pins H' b:=by
 refine ⟨hn,cx (aF I.lt d),I.nofs d,.inr (bY I.sz d),λx c e z=>?_,λp hp z=>?_⟩;·obtain ⟨v,q⟩:=I.cell x c e;exact absurd (aF q.lt (by rw [z]; exact d)) (cH _)
 ·exact absurd (aF (aw (I.pin p hp).1) (by rw [z]; exact d)) (cH _)
structure Turn (P:iF) (w:iG) (K:Frag) (tg:Expr) (J:It) (fp:List Addr) (it:Addr) (tn:Nat->Heap->Prop):Prop where
 mem:it∈fp
 obj:∀ i h,tn i h->∀ b∈fp,∃ o,h.get? b=ij o/\∀ v,o.data≠.cell v
 keep:∀ i h h',tn i h->(∀ b∈fp,∀ o,h.get? b=ij o->h'.get? b=ij o)->tn i h'
 item:∀ (X:Cx),X.prog=P->X.w=w->X.K=K->X.calm=iu->∀ (i:Nat) (pins:Pns) (s:iw) (σ:St) (H:Hp) (E:iq->iw->Prop),Inv X pins σ H s->(∀ b∈fp,WL X pins H b)->tn i s.heap->J.go i H ->iB (model P w) X.A (la (.ref it)) (λr s1=>∃ u,r=ij u /\
   iB (model P w) X.A (lO tg (.ref it) u) (λ_ s2=>∃ x H',Inv X pins σ H' s2/\RelV x u/\J.yld i H x H'/\tn (i+1) s2.heap/\∀ b∈fp,H' b=im) E s1) E s
 done:∀ (X:Cx),X.prog=P->X.w=w->X.K=K->X.calm=iu->∀ (i:Nat) (pins:Pns) (s:iw) (σ:St) (H:Hp) (E:iq->iw->Prop),Inv X pins σ H s->(∀ b∈fp,WL X pins H b)->tn i s.heap->J.stop i H ->iB (model P w) X.A (la (.ref it)) (λr s1=>r=im/\Inv X pins σ H s1) E s
 self:∀ (A:iJ) (i:Nat) (s:iw) (Q:iq->iw->Prop) (E:iq->iw->Prop),tn i s.heap->Q (.ref it) s->iB (model P w) A (mF (.ref it)) Q E s
abbrev TI:=St->Hp->(It->Hp->Prop)->Prop
def PIE (X:Cx) (pins:Pns) (σ:St) (tg:Expr) (R:It->Hp->Prop) (i:iq) (s2:iw):Prop:=
 ∃ (it:Addr) (fp:List Addr) (tn:Nat->Heap->Prop) (J:It) (H':Hp),i=.ref it/\Inv X pins σ H' s2/\Turn X.prog X.w X.K tg J fp it tn/\tn 0 s2.heap/\(∀ b∈fp,WL X pins H' b)/\R J H'
structure PI (X:Cx) (tg iter:Expr) (wi:TI):Prop where
 run:∀ (pins:Pns) (s:iw) (σ:St) (H:Hp) (R:It->Hp->Prop),Inv X pins σ H s->wi σ H R ->iB 'c' X.A (eval iter X.env) (λv s1=>iB 'c' X.A (mF v) (PIE X pins σ tg R) X.xe s1) X.xe s
instance {X:Cx} {tg iter:Expr} {wi:TI}:CoeFun (PI X tg iter wi) (λ_=>∀ (pins:Pns) (s:iw) (σ:St) (H:Hp) (R:It->Hp->Prop),Inv X pins σ H s->wi σ H R ->iB 'c' X.A (eval iter X.env) (λv s1=>iB 'c' X.A (mF v) (PIE X pins σ tg R) X.xe s1) X.xe s):=⟨λh=>h.run⟩
theorem qct {M:Model} {A:iJ} {E:iq->iw->Prop} {tg:Expr} {u:iq} {o:Obj} {n:String} {vs:Array iq} {Q:Unit->iw->Prop} (l:s.heap.get? it=ij o) (d:o.cls=.type n) (hd:o.data=.fields vs)
    (hn:["enumerate", "zip", "dict_itemiterator", "dict_reverseitemiterator", "odict_iterator", "itertools.zip_longest", "itertools.pairwise"].contains n=ir) (c:Q () s):iB M A (lO tg (.ref it) u) Q E s:=by
  unfold lO;cases tg <;> first
    | exact iy c
    | (cases u <;> first
        | exact iy c
        | (refine ip (wpAny_load l ?_)
           rw [d,hd];show iB M A (if (["enumerate", "zip", "dict_itemiterator", "dict_reverseitemiterator", "odict_iterator", "itertools.zip_longest", "itertools.pairwise"].contains n&&vs[0]? == ij (iT _))=iu then _ else _) Q E s;rw [Ab (by intro h; rw [hn,Bool.false_and] at h; cases h)];exact iy c))
noncomputable def Itl (K:Frag) (a:Addr):It:=
 ⟨λi H=>∃ xs x,SqL K H a xs/\xs[i]?=ij x,λi H x H'=>H'=H/\∀ xs,SqL K H a xs->xs[i]?=ij x,λi H=>∃ xs,SqL K H a xs/\xs.length<=i⟩
noncomputable def Itt (K:Frag) (a:Addr):It:=
 ⟨λi H=>∃ xs x,SqT K H a xs/\xs[i]?=ij x,λi H x H'=>H'=H/\∀ xs,SqT K H a xs->xs[i]?=ij x,λi H=>∃ xs,SqT K H a xs/\xs.length<=i⟩
noncomputable def Itr (lo:Int) (n:Nat):It:=⟨λi _=>i < n,λi H x H'=>H'=H/\x=.int (lo+i),λi _=>n<=i⟩
theorem Gj (a it:Addr):Turn P w K tg (Itl K a) [it] it (λi h=>h.IsListIter it a i) where
 mem:=by simp
 obj:=λi h st b f=>by
  have e:b=it:=by simpa using f
  subst e;obtain ⟨o,e,c,d⟩:=st;exact ⟨o,e,λv z=>by rw [d] at z; cases z⟩
 keep:=λi h h' st k=>st.at λo e=>k it 'g' o e
 item:=by intro X m l n y i pins s σ H E I j st hg;subst m l n;obtain ⟨xs,x,hq,hx⟩:=hg;obtain ⟨its,r,p,C⟩:=I.list hq;obtain ⟨u,G,B⟩:=r.get hx;obtain ⟨f0,f1,f2,t,f4,q⟩:=j it 'g';refine wpAny_pyNext_list_item st p.isList (x:=u) (by simpa using G) λh' g A=>?_;have L:Inv X pins σ H { s with heap:=h' }:=I.turned (t':=s.toks) (λb o f e=>(A.2 b f).trans e) f0 f1 t f4 q;obtain ⟨o,e,c,d⟩:=id g;exact ⟨u,rfl,qct (s:={ s with heap:=h' }) e c d 'd' ⟨x,H,L,B,⟨rfl,λys D=>by rw [I.list_inj D hq]; exact hx⟩,g,λb f=>(j b f).1⟩⟩
 done:=by intro X m l n y i pins s σ H E I j st hg;subst m l n;obtain ⟨xs,hq,hx⟩:=hg;obtain ⟨its,r,p,C⟩:=I.list hq;obtain ⟨f0,f1,f2,t,f4,q⟩:=j it 'g';have hl:=r.length;exact wpAny_pyNext_list_end (I.ok.hd y) st p.isList (by simp; lia) λh' J=>⟨rfl,I.turned (t':=s.toks) (λb o f e=>J b o f e) f0 f1 t f4 q⟩
 self:=λ_ _ _ _ _ st h=>wpAny_pyIter_listiter st h
theorem XT (a it:Addr):Turn P w K tg (Itt K a) [it] it (λi h=>h.IsTupleIter it a i) where
 mem:=by simp
 obj:=λi h st b f=>by
  have e:b=it:=by simpa using f
  subst e;obtain ⟨o,e,c,d⟩:=st;exact ⟨o,e,λv z=>by rw [d] at z; cases z⟩
 keep:=λi h h' st k=>st.at λo e=>k it 'g' o e
 item:=by intro X m l n y i pins s σ H E I j st hg;subst m l n;obtain ⟨xs,x,hq,hx⟩:=hg;obtain ⟨its,r,p,C⟩:=I.tuple hq;obtain ⟨u,G,B⟩:=r.get hx;obtain ⟨f0,f1,f2,t,f4,q⟩:=j it 'g';refine wpAny_pyNext_tuple_item st (show s.heap.IsTuple a its.toArray from p) (x:=u) (by simpa using G) λh' g A=>?_;have L:Inv X pins σ H { s with heap:=h' }:=I.turned (t':=s.toks) (λb o f e=>(A.2 b f).trans e) f0 f1 t f4 q;obtain ⟨o,e,c,d⟩:=id g;exact ⟨u,rfl,qct (s:={ s with heap:=h' }) e c d 'd' ⟨x,H,L,B,⟨rfl,λys D=>by rw [I.tuple_inj D hq]; exact hx⟩,g,λb f=>(j b f).1⟩⟩
 done:=by intro X m l n y i pins s σ H E I j st hg;subst m l n;obtain ⟨xs,hq,hx⟩:=hg;obtain ⟨its,r,p,C⟩:=I.tuple hq;obtain ⟨f0,f1,f2,t,f4,q⟩:=j it 'g';have hl:=r.length;exact wpAny_pyNext_tuple_end (I.ok.hd y) st (show s.heap.IsTuple a its.toArray from p) (by simp; lia) λh' J=>⟨rfl,I.turned (t':=s.toks) (λb o f e=>J b o f e) f0 f1 t f4 q⟩
 self:=λ_ _ _ _ _ st h=>wpAny_pyIter_tupleiter st h
theorem XU (it:Addr) (lo:Int) (n:Nat):Turn P w K tg (Itr lo n) [it] it (λi h=>IsRangeIter h it (lo+(i:Nat) * 1) ((n:Int) - (i:Nat)) 1) where
 mem:=by simp
 obj:=λi h st b d=>by
  have e:b=it:=by simpa using d
  subst e;exact ⟨_,st,λv z=>by have p:Data.fields _=Data.cell v:=z;cases p⟩
 keep:=λi h h' st k=>k it 'g' _ st
 item:=by intro X m a j c i pins s σ H E I f st hg;subst m a j;obtain ⟨f0,f1,f2,l,f4,q⟩:=f it 'g';have W:=Walks.range (prog:=X.prog) (w:=X.w) (I.ok.hd c) it lo 1 n;refine W.item i s _ _ hg st λv h' tk u g r=>?_;obtain ⟨t,rfl⟩:=u;have x:Inv X pins σ H { s with heap:=h',toks:=tk }:=I.turned (λb o d e=>r b o (by simpa using d) e) f0 f1 l f4 q;refine ⟨_,rfl,qct (s:={ s with heap:=h',toks:=tk }) (n := "range_iterator") g rfl rfl 'd' ⟨.int (lo+i),H,x,⟨t,?_⟩,⟨rfl,rfl⟩,g,λb d=>(f b d).1⟩⟩;rw [Int.mul_one]
 done:=by intro X m a j c i pins s σ H E I f st hg;subst m a j;obtain ⟨f0,f1,f2,l,f4,q⟩:=f it 'g';exact wpAny_pyNext_range_end (I.ok.hd c) st (by have:n<=i:=hg; lia) λh' J=>⟨rfl,I.turned (t':=s.toks) (λb o d e=>J b o d e) f0 f1 l f4 q⟩
 self:=λ_ _ _ _ _ st h=>wpAny_pyIter_rangeiter st h
variable {p:Pos} {fp:List Addr}
section
theorem qcu {R:It->Hp->Prop} {E:iq->iw->Prop} {lo hi:Int} {t u v:Tok} {tk:Nat} (I:Inv X pins σ H s) (h1:-(2 ^ 62)<=lo) (h2:lo < 2 ^ 62) (g:-(2 ^ 62)<=hi) (a:hi < 2 ^ 62)
  (q:R (Itr lo (hi - lo).toNat) H):iB 'c' X.A (mF 'm') (PIE X pins σ tg R) E { s with heap:=s.heap.push { cls:=.type "range",data:=.fields #[.int lo t,.int hi u,.int 1 v] },toks:=tk }:=by
 refine wpAny_pyIter_range (IsRange.new ..) (small_one h1 h2 g a) ?_;have d:Inv X pins σ H { s with heap:=s.heap.push { cls:=.type "range",data:=.fields #[.int lo t,.int hi u,.int 1 v] },toks:=tk }:=I.kept λb o e=>aa _ e;refine ⟨(s.heap.push { cls:=.type "range",data:=.fields #[.int lo t,.int hi u,.int 1 v] }).objs.size,[(s.heap.push { cls:=.type "range",data:=.fields #[.int lo t,.int hi u,.int 1 v] }).objs.size],_,_,H,rfl,d.kept (t':=tk) λb o e=>aa _ e,XU _ lo (hi - lo).toNat,?_,λb h=>?_,q⟩
 ·have e1:lo+((0:Nat):Int) * 1=lo:=by simp
  have i:(((hi - lo).toNat:Nat):Int) - ((0:Nat):Int)=Builtin.Range.rangeSize lo hi 1:=by rw [rangeSize_one]; split <;> lia
  show IsRangeIter _ _ (lo+((0:Nat):Int) * 1) ((((hi - lo).toNat:Nat):Int) - ((0:Nat):Int)) 1;rw [e1,i];exact ai _ rfl
 ·have e:b=(s.heap.push { cls:=.type "range",data:=.fields #[.int lo t,.int hi u,.int 1 v] }).objs.size:=by simpa using h
  subst e;exact d.fpOk (aA _) (d.hok.fresh (aA _))
def qjK (ta:TA):TI:=λσ H R=>ta σ H λvs H1=>∃ j:Int,vs=[.int j]/\-(2 ^ 62)<=j/\j < 2 ^ 62/\R (Itr 0 j.toNat) H1
theorem Gk {a:Expr} {ta:TA} (hg:Gl X "range") (m:X.mg "range"=im) (g:PA X [a] ta) (f:iA [a] X.env=[(ir,eval a X.env)]:=by rfl):PI X tg (.Call (.Name "range" p) [a] [] pos) (qjK ta):=by
 refine ⟨?_⟩;intro pins s σ H R I h;refine Call_ (xX I hg m boot_range (bJ (thn (g pos pins s σ H _ I h) λus s1 ⟨vs,H1,i,r1,b⟩=>?_) f rfl));obtain ⟨j,e,b,d,q⟩:=b;subst e;cases r1 with
 | cons r c=>cases c;obtain ⟨t,rfl⟩:=r;exact call_range_1 (qcu i 'b' 'b' b d (by simpa using q))
def qlt (wi:TI) (g:TG) (tb:TS):TS:=λD σ H=>wi σ H λJ H1=>∃ W:Nat->Nat->St->Hp->Prop,(∃ m,W 0 m σ H1)/\∀ i m σ H,W i m σ H ->(J.stop i H/\D.nx σ H)\/(J.go i H/\∃ N:St->Hp->Prop,(∀ σ' H',N σ' H'->∃ f,f < m/\W (i+1) f σ' H')/\∀ x H',J.yld i H x H'->g x σ H' λa H2=>tb { D with nx:=N,ct:=N,bk:=D.nx } a H2)
noncomputable def Vf (fp:List Addr) (h:Heap):Pns:=fp.filterMap λb=>(h.get? b).map λo=>(b,o)
theorem uV {o:Obj} (d:b∈fp) (e:h.get? b=ij o):(b,o)∈Vf fp h:=fm.mpr ⟨b,d,by rw [e]; rfl⟩
theorem Gm {p:Addr×Obj} (hp:p∈Vf fp h):p.1∈fp/\h.get? p.1=ij p.2:=by
 obtain ⟨b,d,e⟩:=fm.mp hp;cases q:h.get? b with
 | none=>rw [q] at e; cases e
 | some o=>rw [q] at e;have a:(b,o)=p:=aI.inj e;subst a;exact ⟨d,q⟩
theorem Inv.pinned (I:Inv X pins σ H s) (f:∀ b∈fp,WL X pins H b) (l:∀ b∈fp,∃ o,s.heap.get? b=ij o/\∀ v,o.data≠.cell v):Inv X (pins++Vf fp s.heap) σ H s:=
 I.pins_of λp hp=>(aj.mp hp).elim (λz=>I.pin p (aR _ z)) λz=>by obtain ⟨h,e⟩:=Gm z;obtain ⟨f0,f1,f2,_⟩:=f p.1 h;obtain ⟨o,a,d⟩:=l p.1 h;rw [e] at a; cases a;exact ⟨e,f0,f1,f2,d⟩
theorem Inv.unpinned {pl:Pns} (I:Inv X (pins++pl) σ H s):Inv X pins σ H s:=I.pins_of λp hp=>I.pin p (aR _ (bK _ hp))
theorem qhg {iter:Expr} {wi:TI} {g:TG} {pos:Pos} (hp:PassesOwn 'c' X.A X.env X.xe) (Q:X.calm=iu) (hi:PI X tg iter wi) (hg:PG X tg g) (j:PSs X body tb)
  (hs:∀ x,k4 iter X.env x=pure x:=by intro _; rfl):PS X (.For tg iter body [] pos) (qlt wi g tb):=by
 refine ⟨?_⟩;intro pins s σ H D I h;refine wpAny_For (thn (hi pins s σ H _ I h) λv s1 h1=>thn h1 λitv s2 h2=>?_) hs;obtain ⟨it,fp,tn,J,H2,e,I2,T,L,f2,W,⟨m0,Z⟩,z⟩:=h2;subst e;have t:∀ {H':Hp},(∀ b∈fp,H' b=im)->∀ b∈fp,WL X pins H' b:=λhn b j=>⟨hn b j,(f2 b j).2⟩
 refine codeAny_forLoop_any (λn s'=>∃ i σ' H',Inv X pins σ' H' s'/\tn i s'.heap/\(∀ b∈fp,H' b=im)/\W i n σ' H') ?_ m0 ⟨0,σ,H2,I2,L,λb j=>(f2 b j).1,Z⟩;rintro n s3 ⟨i,c,G,R,B,E,Y⟩;rcases z i n c G Y with ⟨stop,qn⟩ | ⟨go,N,hN,step⟩
 ·refine j9 hp (thn (T.done X rfl rfl rfl Q i pins s3 c G X.xe R (t E) B stop) λr s4 ⟨hr,I4⟩=>?_);subst hr;exact lN ⟨c,G,I4,qn⟩
 ·refine j9 hp (thn (T.item X rfl rfl rfl Q i pins s3 c G X.xe R (t E) B go) λr s4 ⟨u,hr,h4⟩=>?_);subst hr;refine j9 hp (thn h4 λ_ s5 ⟨x,S,I5,r5,U,y,O⟩=>?_);have P:=I5.pinned (t O) (T.obj _ _ y);refine j9 hp (thn (hg _ s5 c S x u _ P r5 (step x S U)) λ_ F ⟨K,H6,I6,q6⟩=>?_);refine j9 hp (thn (j _ F K H6 _ I6 q6) λf M q=>?_);have k:∀ {a:St} {p:Hp},Inv X (pins++Vf fp s5.heap) a p M->N a p->∃ m,m < n/\∃ i σ' H',Inv X pins σ' H' M/\tn i M.heap/\(∀ b∈fp,H' b=im)/\W i m σ' H':=λ{a p} l C=>by obtain ⟨m',hm,V⟩:=hN a p C;refine ⟨m',hm,i+1,a,p,l.unpinned,T.keep _ _ _ y λb j o e=>(l.pin (b,o) (aR _ (aR _ (uV j e)))).1,λb j=>?_,V⟩;obtain ⟨o,e,d⟩:=T.obj _ _ y b j;exact (l.pin (b,o) (aR _ (aR _ (uV j e)))).2.1
  cases f with
  | next=>obtain ⟨a,p,l,C⟩:=q; exact k l C
  | cont=>obtain ⟨a,p,l,C⟩:=q; exact k l C
  | brk=>obtain ⟨a,p,l,q⟩:=q; exact ⟨a,p,l.unpinned,q⟩
  | ret v=>obtain ⟨x7,a,p,l,r7,q⟩:=q; exact ⟨x7,a,p,l.unpinned,r7,q⟩
end
abbrev R2:=V->V->Hp->VK->Prop
def OpR (X:Cx) (f:iq->iq->Sem iq) (r:R2):Prop:=
 ∀ (pins:Pns) (s:iw) (σ:St) (H:Hp) (x y:V) (v u:iq) (Q:VK),Inv X pins σ H s->RelV x v->RelV y u->r x y H Q ->iB 'c' X.A (f v u) (EP X pins σ Q) X.xe s
def UnR (X:Cx) (f:iq->Sem iq) (r:V->Hp->VK->Prop):Prop:=
 ∀ (pins:Pns) (s:iw) (σ:St) (H:Hp) (x:V) (v:iq) (Q:VK),Inv X pins σ H s->RelV x v->r x H Q ->iB 'c' X.A (f v) (EP X pins σ Q) X.xe s
def uj (X:Cx) (f:iq) (r:List V->Hp->VK->Prop):Prop:=
 ∀ (pins:Pns) (s:iw) (σ:St) (H:Hp) (xs:List V) (us:List iq) (Q:VK),Inv X pins σ H s->Vals xs us->r xs H Q ->iB 'c' X.A (call f us) (EP X pins σ Q) X.xe s
def qlu (X:Cx) (r:V->Hp->(Bool->Hp->Prop)->Prop):Prop:=
 ∀ (pins:Pns) (s:iw) (σ:St) (H:Hp) (x:V) (v:iq) (Q:Bool->Hp->Prop),Inv X pins σ H s->RelV x v->r x H Q ->iB 'c' X.A (truthy v) (TP X pins σ Q) X.xe s
def tOp (r:R2) (ta tb:TE):TE:=λσ H Q=>ta σ H λx H1=>tb σ H1 λy H2=>r x y H2 Q
def tUn (r:V->Hp->VK->Prop) (ta:TE):TE:=λσ H Q=>ta σ H λx H1=>r x H1 Q
def rI (C:Int->Int->Prop) (g:Int->Int->V):R2:=λx y H Q=>∃ i j,x=.int i/\y=.int j/\C i j/\Q (g i j) H
def rI0 (g:Int->Int->V):R2:=λx y H Q=>∃ i j,x=.int i/\y=.int j/\Q (g i j) H
def rU (g:Int->V):V->Hp->VK->Prop:=λx H Q=>∃ i,x=.int i/\Q (g i) H
variable {r:R2}
section
variable {a b:Expr} {tb tc:TE}
theorem qjL (j:PE X a ta) (i:PE X b tb) {R:V->V->Hp->Prop} (I:Inv X pins σ H s)
  (h:ta σ H λx H1=>tb σ H1 λy H2=>R x y H2) {Q:iq->iw->Prop} {f:iq->iq->Sem iq}
  (g:∀ v u s2 x y H2,Inv X pins σ H2 s2->RelV x v->RelV y u->R x y H2->iB 'c' X.A (f v u) Q X.xe s2) :
  iB 'c' X.A (eval a X.env) (λv d=>iB 'c' X.A (eval b X.env) (λu c=>iB 'c' X.A (f v u) Q X.xe c) X.xe d) X.xe s:=by
 refine thn (j pins s σ H _ I h) λv s1 ⟨x,H1,l,r1,e⟩=>?_;refine thn (i pins s1 σ H1 _ l e) λu s2 ⟨y,H2,k,r2,q⟩=>?_;exact g v u s2 x y H2 k r1 r2 q
theorem qjM {op:Operator} (l:OpR X (iY op) r) (g:PE X a ta) (e:PE X b tb):PE X (.BinOp a op b pos) (tOp r ta tb):=by refine ⟨?_⟩;intro pins s σ H Q I h;exact wpAny_BinOp (qjL g e I h λv u s2 x y H2 k d c q=>l pins s2 σ H2 x y v u Q k d c q)
theorem qjN {op:UnaryOp} {r:V->Hp->VK->Prop} (l:UnR X (unaryOp op) r) (g:PE X a ta):PE X (.UnaryOp op a pos) (tUn r ta):=by refine ⟨?_⟩;intro pins s σ H Q I h;exact UnaryOp_ (thn (g pins s σ H _ I h) λv s1 ⟨x,H1,d,r1,q⟩=>l pins s1 σ H1 x v Q d r1 q)
theorem opI {f:iq->iq->Sem iq} {C:Int->Int->Prop} {g:Int->Int->Int}
  (r:∀ (i j:Int) (t u:Tok) (s:iw) (Q:iq->iw->Prop) (E:iq->iw->Prop),C i j->Q (.int (g i j) s.toks) { s with toks:=s.toks+1 }->iB 'c' X.A (f (.int i t) (.int j u)) Q E s) :
  OpR X f (rI C λi j=>.int (g i j)):=by
 intro pins s σ H x y v u Q I d c h;obtain ⟨i,j,rfl,rfl,a,q⟩:=h;obtain ⟨t,rfl⟩:=d;obtain ⟨t',rfl⟩:=c;exact r i j t t' s _ _ a ⟨.int (g i j),H,I.tok _,⟨_,rfl⟩,q⟩
theorem qkO {f:iq->iq->Sem iq} {g:Int->Int->Int}
  (r:∀ (i j:Int) (t u:Tok) (s:iw) (Q:iq->iw->Prop) (E:iq->iw->Prop),Q (.int (g i j) s.toks) { s with toks:=s.toks+1 }->iB 'c' X.A (f (.int i t) (.int j u)) Q E s) :
  OpR X f (rI0 λi j=>.int (g i j)):=by
 intro pins s σ H x y v u Q I d c h;obtain ⟨i,j,rfl,rfl,q⟩:=h;obtain ⟨t,rfl⟩:=d;obtain ⟨t',rfl⟩:=c;exact r i j t t' s _ _ ⟨.int (g i j),H,I.tok _,⟨_,rfl⟩,q⟩
theorem qje {f:iq->iq->Sem iq} {g:Int->Int->Bool}
  (r:∀ (i j:Int) (t u:Tok) (s:iw) (Q:iq->iw->Prop) (E:iq->iw->Prop),Q (.bool (g i j)) s->iB 'c' X.A (f (.int i t) (.int j u)) Q E s) :
  OpR X f (rI0 λi j=>.bl (g i j)):=by
 intro pins s σ H x y v u Q I d c h;obtain ⟨i,j,rfl,rfl,q⟩:=h;obtain ⟨t,rfl⟩:=d;obtain ⟨t',rfl⟩:=c;exact r i j t t' s _ _ ⟨.bl (g i j),H,I,rfl,q⟩
def qgS (i j:Int):Prop:=0 < j/\j < 1073741824
def qkP (i j:Int):Prop:=0<=j/\j<=1000000/\i.natAbs < 2 ^ 64
def CMul (i j:Int):Prop:=(-(2 ^ 64) < i/\i < 2 ^ 64)\/(-(2 ^ 64) < j/\j < 2 ^ 64)
theorem CMul.ok {i j:Int} (h:CMul i j):IntMulOk i j:=by
 rcases h with ⟨h1,h2⟩ | ⟨h1,h2⟩
 ·exact .of_left (intBits_le_64 h1 h2)
 ·exact .of_right (intBits_le_64 h1 h2)
theorem qhh:OpR X (iY .Add) (rI0 λi j=>.int (i+j)):=qkO λ_ _ _ _ _ _ _ q=>add_int q
theorem qhi:OpR X (iY .Sub) (rI0 λi j=>.int (i - j)):=qkO λ_ _ _ _ _ _ _ q=>sub_int q
theorem qhj:OpR X (iY .Mult) (rI CMul λi j=>.int (i * j)):=opI λ_ _ _ _ _ _ _ d q=>mul_int q d.ok
theorem qe8:OpR X (iY .FloorDiv) (rI qgS λi j=>.int (i / j)):=opI λi j _ _ _ _ _ d q=>by have h1:(0:Int) < j:=d.1;have h2:j < 1073741824:=d.2;exact floordiv_int 'b' (by rw [Int.fdiv_eq_ediv_of_nonneg i 'b']; exact q) (.inl (PyProof.noPylong_small 'b'))
theorem qhk:OpR X (iY .Mod) (rI (λ_ j=>0 < j) λi j=>.int (i % j)):=opI λi j _ _ _ _ _ d q=>by have h1:(0:Int) < j:=d;exact mod_int' 'b' (by rw [Int.fmod_eq_emod_of_nonneg i 'b']; exact q)
theorem unI {f:iq->Sem iq} {g:Int->Int}
  (r:∀ (i:Int) (t:Tok) (s:iw) (Q:iq->iw->Prop) (E:iq->iw->Prop),Q (.int (g i) s.toks) { s with toks:=s.toks+1 }->iB 'c' X.A (f (.int i t)) Q E s) :
  UnR X f (rU λi=>.int (g i)):=by
 intro pins s σ H x v Q I d h;obtain ⟨i,rfl,q⟩:=h;obtain ⟨t,rfl⟩:=d;exact r i t s _ _ ⟨.int (g i),H,I.tok _,⟨_,rfl⟩,q⟩
theorem qhl:UnR X (unaryOp .USub) (rU λi=>.int (-i)):=unI λ_ _ _ _ _ q=>neg_int q
end
variable {op op':CmpOp} {r':R2}
section
variable {a b:Expr} {tb tc:TE}
theorem Ym {Q:VK} {k k':Bool} (I:Inv X pins σ H s) (q:Q (.bl k) H) (e:k=k'):EP X pins σ Q (.bool k') s:=by subst e;exact ⟨.bl k,H,I,rfl,q⟩
theorem qjO:OpR X (iI .Lt) (rI0 λi j=>.bl (decide (i < j))):=qje λ_ _ _ _ _ _ _ q=>lt_int q
theorem qjP:OpR X (iI .LtE) (rI0 λi j=>.bl (decide (i<=j))):=qje λ_ _ _ _ _ _ _ q=>le_int q
theorem qjQ:OpR X (iI .Gt) (rI0 λi j=>.bl (decide (j < i))):=qje λ_ _ _ _ _ _ _ q=>gt_int q
theorem qjR:OpR X (iI .GtE) (rI0 λi j=>.bl (decide (j<=i))):=qje λ_ _ _ _ _ _ _ q=>ge_int q
theorem Gn:OpR X (iI .Lt) (λx y H Q=>∃ i j,x=.str i/\y=.str j/\Q (.bl (decide (i.cps.toList < j.cps.toList))) H):=by intro pins s σ H x y v u Q I d c h;obtain ⟨i,j,rfl,rfl,q⟩:=h;obtain ⟨t,rfl⟩:=d;obtain ⟨t',rfl⟩:=c;exact lt_str (Ym I q rfl)
theorem qhm:OpR X (iI .Is) (λx y H Q=>y=.non/\Q (.bl (decide (x=.non))) H):=by
 intro pins s σ H x y v u Q I d c h;obtain ⟨rfl,q⟩:=h;cases c;refine is_none_gen (Ym I q ?_);cases x <;> first
  | (cases d; rfl)
  | (obtain ⟨t,rfl⟩:=d; rfl)
theorem qe9:OpR X (iI .IsNot) (λx y H Q=>y=.non/\Q (.bl (!decide (x=.non))) H):=by
 intro pins s σ H x y v u Q I d c h;obtain ⟨rfl,q⟩:=h;cases c;refine isnot_none_gen (Ym I q ?_);cases x <;> first
  | (cases d; rfl)
  | (obtain ⟨t,rfl⟩:=d; rfl)
theorem qee (b:Expr) (h:op≠.In:=by decide) (h2:op≠.NotIn:=by decide):lA op b=false:=by
 have e1:(op == CmpOp.In)=false:=by cases op <;> first | rfl | exact absurd rfl h
 have i:(op == CmpOp.NotIn)=false:=by cases op <;> first | rfl | exact absurd rfl h2
 cases b <;> simp [lA,e1,i]
theorem qfa (l:OpR X (iI op) r) (g:PE X a ta) (e:PE X b tb) (m:lA op b=ir):PE X (.Compare a [op] [b] pos) (tOp r ta tb):=by refine ⟨?_⟩;intro pins s σ H Q I h;exact wpAny_Compare1 (qjL g e I h λv u s2 x y H2 k d c q=>l pins s2 σ H2 x y v u Q k d c q) m
def qhn (t:TE):TT:=λσ H Q=>t σ H λx H'=>∃ k,x=.bl k/\Q k H'
theorem qfb (l:OpR X (iI op) r) (i:PE X a ta) (g:PE X b tb) (m:lA op b=ir):PT X (.Compare a [op] [b] pos) (qhn (tOp r ta tb)):=by
 refine ⟨?_⟩;intro pins s σ H Q I h;refine wpAny_isTrue_Compare1 (thn (i pins s σ H _ I h) λv s1 ⟨x,H1,o,r1,f⟩=>thn (g pins s1 σ H1 _ o f) λu s2 ⟨y,H2,n,r2,d⟩=>
  thn (l pins s2 σ H2 x y v u _ n r1 r2 d) λc s3 ⟨z,p,j,r3,k,e,q⟩=>?_) m
 subst e;cases r3;exact i4 ⟨p,j,q⟩
def Go (r r':R2) (ta tb tc:TE):TE:=λσ H Q=>ta σ H λx H1=>tb σ H1 λy H2=>r x y H2 λz b=>∃ k,z=.bl k /\
 (if k=iu then tc σ b λT a=>r' y T a Q else Q (.bl ir) b)
theorem qcv (o:OpR X (iI op) r) (f:OpR X (iI op') r') (A:PE X a ta) (w:PE X b tb) (t:PE X c tc)
  (n:lastMarks [op,op'] [b,c]=false:=by with_unfolding_all rfl):PE X (.Compare a [op,op'] [b,c] pos) (Go r r' ta tb tc):=by
 refine ⟨?_⟩;intro pins s σ H Q I h;refine Compare_chain (thn (A pins s σ H _ I h) λv s1 ⟨x,H1,D,r1,m⟩=>chain_link (thn (w pins s1 σ H1 _ D m) λu s2 ⟨y,H2,C,r2,l⟩=>
  thn (o pins s2 σ H2 x y v u _ C r1 r2 l) λd s3 ⟨z,g,j,r3,k,e,q⟩=>?_)) n
 subst e;cases r3;refine i4 ?_;cases k with
 | false=>exact ite_ff ⟨.bl ir,g,j,rfl,q⟩
 | true=>exact ite_tt (chain_last (thn (t pins s3 σ g _ j q) λT s4 ⟨p,E,B,r4,i⟩=>f pins s4 σ E y p u T Q B r2 r4 i))
theorem qcw (t:OpR X (iI op) r) (f:OpR X (iI op') r') (C:PE X a ta) (B:PE X b tb) (A:PE X c tc)
  (w:lastMarks [op,op'] [b,c]=false:=by with_unfolding_all rfl):PT X (.Compare a [op,op'] [b,c] pos) (qhn (Go r r' ta tb tc)):=by
 refine ⟨?_⟩;intro pins s σ H Q I h;refine isTrue_chain (thn (C pins s σ H _ I h) λv s1 ⟨x,H1,L,r1,n⟩=>test_link (thn (B pins s1 σ H1 _ L n) λu s2 ⟨y,H2,K,r2,m⟩=>
  thn (t pins s2 σ H2 x y v u _ K r1 r2 m) λd s3 ⟨z,g,j,r3,k,e,q⟩=>?_)) w
 subst e;cases r3;refine i4 ?_;cases k with
 | false=>obtain ⟨k',E,o⟩:=q;cases E;exact ite_ff ⟨g,j,o⟩
 | true=>refine ite_tt (test_last (thn (A pins s3 σ g _ j q) λT s4 ⟨p,M,J,r4,l⟩=>thn (f pins s4 σ M y p u T _ J r2 r4 l) λd' s5 ⟨z2,S,G,r5,k2,D,i⟩=>?_));subst D;cases r5;exact i4 ⟨S,G,i⟩
def qjS (K:Frag) (x:V) (H:Hp) (k:Bool):Prop:=
 match x with
 | .non=>k=ir
 | .bl b=>k=b
 | .int i=>k=(i != 0)
 | .str y=>y.length<=sizeLine/\k=((y.length:Int) != 0)
 | .byt y=>y.size<=sizeLine/\k=((y.size:Int) != 0)
 | .ref p=>(∃ xs,SqL K H p xs/\k=!xs.isEmpty)\/(∃ xs,SqT K H p xs/\k=!xs.isEmpty)\/∃ kvs,H p=ij (.dK kvs)/\k=!kvs.isEmpty
 | _=>False
theorem XV {κ:Type} {kvs:List (κ×V)} {vs:List (κ×iq)} (r:KV kvs vs):(!vs.isEmpty)=!kvs.isEmpty:=by cases r <;> rfl
theorem QK {its:List iq} (r:Vals xs its):(!its.toArray.isEmpty)=!xs.isEmpty:=by cases r <;> simp
theorem QL:(sizeLine:Nat) < 2 ^ 63:=by rw [iM]; decide
theorem qho:qlu X (λx H Q=>∃ k,qjS X.K x H k/\Q k H):=by
 intro pins s σ H x v Q I d h;obtain ⟨k,e,q⟩:=h;have hl:=QL;have c:sizeLine=16777216:=iM;cases x with
 | non=>cases d;have a:k=false:=e;subst a;exact truthy_none ⟨H,I,q⟩
 | bl b=>cases d;have a:k=b:=e;subst a;exact i4 ⟨H,I,q⟩
 | int i=>obtain ⟨t,rfl⟩:=d;have a:k=(i != 0):=e;subst a;exact PySem.P.truthy_int ⟨H,I,q⟩
 | str y=>obtain ⟨t,rfl⟩:=d;obtain ⟨hy,a⟩:y.length<=sizeLine/\k=((y.length:Int) != 0):=e;subst a;exact PySem.P.truthy_str 'b' ⟨H,I.tok _,q⟩
 | byt y=>obtain ⟨t,rfl⟩:=d;obtain ⟨hy,a⟩:y.size<=sizeLine/\k=((y.size:Int) != 0):=e;subst a;exact PySem.W.truthy_bytes 'b' ⟨H,I.tok _,q⟩
 | ref p=>
  cases d;have a:(∃ xs,SqL X.K H p xs/\k=!xs.isEmpty)\/(∃ xs,SqT X.K H p xs/\k=!xs.isEmpty)\/∃ kvs,H p=ij (.dK kvs)/\k=!kvs.isEmpty:=e;rcases a with ⟨xs,hx,a⟩ | ⟨xs,hx,a⟩ | ⟨kvs,hx,a⟩
  ·subst a;obtain ⟨its,r,pl,z⟩:=I.list hx;have n:=r.length;exact wpAny_truthy_list pl.isList (by simp only [aq]; lia) ⟨H,I.tok _,by rw [QK r]; exact q⟩
  ·subst a;obtain ⟨its,r,pl,z⟩:=I.tuple hx;have n:=r.length;exact truthy_tuple pl (by simp only [aq]; lia) ⟨H,I.tok _,by rw [QK r]; exact q⟩
  ·subst a;obtain ⟨z,hS,vs,r,m⟩:kvs.length<=sizeLine/\(p == j0)=ir/\∃ vs,KV kvs vs/\s.heap.DictOf (qZ X.prog X.w) p vs:=I.hok p _ hx;have n:kvs.length=vs.length:=fJ r;exact wpAny_truthy_dict hS m 'b' ⟨H,I.tok _,by rw [XV r]; exact q⟩
 | _=>exact (show False from e).elim
theorem qcx (g:PE X a ta) (i:∀ whole,isTrue a X.env whole=(do let v <-whole; standAt a.pos; holding [v] (truthy v))):PT X a (λσ H Q=>ta σ H λx H'=>∃ k,qjS X.K x H' k/\Q k H'):=by refine ⟨?_⟩;intro pins s σ H Q I h;exact isTrue_plain (thn (g pins s σ H _ I h) λv s1 ⟨x,H1,d,r1,q⟩=>qho pins s1 σ H1 x v Q d r1 q) (i _)
theorem XW:OpR X (iY .Add) (λx y H Q=>∃ i j,x=.str i/\y=.str j/\i.length+j.length<=sizeLine/\Q (.str (i++j)) H):=by intro pins s σ H x y v u Q I d c h;obtain ⟨i,j,rfl,rfl,z,q⟩:=h;obtain ⟨t,rfl⟩:=d;obtain ⟨t',rfl⟩:=c;exact add_str (λt' tk=>⟨.str (i++j),H,I.tok _,⟨_,rfl⟩,q⟩) z
theorem yM {x:V} (r:Vals [x] us):∃ u,us=[u]/\RelV x u:=by
 cases r with
 | cons r1 r2=>cases r2; exact ⟨_,rfl,r1⟩
theorem Gp {x y:V} (r:Vals [x,y] us):∃ u T,us=[u,T]/\RelV x u/\RelV y T:=by
 cases r with
 | cons r1 r2=>
  cases r2 with
  | cons r3 r4=>cases r4; exact ⟨_,_,rfl,r1,r3⟩
theorem Gq (d:X.calm=iu):uj X (.builtin "max") (λxs H Q=>∃ i j,xs=[.int i,.int j]/\Q (.int (if j > i then j else i)) H):=by
 intro pins s σ H xs us Q I r h;obtain ⟨i,j,rfl,q⟩:=h;obtain ⟨u,T,rfl,⟨t,rfl⟩,⟨t',rfl⟩⟩:=Gp r;refine max_two_ints (I.ok.hd d) λh' tk k=>⟨_,H,I.kept k,?_,q⟩
 by_cases G:j > i;·rw [Aa G,Aa G]; exact ⟨_,rfl⟩
 ·rw [Ab G,Ab G]; exact ⟨_,rfl⟩
theorem Gr (d:X.calm=iu):uj X (.builtin "min") (λxs H Q=>∃ i j,xs=[.int i,.int j]/\Q (.int (if j < i then j else i)) H):=by
 intro pins s σ H xs us Q I r h;obtain ⟨i,j,rfl,q⟩:=h;obtain ⟨u,T,rfl,⟨t,rfl⟩,⟨t',rfl⟩⟩:=Gp r;refine min_two_ints (I.ok.hd d) λh' tk k=>⟨_,H,I.kept k,?_,q⟩
 by_cases G:j < i;·rw [Aa G,Aa G]; exact ⟨_,rfl⟩
 ·rw [Ab G,Ab G]; exact ⟨_,rfl⟩
def qlv (K:Frag) (x:V) (H:Hp) (n:Nat):Prop:=
 match x with
 | .str y=>y.length<=sizeLine/\n=y.length
 | .byt y=>y.size<=sizeLine/\n=y.size
 | .ref p=>(∃ xs,SqL K H p xs/\n=xs.length)\/∃ xs,SqT K H p xs/\n=xs.length
 | _=>False
theorem Jv:uj X (.builtin "len") (λxs H Q=>∃ x n,xs=[x]/\qlv X.K x H n/\Q (.int n) H):=by
 intro pins s σ H xs us Q I r h;obtain ⟨x,n,rfl,e,q⟩:=h;obtain ⟨u,rfl,d⟩:=yM r;have hl:=QL;have c:sizeLine=16777216:=iM;cases x with
 | str y=>obtain ⟨t,rfl⟩:=d;obtain ⟨hy,b⟩:y.length<=sizeLine/\n=y.length:=e;subst b;exact len_str 'b' ⟨.int _,H,I.tok _,⟨_,rfl⟩,q⟩
 | byt y=>obtain ⟨t,rfl⟩:=d;obtain ⟨hy,b⟩:y.size<=sizeLine/\n=y.size:=e;subst b;exact PySem.W.len_bytes 'b' ⟨.int _,H,I.tok _,⟨_,rfl⟩,q⟩
 | ref p=>
  cases d;have b:(∃ xs,SqL X.K H p xs/\n=xs.length)\/∃ xs,SqT X.K H p xs/\n=xs.length:=e;rcases b with ⟨xs,hx,b⟩ | ⟨xs,hx,b⟩
  ·subst b;obtain ⟨its,r',pl,z⟩:=I.list hx;have a:=r'.length;exact Calls.call_len_list pl.isList (by simp only [aq]; lia) ⟨.int xs.length,H,I.tok _,⟨_,by simp only [aq]; rw [a]⟩,q⟩
  ·subst b;obtain ⟨its,r',pl,z⟩:=I.tuple hx;have a:=r'.length;exact len_tuple pl (by simp only [aq]; lia) ⟨.int xs.length,H,I.tok _,⟨_,by simp only [aq]; rw [a]⟩,q⟩
 | _=>exact (show False from e).elim
end
theorem RelO.some_of {o:Option iq} (r:RelO (ij v) o):∃ u,o=ij u/\RelV v u:=by
 cases o with
 | none=>exact (show False from r).elim
 | some u=>exact ⟨u,rfl,r⟩
structure Room (k:Nat) (A:iJ):Prop where
 hd:A.handled=im
 dp:A.depth+3 * k+5 < lS
 un:A.units+16 * k+200 < iW
theorem Room.mono {k:Nat} (r:Room k A) (h:j<=k):Room j A:=⟨r.hd,by have:=r.dp; lia,by have:=r.un; lia⟩
theorem Room.deeper {k:Nat} (r:Room (k+1) A) (env:Env):Room k (A.deeper env):=
 ⟨r.hd,by have:=r.dp; show A.depth+1+3 * k+5 < _; lia,by have:=r.un; show A.units+3+16 * k+200 < _; lia⟩
theorem Room.depth {k:Nat} (r:Room k A):A.depth < lS:=by have:=r.dp; lia
theorem Room.units {k:Nat} (r:Room k A):A.units+64 < iW:=by have:=r.un; lia
def qjf:TA:=λ_ H Q=>Q [] H
def XX (ta:TE) (tr:TA):TA:=λσ H Q=>ta σ H λx H1=>tr σ H1 λxs H2=>Q (x::xs) H2
variable {t:TA}
section
theorem jT:PA X [] qjf:=⟨λ_ _ _ _ H Q I h=>fA ⟨[],H,I,.nil,h⟩⟩
theorem qY (g:PE X e te) (hr:PA X es t) (c:iA (e::es) X.env=(ir,eval e X.env)::iA es X.env:=by rfl):PA X (e::es) (XX te t):=by refine ⟨?_⟩;intro pos pins s σ H Q I h;rw [c];show iB _ _ (spliced ((ir,eval e X.env)::iS pos (iA es X.env))) _ _ s;refine dR (thn (g pins s σ H _ I h) λu s1 ⟨x,H1,a,r1,q⟩=>?_);exact thn (hr pos pins s1 σ H1 _ a q) λus s2 ⟨xs,H2,k,r2,d⟩=>⟨x::xs,H2,k,.cons r1 r2,d⟩
def qlw (t:TA):TE:=λσ H Q=>t σ H λxs H1=>xs.length<=sizeLine/\∀ p,H1 p=im->Q (.ref p) (upd H1 p (.tup xs))
def qlx (t:TA):TE:=λσ H Q=>t σ H λxs H1=>xs.length<=sizeLine/\∀ p,H1 p=im->Q (.ref p) (upd H1 p (.lst xs))
theorem qhp {x1} (h:PA X es t):PE X (.Tuple es x1 pos) (qlw t):=by refine ⟨?_⟩;intro pins s σ H Q I hq;refine wpAny_Tuple_spliced (thn (h pos pins s σ H _ I hq) λus s1 ⟨xs,H1,d,r,z,q⟩=>⟨by rw [<-r.length]; exact z,?_⟩);have f:H1 s1.heap.objs.size=none:=d.hok.fresh (aA _);refine ⟨.ref s1.heap.objs.size,upd H1 s1.heap.objs.size (.tup xs),d.laid (t':=s1.toks) (λb u e=>aa _ e) (aA _) ?_,rfl,q _ f⟩;exact ⟨⟨z,_,ai _ rfl,rfl⟩,us,r,⟨_,ai _ rfl,rfl,_,rfl⟩⟩
theorem qhq (h:PA X es t):PE X (.List es pos) (qlx t):=by refine ⟨?_⟩;intro pins s σ H Q I hq;refine wpAny_List_spliced (thn (h pos pins s σ H _ I hq) λus s1 ⟨xs,H1,d,r,z,q⟩=>⟨by rw [<-r.length]; exact z,?_⟩);have f:H1 s1.heap.objs.size=none:=d.hok.fresh (aA _);refine ⟨.ref s1.heap.objs.size,upd H1 s1.heap.objs.size (.lst xs),d.laid (t':=s1.toks) (λb u e=>aa _ e) (aA _) ?_,rfl,q _ f⟩;exact ⟨z,us,0,r,ai _ rfl⟩
end
abbrev Sp:=List V->Hp->VK->XK->Prop
abbrev CXT:=List Env->Hp->iw->XK->iq->iw->Prop
structure Env0 (P:iF) (w:iG) (K:Frag) (mg:Str->Option iq) (base:Heap) (A:iJ) (outer:List Env) (s:iw) (H:Hp):Prop where
 frames:A.frames=ij outer
 mod:Mod K mg base
 bs:∀ b o,base.get? b=ij o->s.heap.get? b=ij o/\H b=im
 bsz:base.objs.size<=s.heap.objs.size
 funs:s.heap.FunFrames base outer
 frf:∀ b∈frs outer,H b=im
 hok:HOk P w H s.heap
 bare:lQ s.gens
def CE (outer:List Env) (P:iF) (w:iG) (H:Hp) (s:iw) (Q:VK) (u:iq) (s':iw):Prop:=
 ∃ v H',s'.os=s.os/\lQ s'.gens/\Un (frs outer) [] H H' s.heap s'.heap/\HOk P w H' s'.heap/\RelV v u/\Q v H'
def CR (CX:CXT) (outer:List Env) (P:iF) (w:iG) (H:Hp) (s:iw) (Q:VK) (E:XK) (r:mG) (s':iw):Prop:=
 match r with
 | .ok (.ret u)=>CE outer P w H s Q u s'
 | .ok _=>False
 | .error e=>CX outer H s E e s'
structure FnOk (P:iF) (w:iG) (K:Frag) (mg:Str->Option iq) (base:Heap) (CX:CXT) (k:Nat) (f:Addr) (fd:k6) (ps:List Str) (sp:Sp):Prop where
 len:∀ vs H Q E,sp vs H Q E->vs.length=ps.length
 run:∀ (A:iJ) (outer:List Env) (s:iw) (H:Hp) (args:Args) (us:List iq) (vs:List V) (Q:VK) (E:XK),Room k A->Env0 P w K mg base A outer s H->mz s fd args (ps.zip us)->Vals vs us->sp vs H Q E ->lg (model P w) A (.call (.ref f) args) (CR CX outer P w H s Q E) s
variable {base:Heap} {CX:CXT} {f:Addr} {fd:k6} {ps:List Str} {sp:Sp}
theorem FnOk.mono {mg:Str->Option iq} {k:Nat} (F:FnOk P w K mg base CX j f fd ps sp) (h:j<=k):FnOk P w K mg base CX k f fd ps sp:=⟨F.len,λA outer s H args us vs Q E hr=>F.run A outer s H args us vs Q E (hr.mono h)⟩
theorem FnOk.imp {mg:Str->Option iq} {k:Nat} {a:Sp} (F:FnOk P w K mg base CX k f fd ps sp)
  (h:∀ vs H Q E,a vs H Q E->sp vs H Q E):FnOk P w K mg base CX k f fd ps a:=
 ⟨λvs H Q E q=>F.len vs H Q E (h _ _ _ _ q),λA outer s H args us vs Q E hr i d c b=>F.run A outer s H args us vs Q E hr i d c (h _ _ _ _ b)⟩
section
theorem Inv.env0 (I:Inv X pins σ H s):Env0 X.prog X.w X.K X.mg X.base X.A X.stack s H:=
 ⟨I.ok.frames,I.ok.mod,I.bs,bY I.ok.bsz I.sz,I.stack,I.stkFree,I.hok,I.bare⟩
theorem Inv.after {Q:VK} (I:Inv X pins σ H s) (h:CE X.stack X.prog X.w H s Q u s'):EP X pins σ Q u s':=by obtain ⟨v,H',os,bare,un,hok,r,q⟩:=h;obtain ⟨a,g,d,t,o⟩:=s';obtain rfl:o=s.os:=os;exact ⟨v,H',I.call (h':=a) (g':=g) (d':=d) (t':=t) (ch:=[]) un hok bare (λb z=>absurd z 'g'),r,q⟩
end
def qjT (sp:Sp) (dvs:List V) (E:XK) (t:TA):TE:=λσ H Q=>t σ H λvs H1=>sp (vs++dvs) H1 Q E
def Binds (K:Frag) (fd:k6) (ps:List Str) (ds:List iq):Prop:=
 ∀ (s:iw) (us:List iq),K.In s.heap->(us++ds).length=ps.length->mz s fd ⟨us,[]⟩ (ps.zip (us++ds))
theorem Binds.all (h:∀ us:List iq,us.length=ps.length->lB fd ⟨us,[]⟩=pure (ps.zip us)):Binds K fd ps []:=λs us _ hl=>by rw [aZ] at hl ⊢;exact .of_eq (h us hl)
def vK (CX:CXT) (X:Cx) (E:XK):Prop:=∀ (pins:Pns) (σ:St) (H:Hp) (s:iw) (e:iq) (s':iw),Inv X pins σ H s->CX X.stack H s E e s'->X.xe e s'
variable {apos:Pos}
section
variable {k:Nat} {C:Addr} {dvs:List V} {ds:List iq} {E:XK} {m:Str} {o:Expr}
theorem qef {pins:Pns} {σ:St} {H:Hp} {s:iw} {Q:VK} {us:List iq} {vs:List V} (F:FnOk X.prog X.w X.K X.mg X.base CX k f fd ps sp) (hr:Room k X.A) (d:Binds X.K fd ps ds) (hd:Vals dvs ds) (hx:vK CX X E)
  (I:Inv X pins σ H s) (r:Vals vs us) (h:sp (vs++dvs) H Q E):iB 'c' X.A (call (.ref f) us) (EP X pins σ Q) X.xe s:=by
 have r2:Vals (vs++dvs) (us++ds):=r.append hd;have hl:(us++ds).length=ps.length:=by rw [<-r2.length]; exact F.len _ _ _ _ h
 refine wpAny_call (lH (F.run X.A X.stack s H ⟨us,[]⟩ (us++ds) (vs++dvs) Q E hr I.env0 (d s us I.kIn hl) r2 h) λr s' hq=>?_);cases r with
 | error e=>exact hx pins σ H s e s' I hq
 | ok l=>
  cases l with
  | ret u=>exact I.after hq
  | next=>exact cr hq
  | brk=>exact cr hq
  | cont=>exact cr hq
theorem qfc (F:FnOk X.prog X.w X.K X.mg X.base CX k f fd ps sp) (hr:Room k X.A) (hg:Gl X x) (c:X.mg x=ij (.ref f)) (a:mm X.K (.ref f)=iu) (g:Binds X.K fd ps ds) (hd:Vals dvs ds) (hx:vK CX X E)
  (j:PA X (e::es) t) (b:Dbg x:=by decide) (i:iA (e::es) X.env=(ir,eval e X.env)::iA es X.env:=by rfl) (l:(iS pos (iA es X.env)).any (·.1)=false:=by rfl) :
  PE X (.Call (.Name x p) (e::es) [] pos) (qjT sp dvs E t):=by
 refine ⟨?_⟩;intro pins s σ H Q I h;refine j4 (xD I hg c ?_ b);refine fq (h₀:=X.base) I.ok.mod.kin a (thn (j pos pins s σ H _ I h) λus s1 ⟨vs,H1,d,r,q⟩=>⟨d.kIn,?_⟩) i l;exact qef F hr g hd hx d r q
end
section
variable {k:Nat} {C:Addr} {ks:List Str} {E:XK} {m:Str} {kpos:Pos} {o:Expr} {kws:List i5} {tk:TA} {nm:Option Str}
variable {g:List iq->List iq->List iq} {gV:List V->List V->List V}
end
structure FnScope (N P:List Str) (sc:lz):Prop where
 kind:sc.kind=.function
 co:sc.isCoroutine=ir
 gen:sc.isGenerator=ir
 nd:N.Nodup
 pre:N.take P.length=P
 par:∀ x∈P,sc.names.lookup x=ij .local\/sc.names.lookup x=ij .cell
 nofree:∀ y∈sc.names,y.2≠.free
variable {kindOf:Str->Option lc}
theorem Vg:∀ {binds:List (Str×iq)} {m:Str->Option iq},(∀ v,(x,v)∉binds)->bindL kindOf binds m x=m x
 | [],_,_=>rfl
 | (n,v)::r,m,h=>by
  unfold bindL;rw [Vg λw a=>h w (ae _ a)];split
  ·have:x≠n:=by rintro rfl; exact h v ap
   simp [this]
  ·rfl
theorem Vh:∀ {binds:List (Str×iq)} {m:Str->Option iq},(∀ v,(x,v)∉binds)->bindC kindOf binds m x=m x
 | [],_,_=>rfl
 | (n,v)::r,m,h=>by
  unfold bindC;rw [Vh λw a=>h w (ae _ a)];split;·rfl
  ·have:x≠n:=by rintro rfl; exact h v ap
   simp [this]
theorem zV {kindOf:Str->Option lc} {x:Str} {v:iq}:∀ {P:List Str} {vs:List iq} {i:Nat} {m:Str->Option iq},P.Nodup->P[i]?=ij x->vs[i]?=ij v->kindOf x=ij .local ->bindL kindOf (P.zip vs) m x=ij v
 | [],_,_,_,_,h,_,_=>by simp at h
 | _::_,[],_,_,_,_,h,_=>by simp at h
 | p::P,w::vs,0,m,nd,h1,h2,hk=>by simp at h1 h2; subst h1; subst h2;show bindL kindOf ((p,w)::P.zip vs) m p=_;unfold bindL;rw [Vg λv c=>(aK.mp nd).1 (cO c).1,Aa hk];simp
 | p::P,w::vs,i+1,m,nd,h1,h2,hk=>by show bindL kindOf ((p,w)::P.zip vs) m x=_;unfold bindL;exact zV (i:=i) (aK.mp nd).2 (by simpa using h1) (by simpa using h2) hk
theorem zW {kindOf:Str->Option lc} {x:Str} {v:iq}:∀ {P:List Str} {vs:List iq} {i:Nat} {m:Str->Option iq},P.Nodup->P[i]?=ij x->vs[i]?=ij v->kindOf x≠ij .local ->bindC kindOf (P.zip vs) m x=ij v
 | [],_,_,_,_,h,_,_=>by simp at h
 | _::_,[],_,_,_,_,h,_=>by simp at h
 | p::P,w::vs,0,m,nd,h1,h2,hk=>by simp at h1 h2; subst h1; subst h2;show bindC kindOf ((p,w)::P.zip vs) m p=_;unfold bindC;rw [Vh λv c=>(aK.mp nd).1 (cO c).1,Ab hk];simp
 | p::P,w::vs,i+1,m,nd,h1,h2,hk=>by show bindC kindOf ((p,w)::P.zip vs) m x=_;unfold bindC;exact zW (i:=i) (aK.mp nd).2 (by simpa using h1) (by simpa using h2) hk
noncomputable def vb (N:List Str) (vs:List V):St:=vs.map ij++aJ (N.length - vs.length) im
def qfd (CX:CXT) (P:iF) (w:iG) (K:Frag) (mg:Str->Option iq) (base:Heap) (N:List Str) (qual:Str) (scope:lz) (f:Addr) (cd:iq) (A:iJ) (outer:List Env) (s:iw) (H:Hp) (E:XK):Cx where
 prog:=P
 w:=w
 K:=K
 mg:=mg
 base:=base
 A:=A.deeper (lf qual scope s.heap.objs.size f cd)
 N:=N
 s₀:=s
 H₀:=H
 env:=lf qual scope s.heap.objs.size f cd
 outer:=outer
 stack:=lf qual scope s.heap.objs.size f cd::outer
 ex:=[]
 calm:=iu
 fn:=λ_=>iu
 pn:=[]
 xe:=λe s'=>iB (model P w) (A.deeper (lf qual scope s.heap.objs.size f cd)) (leaving (lf qual scope s.heap.objs.size f cd) e) (λ_ a=>CX outer H s E e a) (λb a=>CX outer H s E b a) s'
theorem zy {sc:lz} {n:Nat} (h:sc.names.lookup x=ij .cell):∃ c,(mB n sc.names []).lookup x=ij c:=by have q:=d7 sc.names n [] (.inl h);exact Option.isSome_iff_exists.mp q
theorem Gs {CX:CXT} {P:iF} {w:iG} {K:Frag} {mg:Str->Option iq} {base:Heap} {N ps:List Str} {qual:Str} {scope:lz} {f:Addr} {cd:iq} {A:iJ} {outer:List Env} {s s1:iw} {H:Hp} {E:XK} {us:List iq} {vs:List V}
  (S:FnScope N ps scope) (hd:A.handled=im) (e0:Env0 P w K mg base A outer s H) (hl:vs.length=ps.length) (r:Vals vs us)
  (x:InCallC s s.heap.objs.size (bindL (lf qual scope s.heap.objs.size f cd).kindOf (ps.zip us) λ_=>im) (mB (s.heap.objs.size+1) scope.names []) (bindC (lf qual scope s.heap.objs.size f cd).kindOf (ps.zip us) λ_=>im) s1) :
  Inv (qfd CX P w K mg base N qual scope f cd A outer s H E) [] (vb N vs) H s1:=by
 have o:ps.length<=N.length:=by have:=congrArg fB S.pre; rw [fN] at this; lia
 obtain ⟨h1,tk,rfl,l⟩:=x.done;have d:∀ b:Addr,b∉(qfd CX P w K mg base N qual scope f cd A outer s H E).ex:=λb z=>absurd (show b∈([]:List Addr) from z) 'g';refine ⟨⟨e0.mod,S.kind,rfl,rfl,aA _,λy z c h1 h2=>?_,λy D=>?_,λy c _ h=>?_,λ_=>hd,Around.frames_deeper e0.frames,.inr ⟨rfl,rfl⟩,λb z=>absurd z (d b),e0.bs,e0.bsz,λb _ _=>d b,λb z=>absurd z (d b),e0.funs,e0.frf⟩,rfl,e0.bare,Un.kept l,⟨_,x.toInCall.ns,λi y v h1 h2 B=>?_⟩,λy c h=>⟨_,x.cell y c h⟩,e0.hok.fresh (aA _),λy c h=>?_,λp hp=>absurd (show p∈([]:Pns) from hp) 'g',e0.hok.kept l,?_⟩;·exact name_of_addr x.apart (br h1) (br h2)
 ·have D:scope.names.lookup y=ij .cell\/scope.names.lookup y=ij .free:=D;rcases D with D | D;·exact zy D
  ·exact absurd rfl (S.nofree _ (br D))
 ·exact c8 (x.above y c (br h))
 ·have hi:i < vs.length:=by
   unfold vb at h2;by_cases hi:i < vs.length;·exact hi
   ·rw [bZ (by simpa using hi)] at h2;rw [bw] at h2;split at h2 <;> cases h2
  have t:vs[i]?=ij v:=by
   unfold vb at h2;rw [cM (by simpa using hi),aH] at h2;cases e:vs[i]? with
   | none=>rw [e] at h2; cases h2
   | some a=>rw [e] at h2; cases h2; rfl
  obtain ⟨u,j,m⟩:=r.get t;have hp:ps[i]?=ij y:=by rw [<-S.pre,List.getElem?_take_of_lt 'b']; exact h1
  have g:ps.Nodup:=by rw [<-S.pre]; exact S.nd.sublist (List.take_sublist _ _)
  refine ⟨u,m,?_⟩;rcases S.par y (aP hp) with k | k;·exact .inl ⟨k,zV g hp j k⟩
  ·obtain ⟨c,e⟩:=zy (n:=s.heap.objs.size+1) k;refine .inr ⟨.inl k,c,e,?_⟩;have q:=x.cell y c e;rw [zW g hp j (by show scope.names.lookup y≠_; rw [k]; decide)] at q;exact q
 ·exact e0.hok.fresh (c8 (x.above y c (br h)))
 ·unfold vb;show _=N.length;rw [af,ay,dm]
  lia
theorem qjU {CX:CXT} {P:iF} {w:iG} {K:Frag} {mg:Str->Option iq} {base:Heap} {k:Nat} {f:Addr} {name qual:Str} {params:Arguments} {body:List Stmt} {scope:lz} {i kV doc pm cdv ct oc:iq} {an od:Option Addr}
  {osl:Array (Option iq)} {N ps:List Str} {sp:Sp} (j:K.lookup f=ij ⟨oc,od,.func (ce name qual params body scope i kV doc pm an cdv ct),osl⟩) (g:codeIn K cdv qual=iu) (S:FnScope N ps scope)
  (len:∀ vs H Q E,sp vs H Q E->vs.length=ps.length)
  (a:∀ (A:iJ) (outer:List Env) (s:iw) (H:Hp) (vs:List V) (Q:VK) (E:XK),Room k (A.deeper (lf qual scope s.heap.objs.size f cdv))->sp vs H Q E ->∃ t,PSs (qfd CX P w K mg base N qual scope f cdv A outer s H E) body t/\t { nx:=λ_ H'=>Q .non H',rt:=Q } (vb N vs) H) :
  FnOk P w K mg base CX (k+1) f (ce name qual params body scope i kV doc pm an cdv ct) ps sp:=by
 refine ⟨len,λA outer s H args us vs Q E hr e0 z r p=>?_⟩;have hl:=len _ _ _ _ p;have X:K.In s.heap:=e0.mod.kin.keeps λb o e=>(e0.bs b o e).1;have l:s.heap.NoLimit:=e0.mod.nolimit.keeps λb o e=>(e0.bs b o e).1;have h:∀ y∈ps.zip us,scope.names.lookup y.1=ij .local\/(scope.names.lookup y.1=ij .cell/\((mB (s.heap.objs.size+1) scope.names []).lookup y.1).isSome=iu):=λ⟨n,v⟩ D=>by
  rcases S.par n (cO D).1 with q | q;·exact .inl q
  ·exact .inr ⟨q,d7 _ _ _ (.inl q)⟩
 refine codeAny_call_function hr.depth (X _ _ j) rfl S.co S.gen rfl (PySem.W.codeRec_of X g) (z _ _ _ _ ?_);refine wpAny_newFunctionEnv_cells S.kind h λenv m s1 x=>?_;subst m;refine ⟨l.keeps x.toInCall.keep,codeAny_func ?_⟩;obtain ⟨t,ht,hq⟩:=a A outer s H vs Q E (hr.deeper _) p;have I:Inv (qfd CX P w K mg base N qual scope f cdv A outer s H E) [] (vb N vs) H s1:=Gs S hr.hd e0 hl r x;refine j3 (ht [] s1 (vb N vs) H _ I hq) (λB s' c=>?_) λe s' c=>c;have fin:∀ {σ':St} {H':Hp} {v:V} {u:iq},Inv (qfd CX P w K mg base N qual scope f cdv A outer s H E) [] σ' H' s'->RelV v u->Q v H'->CE outer P w H s Q u s':=
  λ{σ' H' v u} J d q=>⟨v,H',J.os,J.bare,J.base,J.hok,d,q⟩
 cases B with
 | ret u=>obtain ⟨v,σ',H',J,d,q⟩:=c;exact fin J d q
 | next=>obtain ⟨σ',H',J,q⟩:=c;exact fin (v:=V.non) (u:=bV) J rfl q
 | brk=>obtain ⟨_,_,_,q⟩:=c;exact cr q
 | cont=>obtain ⟨_,_,_,q⟩:=c;exact cr q
section
variable {id T:String} {r:List V->Hp->VK->Prop}
def tCB (r:List V->Hp->VK->Prop) (t:TA):TE:=λσ H Q=>t σ H λvs H1=>r vs H1 Q
theorem wx (d:uj X (.builtin id) r) (hg:Gl X x) (m:X.mg x=im) (c:iE x=ij (.builtin id)) (g:PA X (e::es) t) (hn:x ≠ "__name__":=by decide) (b:Dbg x:=by decide)
  (i:iA (e::es) X.env=(ir,eval e X.env)::iA es X.env:=by rfl) (l:(iS pos (iA es X.env)).any (·.1)=false:=by rfl):PE X (.Call (.Name x p) (e::es) [] pos) (tCB r t):=by
 refine ⟨?_⟩;intro pins s σ H Q I h;refine j4 (xX I hg m c ?_ hn b);exact PyProof.Rows.callWith_builtin1 (thn (g pos pins s σ H _ I h) λus s1 ⟨vs,H1,a,r1,q⟩=>d pins s1 σ H1 vs us Q a r1 q) i l
theorem ul (d:uj X (.type T) r) (hg:Gl X x) (m:X.mg x=im) (c:iE x=ij (.type T)) (g:PA X (e::es) t) (hn:x ≠ "__name__":=by decide) (b:Dbg x:=by decide)
  (i:iA (e::es) X.env=(ir,eval e X.env)::iA es X.env:=by rfl) (l:(iS pos (iA es X.env)).any (·.1)=false:=by rfl):PE X (.Call (.Name x p) (e::es) [] pos) (tCB r t):=by
 refine ⟨?_⟩;intro pins s σ H Q I h;refine j4 (xX I hg m c ?_ hn b);exact bJ (thn (g pos pins s σ H _ I h) λus s1 ⟨vs,H1,a,r1,q⟩=>d pins s1 σ H1 vs us Q a r1 q) i l
end
end L2
namespace HT
open PySem PyProof.Rows
section
open PySem.SeqAt
open PySem.AutoSeq1 (wpAny_loadPart')
open PySem.MeetsSeq PySem.MeetsSeq2 PySem.MeetsSeq3
end
section
variable {prog:iF} {w:iG} {A:iJ} {E:iq->iw->Prop} {s:iw}
theorem cat_tup {t b:Addr} {vs ws:List iq} {Q:iq->iw->Prop} (ht:IsTup s.heap t vs.toArray) (k:IsTup s.heap b ws.toArray) (v:vs≠[])
  (h1:ws=[]->Q (.ref t) s) (h2:ws≠[]->Q 'm' { s with heap:=s.heap.push { cls:=.type "tuple",data:=.seq (vs++ws).toArray } })
  (hsz:vs.length+ws.length<=sizeLine):iB 'e' A (iY .Add (.ref t) (.ref b)) Q E s:=by
 obtain ⟨⟨cls,dd,data,sl⟩,l,i,n,hd⟩:=id ht;obtain ⟨⟨j,d,g,a⟩,h,c,n2,hd2⟩:=id k;simp only at i hd c hd2;subst i hd c hd2;have e:vs.toArray++ws.toArray=(vs++ws).toArray:=by simp
 by_cases f:ws=[]
 ·exact l8 ⟨_,l,rfl⟩ ⟨_,h,rfl⟩ noFill_tuple_add seq_tuple_add d8 dS (dM _ _)
   (tuple_addW1 t b vs.toArray ws.toArray n n2 dd d sl a (by simpa using v) (by simp [f])) ⟨l,h,h1 f⟩
 ·refine l8 ⟨_,l,rfl⟩ ⟨_,h,rfl⟩ noFill_tuple_add seq_tuple_add d8 dS (dM _ _)
   (tuple_addW2 t b vs.toArray ws.toArray n n2 dd d sl a (by simpa using v) (by simpa using f) (by rw [aq,aq]; exact hsz)) ⟨l,h,?_⟩
  rw [e];exact h2 f
theorem slicePart_ {v:iq} {o:Option Int} {Q:Option Int->iw->Prop} (p:lT v o) (h:Q o s):iB 'e' A (Builtin.Slice.slicePartIndex v) Q E s:=by
 cases p with
 | none=>exact slicePart_none h
 | int i t=>exact slicePart_int h
end
end HT
namespace L2
open PySem PySem.Spec PyProof.Rows
abbrev TO:=St->Hp->(Option Int->Hp->Prop)->Prop
def PO (X:Cx) (e:Option Expr) (t:TO):Prop:=
 ∀ (pins:Pns) (s:iw) (σ:St) (H:Hp) (Q:Option Int->Hp->Prop),Inv X pins σ H s->t σ H Q ->iB 'c' X.A (evalPart e X.env) (λu s'=>∃ o H',Inv X pins σ H' s'/\lT u o/\Q o H') X.xe s
def qfe:TO:=λ_ H Q=>Q im H
def qjV (t:TE):TO:=λσ H Q=>t σ H λx H1=>∃ i,x=.int i/\Q (ij i) H1
variable {X:Cx} {e:Expr} {pos:Pos} {xs:List V} {us:List iq}
section
variable {te:TE} {lo hi:Option Expr} {tl th:TO} {p2:Pos}
theorem qff:PO X im qfe:=by intro pins s σ H Q I h;rw [evalPart_none];exact iy ⟨im,H,I,.none,h⟩
theorem qfg (h:PE X e te):PO X (ij e) (qjV te):=by intro pins s σ H Q I w;rw [evalPart_some];refine thn (h pins s σ H _ I w) λu s1 ⟨x,H1,d,r1,a⟩=>?_;obtain ⟨i,rfl,q⟩:=a;obtain ⟨t,rfl⟩:=r1;exact ⟨ij i,H1,d,.int i t,q⟩
def qjW (K:Frag):R2:=λx y H Q=>∃ a b xs ys,x=.ref a/\y=.ref b/\SqT K H a xs/\SqT K H b ys/\xs≠[]/\xs.length+ys.length<=sizeLine /\
 (ys=[]->Q (.ref a) H)/\(ys≠[]->∀ p,H p=im->Q (.ref p) (upd H p (.tup (xs++ys))))
theorem Vals.nil_iff (r:Vals xs us):us=[]↔xs=[]:=by
 cases r with
 | nil=>simp
 | cons _ _=>simp
theorem qfh:OpR X (iY .Add) (qjW X.K):=by intro pins s σ H x y v u Q I d r h;obtain ⟨a,b,xs,ys,rfl,rfl,j,g,hx,c,f,e⟩:=h;cases d;cases r;obtain ⟨its,r1,p1,_⟩:=I.tuple j;obtain ⟨i,r2,p2,_⟩:=I.tuple g;refine HT.cat_tup p1 p2 (λz=>hx (r1.nil_iff.mp z)) (λz=>⟨.ref a,H,I,rfl,f (r2.nil_iff.mp z)⟩) (λz=>?_) (by rw [<-r1.length,<-r2.length]; exact c);refine ⟨.ref s.heap.objs.size,_,I.laid (t':=s.toks) (o:=.tup (xs++ys)) (λb k q=>aa _ q) (aA _) ?_,rfl,e (λw=>z (r2.nil_iff.mpr w)) _ (I.hok.fresh (aA _))⟩;exact ⟨⟨by rw [af]; exact c,_,ai _ rfl,rfl⟩,_,r1.append r2,IsTup.new _ _⟩
end
noncomputable def ixN (n:Nat) (i:Int):Option Nat:=if 0<=i then (if i < n then ij i.toNat else im) else if -(n:Int)<=i then ij (i+n).toNat else im
variable {α:Type}
noncomputable def atI (xs:List α) (i:Int):Option α:=(ixN xs.length i).bind λj=>xs[j]?
variable {n:Nat} {i:Int}
theorem Gu {j:Nat} (h:ixN n i=ij j):seqIndex? i n=ij j/\j < n/\-(n:Int)<=i/\i < n:=by
 unfold ixN at h;by_cases a:0<=i
 ·rw [Aa a] at h;by_cases h1:i < n;·rw [Aa h1] at h;have e:i.toNat=j:=aI.inj h;exact ⟨by rw [seqIndex_of a h1,e],by lia,by lia,h1⟩
  ·rw [Ab h1] at h; cases h
 ·rw [Ab a] at h;by_cases h1:-(n:Int)<=i;·rw [Aa h1] at h;have e:(i+n).toNat=j:=aI.inj h;exact ⟨by rw [seqIndex_neg 'b' h1,e],by lia,h1,by lia⟩
  ·rw [Ab h1] at h; cases h
theorem WT {xs:List α} {v:α} (h:atI xs i=ij v):∃ j,seqIndex? i xs.length=ij j/\xs[j]?=ij v/\j < xs.length/\-(xs.length:Int)<=i/\i < xs.length:=by
 unfold atI at h;cases e:ixN xs.length i with
 | none=>rw [e] at h; cases h
 | some j=>rw [e] at h;obtain ⟨h1,h2,g,a⟩:=Gu e;exact ⟨j,h1,h,h2,g,a⟩
def Jw (b:Expr):Prop:=∀ o i,subscripted b ir o i=operate [o,i] (mI o i)
def IxR (X:Cx) (r:R2):Prop:=
 ∀ (value e:Expr) (pins:Pns) (s:iw) (σ:St) (H:Hp) (x y:V) (v u:iq) (Q:VK),Inv X pins σ H s->RelV x v->RelV y u->r x y H Q ->subscripted e ir v u=operate [v,u] (mI v u)->iB 'c' X.A (subscriptTail value e v u) (EP X pins σ Q) X.xe s
def MtR (X:Cx) (id:String) (r:V->List V->Hp->VK->Prop):Prop:=
 ∀ (pins:Pns) (s:iw) (σ:St) (H:Hp) (x:V) (xs:List V) (v:iq) (us:List iq) (Q:VK),Inv X pins σ H s->RelV x v->Vals xs us->r x xs H Q ->iB 'c' X.A (call (.builtin id) (v::us)) (EP X pins σ Q) X.xe s
variable {pins:Pns} {σ:St} {H:Hp} {s:iw} {p:Addr} {T:String} {x:V}
section
variable {a b:Expr} {ta tb:TE}
theorem IxR.or {r r':R2} (h:IxR X r) (h':IxR X r'):IxR X (λx y H Q=>r x y H Q\/r' x y H Q):=by
 intro value e pins s σ H x y v u Q I d c q a;rcases q with q | q;·exact h value e pins s σ H x y v u Q I d c q a
 ·exact h' value e pins s σ H x y v u Q I d c q a
theorem qhr {r:R2} (hr:IxR X r) (g:PE X a ta) (f:PE X b tb) (e:Jw b):PE X (.Subscript a b pos) (tOp r ta tb):=by refine ⟨?_⟩;intro pins s σ H Q I h;exact Subscript_ (qjL g f I h λv u s2 x y H2 k d c q=>hr a b pins s2 σ H2 x y v u Q k d c q (e _ _))
def qkQ (K:Frag):R2:=λx y H Q=>∃ p xs i v,x=.ref p/\y=.int i/\SqL K H p xs/\atI xs i=ij v/\Q v H
def qkR (K:Frag):R2:=λx y H Q=>∃ p xs i v,x=.ref p/\y=.int i/\SqT K H p xs/\atI xs i=ij v/\Q v H
def qkS:R2:=λx y H Q=>∃ z i c,x=.str z/\y=.int i/\z.length<=sizeLine/\atI z.cps.toList i=ij c/\Q (.str ⟨#[c]⟩) H
theorem qfi:IxR X (qkQ X.K):=by
 intro value e pins s σ H x y v u Q I g f h c;obtain ⟨p,xs,i,z,rfl,rfl,hq,k,q⟩:=h;cases g;obtain ⟨t,rfl⟩:=f;obtain ⟨its,r,pl,n⟩:=I.list hq;obtain ⟨j,h1,h2,o,m,l⟩:=WT k;obtain ⟨w,d,a⟩:=r.get h2;have hl:=r.length;have hn:=QL;have fin:EP X pins σ Q w s:=⟨z,H,I,a,q⟩
 by_cases b:0<=i
 ·have G:i.toNat=j:=by rw [seqIndex_of b l] at h1;exact aI.inj h1
  exact item_listR pl.isList b 'b' (by rw [G]; simpa using d) fin c
 ·have G:(i+(its.toArray.size:Int)).toNat=j:=by rw [seqIndex_neg 'b' m] at h1;rw [aq,<-hl];exact aI.inj h1
  exact subscriptTail_builtinR (x:=w) pl.isList.typeIs slot_list_getitem.lookup
   (wpAny_getItem_list_neg (Q:=λr s'=>r=w/\EP X pins σ Q r s') pl.isList 'b' (by rw [aq] <;> lia) 'b' (by rw [G]; simpa using d) ⟨rfl,fin⟩) c
theorem qhs:IxR X (qkR X.K):=by
 intro value e pins s σ H x y v u Q I d c h b;obtain ⟨p,xs,i,z,rfl,rfl,hq,f,q⟩:=h;cases d;obtain ⟨t,rfl⟩:=c;obtain ⟨its,r,pl,k⟩:=I.tuple hq;obtain ⟨j,h1,h2,n,m,l⟩:=WT f;obtain ⟨w,g,a⟩:=r.get h2;have hl:=r.length;have hn:=QL;have fin:EP X pins σ Q w s:=⟨z,H,I,a,q⟩
 exact subscriptTail_builtinR (x:=w) pl.typeIs slot_tuple_getitem.lookup
  (getItem_tuple (j:=j) (Q:=λr s'=>r=w/\EP X pins σ Q r s') pl 'b' 'b' (by rw [aq,<-hl]; exact h1) (by simpa using g) ⟨rfl,fin⟩) b
theorem qht:IxR X qkS:=by
 intro value e pins s σ H x y v u Q I d r h a;obtain ⟨z,i,c,rfl,rfl,k,b,q⟩:=h;obtain ⟨t,rfl⟩:=d;obtain ⟨t',rfl⟩:=r;obtain ⟨j,h1,h2,m,f,l⟩:=WT b;have hl:z.cps.toList.length=z.length:=by simp [fQ]
 rw [hl] at h1 f l;have hn:=QL;exact tail_any (typeIs_str s z t) slot_str_getitem.lookup (getItem_str (c:=c) (by have e1:decide (i < -(2 ^ 63:Int))=false:=Ac 'b';have g:decide (i ≥ 2 ^ 63)=false:=Ac 'b';rw [e1,g,Bool.or_false]) (by rw [h1]; simpa using h2) ⟨.str ⟨#[c]⟩,H,I.tok _,⟨_,rfl⟩,q⟩) a
def rIx (K:Frag):R2:=λx y H Q=>qkQ K x y H Q\/qkR K x y H Q\/qkS x y H Q
theorem qhu:IxR X (rIx X.K):=qfi.or (qhs.or qht)
theorem XY (its:List iq) (n j:Nat) (u:iq):cS (·.setIfInBounds j u) { cls:=.type "list",data:=.seq its.toArray n }={ cls:=.type "list",data:=.seq (its.set j u).toArray n }:=by simp [cS]
theorem Inv.lst (I:Inv X pins σ H s) (h:H p=ij (.lst xs)):∃ (its:List iq) (n:Nat),Vals xs its/\s.heap.get? p=ij { cls:=.type "list",data:=.seq its.toArray n }/\xs.length<=sizeLine:=by obtain ⟨z,its,n,r,e⟩:=I.hok p _ h;exact ⟨its,n,r,e,z⟩
theorem Inv.lstUpd {ys:List V} {its its':List iq} {n c:Nat} {f:Obj->Obj} (I:Inv X pins σ H s) (h:H p=ij (.lst xs))
  (l:s.heap.get? p=ij { cls:=.type "list",data:=.seq its.toArray n }) (a:f { cls:=.type "list",data:=.seq its.toArray n }={ cls:=.type "list",data:=.seq its'.toArray c }) (r:Vals ys its') (z:ys.length<=sizeLine) (t:Nat) :
  Inv X pins σ (upd H p (.lst ys)) { s with heap:=s.heap.update p f,toks:=t }:=by
 have e:(s.heap.update p f).get? p=ij { cls:=.type "list",data:=.seq its'.toArray c }:=by rw [bf f l (by rw [a] <;> rfl),a]
 refine I.write (x:=p) (e:=p) (by rw [h]; trivial) (.inl rfl) (λb u d q=>(cG _ _ (bo d)).trans q) ⟨_,e⟩ ?_;exact ⟨z,its',c,r,e⟩
def qjX:V->V->V->Hp->(Hp->Prop)->Prop:=λo i v H Q=>∃ p xs k j,o=.ref p/\i=.int k/\H p=ij (.lst xs)/\ixN xs.length k=ij j/\Q (upd H p (.lst (xs.set j v)))
theorem qcy:qkM X qjX:=by
 intro pins s σ H o i v w x u Q I f m e h;obtain ⟨p,xs,k,j,rfl,rfl,hp,G,q⟩:=h;cases f;obtain ⟨t,rfl⟩:=m;obtain ⟨its,n,r,l,z⟩:=I.lst hp;obtain ⟨h1,h2,g,b⟩:=Gu G;have hl:=r.length;have hn:=QL;have d:Inv X pins σ (upd H p (.lst (xs.set j v))) { s with heap:=s.heap.update p (cS (·.setIfInBounds j u)) }:=
  I.lstUpd hp l (XY its n j u) (r.set e j) (by rw [dg]; exact z) s.toks
 by_cases c:0<=k
 ·have a:k.toNat=j:=by rw [seqIndex_of c b] at h1;exact aI.inj h1
  exact PySem.W.ki_setAt l c 'b' (by rw [aq,<-hl]; exact b) (by rw [a]; exact ⟨_,d,q⟩)
 ·have a:(k+(its.toArray.size:Int)).toNat=j:=by rw [seqIndex_neg 'b' g] at h1;rw [aq,<-hl];exact aI.inj h1
  exact PySem.W.ki_setBack l 'b' (by rw [aq,<-hl]; exact g) 'b' (by rw [a]; exact ⟨_,d,q⟩)
theorem xY:uj X (.type "list") (λxs H Q=>∃ p ys,xs=[.ref p]/\(SqL X.K H p ys\/SqT X.K H p ys)/\∀ l,H l=im->Q (.ref l) (upd H l (.lst ys))):=by
 intro pins s σ H xs us Q I r h;obtain ⟨p,ys,rfl,hq,q⟩:=h;obtain ⟨u,rfl,x⟩:=yM r;cases x;have fin:∀ (its:List iq),Vals ys its->ys.length<=sizeLine->∀ (h':Heap) (U:Nat),(∀ b o',s.heap.get? b=ij o'->h'.get? b=ij o') ->h'.get? s.heap.objs.size=ij { cls:=.type "list",dict:=im,data:=.seq its.toArray U,slots:=#[] }->EP X pins σ Q 'm' { s with heap:=h' }:=λits r' z h' U kp e=>
  ⟨.ref s.heap.objs.size,_,I.laid (t':=s.toks) kp (aA _) (show ObjOk X.prog X.w _ h' _ (.lst ys) from ⟨z,its,U,r',e⟩),rfl,q _ (I.hok.fresh (aA _))⟩
 rcases hq with hq | hq;·obtain ⟨its,r',pl,z⟩:=I.list hq;have a:=r'.length;obtain ⟨o,c,d,n,hd⟩:=pl.isList;exact call_list_seq p (.inl rfl) c d hd (λh' U kp e=>fin its r' z h' U kp e) (by simp only [aq] <;> lia)
 ·obtain ⟨its,r',pl,z⟩:=I.tuple hq;have a:=r'.length;obtain ⟨o,c,d,n,hd⟩:=pl;exact call_list_seq p (.inr rfl) c d hd (λh' U kp e=>fin its r' z h' U kp e) (by simp only [aq] <;> lia)
theorem yN:uj X (.type "tuple") (λxs H Q=>∃ p ys,xs=[.ref p]/\((SqL X.K H p ys/\∀ l,H l=im->Q (.ref l) (upd H l (.tup ys)))\/(SqT X.K H p ys/\Q (.ref p) H))):=by
 intro pins s σ H xs us Q I r h;obtain ⟨p,ys,rfl,h⟩:=h;obtain ⟨u,rfl,x⟩:=yM r;cases x;rcases h with ⟨hq,q⟩ | ⟨hq,q⟩
 ·obtain ⟨its,r',pl,z⟩:=I.list hq;have n:=r'.length;refine call_tuple_list pl.isList (λh' kp=>?_) (by simp only [aq] <;> lia);have d:Inv X pins σ H { s with heap:=h' }:=I.kept (t':=s.toks) kp;have k:Inv X pins σ (upd H h'.objs.size (.tup ys)) { s with heap:=h'.push { cls:=.type "tuple",data:=.seq its.toArray } }:=
   d.laid (t':=s.toks) (λb o e=>aa _ e) (aA _) (show ObjOk X.prog X.w _ _ _ (.tup ys) from ⟨⟨z,_,ai _ rfl,rfl⟩,its,r',IsTup.new _ _⟩)
  exact ⟨.ref h'.objs.size,_,k,rfl,q _ (d.hok.fresh (aA _))⟩
 ·obtain ⟨its,r',pl,z⟩:=I.tuple hq;exact call_tuple_same pl ⟨.ref p,H,I,rfl,q⟩
def tyV (K:Frag) (T:String) (x:V) (H:Hp):Prop:=match x with
 | .str _=>T = "str"
 | .int _=>T = "int"
 | .ref p=>(T = "list"/\∃ xs,SqL K H p xs)\/(T = "tuple"/\∃ o,K.lookup p=ij o/\o.cls=.type "tuple"/\o.dict=im) \/
   (T = "dict"/\((∃ kvs,H p=ij (.dK kvs))\/∃ kvs,H p=ij (.dT kvs)))\/(T = "set"/\∃ S n,H p=ij (.set S n))
 | _=>False
theorem qhv {v:iq} (I:Inv X pins σ H s) (r:RelV x v) (ty:tyV X.K T x H):s.TypeIs v T/\∀ a,v=.ref a->∃ d,s.heap.get? a=ij d/\d.dict=none:=by
 cases x with
 | str z=>obtain ⟨t,rfl⟩:=r;cases (show T = "str" from ty);exact ⟨typeIs_str s z t,λ_ e=>nomatch e⟩
 | int i=>obtain ⟨t,rfl⟩:=r;cases (show T = "int" from ty);exact ⟨typeIs_int s i t,λ_ e=>nomatch e⟩
 | ref p=>
  cases r;rcases ty with ⟨rfl,xs,hq⟩ | ⟨rfl,o,k,h,hd⟩ | ⟨rfl,k⟩ | ⟨rfl,S,n,k⟩
  ·obtain ⟨its,_,pl,_⟩:=I.list hq;refine ⟨pl.isList.typeIs,λa e=>?_⟩;cases e;obtain ⟨o,n,e,c,hd,_⟩:=pl;exact ⟨o,e,hd⟩
  ·refine ⟨⟨o,I.kIn p o k,h⟩,λa e=>?_⟩;cases e;exact ⟨o,I.kIn _ o k,hd⟩
  ·have z:∃ o,s.heap.get? p=ij o/\o.ExactDict:=by
    rcases k with ⟨kvs,k⟩ | ⟨kvs,k⟩
    ·obtain ⟨_,_,_,_,o,_,_,e,ex,_⟩:=I.hok p _ k;exact ⟨o,e,ex⟩
    ·obtain ⟨_,_,_,_,o,_,_,e,ex,_⟩:=I.hok p _ k;exact ⟨o,e,ex⟩
   obtain ⟨o,e,ex⟩:=z;refine ⟨⟨o,e,ex.1⟩,λa b=>?_⟩;cases b;exact ⟨o,e,ex.2.1⟩
  ·obtain ⟨o,_,_,_,e,ex,_⟩:=I.hok p _ k;refine ⟨⟨o,e,ex.1⟩,λa b=>?_⟩;cases b;exact ⟨o,e,ex.2.1⟩
 | _=>exact cr ty
def tBM (K:Frag) (T:String) (r:V->List V->Hp->VK->Prop) (to:TE) (t:TA):TE:=λσ H Q=>to σ H λx H1=>tyV K T x H1/\t σ H1 λxs H2=>r x xs H2 Q
variable {o:Expr} {es:List Expr} {to:TE} {t:TA} {name:Str} {apos cpos:Pos} {id:String} {r:V->List V->Hp->VK->Prop}
theorem XZ (p:PlainAttrs T) (slot:Slot T name id) (y:lX (.builtin id)=pure (.type "method_descriptor")) (m:MtR X id r) (l:PE X o to) (g:PA X (e::es) t)
  (b:i7 o name X.env (eval o X.env)=eval o X.env:=by rfl)
  (w:((iS cpos (iA (e::es) X.env)).all (λx=>!x.1)&&(lq cpos (iZ [] X.env)).all (λx=>x.1.isSome)
   && decide ((e::es).length+([]:List i5).length+(if ([]:List i5).isEmpty then 0 else 1) < 30))=true:=by rfl)
  (a:(apos.endLine == cpos.line)=true:=by rfl) (f:iA (e::es) X.env=(ir,eval e X.env)::iA es X.env:=by rfl) (n:(iS cpos (iA es X.env)).any (·.1)=false:=by rfl) :
  PE X (.Call (.Attribute o name apos) (e::es) [] cpos) (tBM X.K T r to t):=by
 refine ⟨?_⟩;intro pins s σ H Q I h;refine wpAny_Call_method_late b w a rfl (thn (l pins s σ H _ I h) λv s1 ⟨x,H1,d,r1,ty,c⟩=>?_);obtain ⟨h1,h2⟩:=qhv d r1 ty;refine ⟨T,id,p,slot,y,h1,h2,?_⟩;have hA:=g cpos pins s1 σ H1 _ d c;rw [f] at hA ⊢;refine Calls.callWith_builtin (by show (ir||(iS cpos (iA es X.env)).any (·.1))=ir; rw [n] <;> rfl) (eY ?_);exact thn hA λus s2 ⟨vs,H2,k,r2,q⟩=>m pins s2 σ H2 x vs v us Q k r1 r2 q
end
def MtM (X:Cx) (id:String) (r:V->List V->Hp->VK->Prop):Prop:=
 ∀ (pins:Pns) (s:iw) (σ:St) (H:Hp) (x:V) (xs:List V) (v:iq) (us:List iq) (Q:VK),Inv X pins σ H s->RelV x v->Vals xs us->r x xs H Q ->iB 'c' X.A (call (.builtin id) (v::us)) (EP X pins σ Q) X.xe s
theorem Vals.one (h:Vals [x] us):∃ u,us=[u]/\RelV x u:=by
 cases h with
 | cons r t=>cases t;exact ⟨_,rfl,r⟩
theorem Vals.eraseIdx:∀ {xs:List V} {us:List iq} (i:Nat),Vals xs us->Vals (xs.eraseIdx i) (us.eraseIdx i)
 | _,_,_,.nil=>.nil
 | _,_,0,.cons _ t=>t
 | _,_,i+1,.cons r t=>.cons r (Vals.eraseIdx i t)
theorem Vals.reverse (h:Vals xs us):Vals xs.reverse us.reverse:=by
 induction h with
 | nil=>exact .nil
 | cons r t j=>rw [dw,dw]; exact Vals.append j (.cons r .nil)
theorem Vi:∀ (l:List α) (i:Nat),(l.eraseIdx i).length<=l.length
 | [],_=>aA _
 | _::_,0=>fC _
 | _::r,i+1=>Nat.succ_le_succ (Vi r i)
section
variable {l b:Addr} {ys zs:List V}
theorem Inv.lset {its its':List iq} {n:Nat} {f:Array iq->Array iq} {t':Nat} (I:Inv X pins σ H s) (b:H l=ij (.lst xs))
  (e:s.heap.get? l=ij { cls:=.type "list",data:=.seq its.toArray n }) (a:f its.toArray=its'.toArray) (c:Vals ys its') (z:ys.length<=sizeLine) :
  Inv X pins σ (upd H l (.lst ys)) { s with heap:=s.heap.update l (cS f),toks:=t' }:=by
 have q:=PySem.IsL.update e f;rw [a] at q;refine I.write (x:=l) (e:=l) (by rw [b]; exact trivial) (.inl rfl) (λg u d h=>(cG s.heap (cS f) (bo d)).trans h) ⟨_,q⟩ ?_;exact ⟨z,its',_,c,q⟩
theorem Inv.lnew {its:List iq} {t':Nat} (I:Inv X pins σ H s) (c:Vals ys its) (z:ys.length<=sizeLine):Inv X pins σ (upd H s.heap.objs.size (.lst ys)) { s with heap:=s.heap.push { cls:=.type "list",data:=.seq its.toArray },toks:=t' }:=
 I.laid (λ_ _ q=>aa _ q) (aA _) ⟨z,its,0,c,ai _ rfl⟩
theorem Inv.fresh (I:Inv X pins σ H s):H s.heap.objs.size=none:=I.hok.fresh (aA _)
theorem Inv.lstM (I:Inv X pins σ H s) (b:H l=ij (.lst xs)):xs.length<=sizeLine/\∃ (its:List iq) (n:Nat),Vals xs its/\xs.length=its.length/\s.heap.get? l=ij { cls:=.type "list",data:=.seq its.toArray n }:=by obtain ⟨z,its,n,r,e⟩:=I.hok l _ b;exact ⟨z,its,n,r,r.length,e⟩
theorem qcz (h:n<=sizeLine):cT n=false:=by unfold cT;exact Ac 'b'
end
section
def WU:V->List V->Hp->VK->Prop:=λx vs H Q=>∃ l xs y,x=.ref l/\vs=[y]/\H l=ij (.lst xs)/\xs.length < sizeLine/\Q .non (upd H l (.lst (xs++[y])))
theorem Vj:MtM X "list.append" WU:=by
 intro pins s σ H x vs v us Q I d a h;obtain ⟨l,xs,y,rfl,rfl,b,c,q⟩:=h;cases d;obtain ⟨u,rfl,B⟩:=a.one;obtain ⟨z,its,n,r,hl,e⟩:=I.lstM b;refine lr F.slot_list_append ⟨_,e,rfl⟩ F.entry_list_append (F.args_list_append_2 _ _) (PySem.list_append l its.toArray n u (by rw [aq]; lia)) ⟨e,?_⟩;refine ⟨.non,_,I.lset (its':=its++[u]) b e 'g' (r.append (.cons B .nil)) ?_,rfl,q⟩;rw [af,List.length_singleton]
 lia
def qfj:V->List V->Hp->VK->Prop:=λx vs H Q=>∃ l b xs zs,x=.ref l/\vs=[.ref b]/\H l=ij (.lst xs)/\H b=ij (.lst zs)/\xs.length+zs.length<=sizeLine/\Q .non (upd H l (.lst (xs++zs)))
theorem Gv:MtM X "list.extend" qfj:=by
 intro pins s σ H x vs v us Q I d c h;obtain ⟨l,b,xs,zs,rfl,rfl,a,j,m,q⟩:=h;cases d;obtain ⟨u,rfl,B⟩:=c.one;cases B;obtain ⟨z,its,n,r,hl,e⟩:=I.lstM a;obtain ⟨z2,i,n2,r2,f,k⟩:=I.lstM j;have hsz:its.toArray.size+i.toArray.size<=sizeLine:=by rw [aq,aq]; lia
 have g:¬(!its.toArray.isEmpty&&cT (its.toArray.size+i.toArray.size))=true:=by rw [qcz hsz,Bool.and_false];exact bj
 refine lr F.slot_list_extend ⟨_,e,rfl⟩ F.entry_list_extend (F.args_list_extend_2 _ _)
  (AutoSeq1.list_extend_list_list_0 l its.toArray n b i.toArray n2 g (by rw [aq]; lia) 'b') ⟨e,k,?_⟩
 refine ⟨.non,_,I.lset (its':=its++i) a e 'g' (r.append r2) ?_,rfl,q⟩;rw [af]
 lia
def qhw:V->List V->Hp->VK->Prop:=λx vs H Q=>∃ l xs i k y,x=.ref l/\vs=[.int i]/\H l=ij (.lst xs)/\-(2 ^ 63)<=i/\i < 2 ^ 63/\seqIndex? i xs.length=ij k/\xs[k]?=ij y/\Q y (upd H l (.lst (xs.eraseIdx k)))
theorem qcA:MtM X "list.pop" qhw:=by
 intro pins s σ H x vs v us Q I d c h;obtain ⟨l,xs,i,k,y,rfl,rfl,b,h1,h2,g,D,q⟩:=h;cases d;obtain ⟨u,rfl,B⟩:=c.one;obtain ⟨t,rfl⟩:=B;obtain ⟨z,its,n,r,hl,e⟩:=I.lstM b;obtain ⟨w,f,a⟩:=r.get D;refine lr F.slot_list_pop ⟨_,e,rfl⟩ F.entry_list_pop (F.args_list_pop_2 _ _)
  (MeetsSeq.list_pop_at l its.toArray n i t k w (fitsIndex_both h1 h2) (by rw [aq,<-hl]; exact g) (by rw [<-bS]; exact f) (by rw [aq]; lia)) ⟨e,?_⟩
 refine ⟨y,_,I.lset (its':=its.eraseIdx k) b e ?_ (r.eraseIdx k) ?_,a,q⟩;·show its.toArray.eraseIdxIfInBounds k=(its.eraseIdx k).toArray;rw [List.eraseIdxIfInBounds_toArray]
 ·have:=Vi xs k
  lia
end
end L2
namespace Att
open PySem PySem.W PySem.Calls PyProof.Rows
theorem zX {P:lR} {h:Heap}:∀ (ns:List Int) (vs:List iq),WellAll P h vs (ns.map WData.int)->IntsAre vs ns:=by
 intro ns
 induction ns with
 | nil=>intro vs w;rw [bU] at w;cases w;exact .nil
 | cons n ns j=>
  intro vs w;rw [aD] at w;cases w with
  | cons a b=>cases a;exact .cons _ _ (j _ b)
theorem Gw {l:OpenLaw} {n:Nat} (hn:l.most=ij n) {P:lR} {h:Heap} {args:List WData} {v:List iq}
  (e:l.row.toRowW.claim.pre args=iu) (i:WellAll P h v args) :
  ∃ a vs ns,v=[bA a]/\args=[WData.list (ns.map WData.int)]/\h.get? a=ij { cls:=.type "list",data:=.seq vs.toArray }/\IntsAre vs ns/\ns.length<=n:=by
 have j:WShape.hasAll [] args [.list .int]=true:=(pre_splitW e).1;have k:l.pre.holds [] { args:=args }=true:=(pre_splitW e).2;obtain ⟨d,r,rfl,h1,h2⟩:=hasAllW_cons j;obtain rfl:=hasAllW_nil h2;obtain ⟨xs,rfl,s⟩:=hasW_list h1;obtain ⟨ns,rfl⟩:=items_int s;have b:ns.length<=n:=by
  unfold OpenLaw.pre at k;have g:(WTm.not (.lt (.lit (.int (n:Int))) (.len (.arg 0)))).holds [] { args:=[.list (ns.map .int)] }=true:=by have g:=(holds_andW k).1;rw [hn] at g;exact g
  have f:=condW_of g (w_not (w_lt w_lit (w_len_list (w_arg rfl))));rw [ay] at f;refine Nat.le_of_not_lt λq=>?_;have m:(n:Int) < ((ns.length:Nat):Int):=by omega
  first
   | (rw [Ad m] at f; exact absurd f 'd')
   | (simp at f; omega)
 cases i with
 | cons p w=>
  cases w;cases p with
  | list o c=>exact ⟨_,_,ns,rfl,rfl,o,zX ns _ c,b⟩
theorem Gx (l:OpenLaw) (args:List WData):l.row.toRowW.claim.post args (.bool iu) args=true:=
 postW_of (r:=l.row.toRowW) (X:=(iu == iu))
  (show WShape.has [] (.bool iu) .bool=iu by first | rfl | decide | simp [WShape.has,WShape.arms,WShape.armsAll])
  (show (WTm.eq .res (.lit (.bool iu))).value [] { args:=args,res:=ij (.bool iu),after:=args }=ij (.bool (iu == iu)) from w_eq_bool (w_res rfl) w_lit) rfl
theorem attach_call {l:OpenLaw} {n:Nat} {q:iF} {loose:List Str} {XP:(Str->Option iq)->Heap->Prop} {YP:iG->Heap->Prop} {d:DefRec}
  (hn:l.most=ij n) (hdf:d.params.defaults=[])
  (call:∀ (w:iG) (s₀ s:iw) (mg mb:Str->Option iq) (fa:Addr) (o:Obj) (pm cd doc:iq) (a:Addr) (vs:List iq) (ns:List Int),Ground q loose [] XP w s₀ mg mb s.heap->YP w s.heap ->s.heap.get? fa=ij o->o.data=.func (docDef d.name d.params d.body d.scope pm cd doc)->s.heap.CodeRec cd d.name->mg d.name=ij (.ref fa) ->s.heap.get? a=ij { cls:=.type "list",data:=.seq vs.toArray }->IntsAre vs ns->ns.length<=n->s.gens=#[] ->lg (model l.prog w) mC (.call (.ref fa) ⟨[.ref a],[]⟩) (λr s'=>r=.ok (.ret (.bool iu))/\OldK s.heap s'.heap/\s'.os=s.os/\lQ s'.gens) s) :
  WalkO q loose XP YP l.row.toRowW d [] (λf vs=>ig f vs):=by
 intro w s₀ s mg mb G Y fa o pm cd doc V kV m hd c D g hg args v as e y k i t;obtain rfl:V=.none:=Dflts.none D hdf;obtain rfl:kV=.none:=Dflts.noKw D;obtain ⟨a,vs,ns,rfl,rfl,j,h,b⟩:=Gw hn e i;refine enter_call (lH (call w s₀ s mg mb fa o pm cd doc a vs ns G Y m (fd_plain hd) c g j h b hg) λr s' hq=>?_);obtain ⟨rfl,h2,x,u⟩:=hq;exact ⟨.inl ⟨.bool iu,.bool iu,[],rfl,λ_=>rfl,.bool iu,Gx l _,λ_=>⟨d9,λ_ p=>(nomatch p)⟩⟩,h2,x,u⟩
end Att
namespace L2
open PySem PySem.Spec PyProof.Rows
theorem Vk:∀ {vs:List iq} {ns:List Int},IntsAre vs ns->Vals (ns.map V.int) vs
 | _,_,.nil=>.nil
 | _,_,.cons n t h=>.cons ⟨t,rfl⟩ (Vk h)
def qjY (H:Hp):Prop:=∀ b,H b=im\/∃ o xs,H b=ij (.frz o (.lst xs))
theorem qcB {P:iF} {w:iG} {K:Frag} {mg mb:Str->Option iq} {CX:CXT} {k:Nat} {fa a:Addr} {fd:k6} {x:Str} {sp:Sp} {c:iw} {vs:List iq} {ns:List Int}
  (N:K.In c.heap) (A:c.heap.Ns iC mg) (g:c.heap.Ns builtinsNs mb) (J:∀ x:Str,x ≠ "__name__"->mb x=iE x) (B:c.heap.NoLimit) (hg:c.gens=#[])
  (D:c.heap.get? a=ij { cls:=.type "list",data:=.seq vs.toArray }) (hi:IntsAre vs ns) (hl:ns.length<=sizeLine) (hr:Room k mC)
  (F:∀ base:Heap,K.In base->base.Ns iC mg->FnOk P w K mg base CX k fa fd [x] sp) (l:∀ (s:iw) (u:iq),mz s fd ⟨[u],[]⟩ [(x,u)])
  (G:∀ H:Hp,qjY H->SqL K H a (ns.map V.int)->sp [.ref a] H (λv _=>v=.bl iu) λ_ _ _=>False)
  (X:∀ H e s',CX [] H c (λ_ _ _=>False) e s'->False) :
  lg (model P w) mC (.call (.ref fa) ⟨[.ref a],[]⟩) (λr s'=>r=.ok (.ret (.bool iu))/\OldK c.heap s'.heap/\s'.os=c.os/\lQ s'.gens) c:=by
 have M:=Vk hi;have t:=hi.length;have j:∀ H:Hp,qjY H->SqL K H a (ns.map V.int)->HOk P w H c.heap->(∀ b,H b≠im->b=a)->(H a≠im->K.lookup a=im) ->lg (model P w) mC (.call (.ref fa) ⟨[.ref a],[]⟩) (λr s'=>r=.ok (.ret (.bool iu))/\OldK c.heap s'.heap/\s'.os=c.os/\lQ s'.gens) c:=by
  intro H O S hok hA T;have f:∀ {b:Addr} {o:Obj},c.heap.get? b=ij o->H b=im->(qcn c.heap H).get? b=ij o:=λe n=>qco e n;have E:∀ {b:Addr} {o:Obj} {es:Array my} {ep:Nat},c.heap.get? b=ij o->o.data=.dict es ep->H b=none:=λ{b o es ep} e d=>by
   cases q:H b with
   | none=>rfl
   | some u=>have L:b=a:=hA b (by rw [q]; simp);subst L;rw [D] at e; cases e;have d':Data.seq vs.toArray _=Data.dict es ep:=d;cases d'
  have i:∀ {b:Addr} {m:Str->Option iq},c.heap.Ns b m->(qcn c.heap H).Ns b m:=λ{b m} ⟨o,es,ep,e,d,r⟩=>⟨o,es,ep,f e (E e d),d,r⟩
  have C:K.In (qcn c.heap H):=λb o e=>f (N b o e) (by
   cases q:H b with
   | none=>rfl
   | some u=>have L:b=a:=hA b (by rw [q]; simp);subst L;rw [T (by rw [q]; simp)] at e; cases e)
  have R:Mod K mg (qcn c.heap H):=⟨C,i A,⟨mb,i g,J⟩,let ⟨mc,h1,h2⟩:=B; ⟨mc,i h1,h2⟩⟩
  have e0:Env0 P w K mg (qcn c.heap H) mC [] c H:=⟨rfl,R,λb o e=>qe1 e,fR (Gg _ _),trivial,λb g=>absurd (show b∈([]:List Addr) from g) 'g',hok,.of_eq hg⟩
  refine lH ((F _ C (i A)).run mC [] c H ⟨[.ref a],[]⟩ [.ref a] [.ref a] _ _ hr e0 (l c (.ref a)) (.cons rfl .nil) (G H O S)) λr s' h=>?_;cases r with
  | error e=>exact (X H e s' h).elim
  | ok U=>
   cases U with
   | next=>exact cr h
   | brk=>exact cr h
   | cont=>exact cr h
   | ret u=>
    obtain ⟨v,H',os,bare,un,y,r',q⟩:=h;have Q:v=.bl true:=q;subst Q;obtain rfl:u=bb true:=r';refine ⟨rfl,OldK.of_keep λb o e=>?_,os,bare⟩;cases q:H b with
    | none=>exact un.keep b o e q (by intro z; exact absurd (show b∈([]:List Addr) from z) 'g') 'g'
    | some u=>
     rcases O b with z | ⟨ob,xs,z⟩
     ·rw [q] at z; cases z
     ·have z2:=un.frzs b ob _ z;obtain ⟨e1,_⟩:=hok b _ z;obtain ⟨W,_⟩:=y b _ z2;rw [e] at e1; cases e1;exact W
 cases I:K.lookup a with
 | some o=>have e:=N a o I;rw [D] at e;cases e;refine j (λ_=>im) (λ_=>.inl rfl) (.inr ⟨_,vs.toArray,_,I,rfl,rfl,rfl,by rw [aq,t]; exact hl,by simpa using M⟩) (λb u z=>by have p:(im:Option HO)=ij u:=z; cases p) (λb z=>absurd rfl z) λz=>absurd rfl z
 | none=>
  refine j (λb=>if b=a then ij (.frz { cls:=.type "list",data:=.seq vs.toArray } (.lst (ns.map V.int))) else im) (λb=>?_) (.inl (.inr ⟨{ cls:=.type "list",data:=.seq vs.toArray },Aa rfl⟩)) (λb u z=>?_) (λb z=>?_) λ_=>I
  ·by_cases g:b=a;·exact .inr ⟨_,_,Aa g⟩
   ·exact .inl (Ab g)
  ·by_cases g:b=a;·have p:=(Aa g).symm.trans z;cases p;subst g;exact ⟨D,by rw [ay]; exact hl,vs,_,M,D⟩
   ·have p:=(Ab g).symm.trans z;cases p
  ·by_cases g:b=a;·exact g
   ·exact absurd (Ab g) z
theorem qfk {l:fS} {n k:Nat} {q:iF} {loose:List Str} {XP:(Str->Option iq)->Heap->Prop} {YP:iG->Heap->Prop} {d:DefRec} {K:lR->Frag} {CX:iG->CXT} {sp:iG->Sp} {x:Str}
  (hn:l.most=ij n) (r:n<=sizeLine) (hdf:d.params.defaults=[]) (hr:Room k mC)
  (B:∀ (w:iG) (h:Heap),YP w h->(K w.params).In h)
  (F:∀ (w:iG) (mg:Str->Option iq) (fa:Addr) (h:Heap),(K w.params).In h->h.Ns iC mg->mg d.name=ij (.ref fa) ->∃ fd:k6,(∀ (s:iw) (u:iq),mz s fd ⟨[u],[]⟩ [(x,u)]) /\
    ∀ base:Heap,(K w.params).In base->base.Ns iC mg->FnOk l.prog w (K w.params) mg base (CX w) k fa fd [x] (sp w))
  (p:∀ (w:iG) (H:Hp) (a:Addr) (ns:List Int),ns.length<=n->qjY H->SqL (K w.params) H a (ns.map V.int)->sp w [.ref a] H (λv _=>v=.bl iu) λ_ _ _=>False)
  (X:∀ (w:iG) (H:Hp) (s:iw) (e:iq) (s':iw),CX w [] H s (λ_ _ _=>False) e s'->False) :
  PySem.W.WalkO q loose XP YP l.row.toRowW d [] (λf vs=>ig f vs):=by
 refine Att.attach_call hn hdf λw s₀ j mg mb fa o pm cd doc a vs ns G Y D hd z t m i c hg=>?_;have y:=B w _ Y;obtain ⟨fd,A,C⟩:=F w mg fa _ y G.T.g t;exact qcB y G.T.g G.T.b G.T.builtins G.T.nolimit hg m i (bY c r) hr C A (λH O S=>p w H a ns c O S) λH e s'=>X w H j e s'
noncomputable def um (s:Stmt):Arguments:=match s with
 | .FunctionDef _ a _ _ _ _ _ _ _ _=>a
 | _=>{ posonlyargs:=[],args:=[],vararg:=im,kwonlyargs:=[],kw_defaults:=[],kwarg:=im,defaults:=[] }
noncomputable def kG (s:Stmt):List Stmt:=match s with
 | .FunctionDef _ _ b _ _ _ _ _ _ _=>b
 | _=>[]
noncomputable def qR (s:Stmt):lz:=match s with
 | .FunctionDef _ _ _ _ _ _ sc _ _ _=>sc
 | _=>{ kind:=.function,names:=[],isGenerator:=ir,isCoroutine:=ir }
structure Fun (K:Frag) (x qual:Str) (st:Stmt) (f:Addr) (fd:k6):Prop where
 ex:∃ (oc:iq) (od:Option Addr) (kV doc pm:iq) (an:Option Addr) (cdv ct:iq) (osl:Array (Option iq)),fd=ce x qual (um st) (kG st) (qR st) .none kV doc pm an cdv ct/\K.lookup f=ij ⟨oc,od,.func fd,osl⟩/\codeIn K cdv qual=iu
 kp:mm K (.ref f)=iu
variable {P:iF} {w:iG} {K:Frag} {qual:Str} {st:Stmt} {f:Addr}
section
variable {mg:Str->Option iq} {base:Heap}
theorem Fun.binds {x:Str} {fd:k6} {ps:List Str} (F:Fun K x qual st f fd)
  (h:∀ (kV doc pm:iq) (an:Option Addr) (cdv ct:iq) (us:List iq),us.length=ps.length->lB (ce x qual (um st) (kG st) (qR st) .none kV doc pm an cdv ct) ⟨us,[]⟩=pure (ps.zip us)):Binds K fd ps []:=by
 obtain ⟨oc,od,kV,doc,pm,an,cdv,ct,osl,rfl,j,d⟩:=F.ex;exact .all (h kV doc pm an cdv ct)
theorem Gy {x:Str} {oc:iq} {od an:Option Addr} {osl:Array (Option iq)} {kV doc pm cdv ct:iq} (l:K.lookup f=ij ⟨oc,od,.func (ce x qual (um st) (kG st) (qR st) .none kV doc pm an cdv ct),osl⟩)
  (c:codeIn K cdv qual=iu) (k:mm K (.ref f)=iu):Fun K x qual st f (ce x qual (um st) (kG st) (qR st) .none kV doc pm an cdv ct):=⟨⟨oc,od,kV,doc,pm,an,cdv,ct,osl,rfl,l,c⟩,k⟩
end
def Same (H H':Hp):Prop:=∀ b o,H b=ij o->H' b=ij o
theorem Same.refl (H:Hp):Same H H:=λ_ _ h=>h
variable {H:Hp}
theorem Same.trans {H1 H2:Hp} (a:Same H H1) (b:Same H1 H2):Same H H2:=λc o h=>b c o (a c o h)
variable {H':Hp} {a:Addr}
theorem Same.seq {xs:List V} (e:Same H H') (h:SqL K H a xs):SqL K H' a xs:=by
 rcases h with (h | ⟨o,h⟩) | h;·exact .inl (.inl (e _ _ h))
 ·exact .inl (.inr ⟨o,e _ _ h⟩)
 ·exact .inr h
variable {o:Option V} {u:iq} {d y:V}
section
variable {κ:Type} [DecidableEq κ]
noncomputable def WV (kvs:List (κ×V)) (k:κ):Option V:=(kvs.find? λkv=>decide (kv.1=k)).map (·.2)
noncomputable def zo (kvs:List (κ×V)) (k:κ) (v:V):List (κ×V):=
 if (kvs.any λkv=>decide (kv.1=k))=iu then kvs.map (λkv=>if kv.1=k then (kv.1,v) else kv) else kvs++[(k,v)]
theorem zA {p:κ×V} {r:List (κ×V)} {k:κ} (e:p.1=k):WV (p::r) k=ij p.2:=by simp [WV,cP,e]
theorem yO {p:κ×V} {r:List (κ×V)} {k:κ} (e:¬p.1=k):WV (p::r) k=WV r k:=by simp [WV,cP,e]
theorem Jx (k:κ):∀ kvs:List (κ×V),(kvs.any λkv=>decide (kv.1=k))=(WV kvs k).isSome
 | []=>rfl
 | p::r=>by
  rw [cI];by_cases e:p.1=k;·simp only [zA e,Ad e,Bool.true_or,Option.isSome_some]
  ·rw [yO e,Ac e,Bool.false_or]; exact Jx k r
theorem wy (kvs:List (κ×V)) (k:κ) (v:V):(zo kvs k v).length<=kvs.length+1:=by
 unfold zo;split;·rw [ay]; lia
 ·rw [af,ao,aX]; lia
theorem RelO.isSome_eq {u:Option iq} (r:RelO o u):o.isSome=u.isSome:=by
 cases o with
 | none=>cases u with
  | none=>rfl
  | some _=>exact (show False from r).elim
 | some _=>cases u with
  | none=>exact (show False from r).elim
  | some _=>rfl
theorem RelO.getD {u:Option iq} {d':iq} (r:RelO o u) (rd:RelV d d'):RelV (o.getD d) (u.getD d'):=by
 cases o with
 | none=>cases u with
  | none=>exact rd
  | some _=>exact (show False from r).elim
 | some _=>cases u with
  | none=>exact (show False from r).elim
  | some _=>exact r
theorem KV.val {kvs:List (κ×V)} {vs:List (κ×iq)} (r:KV kvs vs) (k:κ):RelO (WV kvs k) (mD vs k):=by
 unfold KV at r
 induction r with
 | nil=>exact cU
 | @cons p q ps qs h t ih=>
  obtain ⟨h1,h2⟩:=h;by_cases e:p.1=k
  ·have a:q.1=k:=h1.symm.trans e;have b:mD (q::qs) k=ij q.2:=by simp [mD,cP,a]
   rw [zA e,b]; exact h2
  ·have a:¬q.1=k:=λz=>e (h1.trans z);have b:mD (q::qs) k=mD qs k:=by simp [mD,cP,a]
   rw [yO e,b]; exact ih
theorem KV.any {kvs:List (κ×V)} {vs:List (κ×iq)} (r:KV kvs vs) (k:κ):(kvs.any λkv=>decide (kv.1=k))=vs.any λkv=>decide (kv.1=k):=by
 unfold KV at r
 induction r with
 | nil=>rfl
 | cons h t j=>rw [cI,cI,j,h.1]
theorem KV.repl {kvs:List (κ×V)} {vs:List (κ×iq)} (r:KV kvs vs) (k:κ) (c:RelV y u):KV (kvs.map λkv=>if kv.1=k then (kv.1,y) else kv) (vs.map λkv=>if kv.1=k then (kv.1,u) else kv):=by
 unfold KV at r ⊢
 induction r with
 | nil=>exact .nil
 | @cons p q ps qs h t ih=>
  rw [aD,aD];refine .cons ?_ ih;obtain ⟨h1,h2⟩:=h;by_cases e:p.1=k;·rw [Aa e,Aa (h1.symm.trans e)]; exact ⟨h1,c⟩
  ·rw [Ab e,Ab (λz=>e (h1.trans z))]; exact ⟨h1,h2⟩
theorem KV.put {kvs:List (κ×V)} {vs:List (κ×iq)} (r:KV kvs vs) (k:κ) (c:RelV y u):KV (zo kvs k y) (stored vs k u):=by
 unfold zo stored;rw [r.any k];by_cases e:(vs.any λkv=>decide (kv.1=k))=iu;·rw [Aa e,Aa e]; exact r.repl k c
 ·rw [Ab e,Ab e]; exact Paired.snoc r ⟨rfl,c⟩
theorem KV.length {kvs:List (κ×V)} {vs:List (κ×iq)} (r:KV kvs vs):kvs.length=vs.length:=fJ r
end
theorem WW {k:Key} (r:RelV (kV k) u):(qZ P w).is k u=true:=by
 cases k with
 | inl i=>obtain ⟨t,e⟩:=(show ∃ t,u=hZ i t from r); subst e; exact WQ P w i t
 | inr x=>obtain ⟨t,e⟩:=(show ∃ t,u=f9 x t from r); subst e; exact WR P w x t
theorem Vl:∀ {ks:List Key} {us:List iq},Vals (ks.map kV) us->ItemsAre (qZ P w) ks us
 | [],_,r=>by rw [bU] at r; cases r; exact .nil
 | k::ks,_,r=>by
  rw [aD] at r;cases r with
  | cons h t=>exact .cons (WW h) (Vl t)
abbrev KT (H:Hp):List (List Key×V)->List (List Key×Addr×iq)->Prop:=ml λp q=>p.1=q.1/\H q.2.1=ij (.tup (p.1.map kV))/\RelV p.2 q.2.2
variable {xs:List (List Key×Addr×iq)} {kvs:List (List Key×V)}
theorem KT.val (r:KT H kvs xs) (k:List Key):RelO (WV kvs k) ((atKey xs k).map (·.2)):=by
 induction r with
 | nil=>exact cU
 | @cons p q ps qs h t ih=>
  obtain ⟨h1,_,h2⟩:=h;by_cases e:p.1=k
  ·have a:q.1=k:=h1.symm.trans e;have b:atKey (q::qs) k=ij q.2:=by simp [atKey,cP,a]
   rw [zA e,b]; exact h2
  ·have a:¬q.1=k:=λz=>e (h1.trans z);have b:atKey (q::qs) k=atKey qs k:=by simp [atKey,cP,a]
   rw [yO e,b]; exact ih
theorem KT.repl (r:KT H kvs xs) (k:List Key) (c:RelV y u):KT H (kvs.map λkv=>if kv.1=k then (kv.1,y) else kv) (xs.map (putAt k u)):=by
 induction r with
 | nil=>exact .nil
 | @cons p q ps qs h t ih=>
  rw [aD,aD];refine .cons ?_ ih;obtain ⟨h1,h2,g⟩:=h;unfold putAt;by_cases e:p.1=k;·rw [Aa e,Aa (h1.symm.trans e)]; exact ⟨h1,h2,c⟩
  ·rw [Ab e,Ab (λz=>e (h1.trans z))]; exact ⟨h1,h2,g⟩
theorem KT.put (r:KT H kvs xs) (k:List Key) {b:Addr} (d:H b=ij (.tup (k.map kV))) (c:RelV y u):KT H (zo kvs k y) (storedH xs k b u):=by
 have e:(kvs.any λkv=>decide (kv.1=k))=(atKey xs k).isSome:=by rw [Jx,(r.val k).isSome_eq,fE]
 unfold zo storedH;rw [e];by_cases q:(atKey xs k).isSome=iu;·rw [Aa q,Aa q]; exact r.repl k c
 ·rw [Ab q,Ab q]; exact Paired.snoc r ⟨rfl,d,c⟩
theorem KT.keeps (r:KT H kvs xs) (ht:∀ b ys,H b=ij (.tup ys)->H' b=ij (.tup ys)):KT H' kvs xs:=
 Paired.mapP r λ_ _ z=>⟨z.1,ht _ _ z.2.1,z.2.2⟩
section
variable {h:Heap}
theorem qhx {u:HO} (ok:HOk P w H h) (e:Rd H a u):ObjOk P w H h a u:=e.ok ok
theorem Vm {kvs:List (Key×V)} (ok:HOk P w H h) (e:Rd H a (.dK kvs)):kvs.length<=sizeLine/\(a == j0)=ir/\∃ vs,KV kvs vs/\h.DictOf (qZ P w) a vs:=
 show ObjOk P w H h a (.dK kvs) from qhx ok e
theorem qcC {kvs:List (Key×V)} (ok:HOk P w H h) (e:H a=ij (.dK kvs)):kvs.length<=sizeLine/\(a == j0)=ir/\∃ vs,KV kvs vs/\h.DictOf (qZ P w) a vs:=Vm ok (.inl e)
theorem xZ {ks:List Key} (ok:HOk P w H h) (e:H a=ij (.tup (ks.map kV))):(l4 (qZ P w)).is h ks a:=by
 obtain ⟨_,its,r,o,h1,h2,n,g⟩:=(show ObjOk P w H h a (.tup (ks.map kV)) from ok a _ e)
 exact ⟨o,its.toArray,n,h1,h2,g,by simpa using Vl r⟩
theorem WX (ok:HOk P w H h) (e:Rd H a (.dT kvs)):kvs.length<=sizeLine/\(a == j0)=ir /\
  ∃ xs,KT H kvs xs/\h.DictOfH (l4 (qZ P w)) a xs:=by
 obtain ⟨z,y,xs,r,o,es,ep,h1,h2,g,c,b⟩:=(show ObjOk P w H h a (.dT kvs) from qhx ok e)
 refine ⟨z,y,xs,r,o,es,ep,h1,h2,g,c,λx hx=>?_,b⟩;have all:∀ {l:List (List Key×V)} {m:List (List Key×Addr×iq)},KT H l m->∀ x∈m,(l4 (qZ P w)).is h x.1 x.2.1:=by
  intro l m q
  induction q with
  | nil=>intro x hx; exact nomatch hx
  | @cons p q ps qs hq t ih=>
   intro x hx;rcases ac.mp hx with e | hx
   ·subst e;exact xZ ok (by rw [<-hq.1]; exact hq.2.1)
   ·exact ih x hx
 exact all r x hx
theorem qjZ (ok:HOk P w H h) (e:H a=ij (.dT kvs)):kvs.length<=sizeLine/\(a == j0)=ir /\
  ∃ xs,KT H kvs xs/\h.DictOfH (l4 (qZ P w)) a xs:=WX ok (.inl e)
end
def DGet (H:Hp) (a:Addr) (y:V) (r:Option V):Prop:=
 (∃ kvs k,Rd H a (.dK kvs)/\y=kV k/\r=WV kvs k)\/∃ kvs k b,Rd H a (.dT kvs)/\y=.ref b/\H b=ij (.tup (k.map kV))/\r=WV kvs k
def DPut (H:Hp) (a:Addr) (y v:V) (H':Hp):Prop:=
 (∃ kvs k,H a=ij (.dK kvs)/\y=kV k/\kvs.length < sizeLine/\H'=upd H a (.dK (zo kvs k v))) \/
 ∃ kvs k b,H a=ij (.dT kvs)/\y=.ref b/\H b=ij (.tup (k.map kV))/\kvs.length < sizeLine/\H'=upd H a (.dT (zo kvs k v))
theorem DGet.k {kvs:List (Key×V)} {k:Key} (e:H a=ij (.dK kvs)):DGet H a (kV k) (WV kvs k):=.inl ⟨kvs,k,.inl e,rfl,rfl⟩
variable {v:V}
theorem DPut.k {kvs:List (Key×V)} {k:Key} (e:H a=ij (.dK kvs)) (hl:kvs.length < sizeLine):DPut H a (kV k) v (upd H a (.dK (zo kvs k v))):=.inl ⟨kvs,k,e,rfl,hl,rfl⟩
variable {X:Cx} {pins:Pns} {σ:St} {s:iw} {A:iJ} {E Q:iq->iw->Prop} {h':Heap}
section
variable {r:iq}
theorem Inv.big (I:Inv X pins σ H s):j0 < s.heap.objs.size:=by have h:iC < s.heap.objs.size:=(I.mod.glob.keeps I.bk).lt;exact eh 'd' h
theorem Gz (j:A.units+1 < iW) (I:Inv X pins σ H s) (g:DGet H a y (ij v)) (i:RelV y u) (h:∀ T s',Inv X pins σ H s'->RelV v T->Q T s'):iB 'c' A (mI (.ref a) u) Q E s:=by
 rcases g with ⟨kvs,k,e,f,l⟩ | ⟨kvs,k,b,e,f,J,l⟩
 ·subst f;obtain ⟨z,hd,vs,rel,dd⟩:=Vm I.hok e;obtain ⟨T,c,r⟩:=RelO.some_of (v:=v) (o:=mD vs k) (by rw [l]; exact rel.val k);exact wpAny_getItem_of (WW i) dd.mapOf c (h T _ (I.tok _) r)
 ·subst f;cases (show u=bA b from i);obtain ⟨z,hd,xs,rel,dd⟩:=WX I.hok e;obtain ⟨T,c,r⟩:=RelO.some_of (v:=v) (o:=(atKey xs k).map (·.2)) (by rw [l]; exact rel.val k);obtain ⟨p,hp,d⟩:=aY.mp c;refine wpAny_getItem_heap (lh j) (xZ I.hok J) dd hp ?_;rw [d];exact h T _ (I.tok _) r
theorem qly (d:A.units+1 < iW) (I:Inv X pins σ H s) (g:DGet H a y o) (c:RelV y u) (h:∀ s',Inv X pins σ H s'->Q (.bool o.isSome) s'):iB 'c' A (iI .In u (.ref a)) Q E s:=by
 rcases g with ⟨kvs,k,e,f,l⟩ | ⟨kvs,k,b,e,f,J,l⟩
 ·subst f;obtain ⟨z,hd,vs,rel,dd⟩:=Vm I.hok e;refine wpAny_in_of (WW c) hd dd.mapOf ?_;rw [<-(rel.val k).isSome_eq,<-l];exact h _ (I.tok _)
 ·subst f;cases (show u=bA b from c);obtain ⟨z,hd,xs,rel,dd⟩:=WX I.hok e;refine wpAny_in_heap (lh d) (xZ I.hok J) hd dd ?_;have q:=(rel.val k).isSome_eq;rw [fE] at q;rw [<-q,<-l];exact h _ (I.tok _)
theorem qfl (d:A.units+1 < iW) (I:Inv X pins σ H s) (g:DGet H a y o) (c:RelV y u) (h:∀ s',Inv X pins σ H s'->Q (.bool (!o.isSome)) s'):iB 'c' A (iI .NotIn u (.ref a)) Q E s:=by
 rcases g with ⟨kvs,k,e,f,l⟩ | ⟨kvs,k,b,e,f,J,l⟩
 ·subst f;obtain ⟨z,hd,vs,rel,dd⟩:=Vm I.hok e;refine wpAny_notIn_of (WW c) hd dd.mapOf ?_;rw [<-(rel.val k).isSome_eq,<-l];exact h _ (I.tok _)
 ·subst f;cases (show u=bA b from c);obtain ⟨z,hd,xs,rel,dd⟩:=WX I.hok e;refine wpAny_notIn_heap (lh d) (xZ I.hok J) hd dd ?_;have q:=(rel.val k).isSome_eq;rw [fE] at q;rw [<-q,<-l];exact h _ (I.tok _)
theorem Jy {t':Nat} {o:HO} (I:Inv X pins σ H s) (m:Mut (H a)) (c:bI a s.heap h') (i:∃ q,h'.get? a=ij q) (new:ObjOk X.prog X.w (upd H a o) h' a o):Inv X pins σ (upd H a o) { s with heap:=h',toks:=t' }:=
 I.write (x:=a) (e:=a) m (.inl rfl) (λb q d z=>(c.2 b d).trans z) i new
theorem Yn {H':Hp} {kvs:List (Key×V)} {vs:List (Key×iq)} (z:kvs.length<=sizeLine) (hd:(a == j0)=ir) (rel:KV kvs vs) (dd:h'.DictOf (qZ P w) a vs):ObjOk P w H' h' a (.dK kvs):=⟨z,hd,vs,rel,dd⟩
theorem GA {Q:Unit->iw->Prop} (t:A.units+1 < iW) (I:Inv X pins σ H s) (g:DPut H a y v H') (n:RelV y u) (o:RelV v r) (h:∀ s',Inv X pins σ H' s'->Q () s'):iB 'c' A (setItem (.ref a) u r) Q E s:=by
 rcases g with ⟨kvs,k,e,j,l,m⟩ | ⟨kvs,k,b,e,j,J,l,m⟩
 ·subst j m;obtain ⟨z,hd,vs,rel,dd⟩:=qcC I.hok e;have f:vs.length<=sizeLine:=by rw [<-rel.length]; exact z
  have hl:(zo kvs k v).length<=sizeLine:=by have:=wy kvs k v; lia
  refine wpAny_setItem_pairs (hsz:=f) (WW n) dd λh' d i=>h _ ?_;have x:∃ q,h'.get? a=ij q:=let ⟨q,_,_,hq,_⟩:=d; ⟨q,hq⟩
  exact Jy I (by rw [e]; exact cU) i x (Yn hl hd (rel.put k o) d)
 ·subst j m;cases (show u=bA b from n);obtain ⟨z,hd,xs,rel,dd⟩:=qjZ I.hok e;have f:xs.length<=sizeLine:=by rw [<-fJ rel]; exact z
  have hl:(zo kvs k v).length<=sizeLine:=by have:=wy kvs k v; lia
  refine wpAny_setItem_heap (hsz:=f) (lh t) (xZ I.hok J) dd λh' d i=>h _ ?_;obtain ⟨q,es,ep,hq,h2,D,C,_,B⟩:=d;refine Jy I (by rw [e]; exact cU) i ⟨q,hq⟩ ⟨hl,hd,_,(rel.put k J o).keeps λc ys p=>?_,q,es,ep,hq,h2,D,C,B⟩;rw [qB (qjC p e (λz=>nomatch z))];exact p
end
section
variable {kvs:List (Key×V)} {k:Key}
theorem qj0 (I:Inv X pins σ H s) (e:Rd H a (.dK kvs)) (h:∀ t s',Inv X pins σ H s'->Q (.int kvs.length t) s'):iB 'c' A (call (.builtin "len") [.ref a]) Q E s:=by obtain ⟨z,hd,vs,rel,dd⟩:=Vm I.hok e;refine call_len_dict hd dd (by rw [<-rel.length]; rw [iM] at z; lia) ?_;rw [<-rel.length];exact h _ _ (I.tok _)
end
theorem WY (I:Inv X pins σ H s) (g:DGet H a y o):s.TypeIs (.ref a) "dict":=by
 rcases g with ⟨kvs,k,e,_,_⟩ | ⟨kvs,k,b,e,_,_,_⟩
 ·obtain ⟨_,_,vs,_,dd⟩:=Vm I.hok e;exact dd.typeIs
 ·obtain ⟨_,_,xs,_,dd⟩:=WX I.hok e;exact dd.typeIs
def qj1 (td ty tv:TE):TS:=λD σ H=>tv σ H λv H1=>td σ H1 λx H2=>ty σ H2 λy c=>∃ a b,x=.ref a/\DPut c a y v b/\D.nx σ b
variable {pos:Pos}
section
variable {o i e value:Expr} {pos' tpos:Pos} {td ty tv:TE}
theorem qfm (k:X.A.units+1 < iW) (m:PE X o td) (hi:PE X i ty) (j:PE X value tv) (l:lm value (ij (.Subscript o i pos')) pos.line X.env=pure ir):PS X (.Assign [.Subscript o i pos'] value pos) (qj1 td ty tv):=by refine ⟨?_⟩;intro pins s σ H D I h;refine wpAny_Assign_Subscript (thn (j pins s σ H _ I h) λr s1 ⟨v,H1,t,b,f⟩=>thn (m pins s1 σ H1 _ t f) λu s2 ⟨x,H2,p,d,e⟩=>thn (hi pins s2 σ H2 _ p e) λz s3 ⟨y,C,n,c,a,w,ex,g,q⟩=>?_) l;subst ex;obtain rfl:u=bA a:=d;exact GA k n g c b λs4 B=>⟨σ,w,B,q⟩
end
theorem Yo (h:Heap) (d:j0 < h.objs.size):ObjOk P w H (h.push { cls:=.type "dict",data:=.dict #[] }) h.objs.size (.dK []):=
 ⟨bH _,beq_eq_false_iff_ne.mpr (bo (aC d)),[],.nil,Heap.DictOf.new h⟩
def qhy:TE:=λ_ H Q=>∀ p,H p=im->Q (.ref p) (upd H p (.dK []))
section
theorem qcD:PE X (.Dict [] [] pos) qhy:=⟨λpins s σ H Q I h=>
 wpAny_Dict_empty ⟨.ref s.heap.objs.size,_,I.laid (a:=s.heap.objs.size) (o:=.dK []) (t':=s.toks) (λ_ _ q=>aa _ q) (aA _) (Yo s.heap I.big),rfl,h _ (I.hok.fresh (aA _))⟩⟩
end
def GB:List (TE×TE)->St->Hp->(List (V×V)->Hp->Prop)->Prop
 | [],_,H,Q=>Q [] H
 | (tk,tv)::r,σ,H,Q=>tk σ H λx H1=>tv σ H1 λy H2=>GB r σ H2 λps b=>Q ((x,y)::ps) b
abbrev VV:List (V×V)->List (iq×iq)->Prop:=ml λp q=>RelV p.1 q.1/\RelV p.2 q.2
def PPs (X:Cx) (pos:Pos) (keys:List (Option Expr)) (v:List Expr) (trs:List (TE×TE)):Prop:=
 ∀ (pins:Pns) (s:iw) (σ:St) (H:Hp) (Q:List (V×V)->Hp->Prop),Inv X pins σ H s->GB trs σ H Q ->iB 'c' X.A (evalPairs (pairTrees keys v X.env pos)) (λvs s'=>∃ ps H',Inv X pins σ H' s'/\VV ps vs/\Q ps H') X.xe s
theorem qfn:PPs X pos [] [] []:=λpins s σ H Q I h=>pairTrees_nil_walk ⟨[],H,I,.nil,h⟩
variable {trs:List (TE×TE)}
theorem qcE {k v:Expr} {ks:List (Option Expr)} {vs:List Expr} {tk tv:TE} (f:PE X k tk) (e:PE X v tv) (hr:PPs X pos ks vs trs):PPs X pos (ij k::ks) (v::vs) ((tk,tv)::trs):=λpins s σ H Q I h=>
 pairTrees_cons_walk (thn (f pins s σ H _ I h) λu s1 ⟨x,H1,i,d,b⟩=>thn (e pins s1 σ H1 _ i b) λw s2 ⟨y,H2,g,c,a⟩=>
  thn (hr pins s2 σ H2 _ g a) λws s3 ⟨ps,l,j,rel,q⟩=>⟨(x,y)::ps,l,j,.cons ⟨d,c⟩ rel,q⟩)
noncomputable def za (kvs more:List (Key×V)):List (Key×V):=more.foldl (λacc kv=>zo acc kv.1 kv.2) kvs
theorem KV.merge:∀ {more:List (Key×V)} {rs:List (Key×iq)} {kvs:List (Key×V)} {vs:List (Key×iq)},KV more rs->KV kvs vs->KV (za kvs more) (merged vs rs):=by
 intro more rs kvs vs r;unfold KV at r
 induction r generalizing kvs vs with
 | nil=>intro q; exact q
 | @cons p q ps qs h t ih=>
  intro r0;have e:KV (zo kvs p.1 p.2) (stored vs q.1 q.2):=by have:=r0.put p.1 h.2;rw [<-h.1]; exact this
  exact ih e
theorem wz:∀ (more kvs:List (Key×V)),(za kvs more).length<=kvs.length+more.length
 | [],kvs=>by show kvs.length<=kvs.length+0; lia
 | p::r,kvs=>by have h1:=wz r (zo kvs p.1 p.2);have h2:=wy kvs p.1 p.2;show (za (zo kvs p.1 p.2) r).length<=_;rw [ao]; lia
theorem QM {P:iF} {w:iG}:∀ {kvs:List (Key×V)} {ws:List (iq×iq)},VV (kvs.map λkv=>(kV kv.1,kv.2)) ws->∃ rs,Carries (qZ P w) ws rs/\KV kvs rs
 | [],_,r=>by rw [bU] at r; cases r; exact ⟨[],cU,.nil⟩
 | p::kvs,_,r=>by
  rw [aD] at r;cases r with
  | @cons a b as bs h t=>obtain ⟨rs,c,q⟩:=QM (P:=P) (w:=w) t;obtain ⟨e,d⟩:=b;exact ⟨(p.1,d)::rs,⟨WW h.1,rfl,c⟩,.cons ⟨rfl,h.2⟩ q⟩
def qj2 (trs:List (TE×TE)):TE:=λσ H Q=>∀ p,H p=im->GB trs σ (upd H p (.dK [])) λps H2=>H2 p=ij (.dK [])/\∃ kvs:List (Key×V),ps=kvs.map (λkv=>(kV kv.1,kv.2))/\kvs.length<=15/\Q (.ref p) (upd H2 p (.dK (za [] kvs)))
theorem qfo {keys:List (Option Expr)} {v:List Expr} (h:PPs X pos keys v trs) (l:keys.all (·.isSome)=iu) (hl:keys.length=v.length) (n:keys≠[])
  (b:keys.length<=15):PE X (.Dict keys v pos) (qj2 trs):=by
 refine ⟨?_⟩;intro pins s σ H Q I q;have hn:=I.hok.fresh (aA s.heap.objs.size);have p:=I.laid (a:=s.heap.objs.size) (o:=.dK []) (h':=s.heap.push { cls:=.type "dict",data:=.dict #[] }) (t':=s.toks) (λ_ _ q=>aa _ q) (aA _) (Yo s.heap I.big);refine wpAny_Dict_walk (knd:=qZ X.prog X.w) l hl n b (thn (h pins _ σ _ _ p (q _ hn)) λws s2 ⟨ps,H2,k,rel,e,kvs,ep,t,g⟩=>?_);subst ep;obtain ⟨rs,c,r⟩:=QM (P:=X.prog) (w:=X.w) rel;obtain ⟨z,hd,f,r0,dd⟩:=qcC k.hok e;cases r0;refine ⟨rs,c,dd,λh' d j=>⟨.ref s.heap.objs.size,_,?_,rfl,g⟩⟩;have i:(za [] kvs).length<=sizeLine:=by have h1:=wz kvs [];rw [aX] at h1;rw [iM]; lia
 have m:∃ q,h'.get? s.heap.objs.size=ij q:=let ⟨q,_,_,hq,_⟩:=d; ⟨q,hq⟩
 exact Jy k (by rw [e]; exact cU) j m (Yn i hd (r.merge .nil) d)
structure M2 (X:Cx) (o:Expr) (m:Str) (apos:Pos) (e f:Expr) (cpos:Pos):Prop where
 base:i7 o m X.env (eval o X.env)=eval o X.env
 few:((iS cpos (iA [e,f] X.env)).all (λx=>!x.1)&&(lq cpos (iZ [] X.env)).all (λx=>x.1.isSome)
  && decide (([e,f]:List Expr).length+([]:List i5).length+(if ([]:List i5).isEmpty then 0 else 1) < 30))=iu
 line:(apos.endLine == cpos.line)=iu
 trees:iS cpos (iA [e,f] X.env)=[(ir,eval e X.env),(ir,eval f X.env)]
def IsD (H:Hp) (a:Addr):Prop:=(∃ kvs,Rd H a (.dK kvs))\/∃ kvs,Rd H a (.dT kvs)
theorem qhz (I:Inv X pins σ H s) (d:IsD H a):s.TypeIs (.ref a) "dict"/\(∀ b,bA a=.ref b->∃ o,s.heap.get? b=ij o/\o.dict=im)/\(a == j0)=false:=by
 rcases d with ⟨kvs,e⟩ | ⟨kvs,e⟩
 ·obtain ⟨_,hd,vs,_,dd⟩:=Vm I.hok e;refine ⟨dd.typeIs,λb q=>?_,hd⟩;cases q;obtain ⟨o,_,_,h1,h2,_⟩:=dd;exact ⟨o,h1,h2.2.1⟩
 ·obtain ⟨_,hd,xs,_,dd⟩:=WX I.hok e;refine ⟨dd.typeIs,λb q=>?_,hd⟩;cases q;obtain ⟨o,_,_,h1,h2,_⟩:=dd;exact ⟨o,h1,h2.2.1⟩
section
variable {r:iq}
theorem qhA (i:A.units+1 < iW) (I:Inv X pins σ H s) (g:DGet H a y o) (c:RelV y u) (rd:RelV d r) (h:∀ T s',Inv X pins σ H s'->RelV (o.getD d) T->Q T s'):iB 'c' A (call (.builtin "dict.get") [.ref a,u,r]) Q E s:=by
 rcases g with ⟨kvs,k,e,f,l⟩ | ⟨kvs,k,b,e,f,J,l⟩
 ·subst f;obtain ⟨z,hd,vs,rel,dd⟩:=Vm I.hok e;refine call_meetsIn et dd.typeIs PySem.F.entry_dict_get (PySem.F.args_dict_get_3 _ _ _) (meets_dict_get_default (qZ X.prog X.w) a (WW c) hd r) ⟨_,dd.mapOf,h _ _ (I.tok _) ?_⟩;rw [l];exact (rel.val k).getD rd
 ·subst f;cases (show u=bA b from c);obtain ⟨z,hd,xs,rel,dd⟩:=WX I.hok e;refine call_meetsIn et dd.typeIs PySem.F.entry_dict_get (PySem.F.args_dict_get_3 _ _ _) (meetsH_dict_get_default (l4 (qZ X.prog X.w)) a b hd r) ⟨lh i,k,xs,xZ I.hok J,dd,h _ _ (I.tok _) ?_⟩;rw [l];exact (rel.val k).getD rd
end
def qhB (td ty tx:TE):TE:=λσ H Q=>td σ H λx H1=>∃ a,x=.ref a/\IsD H1 a/\ty σ H1 λy H2=>tx σ H2 λz b=>∃ o,DGet b a y o/\Q (o.getD z) b
section
variable {o e f:Expr} {apos cpos:Pos} {td ty tx:TE}
theorem qcF (l:X.A.units+1 < iW) (n:PE X o td) (t:PE X e ty) (p:PE X f tx) (m:M2 X o "get" apos e f cpos):PE X (.Call (.Attribute o "get" apos) [e,f] [] cpos) (qhB td ty tx):=by
 refine ⟨?_⟩;intro pins s σ H Q I h;refine wpAny_Call_method m.base m.few m.line PySem.F.plainAttrs_dict et PySem.F.type_dict_get (thn (n pins s σ H _ I h) λu s1 ⟨x,H1,b,i,a,ex,d,k⟩=>?_);subst ex;obtain rfl:u=bA a:=i;obtain ⟨t1,t2,_⟩:=qhz b d;refine ⟨t1,t2,?_⟩;rw [m.trees];refine Calls.callWith_builtin rfl (eY (dR (thn (t pins s1 σ H1 _ b k) λE s2 ⟨y,H2,w,c,j⟩=>
  dR (thn (p pins s2 σ H2 _ w j) λfv s3 ⟨z,C,v,rz,D,g,q⟩=>fA ?_))))
 exact qhA l v g c rz λT s4 B r=>⟨_,C,B,r,q⟩
end
section
theorem GC:uj X (.builtin "len") (λxs H Q=>∃ a kvs,xs=[V.ref a]/\H a=ij (.dK kvs)/\Q (.int kvs.length) H):=by intro pins s σ H xs us Q I r h;obtain ⟨a,kvs,rfl,g,q⟩:=h;obtain ⟨u,rfl,B⟩:=yM r;cases B;exact qj0 I (.inl g) λt s' b=>⟨.int kvs.length,H,b,⟨t,rfl⟩,q⟩
end
end L2
namespace L2.D2
open PySem PySem.Spec PyProof.Rows
variable {b:List Nat}
theorem kZ {a:List Nat} (h:(a.all λi=>decide (i∈b))=iu):∀ i∈a,i∈b:=λi hi=>Ae (aQ.mp h i hi)
theorem yP {i:Nat} (h:decide (i∈b)=ir):i∉b:=of_decide_eq_false h
noncomputable def WZ:Expr->Bool
 | .Starred ..=>ir
 | _=>iu
variable {e:Expr} {env:Env}
theorem js {es:List Expr} (h:WZ e=iu):iA (e::es) env=(ir,eval e env)::iA es env:=by cases e <;> first | rfl | cases h
theorem qT (h:WZ e=iu):iA [e] env=[(ir,eval e env)]:=js h
theorem qcG {a b:Expr} (h:WZ a=iu) (k:WZ b=iu):iA [a,b] env=[(ir,eval a env),(ir,eval b env)]:=by rw [js h,qT k]
variable {pos:Pos}
theorem wA:∀ {es:List Expr},es.all WZ=iu->(iS pos (iA es env)).any (·.1)=ir
 | [],_=>rfl
 | e::es,h=>by rw [g0,aS] at h;rw [js h.1];exact wA h.2
theorem wC (h:WZ e=iu):((iS pos (iA [e] env)).all (λx=>!x.1)&&(lq pos (iZ [] env)).all (λx=>x.1.isSome)
   && decide ([e].length+([]:List i5).length+(if ([]:List i5).isEmpty then 0 else 1) < 30))=true:=by rw [qT h]; rfl
inductive D where
 | non | bl (b:Bool) | int (i:Int) | str (x:Str)
 | tup (xs:List D) | lst (xs:List D) | dct (kvs:List (Key×D)) | raw (v:V)
 | xcp (C:Addr) | ins (C:Addr) (fs:List (Str×D)) | at_ (a:Addr) (xs:List D)
 deriving Inhabited
abbrev Sl:=List (Option D)
inductive Out (α:Type) where
 | ok (a:α) | exc (c:Str) (o:Sl) | bad
variable {α β:Type}
noncomputable def Out.bind (o:Out α) (k:α->Out β):Out β:=match o with
 | .ok a=>k a
 | .exc c o=>.exc c o
 | .bad=>.bad
@[simp] theorem Out.og (a:α) (k:α->Out β):(Out.ok a).bind k=k a:=rfl
@[simp] theorem Out.exc_bind (c:Str) (o:Sl) (k:α->Out β):(Out.exc c o:Out α).bind k=.exc c o:=rfl
@[simp] theorem Out.bad_bind (k:α->Out β):(Out.bad:Out α).bind k=.bad:=rfl
noncomputable def QN (a C:Addr):HO:=.ext λh=>∃ o vs,h.get? a=ij o/\o.cls=.ref C/\o.data=.fields vs
mutual
/-- the value v is the data d,all its objects in F -/
inductive Is (K:Frag) (F:Hp):V->D->Prop
 | non:Is K F .non .non
 | bl (b:Bool):Is K F (.bl b) (.bl b)
 | int (i:Int):Is K F (.int i) (.int i)
 | str {x:Str} (h:x.length<=sizeLine):Is K F (.str x) (.str x)
 | tup {a:Addr} {xs:List V} {ds:List D} (h:SqT K F a xs) (t:IsL K F xs ds):Is K F (.ref a) (.tup ds)
 | lst {a:Addr} {xs:List V} {ds:List D} (h:SqL K F a xs) (t:IsL K F xs ds):Is K F (.ref a) (.lst ds)
 | dct {a:Addr} {kv:List (Key×V)} {kvs:List (Key×D)} (h:F a=ij (.dK kv)) (t:IsK K F kv kvs):Is K F (.ref a) (.dct kvs)
 | raw (v:V):Is K F v (.raw v)
 | xcp {a C:Addr} (h:F a=ij (QN a C)):Is K F (.ref a) (.xcp C)
 | ins {a C dx:Addr} {fv:List (Str×V)} {fs:List (Str×D)} (h:F a=ij (.ins C dx fv)) (t:IsF K F fv fs):Is K F (.ref a) (.ins C fs)
 | at_ {a:Addr} {xs:List V} {ds:List D} (h:SqL K F a xs) (t:IsL K F xs ds):Is K F (.ref a) (.at_ a ds)
inductive IsL (K:Frag) (F:Hp):List V->List D->Prop
 | nil:IsL K F [] []
 | cons {v:V} {d:D} {vs:List V} {ds:List D} (h:Is K F v d) (t:IsL K F vs ds):IsL K F (v::vs) (d::ds)
inductive IsK (K:Frag) (F:Hp):List (Key×V)->List (Key×D)->Prop
 | nil:IsK K F [] []
 | cons {k:Key} {v:V} {d:D} {vs:List (Key×V)} {ds:List (Key×D)} (h:Is K F v d) (t:IsK K F vs ds):IsK K F ((k,v)::vs) ((k,d)::ds)
inductive IsF (K:Frag) (F:Hp):List (Str×V)->List (Str×D)->Prop
 | nil:IsF K F [] []
 | cons {k:Str} {v:V} {d:D} {vs:List (Str×V)} {ds:List (Str×D)} (h:Is K F v d) (t:IsF K F vs ds):IsF K F ((k,v)::vs) ((k,d)::ds)
end
theorem jg {K:Frag} {H H':Hp} {a:Addr} {xs:List V} (e:Same H H') (h:SqT K H a xs):SqT K H' a xs:=by
 rcases h with (h | ⟨o,h⟩) | h;·exact .inl (.inl (e _ _ h))
 ·exact .inl (.inr ⟨o,e _ _ h⟩)
 ·exact .inr h
mutual
theorem Is.mono {K:Frag} {F F':Hp} (e:Same F F'):∀ {v:V} {d:D},Is K F v d->Is K F' v d
 | _,_,.non=>.non
 | _,_,.bl b=>.bl b
 | _,_,.int i=>.int i
 | _,_,.str h=>.str h
 | _,_,.tup h t=>.tup (jg e h) (IsL.mono e t)
 | _,_,.lst h t=>.lst (e.seq h) (IsL.mono e t)
 | _,_,.dct h t=>.dct (e _ _ h) (IsK.mono e t)
 | _,_,.raw v=>.raw v
 | _,_,.xcp h=>.xcp (e _ _ h)
 | _,_,.ins h t=>.ins (e _ _ h) (IsF.mono e t)
 | _,_,.at_ h t=>.at_ (e.seq h) (IsL.mono e t)
theorem IsL.mono {K:Frag} {F F':Hp} (e:Same F F'):∀ {vs:List V} {ds:List D},IsL K F vs ds->IsL K F' vs ds
 | _,_,.nil=>.nil
 | _,_,.cons h t=>.cons (Is.mono e h) (IsL.mono e t)
theorem IsK.mono {K:Frag} {F F':Hp} (e:Same F F'):∀ {vs:List (Key×V)} {ds:List (Key×D)},IsK K F vs ds->IsK K F' vs ds
 | _,_,.nil=>.nil
 | _,_,.cons h t=>.cons (Is.mono e h) (IsK.mono e t)
theorem IsF.mono {K:Frag} {F F':Hp} (e:Same F F'):∀ {vs:List (Str×V)} {ds:List (Str×D)},IsF K F vs ds->IsF K F' vs ds
 | _,_,.nil=>.nil
 | _,_,.cons h t=>.cons (Is.mono e h) (IsF.mono e t)
end
theorem IsL.length {K:Frag} {F:Hp}:∀ {vs:List V} {ds:List D},IsL K F vs ds->vs.length=ds.length
 | _,_,.nil=>rfl
 | _,_,.cons _ t=>congrArg (·+1) (IsL.length t)
theorem IsL.get {K:Frag} {F:Hp}:∀ {vs:List V} {ds:List D} {i:Nat} {v:V},IsL K F vs ds->vs[i]?=ij v->∃ d,ds[i]?=ij d/\Is K F v d
 | _,_,_,_,.nil,e=>by simp at e
 | _,_,0,_,.cons h _,e=>by simp at e; subst e; exact ⟨_,rfl,h⟩
 | _,_,i+1,v,.cons _ t,e=>by obtain ⟨d,h1,h2⟩:=IsL.get (i:=i) (v:=v) t (by simpa using e);exact ⟨d,by simpa using h1,h2⟩
theorem IsL.getD {K:Frag} {F:Hp}:∀ {vs:List V} {ds:List D} {i:Nat} {d:D},IsL K F vs ds->ds[i]?=ij d->∃ v,vs[i]?=ij v/\Is K F v d
 | _,_,_,_,.nil,e=>by simp at e
 | _,_,0,_,.cons h _,e=>by simp at e; subst e; exact ⟨_,rfl,h⟩
 | _,_,i+1,v,.cons _ t,e=>by obtain ⟨d,h1,h2⟩:=IsL.getD (i:=i) (d:=v) t (by simpa using e);exact ⟨d,by simpa using h1,h2⟩
theorem IsL.append {K:Frag} {F:Hp}:∀ {vs ws:List V} {ds es:List D},IsL K F vs ds->IsL K F ws es->IsL K F (vs++ws) (ds++es)
 | _,_,_,_,.nil,s=>s
 | _,_,_,_,.cons h t,s=>.cons h (IsL.append t s)
theorem IsL.set {K:Frag} {F:Hp} {v:V} {d:D} (h:Is K F v d):∀ {vs:List V} {ds:List D} (i:Nat),IsL K F vs ds->IsL K F (vs.set i v) (ds.set i d)
 | _,_,_,.nil=>.nil
 | _,_,0,.cons _ t=>.cons h t
 | _,_,i+1,.cons q t=>.cons q (IsL.set h i t)
def OwnIs (K:Frag) (F H:Hp) (a:Addr):D->Prop
 | .lst ds=>∃ xs,H a=ij (.lst xs)/\IsL K F xs ds
 | .dct kvs=>∃ kv,H a=ij (.dK kv)/\IsK K F kv kvs
 | .ins C fs=>∃ dx fv,H a=ij (.ins C dx fv)/\IsF K F fv fs
 | .at_ b ds=>b=a/\∃ xs,H a=ij (.lst xs)/\IsL K F xs ds
 | _=>False
def TopIs (K:Frag) (F H:Hp) (v:V) (d:D):Prop:=Is K F v d\/∃ a,v=.ref a/\OwnIs K F H a d
inductive Mo where
 | sh | fr | any
def MoIs (K:Frag) (m:Mo) (H0 F H:Hp) (v:V) (d:D):Prop:=match m with
 | .sh=>Is K F v d
 | .fr=>∃ a,v=.ref a/\H0 a=im/\F a=im/\OwnIs K F H a d
 | .any=>TopIs K F H v d
theorem MoIs.top {K:Frag} {m:Mo} {H0 F H:Hp} {v:V} {d:D} (h:MoIs K m H0 F H v d):TopIs K F H v d:=by
 cases m with
 | sh=>exact .inl h
 | fr=>obtain ⟨a,e,_,_,o⟩:=h; exact .inr ⟨a,e,o⟩
 | any=>exact h
structure Chg (A:Addr->Prop) (F H F' H':Hp):Prop where
 keep:∀ b o,H b=ij o->¬A b->H' b=ij o
 stay:∀ b,H b≠im->H' b≠im
 grow:Same F F'
 new:∀ b,F' b≠im->F b≠im\/H b=im\/A b
theorem Chg.refl {A:Addr->Prop} {F H:Hp}:Chg A F H F H:=⟨λ_ _ e _=>e,λ_ h=>h,Same.refl _,λ_ h=>.inl h⟩
theorem Chg.trans {A A1:Addr->Prop} {F H F1 H1 c H2:Hp} (a:Chg A F H F1 H1) (b:Chg A1 F1 H1 c H2) (hA:∀ x,A1 x->A x\/H x=im):Chg A F H c H2 where
 keep:=λx o e n=>b.keep x o (a.keep x o e n) λz=>(hA x z).elim n λq=>by rw [e] at q; cases q
 stay:=λx h=>b.stay x (a.stay x h)
 grow:=a.grow.trans b.grow
 new:=λx h=>by
  rcases b.new x h with q | q | q;·exact a.new x q
  ·refine .inr (.inl ?_);cases e:H x with
   | none=>rfl
   | some o=>exact absurd q (a.stay x (by rw [e]; simp))
  ·rcases hA x q with z | z;·exact .inr (.inr z)
   ·exact .inr (.inl z)
theorem Chg.trans' {A:Addr->Prop} {F H F1 H1 c H2:Hp} (a:Chg A F H F1 H1) (b:Chg A F1 H1 c H2):Chg A F H c H2:=a.trans b λ_ z=>.inl z
theorem Chg.mono {A c:Addr->Prop} {F H F1 H1:Hp} (a:Chg A F H F1 H1) (h:∀ x,A x->c x):Chg c F H F1 H1:=
 ⟨λb o e n=>a.keep b o e λz=>n (h b z),a.stay,a.grow,λb z=>(a.new b z).imp id (Or.imp id (h b))⟩
abbrev No:Addr->Prop:=λ_=>False
theorem Chg.ofNo {A:Addr->Prop} {F H F1 H1:Hp} (a:Chg No F H F1 H1):Chg A F H F1 H1:=a.mono λ_ z=>z.elim
structure Rep (K:Frag) (own:List Nat) (F H:Hp) (σ:St) (ρ:Sl):Prop where
 sub:Same F H
 len:σ.length=ρ.length
 val:∀ i d,i∉own->ρ[i]?=ij (ij d)->∃ v,σ[i]?=ij (ij v)/\Is K F v d
 ow:∀ i d,i∈own->ρ[i]?=ij (ij d)->∃ a,σ[i]?=ij (ij (.ref a))/\F a=im/\OwnIs K F H a d
 opn:∀ i,i∈own->∃ d,ρ[i]?=ij (ij d)
 dis:∀ i j a,i∈own->j∈own->σ[i]?=ij (ij (V.ref a))->σ[j]?=ij (ij (V.ref a))->i=j
def OA (own:List Nat) (σ:St):Addr->Prop:=λb=>∃ i∈own,σ[i]?=ij (ij (V.ref b))
theorem OwnIs.there {K:Frag} {F H:Hp} {a:Addr} {d:D} (h:OwnIs K F H a d):H a≠none:=by
 cases d with
 | lst ds=>obtain ⟨xs,e,_⟩:=h; rw [e]; simp
 | dct ds=>obtain ⟨xs,e,_⟩:=h; rw [e]; simp
 | ins C fs=>obtain ⟨dx,xs,e,_⟩:=h; rw [e]; simp
 | at_ b ds=>obtain ⟨_,xs,e,_⟩:=h; rw [e]; simp
 | _=>exact h.elim
theorem OwnIs.grow {K:Frag} {F H F' H':Hp} {a:Addr} {d:D} (h:OwnIs K F H a d) (g:Same F F') (k:∀ o,H a=ij o->H' a=ij o):OwnIs K F' H' a d:=by
 cases d with
 | lst ds=>obtain ⟨xs,e,t⟩:=h; exact ⟨xs,k _ e,t.mono g⟩
 | dct ds=>obtain ⟨xs,e,t⟩:=h; exact ⟨xs,k _ e,t.mono g⟩
 | ins C fs=>obtain ⟨dx,xs,e,t⟩:=h; exact ⟨dx,xs,k _ e,t.mono g⟩
 | at_ b ds=>obtain ⟨J,xs,e,t⟩:=h; exact ⟨J,xs,k _ e,t.mono g⟩
 | _=>exact h.elim
theorem Rep.OA_there {K:Frag} {own:List Nat} {F H:Hp} {σ:St} {ρ:Sl} (r:Rep K own F H σ ρ) {b:Addr} (h:OA own σ b):H b≠im/\F b=none:=by obtain ⟨i,hi,e⟩:=h;obtain ⟨d,hd⟩:=r.opn i hi;obtain ⟨a,e1,c,o⟩:=r.ow i d hi hd;rw [e] at e1;cases e1;exact ⟨o.there,c⟩
theorem Rep.grow {K:Frag} {own:List Nat} {F H F' H':Hp} {σ:St} {ρ:Sl} (r:Rep K own F H σ ρ) (c:Chg No F H F' H') (s:Same F' H'):Rep K own F' H' σ ρ where
 sub:=s
 len:=r.len
 val:=λi d hi e=>let ⟨v,h1,h2⟩:=r.val i d hi e; ⟨v,h1,h2.mono c.grow⟩
 ow:=λi d hi e=>by
  obtain ⟨a,h1,h2,g⟩:=r.ow i d hi e;refine ⟨a,h1,?_,g.grow c.grow λo q=>c.keep a o q λz=>z⟩;cases q:F' a with
  | none=>rfl
  | some o=>
   rcases c.new a (by rw [q]; simp) with z | z | z;·exact absurd h2 z
   ·exact absurd z g.there
   ·exact z.elim
 opn:=r.opn
 dis:=r.dis
theorem MoIs.grow {K:Frag} {A:Addr->Prop} {m:Mo} {H0 F H F' H':Hp} {v:V} {d:D} (h:MoIs K m H0 F H v d) (f:m≠.any) (c:Chg A F H F' H') (hA:∀ x,A x->H0 x≠im):MoIs K m H0 F' H' v d:=by
 cases m with
 | sh=>exact Is.mono c.grow h
 | fr=>
  obtain ⟨a,e,b,C,o⟩:=h;have n:¬A a:=λz=>hA a z b;refine ⟨a,e,b,?_,o.grow c.grow λo q=>c.keep a o q n⟩;cases q:F' a with
  | none=>rfl
  | some u=>
   rcases c.new a (by rw [q]; simp) with z | z | z;·exact absurd C z
   ·exact absurd z o.there
   ·exact absurd z n
 | any=>exact absurd rfl f
def ZZ (K:Frag) (io:List Nat) (F H:Hp) (σ:St) (ρ:Sl):Prop:=∀ i∈io,∃ d a,ρ[i]?=ij (ij d)/\σ[i]?=ij (ij (V.ref a))/\F a=im/\OwnIs K F H a d
theorem Rep.ioIs {K:Frag} {own io:List Nat} {F H:Hp} {σ:St} {ρ:Sl} (r:Rep K own F H σ ρ) (h:∀ i∈io,i∈own):ZZ K io F H σ ρ:=λi hi=>by obtain ⟨d,hd⟩:=r.opn i (h i hi);obtain ⟨a,h1,h2,g⟩:=r.ow i d (h i hi) hd;exact ⟨d,a,hd,h1,h2,g⟩
structure Ct where
 K:Frag
 cv:Str->iq
 E:XK
 io:List Nat
 mr:Mo
 ol:List Nat
 ox:List Nat
 oxs:∀ i∈ox,i∈io
abbrev WM:=Out (D×Sl)
def Po (C:Ct) (own:List Nat) (m:Mo) (σ:St) (F H:Hp) (r:WM) (Q:VK):Prop:=match r with
 | .ok (d,ρ')=>∀ v F' H',Rep C.K own F' H' σ ρ'->Chg (OA own σ) F H F' H'->MoIs C.K m H F' H' v d->Q v H'
 | .exc c ρ'=>∀ F' H',Same F' H'->ZZ C.K C.ox F' H' σ ρ'->Chg (OA own σ) F H F' H'->C.E (C.cv c) im H'
 | .bad=>False
abbrev jl:=Sl->WM
def tE (C:Ct) (own:List Nat) (m:Mo) (f:jl):TE:=λσ H Q=>∃ F ρ,Rep C.K own F H σ ρ/\Po C own m σ F H (f ρ) Q
theorem MoIs.back {K:Frag} {m:Mo} {A:Addr->Prop} {H0 F H F1 H1:Hp} {f Ha:Hp} {v:V} {d:D} (c:Chg A f H0 F1 H1) (h:MoIs K m H1 F H v d):MoIs K m H0 F H v d:=by
 cases m with
 | sh=>exact h
 | fr=>
  obtain ⟨a,e,b,r⟩:=h;refine ⟨a,e,?_,r⟩;cases q:H0 a with
  | none=>rfl
  | some o=>exact absurd b (c.stay a (by rw [q]; simp))
 | any=>exact h
theorem Po.shift {C:Ct} {own:List Nat} {m:Mo} {σ:St} {F H F1 H1:Hp} {r:WM} {Q:VK} (h:Po C own m σ F H r Q) (c:Chg (OA own σ) F H F1 H1):Po C own m σ F1 H1 r Q:=by
 cases r with
 | ok p=>exact λv F' H' a U mo=>h v F' H' a (c.trans' U) (MoIs.back (Ha:=H1) c mo)
 | exc x=>exact λF' H' s io U=>h F' H' s io (c.trans' U)
 | bad=>exact h.elim
theorem Po.bind {C:Ct} {own:List Nat} {m ma:Mo} {σ:St} {F H:Hp} {o:WM} {k:D×Sl->WM} {Q R:VK} (hp:Po C own m σ F H (o.bind k) Q)
  (h:∀ v F1 H1 d ρ1,Rep C.K own F1 H1 σ ρ1->Chg (OA own σ) F H F1 H1->MoIs C.K ma H F1 H1 v d->Po C own m σ F1 H1 (k (d,ρ1)) Q->R v H1):Po C own ma σ F H o R:=by
 cases o with
 | ok p=>obtain ⟨d,ρ1⟩:=p;exact λv F1 H1 a c mo=>h v F1 H1 d ρ1 a c mo (Po.shift (show Po C own m σ F H (k (d,ρ1)) Q from hp) c)
 | exc x=>exact hp
 | bad=>exact hp.elim
def PoV (C:Ct) (m:Mo) (F H:Hp) (r:Out D) (Q:VK):Prop:=match r with
 | .ok d=>∀ v F' H',Same F' H'->Chg No F H F' H'->MoIs C.K m H F' H' v d->Q v H'
 | _=>False
def OpD (X:Cx) (C:Ct) (m:Mo) (f:iq->iq->Sem iq) (g:D->D->Out D):Prop:=
 OpR X f (λx y H Q=>∃ F dx d,Same F H/\TopIs C.K F H x dx/\TopIs C.K F H y d/\PoV C m F H (g dx d) Q)
def UnD (X:Cx) (C:Ct) (m:Mo) (f:iq->Sem iq) (g:D->Out D):Prop:=
 UnR X f (λx H Q=>∃ F dx,Same F H/\TopIs C.K F H x dx/\PoV C m F H (g dx) Q)
noncomputable def Out.plain {α:Type}:Out α->Out α
 | .ok a=>.ok a
 | _=>.bad
theorem PoV.of {C:Ct} {own:List Nat} {m:Mo} {σ:St} {F H:Hp} {o:Out D} {ρ:Sl} {Q:VK} (a:Rep C.K own F H σ ρ) (h:Po C own m σ F H (o.plain.bind λd=>.ok (d,ρ)) Q):PoV C m F H o Q:=by
 cases o with
 | ok d=>exact λv F' H' s c mo=>h v F' H' (a.grow c s) c.ofNo mo
 | exc c=>exact h.elim
 | bad=>exact h.elim
noncomputable def d2 (g:D->D->Out D) (fa fb:jl):jl:=λρ=>(fa ρ).bind λp=>(fb p.2).bind λq=>(g p.1 q.1).plain.bind λd=>.ok (d,q.2)
noncomputable def d1 (g:D->Out D) (fa:jl):jl:=λρ=>(fa ρ).bind λp=>(g p.1).plain.bind λd=>.ok (d,p.2)
section
variable {X:Cx} {C:Ct} {own:List Nat} {a b:Expr} {fa fb:jl} {m ma mb:Mo} {pos:Pos}
theorem Vn {g:D->D->Out D} {σ:St} {H:Hp} {Q:VK} (f:ma≠.any) (h:tE C own m (d2 g fa fb) σ H Q):tE C own ma fa σ H λx H1=>tE C own mb fb σ H1 λy H2=>∃ F dx i,Same F H2/\TopIs C.K F H2 x dx/\TopIs C.K F H2 y i/\PoV C m F H2 (g dx i) Q:=by obtain ⟨F,ρ,p,h⟩:=h;refine ⟨F,ρ,p,Po.bind h λv F1 H1 d ρ1 a k c h1=>⟨F1,ρ1,a,Po.bind h1 λw j H2 e ρ2 r c2 b h2=>?_⟩⟩;exact ⟨j,d,e,r.sub,(c.grow f c2 λx z=>(p.OA_there z).1).top,b.top,PoV.of r h2⟩
theorem Za {g:D->Out D} {σ:St} {H:Hp} {Q:VK} (h:tE C own m (d1 g fa) σ H Q):tE C own ma fa σ H λx H1=>∃ F dx,Same F H1/\TopIs C.K F H1 x dx/\PoV C m F H1 (g dx) Q:=by obtain ⟨F,ρ,r,h⟩:=h;refine ⟨F,ρ,r,Po.bind h λv F1 H1 d ρ1 a k c h1=>?_⟩;exact ⟨F1,d,a.sub,c.top,PoV.of a h1⟩
theorem jN {e:Expr} {t t':TE} (h:PE X e t) (i:∀ σ H Q,t' σ H Q->t σ H Q):PE X e t':=⟨λpins s σ H Q I w=>h pins s σ H Q I (i σ H Q w)⟩
theorem qcH {e:Expr} {t t':TT} (h:PT X e t) (i:∀ σ H Q,t' σ H Q->t σ H Q):PT X e t':=⟨λpins s σ H Q I w=>h pins s σ H Q I (i σ H Q w)⟩
theorem qI {op:Operator} {g:D->D->Out D} (l:OpD X C m (iY op) g) (c:PE X a (tE C own ma fa)) (d:PE X b (tE C own mb fb)) (f:ma≠.any:=by decide):PE X (.BinOp a op b pos) (tE C own m (d2 g fa fb)):=
 jN (qjM l c d) λ_ _ _ h=>Vn f h
theorem vp {op:CmpOp} {g:D->D->Out D} (l:OpD X C m (iI op) g) (c:PE X a (tE C own ma fa)) (d:PE X b (tE C own mb fb)) (f:ma≠.any:=by decide)
  (k:lA op b=false:=by first | exact qee _ | with_unfolding_all rfl):PE X (.Compare a [op] [b] pos) (tE C own m (d2 g fa fb)):=
 jN (qfa l c d k) λ_ _ _ h=>Vn f h
theorem Ua {op:UnaryOp} {g:D->Out D} (l:UnD X C m (unaryOp op) g) (b:PE X a (tE C own ma fa)):PE X (.UnaryOp op a pos) (tE C own m (d1 g fa)):=
 jN (qjN l b) λ_ _ _ h=>Za h
end
instance:DecidableEq Mo:=λa b=>by cases a <;> cases b <;> first | exact isTrue rfl | exact isFalse (by intro h; cases h)
theorem qcI {K:Frag} {own:List Nat} {H0 F H:Hp} {σ:St} {ρ:Sl} {v:V} {d:D} (r:Rep K own F H σ ρ) (hA:∀ b,OA own σ b->H0 b≠im) (h:MoIs K .fr H0 F H v d):∃ F',Rep K own F' H σ ρ/\Same F F'/\Is K F' v d/\∀ b,F' b≠im->F b≠im\/H0 b=none:=by
 obtain ⟨a,rfl,g,j,o⟩:=h;obtain ⟨u,hu⟩:∃ u,H a=ij u:=by
  cases q:H a with
  | none=>exact absurd q o.there
  | some u=>exact ⟨u,rfl⟩
 have gr:Same F (upd F a u):=λb w e=>by rw [qB (qL e j)]; exact e
 have A:Same (upd F a u) H:=λb w e=>by
  by_cases q:b=a;·subst q; rw [qu] at e; cases e; exact hu
  ·rw [qB q] at e; exact r.sub b w e
 refine ⟨upd F a u,⟨A,r.len,λi d hi e=>?_,λi d hi e=>?_,r.opn,r.dis⟩,gr,?_,λb f=>?_⟩;·obtain ⟨v,h1,h2⟩:=r.val i d hi e;exact ⟨v,h1,h2.mono gr⟩
 ·obtain ⟨c,h1,h2,k⟩:=r.ow i d hi e;refine ⟨c,h1,?_,k.grow gr λ_ q=>q⟩;have n:c≠a:=λq=>by subst q; exact hA c ⟨i,hi,h1⟩ g
  rw [qB n]; exact h2
 ·cases d with
  | lst ds=>obtain ⟨xs,e,t⟩:=o; rw [hu] at e; cases e; exact .lst (.inl (.inl qu)) (t.mono gr)
  | dct ds=>obtain ⟨xs,e,t⟩:=o; rw [hu] at e; cases e; exact .dct qu (t.mono gr)
  | ins C fs=>obtain ⟨dx,xs,e,t⟩:=o; rw [hu] at e; cases e; exact .ins qu (t.mono gr)
  | at_ b ds=>obtain ⟨J,xs,e,t⟩:=o; rw [hu] at e; cases e; subst J; exact .at_ (.inl (.inl qu)) (t.mono gr)
  | _=>exact o.elim
 ·by_cases q:b=a;·exact .inr (by rw [q]; exact g)
  ·rw [qB q] at f; exact .inl f
theorem Po.toSh {C:Ct} {own:List Nat} {m:Mo} {σ:St} {F H:Hp} {d:Sl} {r:WM} {Q:VK} (f:Rep C.K own F H σ d) (g:m≠.any) (h:Po C own .sh σ F H r Q):Po C own m σ F H r Q:=by
 cases r with
 | ok p=>
  intro v F' H' a c mo;cases m with
  | sh=>exact h v F' H' a c mo
  | fr=>
   obtain ⟨j,e,gr,is,n⟩:=qcI a (λb z=>(f.OA_there z).1) mo;refine h v j H' e ⟨c.keep,c.stay,c.grow.trans gr,λb i=>?_⟩ is;rcases n b i with z | z;·exact c.new b z
   ·exact .inr (.inl z)
  | any=>exact absurd rfl g
 | exc x=>exact h
 | bad=>exact h.elim
section
variable {X:Cx} {C:Ct} {own:List Nat} {a b e:Expr} {f fa fb:jl} {m ma mb:Mo} {pos:Pos}
theorem yh (h:PE X e (tE C own m f)) (c:m≠.any):PE X e (tE C own .sh f):=jN h λ_ _ _ ⟨F,ρ,a,p⟩=>⟨F,ρ,a,p.toSh a c⟩
noncomputable def qc (i:Nat):jl:=λρ=>match ρ[i]? with
 | some (ij d)=>.ok (d,ρ)
 | _=>.bad
noncomputable def dC (d:D):jl:=λρ=>.ok (d,ρ)
theorem qhC {i:Nat} {x:Str} (b:X.N[i]?=ij x) (c:Vis X.env.scope x) (l:i∉own) (hd:Dbg x:=by decide) (a:Cdk x:=by decide):PE X (.Name x pos) (tE C own .sh (qc i)):=by
 refine jN (yl b c hd a) λσ H Q ⟨F,ρ,r,h⟩=>?_;unfold qc at h;cases e:ρ[i]? with
 | none=>rw [e] at h; exact h.elim
 | some o=>
  cases o with
  | none=>rw [e] at h; exact h.elim
  | some d=>rw [e] at h;obtain ⟨v,h1,h2⟩:=r.val i d l e;exact ⟨v,h1,h v F H r .refl h2⟩
theorem qfp {i:Nat} {x:Str} (f:X.N[i]?=ij x) (c:Vis X.env.scope x) (l:i∈own) (hd:Dbg x:=by decide) (b:Cdk x:=by decide):PE X (.Name x pos) (tE C own .any (qc i)):=by
 refine jN (yl f c hd b) λσ H Q ⟨F,ρ,r,h⟩=>?_;unfold qc at h;cases e:ρ[i]? with
 | none=>rw [e] at h; exact h.elim
 | some o=>
  cases o with
  | none=>rw [e] at h; exact h.elim
  | some d=>rw [e] at h;obtain ⟨a,h1,h2,g⟩:=r.ow i d l e;exact ⟨_,h1,h _ F H r .refl (.inr ⟨a,rfl,g⟩)⟩
theorem qhD {v:V} {d:D} (h:PE X e (tC v)) (i:∀ F,Is C.K F v d):PE X e (tE C own .sh (dC d)):=jN h λσ H Q ⟨F,ρ,a,h⟩=>h v F H a .refl (i F)
theorem ql {i j pos}:PE X (.Constant (.int i) j pos) (tE C own .sh (dC (.int i))):=qhD qeb λ_=>.int i
theorem vt {i j pos}:PE X (.Constant (.bool i) j pos) (tE C own .sh (dC (.bl i))):=qhD qe2 λ_=>.bl i
theorem vw {j pos}:PE X (.Constant .none j pos) (tE C own .sh (dC .non)):=qhD qg4 λ_=>.non
theorem kB {x j pos} (h:fQ x<=sizeLine:=by decide):PE X (.Constant (.str x) j pos) (tE C own .sh (dC (.str x))):=qhD qg5 λ_=>.str h
theorem GD {x:Str} {v:V} {d:D} {u:iq} (hg:Gl X x) (c:X.mg x=ij u) (r:RelV v u) (i:∀ F,Is C.K F v d) (hd:Dbg x:=by decide):PE X (.Name x pos) (tE C own .sh (dC d)):=qhD (Gh hg c r hd) i
noncomputable def ym (g:Int->Int->Out D):D->D->Out D
 | .int i,.int j=>g i j
 | _,_=>.bad
theorem TopIs.int {K:Frag} {F H:Hp} {v:V} {i:Int} (h:TopIs K F H v (.int i)):v=.int i:=by
 rcases h with h | ⟨a,_,h⟩
 ·cases h; rfl
 ·exact h.elim
theorem TopIs.str {K:Frag} {F H:Hp} {v:V} {x:Str} (h:TopIs K F H v (.str x)):v=.str x/\x.length<=sizeLine:=by
 rcases h with h | ⟨a,_,h⟩
 ·cases h; exact ⟨rfl,by assumption⟩
 ·exact h.elim
theorem TopIs.bl {K:Frag} {F H:Hp} {v:V} {x:Bool} (h:TopIs K F H v (.bl x)):v=.bl x:=by
 rcases h with h | ⟨a,_,h⟩
 ·cases h; rfl
 ·exact h.elim
theorem TopIs.non {K:Frag} {F H:Hp} {v:V} (h:TopIs K F H v .non):v=.non:=by
 rcases h with h | ⟨a,_,h⟩
 ·cases h; rfl
 ·exact h.elim
theorem TopIs.lst {K:Frag} {F H:Hp} {v:V} {ds:List D} (s:Same F H) (h:TopIs K F H v (.lst ds)):∃ a xs,v=.ref a/\SqL K H a xs/\IsL K F xs ds:=by
 rcases h with h | ⟨a,e,h⟩
 ·cases h with
  | lst h t=>exact ⟨_,_,rfl,s.seq h,t⟩
 ·obtain ⟨xs,i,t⟩:=h;exact ⟨a,xs,e,.inl (.inl i),t⟩
theorem TopIs.tup {K:Frag} {F H:Hp} {v:V} {ds:List D} (s:Same F H) (h:TopIs K F H v (.tup ds)):∃ a xs,v=.ref a/\SqT K H a xs/\IsL K F xs ds:=by
 rcases h with h | ⟨a,e,h⟩
 ·cases h with
  | tup h t=>exact ⟨_,_,rfl,jg s h,t⟩
 ·exact h.elim
theorem TopIs.dct {K:Frag} {F H:Hp} {v:V} {ds:List (Key×D)} (s:Same F H) (h:TopIs K F H v (.dct ds)):∃ a kv,v=.ref a/\H a=ij (.dK kv)/\IsK K F kv ds:=by
 rcases h with h | ⟨a,e,h⟩
 ·cases h with
  | dct h t=>exact ⟨_,_,rfl,s _ _ h,t⟩
 ·obtain ⟨xs,i,t⟩:=h;exact ⟨a,xs,e,i,t⟩
theorem GE {fn:iq->iq->Sem iq} {P:Int->Int->Prop} [∀ i j,Decidable (P i j)] {g:Int->Int->V} {gd:Int->Int->D} (l:OpR X fn (rI P g)) (hg:∀ F i j,Is C.K F (g i j) (gd i j)):OpD X C .sh fn (ym λi j=>if P i j then .ok (gd i j) else .bad):=by
 intro pins s σ H x y v u Q I d c h;obtain ⟨F,dx,a,A,tx,ty,po⟩:=h;cases dx <;> try exact po.elim
 cases a <;> try exact po.elim
 rename_i i j;have po:PoV C .sh F H (if P i j then .ok (gd i j) else .bad) Q:=po;obtain rfl:=tx.int;obtain rfl:=ty.int;by_cases q:P i j;·rw [Aa q] at po;exact l pins s σ H _ _ v u Q I d c ⟨i,j,rfl,rfl,q,po (g i j) F H A .refl (hg F i j)⟩
 ·rw [Ab q] at po; exact po.elim
theorem Ub {fn:iq->iq->Sem iq} {g:Int->Int->V} {gd:Int->Int->D} (l:OpR X fn (rI0 g)) (hg:∀ F i j,Is C.K F (g i j) (gd i j)):OpD X C .sh fn (ym λi j=>.ok (gd i j)):=by
 intro pins s σ H x y v u Q I d c h;obtain ⟨F,dx,a,A,tx,ty,po⟩:=h;cases dx <;> try exact po.elim
 cases a <;> try exact po.elim
 rename_i i j;obtain rfl:=tx.int;obtain rfl:=ty.int;exact l pins s σ H _ _ v u Q I d c ⟨i,j,rfl,rfl,po (g i j) F H A .refl (hg F i j)⟩
noncomputable def yv:D->D->Out D:=ym λi j=>.ok (.int (i - j))
theorem vL:OpD X C .sh (iY .Sub) yv:=Ub qhi λ_ _ _=>.int _
instance:∀ i j,Decidable (CMul i j):=λi j=>inferInstanceAs (Decidable (_\/_))
instance:∀ i j,Decidable (qgS i j):=λi j=>inferInstanceAs (Decidable (_/\_))
noncomputable def qeg:D->D->Out D:=ym λi j=>if CMul i j then .ok (.int (i * j)) else .bad
theorem Vo:OpD X C .sh (iY .Mult) qeg:=GE qhj λ_ _ _=>.int _
noncomputable def wE:D->D->Out D:=ym λi j=>if 0 < j then .ok (.int (i % j)) else .bad
theorem kj:OpD X C .sh (iY .Mod) wE:=GE qhk λ_ _ _=>.int _
noncomputable def Zb:D->D->Out D:=ym λi j=>if qgS i j then .ok (.int (i / j)) else .bad
theorem Uc:OpD X C .sh (iY .FloorDiv) Zb:=GE qe8 λ_ _ _=>.int _
noncomputable def vd (x y:Str):Bool:=decide (x.cps.toList < y.cps.toList)
noncomputable def ltD:D->D->Out D
 | .int i,.int j=>.ok (.bl (decide (i < j)))
 | .str x,.str y=>.ok (.bl (vd x y))
 | _,_=>.bad
theorem qhE:OpD X C .sh (iI .Lt) ltD:=by
 intro pins s σ H x y v u Q I d c h;obtain ⟨F,dx,a,A,tx,ty,po⟩:=h;cases dx <;> try exact po.elim
 ·cases a <;> try exact po.elim
  obtain rfl:=tx.int;obtain rfl:=ty.int;exact qjO pins s σ H _ _ v u Q I d c ⟨_,_,rfl,rfl,po _ F H A .refl (.bl _)⟩
 ·cases a <;> try exact po.elim
  obtain ⟨rfl,_⟩:=tx.str;obtain ⟨rfl,_⟩:=ty.str;exact Gn pins s σ H _ _ v u Q I d c ⟨_,_,rfl,rfl,po _ F H A .refl (.bl _)⟩
end
noncomputable def eqS (a b:D):Option Bool:=match a with
 | .non=>match b with
  | .non=>ij iu
  | .bl _=>ij ir
  | .int _=>ij ir
  | .str _=>ij ir
  | .tup _=>ij ir
  | .lst _=>ij ir
  | .dct _ | .raw _ | .xcp _ | .ins _ _ | .at_ _ _=>im
 | .bl x=>match b with
  | .non=>ij ir
  | .bl y=>ij (x == y)
  | .int y=>ij ((if x then 1 else 0) == y)
  | .str _=>ij ir
  | .tup _=>ij ir
  | .lst _=>ij ir
  | .dct _ | .raw _ | .xcp _ | .ins _ _ | .at_ _ _=>im
 | .int x=>match b with
  | .non=>ij ir
  | .bl y=>ij (x == (if y then 1 else 0))
  | .int y=>ij (x == y)
  | .str _=>ij ir
  | .tup _=>ij ir
  | .lst _=>ij ir
  | .dct _ | .raw _ | .xcp _ | .ins _ _ | .at_ _ _=>im
 | .str x=>match b with
  | .non=>ij ir
  | .bl _=>ij ir
  | .int _=>ij ir
  | .str y=>ij (x == y)
  | .tup _=>ij ir
  | .lst _=>ij ir
  | .dct _ | .raw _ | .xcp _ | .ins _ _ | .at_ _ _=>im
 | .tup x=>match b with
  | .non=>ij ir
  | .bl _=>ij ir
  | .int _=>ij ir
  | .str _=>ij ir
  | .tup _=>im
  | .lst _=>ij ir
  | .dct _ | .raw _ | .xcp _ | .ins _ _ | .at_ _ _=>im
 | .lst x=>match b with
  | .non=>ij ir
  | .bl _=>ij ir
  | .int _=>ij ir
  | .str _=>ij ir
  | .tup _=>ij ir
  | .lst _=>im
  | .dct _ | .raw _ | .xcp _ | .ins _ _ | .at_ _ _=>im
 | .dct _ | .raw _ | .xcp _ | .ins _ _ | .at_ _ _=>im
noncomputable def ud (f:D->D->Option Bool):List D->List D->Option Bool
 | x::xs,y::ys=>(f x y).bind λa=>(ud f xs ys).bind λb=>ij (a&&b)
 | _,_=>ij iu
noncomputable def eqN:Nat->D->D->Option Bool
 | n+1,.tup xs,.tup ys=>(ud (eqN n) xs ys).map λb=>b&&xs.length == ys.length
 | n+1,.lst xs,.lst ys=>if xs.length=ys.length then ud (eqN n) xs ys else ij ir
 | _,a,b=>eqS a b
theorem Yp {n:Nat} {a b:D} (h1:∀ xs ys,a=.tup xs->b≠.tup ys) (h2:∀ xs ys,a=.lst xs->b≠.lst ys):eqN n a b=eqS a b:=by
 cases n with
 | zero=>rfl
 | succ n=>
  cases a with
  | tup xs=>cases b with
   | tup ys=>exact absurd rfl (h1 xs ys rfl)
   | _=>rfl
  | lst xs=>cases b with
   | lst ys=>exact absurd rfl (h2 xs ys rfl)
   | _=>rfl
  | _=>rfl
noncomputable def itE (f:D->D->Option Bool) (xs ys:List D) (j:Nat):Bool:=((xs[j]?).bind λx=>(ys[j]?).bind λy=>f x y).getD ir
theorem wl {f:D->D->Option Bool}:∀ {xs ys:List D} {b:Bool},ud f xs ys=ij b->b=(aO (min xs.length ys.length)).all (itE f xs ys)
 | [],ys,b,h=>by simp [ud] at h ⊢; exact h
 | x::xs,[],b,h=>by simp [ud] at h ⊢; exact h
 | x::xs,y::ys,b,h=>by
  unfold ud at h;cases e:f x y with
  | none=>rw [e] at h; simp at h
  | some a=>
   cases i:ud f xs ys with
   | none=>rw [e,i] at h; simp at h
   | some c=>
    rw [e,i] at h;have h:(a&&c)=b:=by simpa using h
    have d:=wl i;have m:min (x::xs).length (y::ys).length=min xs.length ys.length+1:=by simp only [ao]; lia
    rw [m,List.range_succ_eq_map,g0,List.all_map];have e0:itE f (x::xs) (y::ys) 0=a:=by simp [itE,e]
    have e1:(itE f (x::xs) (y::ys)) ∘ Nat.succ=itE f xs ys:=by funext j;simp [itE]
    rw [e0,e1,<-d];exact h.symm
theorem GG {f:D->D->Option Bool}:∀ {xs ys:List D} {b:Bool},ud f xs ys=ij b->∀ (j:Nat) (x y:D),xs[j]?=ij x->ys[j]?=ij y->f x y=ij (itE f xs ys j)
 | [],ys,b,_,j,x,y,hx,_=>by simp at hx
 | x::xs,[],b,_,j,_,y,_,hy=>by simp at hy
 | x::xs,y::ys,b,h,0,x',y',hx,hy=>by
  simp at hx hy;subst hx hy;unfold ud at h;cases e:f x y with
  | none=>rw [e] at h; simp at h
  | some a=>simp [itE,e]
 | x::xs,y::ys,b,h,j+1,x',y',hx,hy=>by
  unfold ud at h;cases e:f x y with
  | none=>rw [e] at h; simp at h
  | some a=>
   cases i:ud f xs ys with
   | none=>rw [e,i] at h; simp at h
   | some c=>have q:=GG i j x' y' (by simpa using hx) (by simpa using hy);rw [q];simp [itE]
section
variable {X:Cx} {pins:Pns} {σ:St} {F H:Hp} {s:iw}
noncomputable def smp:D->Bool
 | .non | .bl _ | .int _ | .str _ | .tup _ | .lst _=>iu
 | .dct _ | .raw _ | .xcp _ | .ins _ _ | .at_ _ _=>ir
theorem GH {n:Nat} {d e:D} {b:Bool} (h:eqN n d e=ij b):smp d=true:=by cases d <;> first | rfl | (cases n <;> exact nomatch (show im=ij b from h))
theorem qj3 {n:Nat} {d e:D} {b:Bool} (h:eqN n d e=ij b):smp e=true:=by cases e <;> first | rfl | (cases n <;> cases d <;> exact nomatch (show im=ij b from h))
theorem GI (I:Inv X pins σ H s) (A:Same F H) {a:Addr} {xs ys:List V} (p:SqT X.K F a xs) (q:SqL X.K F a ys):False:=by obtain ⟨_,_,b,_⟩:=I.list (A.seq q);obtain ⟨_,_,d,_⟩:=I.tuple (jg A p);exact absurd rfl (PySem.SeqAt.ne_of_list_tuple b.isList d)
theorem zY {f:D->D->Option Bool} {x y:D} {xs ys:List D} {b:Bool} (h:ud f (x::xs) (y::ys)=ij b):∃ a c,f x y=ij a/\ud f xs ys=ij c/\b=(a&&c):=by
 unfold ud at h;cases e:f x y with
 | none=>rw [e] at h; cases h
 | some a=>
  cases i:ud f xs ys with
  | none=>rw [e,i] at h; cases h
  | some c=>rw [e,i] at h; exact ⟨a,c,rfl,rfl,(aI.inj h).symm⟩
theorem Ud {n:Nat} {xs ys:List D} {b:Bool} (h:eqN (n+1) (.tup xs) (.tup ys)=ij b):∃ c,ud (eqN n) xs ys=ij c/\b=(c&&xs.length == ys.length):=by
 have h:((ud (eqN n) xs ys).map λb=>b&&xs.length == ys.length)=ij b:=h;cases e:ud (eqN n) xs ys with
 | none=>rw [e] at h; cases h
 | some c=>rw [e] at h; exact ⟨c,rfl,(aI.inj h).symm⟩
theorem GJ (I:Inv X pins σ H s) (A:Same F H):∀ (n:Nat) {v:V} {d e:D} {b:Bool},Is X.K F v d->Is X.K F v e->eqN n d e=ij b->b=true:=by
 have base:∀ {n:Nat} {v:V} {d e:D} {b:Bool},Is X.K F v d->Is X.K F v e->eqN n d e=ij b->(∀ a xs ds es,Is X.K F (.ref a) (.tup ds)->SqT X.K F a xs->IsL X.K F xs ds->IsL X.K F xs es->eqN n (.tup ds) (.tup es)=ij b->b=iu)->(∀ a xs ds es,SqL X.K F a xs->IsL X.K F xs ds->IsL X.K F xs es->eqN n (.lst ds) (.lst es)=ij b->b=iu)->b=true:=by
  intro n v d e b h1 h2 h ht hl;have s1:=GH h;have s2:=qj3 h;cases h1 with
  | non=>cases h2 with
   | non=>cases n <;> exact (aI.inj h).symm
   | raw=>cases s2
  | bl x=>cases h2 with
   | bl=>cases n <;> exact (aI.inj h).symm.trans (beq_self_eq_true x)
   | raw=>cases s2
  | int x=>cases h2 with
   | int=>cases n <;> exact (aI.inj h).symm.trans (beq_self_eq_true x)
   | raw=>cases s2
  | str _=>cases h2 with
   | str _=>cases n <;> exact (aI.inj h).symm.trans (beq_self_eq_true _)
   | raw=>cases s2
  | tup p1 t1=>cases h2 with
   | tup p2 t2=>have q:=I.tuple_inj (jg A p1) (jg A p2);subst q;exact ht _ _ _ _ (.tup p1 t1) p1 t1 t2 h
   | lst p2 t2=>exact (GI I A p1 p2).elim
   | _=>cases s2
  | lst p1 t1=>cases h2 with
   | lst p2 t2=>have q:=I.list_inj (A.seq p1) (A.seq p2);subst q;exact hl _ _ _ _ p1 t1 t2 h
   | tup p2 t2=>exact (GI I A p2 p1).elim
   | _=>cases s2
  | _=>cases s1
 intro n
 induction n with
 | zero=>exact λ{_ _ _ _} h1 h2 h=>base h1 h2 h (λ_ _ _ _ _ _ _ _ h=>nomatch (show im=ij _ from h)) λ_ _ _ _ _ _ _ h=>nomatch (show im=ij _ from h)
 | succ n j=>
  have l:∀ {xs:List V} {ds es:List D} {b:Bool},IsL X.K F xs ds->IsL X.K F xs es->ud (eqN n) ds es=ij b->b=true:=by
   intro xs
   induction xs with
   | nil=>intro ds es b h1 h2 h; cases h1; cases h2; exact (aI.inj h).symm
   | cons x xs i=>
    intro ds es b h1 h2 h;cases h1 with
    | cons k t1=>
     cases h2 with
     | cons g t2=>obtain ⟨a,c,q,f,rfl⟩:=zY h;rw [j k g q,i t1 t2 f];rfl
  intro v d e b h1 h2 h;refine base h1 h2 h (λa xs ds es _ _ t1 t2 h=>?_) λa xs ds es _ t1 t2 h=>?_;·obtain ⟨c,q,rfl⟩:=Ud h;rw [l t1 t2 q,t1.length.symm.trans t2.length,beq_self_eq_true];rfl
  ·have h:(if ds.length=es.length then ud (eqN n) ds es else ij ir)=ij _:=h;rw [Aa (t1.length.symm.trans t2.length)] at h;exact l t1 t2 h
end
open PySem.SeqAt
section
variable {X:Cx} {pins:Pns} {σ:St} {F H:Hp} {s:iw}
theorem Vals.getE {xs:List V} {us:List iq} (r:Vals xs us) {j:Nat} (h:j < us.length):∃ x,xs[j]?=ij x/\RelV x us[j]:=by
 have hl:=r.length;have G:j < xs.length:=by lia
 obtain ⟨u,e1,e⟩:=Vals.get (i:=j) (x:=xs[j]) r (by simp [G]);refine ⟨xs[j],by simp [G],?_⟩;rw [aE h] at e1;cases e1;exact e
theorem uW {A:iJ} {n:Nat} {xs ys:List V} {ds es:List D} {us ws:List iq} {b:Bool} (g:∀ {v w:V} {d e:D} {u t:iq} {b:Bool},Is X.K F v d->Is X.K F w e->RelV v u->RelV w t->eqN n d e=ij b->EqAt A s u t b)
  (r1:Vals xs us) (r2:Vals ys ws) (i1:IsL X.K F xs ds) (i2:IsL X.K F ys es) (h:ud (eqN n) ds es=ij b) :
  ∀ j (h1:j < us.toArray.size) (h2:j < ws.toArray.size),EqAt A s us.toArray[j] ws.toArray[j] (itE (eqN n) ds es j):=by
 intro j h1 h2;have c:j < us.length:=by simpa using h1
 have a:j < ws.length:=by simpa using h2
 obtain ⟨x,ex,f⟩:=Vals.getE r1 c;obtain ⟨y,l,r⟩:=Vals.getE r2 a;obtain ⟨d,o,i⟩:=i1.get ex;obtain ⟨e,m,k⟩:=i2.get l;have q:=GG h j d e o m;simpa using g i k f r q
theorem Yq {A:iJ} {n:Nat} {a c:Addr} {xs ys:List V} {ds es:List D} {b:Bool} (I:Inv X pins σ H s) (j:∀ {v w:V} {d e:D} {u t:iq} {b:Bool},Is X.K F v d->Is X.K F w e->RelV v u->RelV w t->eqN n d e=ij b->EqAt A.in1 s u t b)
  (p1:SqT X.K H a xs) (p2:SqT X.K H c ys) (i1:IsL X.K F xs ds) (i2:IsL X.K F ys es) (h:eqN (n+1) (.tup ds) (.tup es)=ij b) (g:A.units < iW):RcAt A s (.ref a) (.ref c) b:=by
 obtain ⟨us,r1,t1,_⟩:=I.tuple p1;obtain ⟨ws,r2,t2,_⟩:=I.tuple p2;simp only [eqN] at h;cases q:ud (eqN n) ds es with
 | none=>rw [q] at h; simp at h
 | some k=>
  rw [q] at h;have f:us.toArray.size=ds.length:=by rw [aq,<-r1.length,i1.length]
  have l:ws.toArray.size=es.length:=by rw [aq,<-r2.length,i2.length]
  have z:=RcAt.tuples (A:=A) t1 t2 g (uW (A:=A.in1) j r1 r2 i1 i2 q);rw [f,l,<-wl q] at z;have e:b=(k&&ds.length == es.length):=by simpa using h.symm
  rw [e]; exact z
theorem Yr {A:iJ} {n:Nat} {a c:Addr} {xs ys:List V} {ds es:List D} {b:Bool} (I:Inv X pins σ H s) (j:∀ {v w:V} {d e:D} {u t:iq} {b:Bool},Is X.K F v d->Is X.K F w e->RelV v u->RelV w t->eqN n d e=ij b->EqAt A.in1 s u t b)
  (p1:SqL X.K H a xs) (p2:SqL X.K H c ys) (i1:IsL X.K F xs ds) (i2:IsL X.K F ys es) (h:eqN (n+1) (.lst ds) (.lst es)=ij b) (g:A.units < iW):RcAt A s (.ref a) (.ref c) b:=by
 obtain ⟨us,r1,t1,_⟩:=I.list p1;obtain ⟨ws,r2,t2,_⟩:=I.list p2;have f:us.toArray.size=ds.length:=by rw [aq,<-r1.length,i1.length]
 have l:ws.toArray.size=es.length:=by rw [aq,<-r2.length,i2.length]
 simp only [eqN] at h;by_cases hl:ds.length=es.length;·rw [Aa hl] at h;have z:=RcAt.lists (A:=A) t1.isList t2.isList 'b' g (uW (A:=A.in1) j r1 r2 i1 i2 h);have e:=wl h;rw [f] at z;rw [e,show min ds.length es.length=ds.length by lia];exact z
 ·rw [Ab hl] at h;cases h;exact RcAt.lists_lengths t1.isList t2.isList (bne_iff_ne.mpr (by rw [f,l]; exact hl)) g
def Kd (s:iw):D->iq->Prop
 | .non,u=>u=.none
 | .bl b,u=>u=.bool b
 | .int i,u=>∃ t,u=.int i t
 | .str x,u=>∃ t,u=.str x t
 | .tup _,u=>∃ a its,u=.ref a/\s.heap.IsTuple a its
 | .lst _,u=>∃ a its,u=.ref a/\s.heap.IsList a its
 | _,_=>True
theorem Zc (I:Inv X pins σ H s) (A:Same F H) {v:V} {d:D} {u:iq} (t:TopIs X.K F H v d) (r:RelV v u):Kd s d u:=by
 cases d with
 | non=>obtain rfl:=t.non; exact r
 | bl=>obtain rfl:=t.bl; exact r
 | int=>obtain rfl:=t.int; exact r
 | str=>obtain ⟨rfl,_⟩:=t.str; exact r
 | tup=>obtain ⟨a,_,rfl,p,_⟩:=t.tup A; obtain ⟨_,_,q,_⟩:=I.tuple p; exact ⟨a,_,r,q⟩
 | lst=>obtain ⟨a,_,rfl,p,_⟩:=t.lst A; obtain ⟨_,_,q,_⟩:=I.list p; exact ⟨a,_,r,q.isList⟩
 | _=>trivial
theorem qhF {A:iJ} {d e:D} {u t:iq} {b:Bool} (f:A.units < iW) (k1:Kd s d u) (k2:Kd s e t) (h:eqS d e=ij b):EqAt A s u t b:=by
 cases d <;> cases e <;> try (cases h; done)
 all_goals
  cases h;first | obtain ⟨_,_,rfl,a⟩:=k1 | obtain ⟨_,rfl⟩:=k1 | cases k1
  first | obtain ⟨_,_,rfl,q⟩:=k2 | obtain ⟨_,rfl⟩:=k2 | cases k2
  with_reducible first | exact EqAt.same _ | exact EqAt.none_bool _ | exact EqAt.none_int _ _ | exact EqAt.none_str _ _ | exact EqAt.bool_none _ | exact EqAt.bool_bool _ _ | exact EqAt.bool_int _ _ _ | exact EqAt.bool_str _ _ _ | exact EqAt.int_none _ _ | exact EqAt.int_bool _ _ _ | exact EqAt.int_int _ _ _ _ | exact EqAt.int_str _ _ _ _ | exact EqAt.str_none _ _ | exact EqAt.str_bool _ _ _ | exact EqAt.str_int _ _ _ _ | exact EqAt.str_str _ _ _ _ | exact EqAt.none_tuple q f | exact EqAt.tuple_none a f | exact EqAt.none_list q f | exact EqAt.list_none a f | exact EqAt.bool_tuple _ q f | exact EqAt.tuple_bool _ a f | exact EqAt.bool_list _ q f | exact EqAt.list_bool _ a f | exact EqAt.int_tuple _ _ q f | exact EqAt.tuple_int _ _ a f | exact EqAt.int_list _ _ q f | exact EqAt.list_int _ _ a f | exact EqAt.str_tuple _ _ q f | exact EqAt.tuple_str _ _ a f | exact EqAt.str_list _ _ q f | exact EqAt.list_str _ _ a f | exact EqAt.tuple_list a q f | exact EqAt.list_tuple a q f
theorem GK (I:Inv X pins σ H s) (f:Same F H):∀ (n:Nat) {A:iJ} {v w:V} {d e:D} {u t:iq} {b:Bool},A.units+n < iW->Is X.K F v d->Is X.K F w e->RelV v u->RelV w t->eqN n d e=ij b->EqAt A s u t b:=by
 intro n
 induction n with
 | zero=>exact λy h1 h2 x r h=>qhF 'b' (Zc I f (.inl h1) x) (Zc I f (.inl h2) r) h
 | succ n m=>
  intro A v w d e u t b y h1 h2 x r h;have l:A.in1.units+n < iW:=by show A.units+1+n < iW; lia
  by_cases both:(∃ xs ys,d=.tup xs/\e=.tup ys)\/(∃ xs ys,d=.lst xs/\e=.lst ys)
  ·rcases both with ⟨ds,es,rfl,rfl⟩ | ⟨ds,es,rfl,rfl⟩
   ·have j:=h1;have i:=h2;cases h1 with
    | tup p1 t1=>
     cases h2 with
     | tup p2 t2=>
      rename_i a xs c ys;cases x;cases r;by_cases ne:a=c;·subst ne;rw [GJ I f (n+1) j i h];exact EqAt.same _
      ·exact EqAt.of_refs ne (Yq I (λk g q p o=>m l k g q p o) (jg f p1) (jg f p2) t1 t2 h 'b')
   ·have j:=h1;have i:=h2;cases h1 with
    | lst p1 t1=>
     cases h2 with
     | lst p2 t2=>
      rename_i a xs c ys;cases x;cases r;by_cases ne:a=c;·subst ne;rw [GJ I f (n+1) j i h];exact EqAt.same _
      ·exact EqAt.of_refs ne (Yr I (λk g q p o=>m l k g q p o) (f.seq p1) (f.seq p2) t1 t2 h 'b')
  ·have e1:eqN (n+1) d e=eqS d e:=Yp (λxs ys k g=>both (.inl ⟨xs,ys,k,g⟩)) (λxs ys k g=>both (.inr ⟨xs,ys,k,g⟩));have z:eqN n d e=eqS d e:=Yp (λxs ys k g=>both (.inl ⟨xs,ys,k,g⟩)) (λxs ys k g=>both (.inr ⟨xs,ys,k,g⟩));exact m 'b' h1 h2 x r (by rw [z,<-e1]; exact h)
end
end L2.D2
namespace L2.D2
open PySem PySem.Spec PyProof.Rows
open PySem.SeqAt
variable {X:Cx} {A:iJ} {n:Nat} {b:Bool}
section
variable {pins:Pns} {σ:St} {F H:Hp} {s:iw}
theorem qcJ {a c:Addr} {xs ys:List V} {ds es:List D} (I:Inv X pins σ H s) (j:∀ {v w:V} {d e:D} {u t:iq} {b:Bool},Is X.K F v d->Is X.K F w e->RelV v u->RelV w t->eqN n d e=ij b->EqAt A.in1 s u t b)
  (p1:SqT X.K H a xs) (p2:SqT X.K H c ys) (i1:IsL X.K F xs ds) (i2:IsL X.K F ys es) (h:eqN (n+1) (.tup ds) (.tup es)=ij b) (g:A.units < iW):RcNeAt A s (.ref a) (.ref c) (!b):=by
 obtain ⟨us,r1,t1,_⟩:=I.tuple p1;obtain ⟨ws,r2,t2,_⟩:=I.tuple p2;simp only [eqN] at h;cases q:ud (eqN n) ds es with
 | none=>rw [q] at h; simp at h
 | some k=>
  rw [q] at h;have f:us.toArray.size=ds.length:=by rw [aq,<-r1.length,i1.length]
  have l:ws.toArray.size=es.length:=by rw [aq,<-r2.length,i2.length]
  have z:=RcNeAt.tuples (A:=A) t1 t2 g (uW (A:=A.in1) j r1 r2 i1 i2 q);rw [f,l,<-wl q] at z;have e:b=(k&&ds.length == es.length):=by simpa using h.symm
  rw [e]; exact z
theorem qcK {a c:Addr} {xs ys:List V} {ds es:List D} (I:Inv X pins σ H s) (j:∀ {v w:V} {d e:D} {u t:iq} {b:Bool},Is X.K F v d->Is X.K F w e->RelV v u->RelV w t->eqN n d e=ij b->EqAt A.in1 s u t b)
  (p1:SqL X.K H a xs) (p2:SqL X.K H c ys) (i1:IsL X.K F xs ds) (i2:IsL X.K F ys es) (h:eqN (n+1) (.lst ds) (.lst es)=ij b) (g:A.units < iW):RcNeAt A s (.ref a) (.ref c) (!b):=by
 obtain ⟨us,r1,t1,_⟩:=I.list p1;obtain ⟨ws,r2,t2,_⟩:=I.list p2;have f:us.toArray.size=ds.length:=by rw [aq,<-r1.length,i1.length]
 have l:ws.toArray.size=es.length:=by rw [aq,<-r2.length,i2.length]
 simp only [eqN] at h;by_cases hl:ds.length=es.length;·rw [Aa hl] at h;have z:=RcNeAt.lists (A:=A) t1.isList t2.isList 'b' g (uW (A:=A.in1) j r1 r2 i1 i2 h);have e:=wl h;rw [f] at z;rw [e,show min ds.length es.length=ds.length by lia];exact z
 ·rw [Ab hl] at h;cases h;exact RcNeAt.lists_lengths t1.isList t2.isList (bne_iff_ne.mpr (by rw [f,l]; exact hl)) g
theorem qhG (I:Inv X pins σ H s) (i:Same F H) {v w:V} {d e:D} {u t:iq} (k:A.units+n+1 < iW) (t1:TopIs X.K F H v d) (t2:TopIs X.K F H w e) (x:RelV v u) (r:RelV w t) (h:eqN (n+1) d e=ij b):RcAt A s u t b:=by
 have f:A.units < iW:=by lia
 have j:∀ {v w:V} {d e:D} {u t:iq} {b:Bool},Is X.K F v d->Is X.K F w e->RelV v u->RelV w t->eqN n d e=ij b->EqAt A.in1 s u t b:=λy m l p o=>GK I i n (by show A.units+1+n < iW; lia) y m l p o;have k1:=Zc I i t1 x;have k2:=Zc I i t2 r;cases d <;> cases e <;> try (cases h; done)
 case tup.tup=>
  obtain ⟨a,xs,rfl,p1,i1⟩:=t1.tup i; obtain ⟨c,ys,rfl,p2,i2⟩:=t2.tup i; cases x; cases r;exact Yq I j p1 p2 i1 i2 h f
 case lst.lst=>
  obtain ⟨a,xs,rfl,p1,i1⟩:=t1.lst i; obtain ⟨c,ys,rfl,p2,i2⟩:=t2.lst i; cases x; cases r;exact Yr I j p1 p2 i1 i2 h f
 all_goals
  cases h;clear x r t1 t2;first | obtain ⟨_,_,rfl,g⟩:=k1 | obtain ⟨_,rfl⟩:=k1 | cases k1
  first | obtain ⟨_,_,rfl,q⟩:=k2 | obtain ⟨_,rfl⟩:=k2 | cases k2
  with_reducible first | exact RcAt.none_none | exact RcAt.none_bool _ | exact RcAt.none_int _ _ | exact RcAt.none_str _ _ | exact RcAt.bool_none _ | exact RcAt.bool_bool _ _ | exact RcAt.bool_int _ _ _ | exact RcAt.bool_str _ _ _ | exact RcAt.int_none _ _ | exact RcAt.int_bool _ _ _ | exact RcAt.int_int _ _ _ _ | exact RcAt.int_str _ _ _ _ | exact RcAt.str_none _ _ | exact RcAt.str_bool _ _ _ | exact RcAt.str_int _ _ _ _ | exact RcAt.str_str _ _ _ _ | exact RcAt.none_tuple q f | exact RcAt.tuple_none g f | exact RcAt.none_list q f | exact RcAt.list_none g f | exact RcAt.bool_tuple _ q f | exact RcAt.tuple_bool _ g f | exact RcAt.bool_list _ q f | exact RcAt.list_bool _ g f | exact RcAt.int_tuple _ _ q f | exact RcAt.tuple_int _ _ g f | exact RcAt.int_list _ _ q f | exact RcAt.list_int _ _ g f | exact RcAt.str_tuple _ _ q f | exact RcAt.tuple_str _ _ g f | exact RcAt.str_list _ _ q f | exact RcAt.list_str _ _ g f | exact RcAt.tuple_list g q f | exact RcAt.list_tuple g q f
theorem qhH (I:Inv X pins σ H s) (i:Same F H) {v w:V} {d e:D} {u t:iq} (k:A.units+n+1 < iW) (t1:TopIs X.K F H v d) (t2:TopIs X.K F H w e) (x:RelV v u) (r:RelV w t) (h:eqN (n+1) d e=ij b):RcNeAt A s u t (!b):=by
 have f:A.units < iW:=by lia
 have j:∀ {v w:V} {d e:D} {u t:iq} {b:Bool},Is X.K F v d->Is X.K F w e->RelV v u->RelV w t->eqN n d e=ij b->EqAt A.in1 s u t b:=λy m l p o=>GK I i n (by show A.units+1+n < iW; lia) y m l p o;have k1:=Zc I i t1 x;have k2:=Zc I i t2 r;cases d <;> cases e <;> try (cases h; done)
 case tup.tup=>
  obtain ⟨a,xs,rfl,p1,i1⟩:=t1.tup i; obtain ⟨c,ys,rfl,p2,i2⟩:=t2.tup i; cases x; cases r;exact qcJ I j p1 p2 i1 i2 h f
 case lst.lst=>
  obtain ⟨a,xs,rfl,p1,i1⟩:=t1.lst i; obtain ⟨c,ys,rfl,p2,i2⟩:=t2.lst i; cases x; cases r;exact qcK I j p1 p2 i1 i2 h f
 all_goals
  cases h;clear x r t1 t2;first | obtain ⟨_,_,rfl,g⟩:=k1 | obtain ⟨_,rfl⟩:=k1 | cases k1
  first | obtain ⟨_,_,rfl,q⟩:=k2 | obtain ⟨_,rfl⟩:=k2 | cases k2
  try simp only [Bool.not_true,Bool.not_false]
  with_reducible first | exact RcNeAt.none_none | exact RcNeAt.none_bool _ | exact RcNeAt.none_int _ _ | exact RcNeAt.none_str _ _ | exact RcNeAt.bool_none _ | exact RcNeAt.bool_bool _ _ | exact RcNeAt.bool_int _ _ _ | exact RcNeAt.bool_str _ _ _ | exact RcNeAt.int_none _ _ | exact RcNeAt.int_bool _ _ _ | exact RcNeAt.int_int _ _ _ _ | exact RcNeAt.int_str _ _ _ _ | exact RcNeAt.str_none _ _ | exact RcNeAt.str_bool _ _ _ | exact RcNeAt.str_int _ _ _ _ | exact RcNeAt.str_str _ _ _ _ | exact RcNeAt.none_tuple q f | exact RcNeAt.tuple_none g f | exact RcNeAt.none_list q f | exact RcNeAt.list_none g f | exact RcNeAt.bool_tuple _ q f | exact RcNeAt.tuple_bool _ g f | exact RcNeAt.bool_list _ q f | exact RcNeAt.list_bool _ g f | exact RcNeAt.int_tuple _ _ q f | exact RcNeAt.tuple_int _ _ g f | exact RcNeAt.int_list _ _ q f | exact RcNeAt.list_int _ _ g f | exact RcNeAt.str_tuple _ _ q f | exact RcNeAt.tuple_str _ _ g f | exact RcNeAt.str_list _ _ q f | exact RcNeAt.list_str _ _ g f | exact RcNeAt.tuple_list g q f | exact RcNeAt.list_tuple g q f | with_unfolding_all first | exact RcNeAt.bool_bool _ _ | exact RcNeAt.bool_int _ _ _ | exact RcNeAt.int_bool _ _ _ | exact RcNeAt.int_int _ _ _ _ | exact RcNeAt.str_str _ _ _ _
end
noncomputable def eqD (a b:D):Out D:=match eqN 8 a b with
 | some c=>.ok (.bl c)
 | none=>.bad
noncomputable def neD (a b:D):Out D:=match eqN 8 a b with
 | some c=>.ok (.bl (!c))
 | none=>.bad
section
variable {C:Ct}
theorem wm (a:C.K=X.K) (g:X.A.units+64 < iW):OpD X C .sh (iI .Eq) eqD:=by
 intro pins s σ H x y v u Q I d r h;obtain ⟨F,dx,f,b,tx,ty,po⟩:=h;rw [a] at tx ty;unfold eqD at po;cases e:eqN 8 dx f with
 | none=>rw [e] at po; exact po.elim
 | some c=>rw [e] at po;exact qhG I b (n:=7) 'b' tx ty d r e _ _ _ _ ⟨.bl c,H,I,rfl,po _ F H b .refl (.bl _)⟩
theorem yQ (a:C.K=X.K) (g:X.A.units+64 < iW):OpD X C .sh (iI .NotEq) neD:=by
 intro pins s σ H x y v u Q I d r h;obtain ⟨F,dx,f,b,tx,ty,po⟩:=h;rw [a] at tx ty;unfold neD at po;cases e:eqN 8 dx f with
 | none=>rw [e] at po; exact po.elim
 | some c=>rw [e] at po;exact qhH I b (n:=7) 'b' tx ty d r e _ _ _ _ ⟨.bl _,H,I,rfl,po _ F H b .refl (.bl _)⟩
end
end L2.D2
namespace L2.D2
open PySem PySem.Spec PyProof.Rows
open PySem.SeqAt
variable {X:Cx} {pins:Pns} {σ:St} {F H:Hp} {s:iw} {n:Nat} {v:V} {d e:D} {b:Bool}
section
theorem qfq (I:Inv X pins σ H s) (A:Same F H):∀ (n:Nat) {v:V} {d d' e:D} {b g:Bool},Is X.K F v d->Is X.K F v d'->eqN n d e=ij b->eqN n d' e=ij g->b=g:=by
 intro n
 induction n with
 | zero=>
  intro v d d' e b g h1 h2 e1 i;have s1:=GH e1;have s2:=GH i;cases h1 <;> cases h2 <;> first
   | exact aI.inj (e1.symm.trans i)
   | (cases s1; done)
   | (cases s2; done)
   | exact (GI I A (by assumption) (by assumption)).elim
   | exact aI.inj (e1.symm.trans (dN (by cases e <;> rfl) i))
 | succ n o=>
  have l:∀ {xs:List V} {ds f es:List D} {b g:Bool},IsL X.K F xs ds->IsL X.K F xs f->ud (eqN n) ds es=ij b->ud (eqN n) f es=ij g->b=g:=by
   intro xs
   induction xs with
   | nil=>intro ds f es b g h1 h2 e1 i; cases h1; cases h2; exact aI.inj (e1.symm.trans i)
   | cons x xs k=>
    intro ds f es b g h1 h2 e1 i;cases h1 with
    | cons r t1=>
     cases h2 with
     | cons p t2=>
      cases es with
      | nil=>exact aI.inj (e1.symm.trans i)
      | cons e es=>obtain ⟨a,c,q,m,rfl⟩:=zY e1;obtain ⟨t,U,j,h,rfl⟩:=zY i;rw [o r p q j,k t1 t2 m h]
  intro v d d' e b g h1 h2 e1 i;have s1:=GH e1;have s2:=GH i;cases h1 with
  | tup p1 t1=>
   cases h2 with
   | tup p2 t2=>
    have q:=I.tuple_inj (jg A p1) (jg A p2);subst q;have hl:=t1.length.symm.trans t2.length;cases e with
    | tup es=>obtain ⟨c,q,rfl⟩:=Ud e1;obtain ⟨U,j,rfl⟩:=Ud i;rw [l t1 t2 q j,hl]
    | _=>exact aI.inj (e1.symm.trans i)
   | lst p2 t2=>exact (GI I A p1 p2).elim
   | _=>cases s2
  | lst p1 t1=>
   cases h2 with
   | lst p2 t2=>
    have q:=I.list_inj (A.seq p1) (A.seq p2);subst q;have hl:=t1.length.symm.trans t2.length;cases e with
    | lst es=>
     have e1:(if _=es.length then ud (eqN n) _ es else ij ir)=ij b:=e1;have i:(if _=es.length then ud (eqN n) _ es else ij ir)=ij g:=i;rw [hl] at e1;split at i;·rw [Aa (by assumption)] at e1; exact l t1 t2 e1 i
     ·rw [Ab (by assumption)] at e1; exact aI.inj (e1.symm.trans i)
    | _=>exact aI.inj (e1.symm.trans i)
   | tup p2 t2=>exact (GI I A p2 p1).elim
   | _=>cases s2
  | _=>cases h2 <;> first
   | exact aI.inj (e1.symm.trans i)
   | (cases s1; done)
   | (cases s2; done)
open Classical in
noncomputable def qck (X:Cx) (F:Hp) (n:Nat) (e:D) (u:iq):Bool:=decide (∃ v d,Is X.K F v d/\RelV v u/\eqN n d e=ij iu)
open Classical in
theorem qfr (I:Inv X pins σ H s) (A:Same F H) {u:iq} (h:Is X.K F v d) (r:RelV v u) (q:eqN n d e=ij b):qck X F n e u=b:=by
 unfold qck;cases b with
 | true=>exact Ad ⟨v,d,h,r,q⟩
 | false=>refine Ac ?_;rintro ⟨w,d',h',r',g⟩;have e:=r.inj r';subst e;exact absurd (qfq I A n h h' q g) 'd'
noncomputable def WN (n:Nat) (e:D):List D->Option Bool
 | []=>ij ir
 | d::ds=>(eqN n d e).bind λa=>(WN n e ds).bind λb=>ij (a||b)
theorem GL {ds:List D} (h:WN n e (d::ds)=ij b):∃ a c,eqN n d e=ij a/\WN n e ds=ij c/\b=(a||c):=by
 unfold WN at h;cases q:eqN n d e with
 | none=>rw [q] at h; simp at h
 | some a=>
  cases f:WN n e ds with
  | none=>rw [q,f] at h; simp at h
  | some c=>rw [q,f] at h; exact ⟨a,c,rfl,rfl,(aI.inj h).symm⟩
theorem GM (I:Inv X pins σ H s) (A:Same F H):∀ {vs:List V} {ds:List D} {us:List iq} {b:Bool},IsL X.K F vs ds->Vals vs us->WN n e ds=ij b->us.any (qck X F n e)=b/\∀ u∈us,∃ v d a,Is X.K F v d/\RelV v u/\eqN n d e=ij a/\qck X F n e u=a
 | _,_,_,b,.nil,.nil,h=>⟨by simpa using (aI.inj h),λu f=>nomatch f⟩
 | _,_,_,b,.cons i t,.cons r rs,h=>by
  obtain ⟨a,c,q,k,rfl⟩:=GL h;obtain ⟨j,g⟩:=GM I A t rs k;have e1:=qfr I A i r q;refine ⟨by rw [cI,e1,j],λu f=>?_⟩;rcases ac.mp f with rfl | f;·exact ⟨_,_,a,i,r,q,e1⟩
  ·exact g u f
end
noncomputable def inD (x y:D):Out Bool:=match y with
 | .lst ds=>match WN 7 x ds with
  | some b=>.ok b
  | none=>.bad
 | .tup ds=>match WN 7 x ds with
  | some b=>.ok b
  | none=>.bad
 | _=>.bad
noncomputable def qjg (x y:D):Out D:=(inD x y).bind λb=>.ok (.bl b)
noncomputable def Zd (x y:D):Out D:=(inD x y).bind λb=>.ok (.bl (!b))
theorem TopIs.is {K:Frag} (s:Same F H) (h:TopIs K F H v d):∃ F',Same F F'/\Same F' H/\Is K F' v d:=by
 rcases h with h | ⟨a,rfl,o⟩
 ·exact ⟨F,Same.refl _,s,h⟩
 ·obtain ⟨u,hu⟩:∃ u,H a=ij u:=by
   cases q:H a with
   | none=>exact absurd q o.there
   | some u=>exact ⟨u,rfl⟩
  by_cases f:F a=im
  ·have gr:Same F (upd F a u):=λb w e=>by rw [qB (qL e f)]; exact e
   refine ⟨upd F a u,gr,λb w e=>?_,?_⟩
   ·by_cases q:b=a;·subst q; rw [qu] at e; cases e; exact hu
    ·rw [qB q] at e; exact s b w e
   ·cases d with
    | lst ds=>obtain ⟨xs,e,t⟩:=o; rw [hu] at e; cases e; exact .lst (.inl (.inl qu)) (t.mono gr)
    | dct ds=>obtain ⟨xs,e,t⟩:=o; rw [hu] at e; cases e; exact .dct qu (t.mono gr)
    | ins C fs=>obtain ⟨dx,xs,e,t⟩:=o; rw [hu] at e; cases e; exact .ins qu (t.mono gr)
    | at_ b ds=>obtain ⟨J,xs,e,t⟩:=o; rw [hu] at e; cases e; subst J; exact .at_ (.inl (.inl qu)) (t.mono gr)
    | _=>exact o.elim
  ·obtain ⟨w,hw⟩:∃ w,F a=ij w:=by
    cases q:F a with
    | none=>exact absurd q f
    | some w=>exact ⟨w,rfl⟩
   have e:=s a w hw;cases d with
   | lst ds=>obtain ⟨xs,c,t⟩:=o; rw [c] at e; cases e; exact ⟨F,Same.refl _,s,.lst (.inl (.inl hw)) t⟩
   | dct ds=>obtain ⟨xs,c,t⟩:=o; rw [c] at e; cases e; exact ⟨F,Same.refl _,s,.dct hw t⟩
   | ins C fs=>obtain ⟨dx,xs,c,t⟩:=o; rw [c] at e; cases e; exact ⟨F,Same.refl _,s,.ins hw t⟩
   | at_ b ds=>obtain ⟨J,xs,c,t⟩:=o; rw [c] at e; cases e; subst J; exact ⟨F,Same.refl _,s,.at_ (.inl (.inl hw)) t⟩
   | _=>exact o.elim
section
variable {C:Ct}
theorem Ys {A:iJ} {y x:V} {dx:D} {ds:List D} {b:Bool} {u v:iq} {a:Addr} {us:List iq} {xs:List V} (I:Inv X pins σ H s) (l:A.units+64 < iW) (c:Same F H) (ix:Is X.K F x dx) (f:RelV x v)
  (i:IsL X.K F xs ds) (r:Vals xs us) (h:WN 7 dx ds=ij b):us.any (qck X F 7 dx)=b/\∀ w,w∈us.toArray->EqAt A.in1 s w v (qck X F 7 dx w):=by
 obtain ⟨h1,h2⟩:=GM I c i r h;refine ⟨h1,λw g=>?_⟩;obtain ⟨j,d,k,i1,r1,q,e⟩:=h2 w (by simpa using g);rw [e];exact GK I c 7 (by show A.units+1+7 < iW; lia) i1 ix r1 f q
theorem qj4 (n:C.K=X.K) (j:X.A.units+64 < iW):OpD X C .sh (iI .In) qjg:=by
 intro pins s σ H x y v u Q I g f h;obtain ⟨F,dx,k,d,tx,ty,po⟩:=h;rw [n] at tx ty;unfold qjg inD at po;obtain ⟨F',g',c,ix⟩:=tx.is d;cases k with
 | lst ds=>
  cases e:WN 7 dx ds with
  | none=>simp only [e] at po; exact po.elim
  | some b=>simp only [e] at po;obtain ⟨a,xs,rfl,p,i⟩:=ty.lst d;cases f;obtain ⟨us,r,pl,_⟩:=I.list p;obtain ⟨h1,h2⟩:=Ys (A:=X.A) (y:=.non) (a:=a) (u:=.none) I j c ix g (i.mono g') r e;refine in_listAt (qck X F' 7 dx) pl.isList h2 ⟨.bl b,H,I,by show _=_; rw [<-h1]; simp,po _ F H d .refl (.bl _)⟩
 | tup ds=>
  cases e:WN 7 dx ds with
  | none=>simp only [e] at po; exact po.elim
  | some b=>simp only [e] at po;obtain ⟨a,xs,rfl,p,i⟩:=ty.tup d;cases f;obtain ⟨us,r,pl,_⟩:=I.tuple p;obtain ⟨h1,h2⟩:=Ys (A:=X.A) (y:=.non) (a:=a) (u:=.none) I j c ix g (i.mono g') r e;refine in_tupleAt (qck X F' 7 dx) pl h2 ⟨.bl b,H,I,by show _=_; rw [<-h1]; simp,po _ F H d .refl (.bl _)⟩
 | _=>exact po.elim
theorem qcL (n:C.K=X.K) (j:X.A.units+64 < iW):OpD X C .sh (iI .NotIn) Zd:=by
 intro pins s σ H x y v u Q I g f h;obtain ⟨F,dx,k,d,tx,ty,po⟩:=h;rw [n] at tx ty;unfold Zd inD at po;obtain ⟨F',g',c,ix⟩:=tx.is d;cases k with
 | lst ds=>
  cases e:WN 7 dx ds with
  | none=>simp only [e] at po; exact po.elim
  | some b=>simp only [e] at po;obtain ⟨a,xs,rfl,p,i⟩:=ty.lst d;cases f;obtain ⟨us,r,pl,_⟩:=I.list p;obtain ⟨h1,h2⟩:=Ys (A:=X.A) (y:=.non) (a:=a) (u:=.none) I j c ix g (i.mono g') r e;refine notIn_listAt (qck X F' 7 dx) pl.isList h2 ⟨.bl (!b),H,I,by show _=_; rw [<-h1]; simp,po _ F H d .refl (.bl _)⟩
 | tup ds=>
  cases e:WN 7 dx ds with
  | none=>simp only [e] at po; exact po.elim
  | some b=>simp only [e] at po;obtain ⟨a,xs,rfl,p,i⟩:=ty.tup d;cases f;obtain ⟨us,r,pl,_⟩:=I.tuple p;obtain ⟨h1,h2⟩:=Ys (A:=X.A) (y:=.non) (a:=a) (u:=.none) I j c ix g (i.mono g') r e;refine notIn_tupleAt (qck X F' 7 dx) pl h2 ⟨.bl (!b),H,I,by show _=_; rw [<-h1]; simp,po _ F H d .refl (.bl _)⟩
 | _=>exact po.elim
end
end L2.D2
namespace L2.D2
open PySem PySem.Spec PyProof.Rows
def PoT (C:Ct) (own:List Nat) (σ:St) (F H:Hp) (r:Out (Bool×Sl)) (Q:Bool->Hp->Prop):Prop:=match r with
 | .ok (b,ρ')=>∀ F' H',Rep C.K own F' H' σ ρ'->Chg (OA own σ) F H F' H'->Q b H'
 | .exc c ρ'=>∀ F' H',Same F' H'->ZZ C.K C.ox F' H' σ ρ'->Chg (OA own σ) F H F' H'->C.E (C.cv c) im H'
 | .bad=>False
abbrev yi:=Sl->Out (Bool×Sl)
def tT (C:Ct) (own:List Nat) (f:yi):TT:=λσ H Q=>∃ F ρ,Rep C.K own F H σ ρ/\PoT C own σ F H (f ρ) Q
variable {C:Ct} {own:List Nat} {σ:St} {F H F1 H1:Hp} {Q:Bool->Hp->Prop}
theorem PoT.shift {r:Out (Bool×Sl)} (h:PoT C own σ F H r Q) (c:Chg (OA own σ) F H F1 H1):PoT C own σ F1 H1 r Q:=by
 cases r with
 | ok p=>exact λF' H' a U=>h F' H' a (c.trans' U)
 | exc x=>exact λF' H' s io U=>h F' H' s io (c.trans' U)
 | bad=>exact h.elim
theorem PoT.bindV {ma:Mo} {o:WM} {k:D×Sl->Out (Bool×Sl)} {R:VK} (hp:PoT C own σ F H (o.bind k) Q)
  (h:∀ v F1 H1 d ρ1,Rep C.K own F1 H1 σ ρ1->Chg (OA own σ) F H F1 H1->MoIs C.K ma H F1 H1 v d->PoT C own σ F1 H1 (k (d,ρ1)) Q->R v H1):Po C own ma σ F H o R:=by
 cases o with
 | ok p=>obtain ⟨d,ρ1⟩:=p;exact λv F1 H1 a c mo=>h v F1 H1 d ρ1 a c mo (PoT.shift (show PoT C own σ F H (k (d,ρ1)) Q from hp) c)
 | exc x=>exact hp
 | bad=>exact hp.elim
variable {o:Out (Bool×Sl)}
theorem PoT.bindT {k:Bool×Sl->Out (Bool×Sl)} {R:Bool->Hp->Prop} (hp:PoT C own σ F H (o.bind k) Q)
  (h:∀ F1 H1 b ρ1,Rep C.K own F1 H1 σ ρ1->Chg (OA own σ) F H F1 H1->PoT C own σ F1 H1 (k (b,ρ1)) Q->R b H1):PoT C own σ F H o R:=by
 cases o with
 | ok p=>obtain ⟨d,ρ1⟩:=p;exact λF1 H1 a c=>h F1 H1 d ρ1 a c (PoT.shift (show PoT C own σ F H (k (d,ρ1)) Q from hp) c)
 | exc x=>exact hp
 | bad=>exact hp.elim
variable {m:Mo}
theorem Po.bindT {k:Bool×Sl->WM} {Q:VK} {R:Bool->Hp->Prop} (hp:Po C own m σ F H (o.bind k) Q)
  (h:∀ F1 H1 b ρ1,Rep C.K own F1 H1 σ ρ1->Chg (OA own σ) F H F1 H1->Po C own m σ F1 H1 (k (b,ρ1)) Q->R b H1):PoT C own σ F H o R:=by
 cases o with
 | ok p=>obtain ⟨d,ρ1⟩:=p;exact λF1 H1 a c=>h F1 H1 d ρ1 a c (Po.shift (show Po C own m σ F H (k (d,ρ1)) Q from hp) c)
 | exc x=>exact hp
 | bad=>exact hp.elim
noncomputable def Ga:D->Out Bool
 | .non=>.ok ir
 | .bl b=>.ok b
 | .int i=>.ok (i != 0)
 | .str x=>.ok ((x.length:Int) != 0)
 | .tup xs=>.ok (!xs.isEmpty)
 | .lst xs=>.ok (!xs.isEmpty)
 | .dct xs=>.ok (!xs.isEmpty)
 | .raw _=>.bad
 | .xcp _=>.bad
 | .ins _ _=>.bad
 | .at_ _ _=>.bad
noncomputable def uh (f:jl):yi:=λρ=>(f ρ).bind λp=>(Ga p.1).bind λb=>.ok (b,p.2)
variable {K:Frag} {vs:List V} {ds:List D}
theorem IsL.isEmpty (h:IsL K F vs ds):vs.isEmpty=ds.isEmpty:=by cases h <;> rfl
theorem IsK.isEmpty {vs:List (Key×V)} {ds:List (Key×D)} (h:IsK K F vs ds):vs.isEmpty=ds.isEmpty:=by cases h <;> rfl
variable {v:V} {d:D}
theorem qfs {b:Bool} (s:Same F H) (h:TopIs K F H v d) (e:Ga d=.ok b):qjS K v H b:=by
 cases d with
 | non=>obtain rfl:=h.non; cases e; rfl
 | bl x=>obtain rfl:=h.bl; cases e; rfl
 | int x=>obtain rfl:=h.int; cases e; rfl
 | str x=>obtain ⟨rfl,q⟩:=h.str; cases e; exact ⟨q,rfl⟩
 | tup x=>obtain ⟨a,xs,rfl,p,t⟩:=h.tup s; cases e; exact .inr (.inl ⟨xs,p,by rw [t.isEmpty]⟩)
 | lst x=>obtain ⟨a,xs,rfl,p,t⟩:=h.lst s; cases e; exact .inl ⟨xs,p,by rw [t.isEmpty]⟩
 | dct x=>obtain ⟨a,xs,rfl,p,t⟩:=h.dct s; cases e; exact .inr (.inr ⟨xs,p,by rw [t.isEmpty]⟩)
 | raw x=>cases e
 | xcp x=>cases e
 | ins x y=>cases e
 | at_ x y=>cases e
noncomputable def qF (f:jl):yi:=λρ=>(f ρ).bind λp=>match p.1 with
 | .bl b=>.ok (b,p.2)
 | _=>.bad
variable {X:Cx} {c e t:Expr} {ma mb:Mo} {pos:Pos} {op op':CmpOp} {ρ:Sl} {g':D->D->Out D}
section
variable {a b:Expr} {f fa fb fc:jl} {ft fu:yi} {mc:Mo} {rest:List Expr}
theorem qft (n:C.K=X.K) (h:PE X e (tE C own m f)) (i:∀ whole,isTrue e X.env whole=(do let v <-whole; standAt e.pos; holding [v] (truthy v))):PT X e (tT C own (uh f)):=by
 refine qcH (qcx h i) λσ H Q ⟨F,ρ,r,h⟩=>⟨F,ρ,r,PoT.bindV h λv F1 H1 d ρ1 a g c h1=>?_⟩
 cases q:Ga d with
 | ok k=>have h1:PoT C own σ F1 H1 ((Ga d).bind λb=>.ok (b,ρ1)) Q:=h1;rw [q] at h1;exact ⟨k,by rw [<-n]; exact qfs a.sub c.top q,h1 F1 H1 a .refl⟩
 | exc x=>have h1:PoT C own σ F1 H1 ((Ga d).bind λb=>.ok (b,ρ1)) Q:=h1;cases d <;> cases q
 | bad=>have h1:PoT C own σ F1 H1 ((Ga d).bind λb=>.ok (b,ρ1)) Q:=h1;rw [q] at h1;exact h1.elim
theorem GN (h:tT C own (qF f) σ H Q):tE C own .sh f σ H λx H'=>∃ k,x=.bl k/\Q k H':=by
 obtain ⟨F,ρ,r,h⟩:=h;refine ⟨F,ρ,r,PoT.bindV h λv F1 H1 d ρ1 a b c h1=>?_⟩;cases d with
 | bl k=>have c:Is C.K F1 v (.bl k):=c;cases c;exact ⟨k,rfl,h1 F1 H1 a .refl⟩
 | _=>exact h1.elim
theorem qD {g:D->D->Out D} (l:OpD X C .sh (iI op) g) (c:PE X a (tE C own ma fa)) (d:PE X b (tE C own mb fb)) (f:ma≠.any:=by decide)
  (k:lA op b=false:=by first | exact qee _ | with_unfolding_all rfl):PT X (.Compare a [op] [b] pos) (tT C own (qF (d2 g fa fb))):=by
 refine qcH (qfb l c d k) λσ H Q h=>?_;exact Vn f (GN h)
noncomputable def yw (ft:yi):yi:=λρ=>(ft ρ).bind λp=>.ok (!p.1,p.2)
theorem ja (h:PT X a (tT C own ft)):PT X (.UnaryOp .Not a pos) (tT C own (yw ft)):=by refine qcH (qg8 h) λσ H Q ⟨F,ρ,p,h⟩=>⟨F,ρ,p,PoT.bindT h λF1 H1 b ρ1 r k h1=>h1 F1 H1 r .refl⟩
theorem qhI {e:Expr} {t t':TT} (h:PW X e t) (i:∀ σ H Q,t' σ H Q->t σ H Q):PW X e t':=⟨λwh pins s σ H Q I w=>h wh pins s σ H Q I (i σ H Q w)⟩
noncomputable def Ze (ft fu:yi):yi:=λρ=>(ft ρ).bind λp=>if p.1=iu then fu p.2 else .ok (ir,p.2)
noncomputable def dOr (ft fu:yi):yi:=λρ=>(ft ρ).bind λp=>if p.1=iu then .ok (iu,p.2) else fu p.2
theorem jv {op} (h:PT X a (tT C own ft)):PW X (.BoolOp op [a] pos) (tT C own ft):=by
 cases op;·exact qe3 h
 ·exact qg6 h
theorem zZ (g:PT X a (tT C own ft)) (d:PW X (.BoolOp .And (b::rest) pos) (tT C own fu)):PW X (.BoolOp .And (a::b::rest) pos) (tT C own (Ze ft fu)):=by
 refine qhI (qg7 g d) λσ H Q ⟨F,ρ,p,h⟩=>⟨F,ρ,p,PoT.bindT h λF1 H1 k ρ1 r c h1=>?_⟩
 cases k with
 | true=>exact ⟨F1,ρ1,r,h1⟩
 | false=>exact h1 F1 H1 r .refl
theorem va (g:PT X a (tT C own ft)) (d:PW X (.BoolOp .Or (b::rest) pos) (tT C own fu)):PW X (.BoolOp .Or (a::b::rest) pos) (tT C own (dOr ft fu)):=by
 refine qhI (qjD g d) λσ H Q ⟨F,ρ,p,h⟩=>⟨F,ρ,p,PoT.bindT h λF1 H1 k ρ1 r c h1=>?_⟩
 cases k with
 | true=>exact h1 F1 H1 r .refl
 | false=>exact ⟨F1,ρ1,r,h1⟩
noncomputable def Qu (fa fb:jl):jl:=λρ=>(fa ρ).bind λp=>match p.1 with
 | .bl iu=>fb p.2
 | .bl ir=>.ok (.bl ir,p.2)
 | _=>.bad
noncomputable def qkT (fa fb:jl):jl:=λρ=>(fa ρ).bind λp=>match p.1 with
 | .bl iu=>.ok (.bl iu,p.2)
 | .bl ir=>fb p.2
 | _=>.bad
theorem QO {op} (h:PE X a (tE C own m f)):PE X (.BoolOp op [a] pos) (tE C own m f):=qg9 h
theorem gb (g:PE X a (tE C own .sh fa)) (e:PE X (.BoolOp .And (b::rest) pos) (tE C own .sh fb)):PE X (.BoolOp .And (a::b::rest) pos) (tE C own .sh (Qu fa fb)):=by
 refine jN (qha g e) λσ H Q ⟨F,ρ,p,h⟩=>⟨F,ρ,p,Po.bind h λv F1 H1 d ρ1 r f c h1=>?_⟩
 cases d with
 | bl k=>
  have c:Is C.K F1 v (.bl k):=c;cases c;refine ⟨k,rfl,?_⟩;cases k with
  | true=>exact ⟨F1,ρ1,r,h1⟩
  | false=>exact h1 _ F1 H1 r .refl (.bl _)
 | _=>exact h1.elim
noncomputable def dIf (ft:yi) (fa fb:jl):jl:=λρ=>(ft ρ).bind λp=>if p.1=iu then fa p.2 else fb p.2
theorem Zf (ht:PT X t (tT C own ft)) (g:PE X a (tE C own ma fa)) (d:PE X b (tE C own mb fb)) (h1:ma≠.any:=by decide) (h2:mb≠.any:=by decide):PE X (.IfExp t a b pos) (tE C own .sh (dIf ft fa fb)):=by
 refine jN (qcp ht (yh g h1) (yh d h2)) λσ H Q ⟨F,ρ,p,h⟩=>⟨F,ρ,p,Po.bindT h λF1 H1 k ρ1 r c h1=>?_⟩
 cases k with
 | true=>exact ⟨F1,ρ1,r,h1⟩
 | false=>exact ⟨F1,ρ1,r,h1⟩
noncomputable def wn (g g':D->D->Out D) (fa fb fc:jl):jl:=λρ=>(fa ρ).bind λp=>(fb p.2).bind λq=>(g p.1 q.1).plain.bind λz=>match z with
 | .bl iu=>(fc q.2).bind λr=>(g' q.1 r.1).plain.bind λd=>.ok (d,r.2)
 | .bl ir=>.ok (.bl ir,q.2)
 | _=>.bad
theorem PoV.bind {o:Out D} {k:D->WM} {Q R:VK} (a:Rep C.K own F H σ ρ) (h:Po C own m σ F H (o.plain.bind k) Q)
  (b:∀ v F1 H1 d,Rep C.K own F1 H1 σ ρ->Chg No F H F1 H1->MoIs C.K ma H F1 H1 v d->Po C own m σ F1 H1 (k d) Q->R v H1):PoV C ma F H o R:=by
 cases o with
 | ok d=>exact λv F1 H1 s c mo=>b v F1 H1 d (a.grow c s) c mo (Po.shift (show Po C own m σ F H (k d) Q from h) c.ofNo)
 | exc c=>exact h.elim
 | bad=>exact h.elim
theorem Yt {g:D->D->Out D} {Q:VK} (s:ma≠.any) (l:mb≠.any) (h:tE C own .sh (wn g g' fa fb fc) σ H Q):Go (λx y H Q=>∃ F dx n,Same F H/\TopIs C.K F H x dx/\TopIs C.K F H y n/\PoV C .sh F H (g dx n) Q) (λx y H Q=>∃ F dx n,Same F H/\TopIs C.K F H x dx/\TopIs C.K F H y n/\PoV C .sh F H (g' dx n) Q)
   (tE C own ma fa) (tE C own mb fb) (tE C own mc fc) σ H Q:=by
 obtain ⟨F,ρ,A,h⟩:=h;refine ⟨F,ρ,A,Po.bind h λv F1 H1 d ρ1 i O q h1=>⟨F1,ρ1,i,Po.bind h1 λw N H2 e ρ2 f c2 j h2=>?_⟩⟩;have oa:∀ x,OA own σ x->H x≠none:=λx z=>(A.OA_there z).1;have o:∀ x,OA own σ x->H1 x≠none:=λx z=>(i.OA_there z).1;refine ⟨N,d,e,f.sub,(q.grow s c2 oa).top,j.top,PoV.bind (m:=.sh) f h2 λz u L G c J a t=>?_⟩;cases G with
 | bl k=>
  have a:Is C.K u z (.bl k):=a;cases a;refine ⟨k,rfl,?_⟩;cases k with
  | true=>refine ⟨u,ρ2,c,Po.bind t λT M P r B b I p E=>?_⟩;exact ⟨M,e,r,b.sub,((j.grow l (J.ofNo) o).grow l I o).top,p.top,PoV.of b E⟩
  | false=>exact t _ u L c .refl (.bl _)
 | _=>exact t.elim
theorem Yu {g:D->D->Out D} (o:OpD X C .sh (iI op) g) (d:OpD X C .sh (iI op') g') (j:PE X a (tE C own ma fa)) (i:PE X b (tE C own mb fb)) (e:PE X c (tE C own mc fc)) (f:ma≠.any:=by decide) (l:mb≠.any:=by decide)
  (m:lastMarks [op,op'] [b,c]=false:=by with_unfolding_all rfl):PE X (.Compare a [op,op'] [b,c] pos) (tE C own .sh (wn g g' fa fb fc)):=jN (qcv o d j i e m) λ_ _ _ h=>Yt f l h
theorem yR {g:D->D->Out D} (o:OpD X C .sh (iI op) g) (d:OpD X C .sh (iI op') g') (j:PE X a (tE C own ma fa)) (i:PE X b (tE C own mb fb)) (e:PE X c (tE C own mc fc)) (f:ma≠.any:=by decide) (l:mb≠.any:=by decide)
  (m:lastMarks [op,op'] [b,c]=false:=by with_unfolding_all rfl):PT X (.Compare a [op,op'] [b,c] pos) (tT C own (qF (wn g g' fa fb fc))):=qcH (qcw o d j i e m) λ_ _ _ h=>Yt f l (GN h)
theorem GO:OpR X (iI .LtE) (λx y H Q=>∃ i j,x=.str i/\y=.str j/\Q (.bl (!vd j i)) H):=by intro pins s σ H x y v u Q I d c h;obtain ⟨i,j,rfl,rfl,q⟩:=h;obtain ⟨t,rfl⟩:=d;obtain ⟨t',rfl⟩:=c;exact PySem.P.le_str (Ym I q (by simp [vd]))
noncomputable def leD:D->D->Out D
 | .int i,.int j=>.ok (.bl (decide (i<=j)))
 | .str x,.str y=>.ok (.bl (!vd y x))
 | _,_=>.bad
theorem zp:OpD X C .sh (iI .LtE) leD:=by
 intro pins s σ H x y v u Q I d c h;obtain ⟨F,dx,a,A,tx,ty,po⟩:=h;cases dx <;> try exact po.elim
 ·cases a <;> try exact po.elim
  obtain rfl:=tx.int;obtain rfl:=ty.int;exact qjP pins s σ H _ _ v u Q I d c ⟨_,_,rfl,rfl,po _ F H A .refl (.bl _)⟩
 ·cases a <;> try exact po.elim
  obtain ⟨rfl,_⟩:=tx.str;obtain ⟨rfl,_⟩:=ty.str;exact GO pins s σ H _ _ v u Q I d c ⟨_,_,rfl,rfl,po _ F H A .refl (.bl _)⟩
noncomputable def gtD:D->D->Out D:=ym λi j=>.ok (.bl (decide (j < i)))
theorem qj5:OpD X C .sh (iI .Gt) gtD:=Ub qjQ λ_ _ _=>.bl _
noncomputable def geD:D->D->Out D:=ym λi j=>.ok (.bl (decide (j<=i)))
theorem qfu:OpD X C .sh (iI .GtE) geD:=Ub qjR λ_ _ _=>.bl _
noncomputable def qcl:D->D->Out D
 | .non,.non=>.ok (.bl iu)
 | .raw _,.non=>.bad
 | _,.non=>.ok (.bl ir)
 | _,_=>.bad
noncomputable def Ue:D->D->Out D
 | .non,.non=>.ok (.bl ir)
 | .raw _,.non=>.bad
 | _,.non=>.ok (.bl iu)
 | _,_=>.bad
theorem TopIs.notN (h:TopIs K F H v d) (h1:d≠.non) (h2:∀ u,d≠.raw u):v≠.non:=by
 rintro rfl;rcases h with h | ⟨a,e,_⟩
 ·cases h;·exact h1 rfl
  ·exact h2 _ rfl
 ·cases e
theorem GP:OpD X C .sh (iI .Is) qcl:=by
 intro pins s σ H x y v u Q I r c h;obtain ⟨F,dx,d,A,tx,ty,po⟩:=h;have D:d=.non:=by cases d <;> first | rfl | (cases dx <;> exact po.elim)
 subst D;obtain rfl:=ty.non;refine qhm pins s σ H x .non v u Q I r c ⟨rfl,?_⟩;cases dx with
 | non=>obtain rfl:=tx.non; exact po _ F H A .refl (.bl _)
 | raw _=>exact po.elim
 | _=>rw [Ac (tx.notN (by intro z; cases z) (by intro _ z; cases z))]; exact po _ F H A .refl (.bl _)
theorem GQ:OpD X C .sh (iI .IsNot) Ue:=by
 intro pins s σ H x y v u Q I r c h;obtain ⟨F,dx,d,A,tx,ty,po⟩:=h;have D:d=.non:=by cases d <;> first | rfl | (cases dx <;> exact po.elim)
 subst D;obtain rfl:=ty.non;refine qe9 pins s σ H x .non v u Q I r c ⟨rfl,?_⟩;cases dx with
 | non=>obtain rfl:=tx.non; exact po _ F H A .refl (.bl _)
 | raw _=>exact po.elim
 | _=>rw [Ac (tx.notN (by intro z; cases z) (by intro _ z; cases z))]; exact po _ F H A .refl (.bl _)
end
inductive Fl where
 | nx | rt (d:D) | bk | ct
structure Nx (C:Ct) (own own':List Nat) (σ:St) (F H:Hp) (ρ':Sl) (σ':St) (F' H':Hp):Prop where
 rep:Rep C.K own' F' H' σ' ρ'
 chg:Chg (OA own σ) F H F' H'
 oa:∀ b,OA own' σ' b->OA own σ b\/H b=im
 io:∀ i∈C.io,σ'[i]?=σ[i]?
def PoS (C:Ct) (own own':List Nat) (σ:St) (F H:Hp) (r:Out (Fl×Sl)) (D:Ends):Prop:=match r with
 | .ok (.nx,ρ')=>∀ σ' F' H',Nx C own own' σ F H ρ' σ' F' H'->D.nx σ' H'
 | .ok (.rt d,ρ')=>∀ v σ' F' H',Same F' H'->ZZ C.K C.io F' H' σ' ρ'->Chg (OA own σ) F H F' H'->(∀ i∈C.io,σ'[i]?=σ[i]?)->MoIs C.K C.mr H F' H' v d->D.rt v H'
 | .ok (.bk,ρ')=>∀ σ' F' H',Nx C own C.ol σ F H ρ' σ' F' H'->D.bk σ' H'
 | .ok (.ct,ρ')=>∀ σ' F' H',Nx C own C.ol σ F H ρ' σ' F' H'->D.ct σ' H'
 | .exc c ρ'=>∀ F' H',Same F' H'->ZZ C.K C.ox F' H' σ ρ'->Chg (OA own σ) F H F' H'->C.E (C.cv c) im H'
 | .bad=>False
abbrev qU:=Sl->Out (Fl×Sl)
def tSt (C:Ct) (own own':List Nat) (f:qU):TS:=λD σ H=>∃ F ρ,Rep C.K own F H σ ρ/\PoS C own own' σ F H (f ρ) D
variable {o1 o2 o3:List Nat} {σ1:St} {ρ1:Sl}
theorem Nx.then {c:St} {d H2:Hp} {ρ2:Sl} (a:Nx C o1 o2 σ F H ρ1 σ1 F1 H1) (b:Nx C o2 o3 σ1 F1 H1 ρ2 c d H2):Nx C o1 o3 σ F H ρ2 c d H2 where
 rep:=b.rep
 chg:=a.chg.trans b.chg a.oa
 oa:=λx h=>by
  rcases b.oa x h with z | z;·exact a.oa x z
  ·refine .inr ?_;cases q:H x with
   | none=>rfl
   | some o=>exact absurd z (a.chg.stay x (by rw [q]; simp))
 io:=λi hi=>(b.io i hi).trans (a.io i hi)
theorem PoS.shift {r:Out (Fl×Sl)} {D:Ends} (h:PoS C o1 o3 σ F H r D) (a:Nx C o1 o2 σ F H ρ1 σ1 F1 H1):PoS C o2 o3 σ1 F1 H1 r D:=by
 cases r with
 | ok p=>
  obtain ⟨l,ρ'⟩:=p;cases l with
  | nx=>exact λσ' F' H' n=>h σ' F' H' (a.then n)
  | rt d=>exact λv σ' F' H' s io c e mo=>h v σ' F' H' s io (a.chg.trans c a.oa) (λi hi=>(e i hi).trans (a.io i hi)) (MoIs.back (Ha:=H1) a.chg mo)
  | bk=>exact λσ' F' H' n=>h σ' F' H' (a.then n)
  | ct=>exact λσ' F' H' n=>h σ' F' H' (a.then n)
 | exc c=>exact λF' H' s io U=>h F' H' s (λi hi=>by obtain ⟨d,b,e1,g,f⟩:=io i hi;exact ⟨d,b,e1,by rw [<-a.io i (C.oxs i hi)]; exact g,f⟩) (a.chg.trans U a.oa)
 | bad=>exact h.elim
theorem Nx.ofE (r:Rep C.K own F1 H1 σ ρ1) (c:Chg (OA own σ) F H F1 H1):Nx C own own σ F H ρ1 σ F1 H1:=⟨r,c,λ_ h=>.inl h,λ_ _=>rfl⟩
variable {own':List Nat}
theorem PoS.bindE {m:Mo} {o:WM} {k:D×Sl->Out (Fl×Sl)} {D:Ends} {R:VK} (hp:PoS C own own' σ F H (o.bind k) D)
  (h:∀ v F1 H1 d ρ1,Rep C.K own F1 H1 σ ρ1->Chg (OA own σ) F H F1 H1->MoIs C.K m H F1 H1 v d->PoS C own own' σ F1 H1 (k (d,ρ1)) D->R v H1):Po C own m σ F H o R:=by
 cases o with
 | ok p=>obtain ⟨d,ρ1⟩:=p;exact λv F1 H1 a c mo=>h v F1 H1 d ρ1 a c mo (PoS.shift (show PoS C own own' σ F H (k (d,ρ1)) D from hp) (.ofE a c))
 | exc x=>exact hp
 | bad=>exact hp.elim
theorem PoS.bindT {k:Bool×Sl->Out (Fl×Sl)} {D:Ends} {R:Bool->Hp->Prop} (hp:PoS C own own' σ F H (o.bind k) D)
  (h:∀ F1 H1 b ρ1,Rep C.K own F1 H1 σ ρ1->Chg (OA own σ) F H F1 H1->PoS C own own' σ F1 H1 (k (b,ρ1)) D->R b H1):PoT C own σ F H o R:=by
 cases o with
 | ok p=>obtain ⟨d,ρ1⟩:=p;exact λF1 H1 a c=>h F1 H1 d ρ1 a c (PoS.shift (show PoS C own own' σ F H (k (d,ρ1)) D from hp) (.ofE a c))
 | exc x=>exact hp
 | bad=>exact hp.elim
variable {b a:Addr} {t':TS} {st:Stmt} {i:Nat} {x:Str} {pos':Pos}
section
variable {sts rest:List Stmt} {f g:qU} {fe:jl} {ft:yi}
theorem Qv {t:TS} (h:PS X st t) (i:∀ D σ H,t' D σ H->t D σ H):PS X st t':=⟨λpins s σ H D I w=>h pins s σ H D I (i D σ H w)⟩
theorem GR {t:TS} (h:PSs X sts t) (i:∀ D σ H,t' D σ H->t D σ H):PSs X sts t':=⟨λpins s σ H D I w=>h pins s σ H D I (i D σ H w)⟩
noncomputable def qO:qU:=λρ=>.ok (.nx,ρ)
noncomputable def qG (f g:qU):qU:=λρ=>(f ρ).bind λp=>match p.1 with
 | .nx=>g p.2
 | fl=>.ok (fl,p.2)
theorem Nx.refl (r:Rep C.K own F H σ ρ):Nx C own own σ F H ρ σ F H:=.ofE r .refl
theorem qC:PSs X [] (tSt C own own qO):=GR WS λD σ H ⟨F,ρ,a,h⟩=>h σ F H (.refl a)
theorem qhJ {D:Ends} (h:tSt C o1 o3 (qG f g) D σ H):tSt C o1 o2 f { D with nx:=tSt C o2 o3 g D } σ H:=by
 obtain ⟨F,ρ,a,h⟩:=h;refine ⟨F,ρ,a,?_⟩;unfold qG at h;cases q:f ρ with
 | ok p=>
  rw [q] at h;obtain ⟨l,ρ1⟩:=p;cases l with
  | nx=>exact λσ' F' H' n=>⟨F',ρ1,n.rep,PoS.shift (show PoS C o1 o3 σ F H (g ρ1) D from h) n⟩
  | rt d=>exact h
  | bk=>exact h
  | ct=>exact h
 | exc c=>rw [q] at h; exact h
 | bad=>rw [q] at h; exact h.elim
theorem qe (h1:PS X st (tSt C o1 o2 f)) (h2:PSs X rest (tSt C o2 o3 g)):PSs X (st::rest) (tSt C o1 o3 (qG f g)):=GR (qcq h1 h2) λD σ H h=>qhJ h
theorem qf (h1:PS X st (tSt C o1 o2 f)):PSs X [st] (tSt C o1 o2 f):=qe4 h1
theorem Rep.weak {K:Frag} {F H:Hp} {σ:St} {ρ:Sl}:∀ (drop:List Nat) {own own':List Nat},(∀ i,i∈own'↔i∈own/\i∉drop)->Rep K own F H σ ρ->∃ F',Rep K own' F' H σ ρ/\Chg (OA own σ) F H F' H
 | [],own,own',hs,rp=>⟨F,⟨rp.sub,rp.len,λi d hi=>rp.val i d λz=>hi ((hs i).mpr ⟨z,by simp⟩),λi d hi=>rp.ow i d ((hs i).mp hi).1,λi hi=>rp.opn i ((hs i).mp hi).1,λi j a hi G=>rp.dis i j a ((hs i).mp hi).1 ((hs j).mp G).1⟩,.refl⟩
 | k::r,own,own',hs,rp=>by
  obtain ⟨F1,c,n⟩:=Rep.weak r (own:=own) (own':=own.filter λi=>decide (i∉r)) (λi=>by simp) rp;by_cases f:k∈own/\k∉r
  ·obtain ⟨d,hd⟩:=c.opn k (by simp [f.1,f.2]);obtain ⟨a,h1,h2,g⟩:=c.ow k d (by simp [f.1,f.2]) hd;obtain ⟨u,hu⟩:∃ u,H a=ij u:=by
    cases q:H a with
    | none=>exact absurd q g.there
    | some u=>exact ⟨u,rfl⟩
   have gr:Same F1 (upd F1 a u):=λb w e=>by rw [qB (qL e h2)]; exact e
   refine ⟨upd F1 a u,⟨λb w e=>?_,c.len,λi d' hi e=>?_,λi d' hi e=>?_,λi hi=>?_,λi j b hi G=>?_⟩,?_⟩
   ·by_cases q:b=a;·subst q; rw [qu] at e; cases e; exact hu
    ·rw [qB q] at e; exact c.sub b w e
   ·by_cases q:i=k
    ·subst q;rw [hd] at e; cases e;refine ⟨_,h1,?_⟩;cases d with
     | lst ds=>obtain ⟨xs,e,t⟩:=g; rw [hu] at e; cases e; exact .lst (.inl (.inl qu)) (t.mono gr)
     | dct ds=>obtain ⟨xs,e,t⟩:=g; rw [hu] at e; cases e; exact .dct qu (t.mono gr)
     | ins C fs=>obtain ⟨dx,xs,e,t⟩:=g; rw [hu] at e; cases e; exact .ins qu (t.mono gr)
     | at_ b ds=>obtain ⟨J,xs,e,t⟩:=g; rw [hu] at e; cases e; subst J; exact .at_ (.inl (.inl qu)) (t.mono gr)
     | _=>exact g.elim
    ·obtain ⟨v,o,p⟩:=c.val i d' (λz=>by simp at z; exact hi ((hs i).mpr ⟨z.1,by simp [q,z.2]⟩)) e;exact ⟨v,o,p.mono gr⟩
   ·have h:=(hs i).mp hi;have s:i≠k:=λz=>h.2 (by simp [z]);have m:i∉r:=λz=>h.2 (by simp [z]);obtain ⟨b,o,p,y⟩:=c.ow i d' (by simp [h.1,m]) e;refine ⟨b,o,?_,y.grow gr λ_ z=>z⟩;have nb:b≠a:=λz=>by subst z; exact s (c.dis i k b (by simp [h.1,m]) (by simp [f.1,f.2]) o h1)
    rw [qB nb]; exact p
   ·have h:=(hs i).mp hi;exact c.opn i (by simp [h.1]; exact λz=>h.2 (by simp [z]))
   ·have h:=(hs i).mp hi;have l:=(hs j).mp G;exact c.dis i j b (by simp [h.1]; exact λz=>h.2 (by simp [z])) (by simp [l.1]; exact λz=>l.2 (by simp [z]))
   ·refine ⟨n.keep,n.stay,n.grow.trans gr,λb x=>?_⟩;by_cases q:b=a;·exact .inr (.inr ⟨k,f.1,by rw [q]; exact h1⟩)
    ·rw [qB q] at x; exact n.new b x
  ·refine ⟨F1,⟨c.sub,c.len,λi d hi=>c.val i d λz=>?_,λi d hi=>c.ow i d ?_,λi hi=>c.opn i ?_,λi j a hi G=>c.dis i j a ?_ ?_⟩,n⟩;·simp at z;refine hi ((hs i).mpr ⟨z.1,?_⟩);simp only [ac,not_or];exact ⟨λq=>f (by subst q; exact z),z.2⟩
   all_goals
    first
     | (have q:=(hs _).mp hi; simp only [bF,decide_eq_true_eq]; exact ⟨q.1,λz=>q.2 (by simp [z])⟩)
     | (have q:=(hs _).mp G; simp only [bF,decide_eq_true_eq]; exact ⟨q.1,λz=>q.2 (by simp [z])⟩)
theorem OA.sub (h:∀ i∈own',i∈own) (q:OA own' σ b):OA own σ b:=let ⟨i,hi,e⟩:=q; ⟨i,h i hi,e⟩
theorem Nx.drop (drop:List Nat) (h:∀ i,i∈own'↔i∈own/\i∉drop) (r:Rep C.K own F H σ ρ):∃ F',Nx C own own' σ F H ρ σ F' H:=by obtain ⟨F',a,c⟩:=Rep.weak drop h r;exact ⟨F',a,c,λb q=>.inl (OA.sub (λi hi=>((h i).mp hi).1) q),λ_ _=>rfl⟩
noncomputable def wa (own drop:List Nat):List Nat:=own.filter λi=>decide (i∉drop)
theorem jm {own drop:List Nat} (i:Nat):i∈wa own drop↔i∈own/\i∉drop:=by simp [wa]
theorem vf (drop:List Nat) (h:PSs X sts (tSt C (wa own drop) o2 f)):PSs X sts (tSt C own o2 f):=GR h λD σ H ⟨F,ρ,a,h⟩=>by obtain ⟨F',n⟩:=Nx.drop (C:=C) drop (λi=>jm (own:=own) i) a;exact ⟨F',ρ,n.rep,h.shift n⟩
noncomputable def sIf (ft:yi) (f g:qU):qU:=λρ=>(ft ρ).bind λp=>if p.1=iu then f p.2 else g p.2
theorem qN {a b:List Stmt} (d:PT X c (tT C own ft)) (i:PSs X a (tSt C own own' f)) (e:PSs X b (tSt C own own' g)):PS X (.If c a b pos) (tSt C own own' (sIf ft f g)):=by
 refine Qv (qjH d i e) λD σ H ⟨F,ρ,p,h⟩=>⟨F,ρ,p,PoS.bindT h λF1 H1 k ρ1 r j h1=>?_⟩
 cases k with
 | true=>exact ⟨F1,ρ1,r,h1⟩
 | false=>exact ⟨F1,ρ1,r,h1⟩
noncomputable def kP (fe:jl):qU:=λρ=>(fe ρ).bind λp=>.ok (.nx,p.2)
theorem jt (i:PE X e (tE C own m fe)) (s:lm e im pos.line X.env=pure false:=by rfl):PS X (.Expr e pos) (tSt C own own (kP fe)):=by refine Qv (qe5 i s) λD σ H ⟨F,ρ,r,h⟩=>⟨F,ρ,r,PoS.bindE h λv F1 H1 d ρ1 a k c h1=>h1 σ F1 H1 (.refl a)⟩
noncomputable def jf (fe:jl):qU:=λρ=>(fe ρ).bind λp=>.ok (.rt p.1,p.2)
theorem qfv (b:PE X e (tE C own C.mr fe)) (o:∀ i∈C.io,i∈own:=by exact kZ rfl):PS X (.Return (ij e) pos) (tSt C own own' (jf fe)):=by
 refine Qv (qhb b) λD σ H ⟨F,ρ,r,h⟩=>⟨F,ρ,r,?_⟩
 unfold jf at h;cases q:fe ρ with
 | ok p=>rw [q] at h;obtain ⟨d,ρ1⟩:=p;exact λv F1 H1 a k m=>h v σ F1 H1 a.sub (a.ioIs o) k (λ_ _=>rfl) m
 | exc c=>rw [q] at h; exact h
 | bad=>rw [q] at h; exact h.elim
theorem qm (h:PE X e (tE C own m fe)) (c:m≠.any:=by decide) (hr:C.mr=.sh:=by rfl) (o:∀ i∈C.io,i∈own:=by exact kZ rfl):PS X (.Return (ij e) pos) (tSt C own own' (jf fe)):=qfv (by rw [hr]; exact yh h c) o
theorem Rep.put (r:Rep K own F H σ ρ) (hi:i < ρ.length) (is:Is K F v d):Rep K (wa own [i]) F H (σ.set i (ij v)) (ρ.set i (ij d)) where
 sub:=r.sub
 len:=by simp [r.len]
 val:=λj d' G e=>by
  by_cases q:j=i;·subst q;rw [aG hi] at e;cases e;exact ⟨v,aG (by rw [r.len]; exact hi),is⟩
  ·rw [ax (bo q)] at e;obtain ⟨w,h1,h2⟩:=r.val j d' (λz=>G ((jm j).mpr ⟨z,by simp [q]⟩)) e;exact ⟨w,by rw [ax (bo q)]; exact h1,h2⟩
 ow:=λj d' G e=>by have l:=(jm j).mp G;have q:j≠i:=λz=>l.2 (by simp [z]);rw [ax (bo q)] at e;obtain ⟨a,h1,h2⟩:=r.ow j d' l.1 e;exact ⟨a,by rw [ax (bo q)]; exact h1,h2⟩
 opn:=λj G=>by have l:=(jm j).mp G;have q:j≠i:=λz=>l.2 (by simp [z]);obtain ⟨d',e⟩:=r.opn j l.1;exact ⟨d',by rw [ax (bo q)]; exact e⟩
 dis:=λj k a G c e1 b=>by have l:=(jm j).mp G;have h:=(jm k).mp c;rw [ax (λz=>l.2 (by simp [z]))] at e1;rw [ax (λz=>h.2 (by simp [z]))] at b;exact r.dis j k a l.1 h.1 e1 b
theorem OA.put (h:OA (wa own [i]) (σ.set i (ij v)) b):OA own σ b:=by obtain ⟨j,G,e⟩:=h;have l:=(jm j).mp G;rw [ax (λz=>l.2 (by simp [z]))] at e;exact ⟨j,l.1,e⟩
noncomputable def jp (i:Nat) (fe:jl):qU:=λρ=>(fe ρ).bind λp=>if i < p.2.length then .ok (.nx,p.2.set i (ij p.1)) else .bad
theorem qfw (l:X.N.Nodup) (hi:X.N[i]?=ij x) (hx:Loc X.env.scope x) (k:PE X e (tE C own m fe)) (f:m≠.any:=by decide) (o:i∉C.io:=by exact yP rfl) (s:lm e (ij (.Name x pos')) pos.line X.env=pure false:=by rfl)
  (g:X.fn x=iu\/X.env.scope.names.lookup x=ij .local:=by first | exact .inl rfl | exact .inr rfl):PS X (.Assign [.Name x pos'] e pos) (tSt C own (wa own [i]) (jp i fe)):=by
 refine Qv (qed l hi hx (yh k f) s g) λD σ H ⟨F,ρ,r,h⟩=>⟨F,ρ,r,PoS.bindE h λv F1 H1 d ρ1 a n c h1=>?_⟩
 by_cases q:i < ρ1.length;·have h1:PoS C own (wa own [i]) σ F1 H1 (if i < ρ1.length then .ok (.nx,ρ1.set i (ij d)) else .bad) D:=h1;rw [Aa q] at h1;exact h1 _ F1 H1 ⟨a.put q c,.refl,λb z=>.inl (OA.put z),λj G=>ax λz=>o (by rw [z]; exact G)⟩
 ·have h1:PoS C own (wa own [i]) σ F1 H1 (if i < ρ1.length then .ok (.nx,ρ1.set i (ij d)) else .bad) D:=h1;rw [Ab q] at h1;exact h1.elim
theorem Rep.putO (r:Rep K own F H σ ρ) (hi:i < ρ.length) (C:F a=im) (n:¬OA own σ a) (o:OwnIs K F H a d):Rep K (i::wa own [i]) F H (σ.set i (ij (.ref a))) (ρ.set i (ij d)) where
 sub:=r.sub
 len:=by simp [r.len]
 val:=λj d' G e=>by have q:j≠i:=λz=>G (by simp [z]);rw [ax (bo q)] at e;obtain ⟨w,h1,h2⟩:=r.val j d' (λz=>G (ae _ ((jm j).mpr ⟨z,by simp [q]⟩))) e;exact ⟨w,by rw [ax (bo q)]; exact h1,h2⟩
 ow:=λj d' G e=>by
  by_cases q:j=i;·subst q;rw [aG hi] at e;cases e;exact ⟨a,aG (by rw [r.len]; exact hi),C,o⟩
  ·have l:=(jm j).mp ((ac.mp G).resolve_left q);rw [ax (bo q)] at e;obtain ⟨b,h1,h2⟩:=r.ow j d' l.1 e;exact ⟨b,by rw [ax (bo q)]; exact h1,h2⟩
 opn:=λj G=>by
  by_cases q:j=i;·subst q; exact ⟨d,aG hi⟩
  ·have l:=(jm j).mp ((ac.mp G).resolve_left q);obtain ⟨d',e⟩:=r.opn j l.1;exact ⟨d',by rw [ax (bo q)]; exact e⟩
 dis:=λj k b G p e1 f=>by
  have m:i < σ.length:=by rw [r.len]; exact hi
  by_cases g:j=i
  ·by_cases c:k=i;·rw [g,c]
   ·subst g;have h:=(jm k).mp ((ac.mp p).resolve_left c);rw [aG m] at e1;cases e1;rw [ax (bo c)] at f;exact absurd ⟨k,h.1,f⟩ n
  ·have l:=(jm j).mp ((ac.mp G).resolve_left g);by_cases c:k=i;·subst c;rw [aG m] at f;cases f;rw [ax (bo g)] at e1;exact absurd ⟨j,l.1,e1⟩ n
   ·have h:=(jm k).mp ((ac.mp p).resolve_left c);rw [ax (bo g)] at e1;rw [ax (bo c)] at f;exact r.dis j k b l.1 h.1 e1 f
theorem qcM (w:X.N.Nodup) (hi:X.N[i]?=ij x) (hx:Loc X.env.scope x) (u:PE X e (tE C own .fr fe)) (f:i∉C.io:=by exact yP rfl) (s:lm e (ij (.Name x pos')) pos.line X.env=pure false:=by rfl)
  (t:X.fn x=iu\/X.env.scope.names.lookup x=ij .local:=by first | exact .inl rfl | exact .inr rfl):PS X (.Assign [.Name x pos'] e pos) (tSt C own (i::wa own [i]) (jp i fe)):=by
 refine Qv (qed w hi hx u s t) λD σ H ⟨F,ρ,k,h⟩=>⟨F,ρ,k,?_⟩
 unfold jp at h;cases q:fe ρ with
 | ok p=>
  rw [q] at h;obtain ⟨d,ρ1⟩:=p;intro v F1 H1 r B m;obtain ⟨a,rfl,n,A,o⟩:=m;by_cases z:i < ρ1.length
  ·have h1:PoS C own (i::wa own [i]) σ F H (if i < ρ1.length then .ok (.nx,ρ1.set i (ij d)) else .bad) D:=h;rw [Aa z] at h1;refine h1 _ F1 H1 ⟨r.putO z A (λy=>(k.OA_there y).1 n) o,B,λb y=>?_,λj G=>ax λy=>f (by rw [y]; exact G)⟩;obtain ⟨j,G,e⟩:=y;by_cases g:j=i;·subst g;rw [aG (by rw [r.len]; exact z)] at e;cases e;exact .inr n
   ·have l:=(jm j).mp ((ac.mp G).resolve_left g);rw [ax (bo g)] at e;exact .inl ⟨j,l.1,e⟩
  ·have h1:PoS C own (i::wa own [i]) σ F H (if i < ρ1.length then .ok (.nx,ρ1.set i (ij d)) else .bad) D:=h;rw [Ab z] at h1;exact h1.elim
 | exc c=>rw [q] at h; exact h
 | bad=>rw [q] at h; exact h.elim
end
inductive AK where
 | vl | sl (i:Nat) | fr
 deriving DecidableEq
def ArgV (K:Frag) (H0 F H:Hp) (σ:St):List AK->List V->List D->Prop
 | [],[],[]=>True
 | .vl::as,v::vs,d::ds=>Is K F v d/\ArgV K H0 F H σ as vs ds
 | .sl i::as,v::vs,d::ds=>σ[i]?=ij (ij v)/\d=.non/\ArgV K H0 F H σ as vs ds
 | .fr::as,v::vs,d::ds=>MoIs K .fr H0 F H v d/\ArgV K H0 F H σ as vs ds
 | _,_,_=>False
variable {H0 F' H':Hp}
theorem ArgV.grow {A:Addr->Prop} (c:Chg A F H F' H') (hA:∀ x,A x->H0 x≠im):∀ {as:List AK} {vs:List V} {ds:List D},ArgV K H0 F H σ as vs ds->ArgV K H0 F' H' σ as vs ds
 | [],[],[],h=>trivial
 | .vl::as,v::vs,d::ds,h=>⟨h.1.mono c.grow,ArgV.grow c hA h.2⟩
 | .sl i::as,v::vs,d::ds,h=>⟨h.1,h.2.1,ArgV.grow c hA h.2.2⟩
 | .fr::as,v::vs,d::ds,h=>⟨h.1.grow 'd' c hA,ArgV.grow c hA h.2⟩
 | [],_::_,_,h=>h.elim
 | [],[],_::_,h=>h.elim
 | .vl::_,[],_,h=>h.elim
 | .vl::_,_::_,[],h=>h.elim
 | .sl _::_,[],_,h=>h.elim
 | .sl _::_,_::_,[],h=>h.elim
 | .fr::_,[],_,h=>h.elim
 | .fr::_,_::_,[],h=>h.elim
theorem ArgV.back {A:Addr->Prop} {F0:Hp} (c:Chg A F0 H0 F1 H1):∀ {as:List AK} {vs:List V} {ds:List D},ArgV K H1 F H σ as vs ds->ArgV K H0 F H σ as vs ds
 | [],[],[],h=>trivial
 | .vl::as,v::vs,d::ds,h=>⟨h.1,ArgV.back c h.2⟩
 | .sl i::as,v::vs,d::ds,h=>⟨h.1,h.2.1,ArgV.back c h.2.2⟩
 | .fr::as,v::vs,d::ds,h=>⟨MoIs.back (Ha:=H1) c h.1,ArgV.back c h.2⟩
 | [],_::_,_,h=>h.elim
 | [],[],_::_,h=>h.elim
 | .vl::_,[],_,h=>h.elim
 | .vl::_,_::_,[],h=>h.elim
 | .sl _::_,[],_,h=>h.elim
 | .sl _::_,_::_,[],h=>h.elim
 | .fr::_,[],_,h=>h.elim
 | .fr::_,_::_,[],h=>h.elim
def PoA (C:Ct) (own:List Nat) (as:List AK) (σ:St) (F H:Hp) (r:Out (List D×Sl)) (Q:List V->Hp->Prop):Prop:=match r with
 | .ok (ds,ρ')=>∀ vs F' H',Rep C.K own F' H' σ ρ'->Chg (OA own σ) F H F' H'->ArgV C.K H F' H' σ as vs ds->Q vs H'
 | .exc c ρ'=>∀ F' H',Same F' H'->ZZ C.K C.ox F' H' σ ρ'->Chg (OA own σ) F H F' H'->C.E (C.cv c) im H'
 | .bad=>False
abbrev ww:=Sl->Out (List D×Sl)
def tAr (C:Ct) (own:List Nat) (as:List AK) (f:ww):TA:=λσ H Q=>∃ F ρ,Rep C.K own F H σ ρ/\PoA C own as σ F H (f ρ) Q
variable {as:List AK}
theorem PoA.bindV {ma:Mo} {o:WM} {k:D×Sl->Out (List D×Sl)} {Q:List V->Hp->Prop} {R:VK} (hp:PoA C own as σ F H (o.bind k) Q)
  (h:∀ v F1 H1 d ρ1,Rep C.K own F1 H1 σ ρ1->Chg (OA own σ) F H F1 H1->MoIs C.K ma H F1 H1 v d->PoA C own as σ F H (k (d,ρ1)) Q->R v H1):Po C own ma σ F H o R:=by
 cases o with
 | ok p=>obtain ⟨d,ρ1⟩:=p;exact λv F1 H1 a c mo=>h v F1 H1 d ρ1 a c mo hp
 | exc x=>exact hp
 | bad=>exact hp.elim
theorem Po.bindA {as:List AK} {o:Out (List D×Sl)} {k:List D×Sl->WM} {Q:VK} {R:List V->Hp->Prop} (hp:Po C own m σ F H (o.bind k) Q)
  (h:∀ vs F1 H1 ds ρ1,Rep C.K own F1 H1 σ ρ1->Chg (OA own σ) F H F1 H1->ArgV C.K H F1 H1 σ as vs ds->Po C own m σ F1 H1 (k (ds,ρ1)) Q->R vs H1):PoA C own as σ F H o R:=by
 cases o with
 | ok p=>obtain ⟨d,ρ1⟩:=p;exact λvs F1 H1 a c av=>h vs F1 H1 d ρ1 a c av (Po.shift (show Po C own m σ F H (k (d,ρ1)) Q from hp) c)
 | exc x=>exact hp
 | bad=>exact hp.elim
noncomputable def qw:ww:=λρ=>.ok ([],ρ)
noncomputable def qb (fe:jl) (fr:ww):ww:=λρ=>(fe ρ).bind λp=>(fr p.2).bind λq=>.ok (p.1::q.1,q.2)
noncomputable def jW (fr:ww):ww:=λρ=>(fr ρ).bind λq=>.ok (D.non::q.1,q.2)
variable {es:List Expr} {p:Addr} {u:HO}
section
variable {fe:jl} {fr:ww}
theorem qcN {t t':TA} (h:PA X es t) (i:∀ σ H Q,t' σ H Q->t σ H Q):PA X es t':=⟨λpos pins s σ H Q I w=>h pos pins s σ H Q I (i σ H Q w)⟩
theorem qd:PA X [] (tAr C own [] qw):=qcN jT λσ H Q ⟨F,ρ,a,h⟩=>h [] F H a .refl trivial
theorem gc {a:AK} {Q:List V->Hp->Prop} {v:V} (f:∀ x,OA own σ x->H x≠im) (e:Rep C.K own F1 H1 σ ρ1) (k:Chg (OA own σ) F H F1 H1) (hp:PoA C own (a::as) σ F H ((fr ρ1).bind λq=>.ok (d::q.1,q.2)) Q)
  (g:∀ b H2 vs ds,Chg (OA own σ) F1 H1 b H2->ArgV C.K H b H2 σ as vs ds->ArgV C.K H b H2 σ (a::as) (v::vs) (d::ds)):tAr C own as fr σ H1 λxs H2=>Q (v::xs) H2:=by
 refine ⟨F1,ρ1,e,?_⟩;cases q:fr ρ1 with
 | ok p=>rw [q] at hp;obtain ⟨ds,ρ2⟩:=p;exact λvs b H2 r c2 av=>hp (v::vs) b H2 r (k.trans' c2) (g b H2 vs ds c2 (ArgV.back k av))
 | exc c=>rw [q] at hp; exact λF' H' s io U=>hp F' H' s io (k.trans' U)
 | bad=>rw [q] at hp; exact hp.elim
theorem qa (g:PE X e (tE C own m fe)) (hr:PA X es (tAr C own as fr)) (b:m≠.any:=by decide) (s:iA (e::es) X.env=(ir,eval e X.env)::iA es X.env:=by exact js rfl):PA X (e::es) (tAr C own (.vl::as) (qb fe fr)):=by
 refine qcN (qY (yh g b) hr s) λσ H Q ⟨F,ρ,r,h⟩=>⟨F,ρ,r,PoA.bindV h λv F1 H1 d ρ1 a k c h1=>?_⟩
 exact gc (λx z=>(r.OA_there z).1) a k h1 λf H2 vs ds c2 av=>⟨Is.mono c2.grow c,av⟩
theorem GS (g:PE X e (tE C own .fr fe)) (hr:PA X es (tAr C own as fr)) (s:iA (e::es) X.env=(ir,eval e X.env)::iA es X.env:=by exact js rfl):PA X (e::es) (tAr C own (.fr::as) (qb fe fr)):=by
 refine qcN (qY g hr s) λσ H Q ⟨F,ρ,r,h⟩=>⟨F,ρ,r,PoA.bindV h λv F1 H1 d ρ1 a k c h1=>?_⟩
 have oa:∀ x,OA own σ x->H x≠none:=λx z=>(r.OA_there z).1;exact gc oa a k h1 λb H2 vs ds c2 av=>⟨c.grow 'd' c2 oa,av⟩
theorem km {px:Pos} (e:X.N[i]?=ij x) (c:Vis X.env.scope x) (l:i∈own) (hr:PA X es (tAr C own as fr)) (s:iA (.Name x px::es) X.env=(ir,eval (.Name x px) X.env)::iA es X.env:=by rfl)
  (hd:Dbg x:=by decide) (b:Cdk x:=by decide):PA X (.Name x px::es) (tAr C own (.sl i::as) (jW fr)):=by
 refine qcN (qY (yl e c hd b) hr s) λσ H Q ⟨F,ρ,r,h⟩=>?_;obtain ⟨d,hd⟩:=r.opn i l;obtain ⟨a,h1,h2,g⟩:=r.ow i d l hd;exact ⟨_,h1,gc (λx z=>(r.OA_there z).1) r .refl h λf H2 vs ds c2 av=>⟨h1,rfl,av⟩⟩
theorem ArgV.isL:∀ {as:List AK} {vs:List V} {ds:List D},(as.all λa=>decide (a=.vl))=iu->ArgV K H0 F H σ as vs ds->IsL K F vs ds
 | [],[],[],_,_=>.nil
 | .vl::as,v::vs,d::ds,h,a=>.cons a.1 (ArgV.isL (by simpa using h) a.2)
 | .sl i::as,_,_,h,a=>by simp at h
 | .fr::as,_,_,h,a=>by simp at h
 | [],_::_,_,_,h=>h.elim
 | [],[],_::_,_,h=>h.elim
 | .vl::_,[],_,_,h=>h.elim
 | .vl::_,_::_,[],_,h=>h.elim
noncomputable def vM (fr:ww):jl:=λρ=>(fr ρ).bind λp=>if p.1.length<=sizeLine then .ok (.tup p.1,p.2) else .bad
noncomputable def wo (fr:ww):jl:=λρ=>(fr ρ).bind λp=>if p.1.length<=sizeLine then .ok (.lst p.1,p.2) else .bad
theorem qhK (a:Rep C.K own F H σ ρ) (hp:H p=im):Rep C.K own (upd F p u) (upd H p u) σ ρ/\Chg No F H (upd F p u) (upd H p u):=by
 have h:F p=none:=by
  cases q:F p with
  | none=>rfl
  | some o=>rw [a.sub p o q] at hp; cases hp
 have c:Chg No F H (upd F p u) (upd H p u):=⟨λb o e _=>by rw [qB (qL e hp)]; exact e,λb e=>by
  by_cases q:b=p;·rw [q,qu]; simp
  ·rw [qB q]; exact e,λb o e=>by rw [qB (qL e h)]; exact e,λb e=>by
  by_cases q:b=p;·exact .inr (.inl (by rw [q]; exact hp))
  ·rw [qB q] at e; exact .inl e⟩
 refine ⟨a.grow c λb o e=>?_,c⟩;by_cases q:b=p;·subst q; rw [qu] at e ⊢; exact e
 ·rw [qB q] at e ⊢; exact a.sub b o e
theorem Yv (a:Rep C.K own F H σ ρ) (hp:H p=im):Rep C.K own F (upd H p u) σ ρ/\Chg No F H F (upd H p u)/\F p=none:=by
 have h:F p=none:=by
  cases q:F p with
  | none=>rfl
  | some o=>rw [a.sub p o q] at hp; cases hp
 have c:Chg No F H F (upd H p u):=⟨λb o e _=>by rw [qB (qL e hp)]; exact e,λb e=>by
  by_cases q:b=p;·rw [q,qu]; simp
  ·rw [qB q]; exact e,Same.refl _,λb e=>.inl e⟩
 exact ⟨a.grow c λb o e=>by rw [qB (qL e h)]; exact a.sub b o e,c,h⟩
theorem jU {x1} (h:PA X es (tAr C own as fr)) (g:(as.all λa=>decide (a=.vl))=true:=by decide):PE X (.Tuple es x1 pos) (tE C own .sh (vM fr)):=by
 refine jN (qhp h) λσ H Q ⟨F,ρ,c,h⟩=>⟨F,ρ,c,Po.bindA h λvs F1 H1 ds ρ1 b k av h1=>?_⟩
 have i:=av.isL g;have h1:Po C own .sh σ F1 H1 (if ds.length<=sizeLine then .ok (.tup ds,ρ1) else .bad) Q:=h1;by_cases z:ds.length<=sizeLine;·rw [Aa z] at h1;refine ⟨by rw [i.length]; exact z,λp hp=>?_⟩;obtain ⟨r,c2⟩:=qhK (u:=.tup vs) b hp;exact h1 _ _ _ r c2.ofNo (.tup (.inl (.inl qu)) (i.mono c2.grow))
 ·rw [Ab z] at h1; exact h1.elim
theorem jz (h:PA X es (tAr C own as fr)) (g:(as.all λa=>decide (a=.vl))=true:=by decide):PE X (.List es pos) (tE C own .fr (wo fr)):=by
 refine jN (qhq h) λσ H Q ⟨F,ρ,c,h⟩=>⟨F,ρ,c,Po.bindA h λvs F1 H1 ds ρ1 b k av h1=>?_⟩
 have i:=av.isL g;have h1:Po C own .fr σ F1 H1 (if ds.length<=sizeLine then .ok (.lst ds,ρ1) else .bad) Q:=h1;by_cases z:ds.length<=sizeLine;·rw [Aa z] at h1;refine ⟨by rw [i.length]; exact z,λp hp=>?_⟩;obtain ⟨r,c2,d⟩:=Yv (u:=.lst vs) b hp;exact h1 _ _ _ r c2.ofNo ⟨p,rfl,hp,d,vs,qu,i⟩
 ·rw [Ab z] at h1; exact h1.elim
theorem Jz:PE X (.Dict [] [] pos) (tE C own .fr (dC (.dct []))):=by refine jN qcD λσ H Q ⟨F,ρ,a,h⟩ p hp=>?_;obtain ⟨r,c2,b⟩:=Yv (u:=.dK []) a hp;exact h _ _ _ r c2.ofNo ⟨p,rfl,hp,b,[],qu,.nil⟩
noncomputable def ixD:D->D->Out D
 | .lst xs,.int i=>match atI xs i with
  | some d=>.ok d
  | none=>.bad
 | .tup xs,.int i=>match atI xs i with
  | some d=>.ok d
  | none=>.bad
 | .str x,.int i=>match atI x.cps.toList i with
  | some c=>.ok (.str ⟨#[c]⟩)
  | none=>.bad
 | .dct kvs,.str x=>match (kvs.find? λkv=>decide (kv.1=bC x)) with
  | some kv=>.ok kv.2
  | none=>.bad
 | .dct kvs,.int x=>match (kvs.find? λkv=>decide (kv.1=eU x)) with
  | some kv=>.ok kv.2
  | none=>.bad
 | _,_=>.bad
theorem IsL.atI {i:Int} (h:IsL K F vs ds) (e:L2.atI ds i=ij d):∃ v,L2.atI vs i=ij v/\Is K F v d:=by
 unfold L2.atI at e ⊢;rw [h.length];cases q:ixN ds.length i with
 | none=>rw [q] at e; cases e
 | some j=>rw [q] at e;exact h.getD e
theorem IsK.find {k:Key}:∀ {vs:List (Key×V)} {ds:List (Key×D)} {d:Key×D},IsK K F vs ds->(ds.find? λkv=>decide (kv.1=k))=ij d->∃ v,WV vs k=ij v/\Is K F v d.2
 | _,_,_,.nil,e=>by simp at e
 | _,_,d,.cons (k:=k') (vs:=vs) h t,e=>by
  by_cases q:k'=k;·rw [bN (by simp [q])] at e;cases e;exact ⟨_,zA q,h⟩
  ·rw [bD (by simp [q])] at e;obtain ⟨v,h1,h2⟩:=IsK.find t e;exact ⟨v,by rw [yO q]; exact h1,h2⟩
theorem Yw (c:Nat):(⟨#[c]⟩:Str).length<=sizeLine:=by show 1<=sizeLine;rw [iM]; decide
def qkU (K:Frag):R2:=λx y H Q=>rIx K x y H Q\/∃ a v,x=.ref a/\DGet H a y (ij v)/\Q v H
theorem qeh (f:X.A.units+1 < iW):IxR X (qkU X.K):=by
 refine IxR.or qhu ?_;intro value e pins s σ H x y v u Q I d c h b;obtain ⟨a,w,rfl,g,q⟩:=h;cases d;obtain ⟨T,ht⟩:∃ T,s.TypeIs (.ref a) T/\T = "dict":=⟨_,WY I g,rfl⟩
 obtain ⟨ht,rfl⟩:=ht;exact tail_any ht PySem.slot_dict_getitem.lookup (Gz f I g c λj s' i r=>⟨w,H,i,r,q⟩) b
end
variable {T:String}
section
variable {a b:Expr} {f fa fb:jl}
theorem qei {σ:St} {x y:V} {dx b:D} {Q:VK} (n:C.K=X.K) (A:Same F H) (tx:TopIs C.K F H x dx) (ty:TopIs C.K F H y b) (po:PoV C .sh F H (ixD dx b) Q):qkU X.K x y H Q:=by
 rw [n] at tx ty;cases dx with
 | lst xs=>
  cases b <;> try exact po.elim
  rename_i i;obtain rfl:=ty.int;obtain ⟨a,vs,rfl,p,t⟩:=tx.lst A;unfold ixD at po;cases e:L2.atI xs i with
  | none=>simp only [e] at po; exact po.elim
  | some d=>simp only [e] at po;obtain ⟨v,h1,h2⟩:=t.atI e;exact .inl (.inl ⟨a,vs,i,v,rfl,rfl,p,h1,po v F H A .refl (by rw [n]; exact h2)⟩)
 | tup xs=>
  cases b <;> try exact po.elim
  rename_i i;obtain rfl:=ty.int;obtain ⟨a,vs,rfl,p,t⟩:=tx.tup A;unfold ixD at po;cases e:L2.atI xs i with
  | none=>simp only [e] at po; exact po.elim
  | some d=>simp only [e] at po;obtain ⟨v,h1,h2⟩:=t.atI e;exact .inl (.inr (.inl ⟨a,vs,i,v,rfl,rfl,p,h1,po v F H A .refl (by rw [n]; exact h2)⟩))
 | str z=>
  cases b <;> try exact po.elim
  rename_i i;obtain rfl:=ty.int;obtain ⟨rfl,h⟩:=tx.str;unfold ixD at po;cases e:L2.atI z.cps.toList i with
  | none=>simp only [e] at po; exact po.elim
  | some c=>simp only [e] at po;exact .inl (.inr (.inr ⟨z,i,c,rfl,rfl,h,e,po _ F H A .refl (.str (Yw c))⟩))
 | dct kvs=>
  obtain ⟨a,kv,rfl,p,t⟩:=tx.dct A;cases b with
  | int i=>
   obtain rfl:=ty.int;unfold ixD at po;cases e:(kvs.find? λkv=>decide (kv.1=eU i)) with
   | none=>simp only [e] at po; exact po.elim
   | some d=>simp only [e] at po;obtain ⟨v,h1,h2⟩:=t.find e;exact .inr ⟨a,v,rfl,by rw [<-h1]; exact DGet.k (k:=eU i) p,po v F H A .refl (by rw [n]; exact h2)⟩
  | str z=>
   obtain ⟨rfl,_⟩:=ty.str;unfold ixD at po;cases e:(kvs.find? λkv=>decide (kv.1=bC z)) with
   | none=>simp only [e] at po; exact po.elim
   | some d=>simp only [e] at po;obtain ⟨v,h1,h2⟩:=t.find e;exact .inr ⟨a,v,rfl,by rw [<-h1]; exact DGet.k (k:=bC z) p,po v F H A .refl (by rw [n]; exact h2)⟩
  | _=>exact po.elim
 | _=>exact po.elim
theorem qj6 (u:C.K=X.K) (D:X.A.units+64 < iW) (t:PE X a (tE C own ma fa)) (o:PE X b (tE C own mb fb)) (n:Jw b) (j:ma≠.any:=by decide):PE X (.Subscript a b pos) (tE C own .sh (d2 ixD fa fb)):=by
 refine jN (qhr (qeh 'b') t o n) λσ H Q h=>?_;obtain ⟨F,ρ,l,h⟩:=Vn (mb:=mb) j h;refine ⟨F,ρ,l,?_⟩;cases q:fa ρ with
 | ok p=>
  rw [q] at h;obtain ⟨d,ρ1⟩:=p;intro v F1 H1 f x i;obtain ⟨B,ρ2,e,h2⟩:=h v F1 H1 f x i;refine ⟨B,ρ2,e,?_⟩;cases g:fb ρ2 with
  | ok p=>rw [g] at h2;obtain ⟨d',k⟩:=p;intro w z y r J m;obtain ⟨M,dx,E,s,tx,ty,po⟩:=h2 w z y r J m;exact qei (σ:=σ) u s tx ty po
  | exc c=>rw [g] at h2; exact h2
  | bad=>rw [g] at h2; exact h2.elim
 | exc c=>rw [q] at h; exact h
 | bad=>rw [q] at h; exact h.elim
def Qw (X:Cx) (C:Ct) (m:Mo) (f:iq) (g:D->Out D):Prop:=uj X f (λxs H Q=>∃ x F dx,xs=[x]/\Same F H/\TopIs C.K F H x dx/\PoV C m F H (g dx) Q)
theorem xE {Q:VK} {g:D->Out D} (h:tE C own m (d1 g fa) σ H Q):XX (tE C own ma fa) qjf σ H λxs H1=>∃ x F dx,xs=[x]/\Same F H1/\TopIs C.K F H1 x dx/\PoV C m F H1 (g dx) Q:=by
 obtain ⟨F,ρ,r,h⟩:=Za (ma:=ma) h;refine ⟨F,ρ,r,?_⟩;cases q:fa ρ with
 | ok p=>rw [q] at h;obtain ⟨d,ρ1⟩:=p;intro v F1 H1 a k b;obtain ⟨e,dx,A,tx,po⟩:=h v F1 H1 a k b;exact ⟨v,e,dx,rfl,A,tx,po⟩
 | exc c=>rw [q] at h; exact h
 | bad=>rw [q] at h; exact h.elim
theorem qE {id:String} {p:Pos} {g:D->Out D} (d:Qw X C m (.builtin id) g) (hg:Gl X x) (a:X.mg x=im) (c:iE x=ij (.builtin id)) (f:PE X e (tE C own ma fa)) (hn:x ≠ "__name__":=by decide) (b:Dbg x:=by decide)
  (i:iA [e] X.env=[(ir,eval e X.env)]:=by exact qT rfl):PE X (.Call (.Name x p) [e] [] pos) (tE C own m (d1 g fa)):=
 jN (wx d hg a c (qY f jT i) hn b (by rw [i]; rfl) rfl) λ_ _ _ h=>xE h
theorem kQ {p:Pos} {g:D->Out D} (d:Qw X C m (.type T) g) (hg:Gl X x) (a:X.mg x=im) (c:iE x=ij (.type T)) (f:PE X e (tE C own ma fa)) (hn:x ≠ "__name__":=by decide) (b:Dbg x:=by decide)
  (i:iA [e] X.env=[(ir,eval e X.env)]:=by exact qT rfl):PE X (.Call (.Name x p) [e] [] pos) (tE C own m (d1 g fa)):=
 jN (ul d hg a c (qY f jT i) hn b (by rw [i]; rfl) rfl) λ_ _ _ h=>xE h
noncomputable def wb:D->Out D
 | .str x=>.ok (.int x.length)
 | .lst xs=>.ok (.int xs.length)
 | .tup xs=>.ok (.int xs.length)
 | .dct xs=>.ok (.int xs.length)
 | _=>.bad
theorem IsK.length:∀ {vs:List (Key×V)} {ds:List (Key×D)},IsK K F vs ds->vs.length=ds.length
 | _,_,.nil=>rfl
 | _,_,.cons _ t=>congrArg (·+1) (IsK.length t)
theorem jJ (n:C.K=X.K):Qw X C .sh (.builtin "len") wb:=by
 intro pins s σ H xs us Q I r h;obtain ⟨x,F,dx,rfl,A,tx,po⟩:=h;cases dx with
 | str z=>obtain ⟨rfl,b⟩:=tx.str;exact Jv pins s σ H _ us Q I r ⟨_,_,rfl,⟨b,rfl⟩,po _ F H A .refl (.int _)⟩
 | lst ds=>obtain ⟨a,vs,rfl,p,t⟩:=tx.lst A;exact Jv pins s σ H _ us Q I r ⟨_,ds.length,rfl,.inl ⟨vs,by rw [<-n]; exact p,t.length.symm⟩,po _ F H A .refl (.int _)⟩
 | tup ds=>obtain ⟨a,vs,rfl,p,t⟩:=tx.tup A;exact Jv pins s σ H _ us Q I r ⟨_,ds.length,rfl,.inr ⟨vs,by rw [<-n]; exact p,t.length.symm⟩,po _ F H A .refl (.int _)⟩
 | dct ds=>obtain ⟨a,vs,rfl,p,t⟩:=tx.dct A;refine GC pins s σ H _ us Q I r ⟨a,vs,rfl,p,?_⟩;rw [t.length];exact po _ F H A .refl (.int _)
 | _=>exact po.elim
noncomputable def jZ:D->D->Out D
 | .int i,.int j=>.ok (.int (i+j))
 | .str x,.str y=>if x.length+y.length<=sizeLine then .ok (.str (x++y)) else .bad
 | .lst xs,.lst ys=>if xs.length+ys.length<=sizeLine then .ok (.lst (xs++ys)) else .bad
 | .tup xs,.tup ys=>if xs.length+ys.length<=sizeLine then .ok (.tup (xs++ys)) else .bad
 | _,_=>.bad
theorem wF (A:Same F H) (hp:H p=im):Same (upd F p u) (upd H p u)/\Chg No F H (upd F p u) (upd H p u):=by
 have C:F p=none:=by
  cases q:F p with
  | none=>rfl
  | some o=>rw [A p o q] at hp; cases hp
 refine ⟨λb o e=>?_,⟨λb o e _=>by rw [qB (qL e hp)]; exact e,λb e=>?_,λb o e=>by rw [qB (qL e C)]; exact e,λb e=>?_⟩⟩
 ·by_cases q:b=p;·subst q; rw [qu] at e ⊢; exact e
  ·rw [qB q] at e ⊢; exact A b o e
 ·by_cases q:b=p;·rw [q,qu]; simp
  ·rw [qB q]; exact e
 ·by_cases q:b=p;·exact .inr (.inl (by rw [q]; exact hp))
  ·rw [qB q] at e; exact .inl e
theorem vy (A:Same F H) (hp:H p=im):Same F (upd H p u)/\Chg No F H F (upd H p u)/\F p=none:=by
 have C:F p=none:=by
  cases q:F p with
  | none=>rfl
  | some o=>rw [A p o q] at hp; cases hp
 refine ⟨λb o e=>by rw [qB (qL e C)]; exact A b o e,⟨λb o e _=>by rw [qB (qL e hp)]; exact e,λb e=>?_,Same.refl _,λb e=>.inl e⟩,C⟩;by_cases q:b=p;·rw [q,qu]; simp
 ·rw [qB q]; exact e
theorem Uf (x y:Str):(x++y).length=x.length+y.length:=by show (x.cps++y.cps).size=_;simp [fQ]
theorem qfx:OpR X (iY .Add) (λx y H Q=>∃ l b xs zs,x=.ref l/\y=.ref b/\SqL X.K H l xs/\SqL X.K H b zs/\xs.length+zs.length<=sizeLine/\∀ p,H p=im->Q (.ref p) (upd H p (.lst (xs++zs)))):=by
 intro pins s σ H x y v u Q I k r h;obtain ⟨l,b,xs,zs,rfl,rfl,h1,h2,z,q⟩:=h;cases k;cases r;obtain ⟨its,r1,p1,_⟩:=I.list h1;obtain ⟨i,r2,p2,_⟩:=I.list h2;obtain ⟨⟨cls,dd,data,sl⟩,o,f,n,hd⟩:=id p1.isList;obtain ⟨⟨j,e,g,d⟩,a,c,n2,hd2⟩:=id p2.isList;simp only at f hd c hd2;subst f hd c hd2;have t:=r1.length;have m:=r2.length;refine l8 ⟨_,o,rfl⟩ ⟨_,a,rfl⟩ noFill_list_add seq_list_add PySem.F.slot_list_add PySem.F.entry_list_add (PySem.F.args_list_add_2 _ _)
  (list_addW l b its.toArray i.toArray n n2 dd e sl d (by simp only [aq]; lia)) ⟨o,a,?_⟩
 have w:its.toArray++i.toArray=(its++i).toArray:=by simp
 rw [w];exact ⟨.ref _,_,I.lnew (t':=s.toks) (r1.append r2) (by rw [af]; exact z),rfl,q _ I.fresh⟩
theorem qfy:OpR X (iY .Add) (λx y H Q=>∃ a b ys,x=.ref a/\y=.ref b/\SqT X.K H a []/\SqT X.K H b ys/\Q (.ref b) H):=by
 intro pins s σ H x y v u Q I m r h;obtain ⟨a,b,ys,rfl,rfl,h1,h2,q⟩:=h;cases m;cases r;obtain ⟨its,r1,p1,_⟩:=I.tuple h1;obtain ⟨i,r2,p2,_⟩:=I.tuple h2;cases r1;obtain ⟨⟨cls,dd,data,sl⟩,l,j,n,hd⟩:=id p1;obtain ⟨⟨k,f,g,e⟩,c,d,n2,hd2⟩:=id p2;simp only at j hd d hd2;subst j hd d hd2;exact l8 ⟨_,l,rfl⟩ ⟨_,c,rfl⟩ noFill_tuple_add seq_tuple_add d8 dS (dM _ _)
  (tuple_addW0 a b _ _ n n2 dd f sl e rfl) ⟨l,c,⟨.ref b,H,I,rfl,q⟩⟩
theorem jn (n:C.K=X.K):OpD X C .sh (iY .Add) jZ:=by
 intro pins s σ H x y v u Q I d c h;obtain ⟨F,dx,f,A,tx,ty,po⟩:=h;cases dx with
 | int i=>
  cases f <;> try exact po.elim
  obtain rfl:=tx.int;obtain rfl:=ty.int;exact qhh pins s σ H _ _ v u Q I d c ⟨_,_,rfl,rfl,po _ F H A .refl (.int _)⟩
 | str a=>
  cases f <;> try exact po.elim
  rename_i b;obtain ⟨rfl,_⟩:=tx.str;obtain ⟨rfl,_⟩:=ty.str;have po:PoV C .sh F H (if a.length+b.length<=sizeLine then .ok (.str (a++b)) else .bad) Q:=po;by_cases z:a.length+b.length<=sizeLine;·rw [Aa z] at po;exact XW pins s σ H _ _ v u Q I d c ⟨_,_,rfl,rfl,z,po _ F H A .refl (.str (by rw [Uf]; exact z))⟩
  ·rw [Ab z] at po; exact po.elim
 | lst xs=>
  cases f <;> try exact po.elim
  rename_i ys;obtain ⟨a,vs,rfl,p1,t1⟩:=tx.lst A;obtain ⟨b,ws,rfl,p2,t2⟩:=ty.lst A;have po:PoV C .sh F H (if xs.length+ys.length<=sizeLine then .ok (.lst (xs++ys)) else .bad) Q:=po;by_cases z:xs.length+ys.length<=sizeLine;·rw [Aa z] at po;refine qfx pins s σ H _ _ v u Q I d c ⟨a,b,vs,ws,rfl,rfl,by rw [<-n]; exact p1,by rw [<-n]; exact p2,by rw [t1.length,t2.length]; exact z,λp hp=>?_⟩;obtain ⟨s2,c2⟩:=wF (u:=.lst (vs++ws)) A hp;exact po _ _ _ s2 c2 (.lst (.inl (.inl qu)) ((t1.append t2).mono c2.grow))
  ·rw [Ab z] at po; exact po.elim
 | tup xs=>
  cases f <;> try exact po.elim
  rename_i ys;obtain ⟨a,vs,rfl,p1,t1⟩:=tx.tup A;obtain ⟨b,ws,rfl,p2,t2⟩:=ty.tup A;have po:PoV C .sh F H (if xs.length+ys.length<=sizeLine then .ok (.tup (xs++ys)) else .bad) Q:=po;by_cases z:xs.length+ys.length<=sizeLine
  ·rw [Aa z] at po;cases vs with
   | nil=>
    cases t1;rcases ty with ty | ⟨_,_,ty⟩
    ·exact qfy pins s σ H _ _ v u Q I d c ⟨a,b,ws,rfl,rfl,by rw [<-n]; exact p1,by rw [<-n]; exact p2,po _ F H A .refl ty⟩
    ·exact ty.elim
   | cons g vs=>
    refine qfh pins s σ H _ _ v u Q I d c ⟨a,b,g::vs,ws,rfl,rfl,by rw [<-n]; exact p1,by rw [<-n]; exact p2,by simp,by rw [t1.length,t2.length]; exact z,λe=>?_,λe p hp=>?_⟩
    ·subst e;cases t2;rcases tx with tx | ⟨_,_,tx⟩
     ·refine po _ F H A .refl ?_;rw [aZ];exact tx
     ·exact tx.elim
    ·obtain ⟨s2,c2⟩:=wF (u:=.tup (g::vs++ws)) A hp;exact po _ _ _ s2 c2 (.tup (.inl (.inl qu)) ((t1.append t2).mono c2.grow))
  ·rw [Ab z] at po; exact po.elim
 | _=>exact po.elim
end
inductive PM where
 | val | io | tk
 deriving DecidableEq
noncomputable def zq:List PM->List V->List Addr
 | .val::ms,_::vs=>zq ms vs
 | .io::ms,.ref a::vs=>a::zq ms vs
 | .tk::ms,.ref a::vs=>a::zq ms vs
 | _::ms,_::vs=>zq ms vs
 | _,_=>[]
def ArgsIs (K:Frag) (F H:Hp):List PM->List V->List D->Prop
 | [],[],[]=>True
 | .val::ms,v::vs,d::ds=>Is K F v d/\ArgsIs K F H ms vs ds
 | .io::ms,v::vs,d::ds=>(∃ a,v=.ref a/\F a=im/\OwnIs K F H a d)/\ArgsIs K F H ms vs ds
 | .tk::ms,v::vs,d::ds=>(∃ a,v=.ref a/\F a=im/\OwnIs K F H a d)/\ArgsIs K F H ms vs ds
 | _,_,_=>False
def yS (K:Frag) (F H:Hp):List PM->List V->List D->Prop
 | [],_,_=>True
 | .io::ms,v::vs,d::ds=>(∃ a,v=.ref a/\F a=im/\OwnIs K F H a d)/\yS K F H ms vs ds
 | _::ms,_::vs,_::ds=>yS K F H ms vs ds
 | _,_,_=>False
abbrev LA (ms:List PM) (vs:List V):Addr->Prop:=λb=>b∈zq ms vs
def PoG (K:Frag) (cv:Str->iq) (ms:List PM) (mr:Mo) (vs:List V) (F H:Hp) (Q:VK) (E:XK) (o:Out (D×List D)):Prop:=match o with
 | .ok (d,outs)=>∀ v F' H',Same F' H'->Chg (LA ms vs) F H F' H'->yS K F' H' ms vs outs->MoIs K mr H F' H' v d->Q v H'
 | .exc c o=>∀ F' H',Same F' H'->Chg (LA ms vs) F H F' H'->yS K F' H' ms vs (o.map (·.getD .non))->E (cv c) im H'
 | .bad=>False
abbrev jK:=List D->Out (D×List D)
def spD (K:Frag) (cv:Str->iq) (ms:List PM) (mr:Mo) (G:jK):Sp:=λvs H Q E=>∃ F ds,Same F H/\ArgsIs K F H ms vs ds/\(zq ms vs).Nodup/\PoG K cv ms mr vs F H Q E (G ds)
theorem ArgsIs.length:∀ {ms:List PM} {vs:List V} {ds:List D},ArgsIs K F H ms vs ds->vs.length=ms.length/\ds.length=ms.length
 | [],[],[],_=>⟨rfl,rfl⟩
 | .val::ms,v::vs,d::ds,h=>by have:=ArgsIs.length h.2; simp [this]
 | .io::ms,v::vs,d::ds,h=>by have:=ArgsIs.length h.2; simp [this]
 | .tk::ms,v::vs,d::ds,h=>by have:=ArgsIs.length h.2; simp [this]
 | [],_::_,_,h=>h.elim
 | [],[],_::_,h=>h.elim
 | .val::_,[],_,h=>h.elim
 | .val::_,_::_,[],h=>h.elim
 | .io::_,[],_,h=>h.elim
 | .io::_,_::_,[],h=>h.elim
 | .tk::_,[],_,h=>h.elim
 | .tk::_,_::_,[],h=>h.elim
noncomputable def kl (n:Nat):List PM->List Nat
 | []=>[]
 | .val::ms=>kl (n+1) ms
 | _::ms=>n::kl (n+1) ms
noncomputable def WO (n:Nat):List PM->List Nat
 | []=>[]
 | .io::ms=>n::WO (n+1) ms
 | _::ms=>WO (n+1) ms
variable {n:Nat}
theorem yT:∀ {ms:List PM} {i:Nat},i∈kl n ms->n<=i/\i < n+ms.length:=by
 intro ms
 induction ms generalizing n with
 | nil=>intro i h; simp [kl] at h
 | cons m ms j=>
  intro i h;cases m with
  | val=>have:=j (n:=n+1) h; simp only [ao]; lia
  | io=>
   rcases ac.mp h with e | h;·simp only [ao]; lia
   ·have:=j (n:=n+1) h; simp only [ao]; lia
  | tk=>
   rcases ac.mp h with e | h;·simp only [ao]; lia
   ·have:=j (n:=n+1) h; simp only [ao]; lia
theorem qcO:∀ {ms:List PM} {i:Nat},i∈WO n ms->i∈kl n ms:=by
 intro ms
 induction ms generalizing n with
 | nil=>intro i h; simp [WO] at h
 | cons m ms j=>
  intro i h;cases m with
  | val=>exact j (n:=n+1) h
  | io=>
   rcases ac.mp h with e | h;·exact ac.mpr (.inl e)
   ·exact ae _ (j (n:=n+1) h)
  | tk=>exact ae _ (j (n:=n+1) h)
theorem Zg:∀ {ms:List PM} {vs:List V} {ds:List D} {n:Nat},ArgsIs K F H ms vs ds ->(∀ j d,ds[j]?=ij d->n+j∉kl n ms->∃ v,vs[j]?=ij v/\Is K F v d) /\
  (∀ j d,ds[j]?=ij d->n+j∈kl n ms->∃ a,vs[j]?=ij (.ref a)/\F a=im/\OwnIs K F H a d):=by
 intro ms
 induction ms with
 | nil=>intro vs ds n h; cases vs <;> cases ds <;> first | exact h.elim | (refine ⟨λj d e=>?_,λj d e=>?_⟩ <;> simp at e)
 | cons m ms i=>
  intro vs ds n h;cases vs with
  | nil=>cases m <;> exact h.elim
  | cons v vs=>
   cases ds with
   | nil=>cases m <;> exact h.elim
   | cons d ds=>
    cases m with
    | val=>
     obtain ⟨h1,h2⟩:=h;obtain ⟨i1,i2⟩:=i (n:=n+1) h2;refine ⟨λj e G hn=>?_,λj e G hn=>?_⟩
     ·cases j with
      | zero=>simp at G; subst G; exact ⟨v,rfl,h1⟩
      | succ j=>simpa using i1 j e (by simpa using G) (by rw [show n+1+j=n+(j+1) by lia]; exact hn)
     ·cases j with
      | zero=>have:=yT (n:=n+1) hn; lia
      | succ j=>simpa using i2 j e (by simpa using G) (by rw [show n+1+j=n+(j+1) by lia]; exact hn)
    | io=>
     obtain ⟨⟨a,rfl,h1⟩,h2⟩:=h;obtain ⟨i1,i2⟩:=i (n:=n+1) h2;refine ⟨λj e G hn=>?_,λj e G hn=>?_⟩
     ·cases j with
      | zero=>exact absurd (ac.mpr (.inl rfl)) hn
      | succ j=>simpa using i1 j e (by simpa using G) (λz=>hn (ae _ (by rw [show n+(j+1)=n+1+j by lia]; exact z)))
     ·cases j with
      | zero=>simp at G; subst G; exact ⟨a,rfl,h1⟩
      | succ j=>
       have c:n+1+j∈kl (n+1) ms:=by
        rcases ac.mp hn with z | z
        ·lia
        ·rw [show n+1+j=n+(j+1) by lia]; exact z
       simpa using i2 j e (by simpa using G) c
    | tk=>
     obtain ⟨⟨a,rfl,h1⟩,h2⟩:=h;obtain ⟨i1,i2⟩:=i (n:=n+1) h2;refine ⟨λj e G hn=>?_,λj e G hn=>?_⟩
     ·cases j with
      | zero=>exact absurd (ac.mpr (.inl rfl)) hn
      | succ j=>simpa using i1 j e (by simpa using G) (λz=>hn (ae _ (by rw [show n+(j+1)=n+1+j by lia]; exact z)))
     ·cases j with
      | zero=>simp at G; subst G; exact ⟨a,rfl,h1⟩
      | succ j=>
       have c:n+1+j∈kl (n+1) ms:=by
        rcases ac.mp hn with z | z
        ·lia
        ·rw [show n+1+j=n+(j+1) by lia]; exact z
       simpa using i2 j e (by simpa using G) c
theorem GT:∀ {ms:List PM} {vs:List V} {j:Nat} {a:Addr},n+j∈kl n ms->vs[j]?=ij (.ref a)->a∈zq ms vs:=by
 intro ms
 induction ms generalizing n with
 | nil=>intro vs j a h; simp [kl] at h
 | cons m ms i=>
  intro vs j a h e;cases vs with
  | nil=>simp at e
  | cons v vs=>
   cases j with
   | zero=>
    simp at e; subst e;cases m with
    | val=>have:=yT (n:=n+1) h; omega
    | io=>exact ac.mpr (.inl rfl)
    | tk=>exact ac.mpr (.inl rfl)
   | succ j=>
    have b:vs[j]?=ij (.ref a):=by simpa using e
    have sub:n+1+j∈kl (n+1) ms:=by
     rw [show n+1+j=n+(j+1) by omega];cases m with
     | val=>exact h
     | io=>exact (ac.mp h).resolve_left (by omega)
     | tk=>exact (ac.mp h).resolve_left (by omega)
    have q:=i (n:=n+1) sub b;cases m <;> cases v <;> first | exact q | exact ae _ q
theorem GU:∀ {ms:List PM} {vs:List V} {a:Addr},a∈zq ms vs->∃ j,n+j∈kl n ms/\vs[j]?=ij (.ref a):=by
 intro ms
 induction ms generalizing n with
 | nil=>intro vs a h; cases vs <;> simp [zq] at h
 | cons m ms i=>
  intro vs a h;cases vs with
  | nil=>cases m <;> simp [zq] at h
  | cons v vs=>
   have up:∀ {b},b∈zq ms vs->∃ j,n+j∈kl n (m::ms)/\(v::vs)[j]?=ij (.ref b):=λd=>by
    obtain ⟨j,h1,h2⟩:=i (n:=n+1) d;refine ⟨j+1,?_,by simpa using h2⟩;rw [show n+(j+1)=n+1+j by lia];cases m with
    | val=>exact h1
    | io=>exact ae _ h1
    | tk=>exact ae _ h1
   cases m with
   | val=>exact up (by cases v <;> exact h)
   | io=>
    cases v with
    | ref c=>
     rcases ac.mp h with e | h;·subst e; exact ⟨0,ac.mpr (.inl rfl),rfl⟩
     ·exact up h
    | _=>exact up h
   | tk=>
    cases v with
    | ref c=>
     rcases ac.mp h with e | h;·subst e; exact ⟨0,ac.mpr (.inl rfl),rfl⟩
     ·exact up h
    | _=>exact up h
theorem qcP:∀ {ms:List PM} {vs:List V} {i j:Nat} {a:Addr},(zq ms vs).Nodup->n+i∈kl n ms->n+j∈kl n ms->vs[i]?=ij (.ref a)->vs[j]?=ij (.ref a)->i=j:=by
 intro ms
 induction ms generalizing n with
 | nil=>intro vs i j a _ h; simp [kl] at h
 | cons m ms f=>
  intro vs i j a nd hi G e1 e;cases vs with
  | nil=>simp at e1
  | cons v vs=>
   have sub:∀ {k},n+(k+1)∈kl n (m::ms)->n+1+k∈kl (n+1) ms:=λ{k} h=>by
    rw [show n+1+k=n+(k+1) by lia];cases m with
    | val=>exact h
    | io=>exact (ac.mp h).resolve_left 'b'
    | tk=>exact (ac.mp h).resolve_left 'b'
   have d:(zq ms vs).Nodup:=by cases m <;> cases v <;> first | exact nd | exact (aK.mp nd).2
   have c:∀ {k b},n+0∈kl n (m::ms)->v=.ref b->n+(k+1)∈kl n (m::ms)->vs[k]?=ij (.ref b)->False:=λ{k b} o g l p=>by
    subst g;have q:=GT (n:=n+1) (sub l) p;cases m with
    | val=>have:=yT (n:=n+1) o; lia
    | io=>exact (aK.mp nd).1 q
    | tk=>exact (aK.mp nd).1 q
   cases i with
   | zero=>
    cases j with
    | zero=>rfl
    | succ j=>exact (c hi (by simpa using e1) G (by simpa using e)).elim
   | succ i=>
    cases j with
    | zero=>exact (c G (by simpa using e) hi (by simpa using e1)).elim
    | succ j=>exact congrArg (·+1) (f (n:=n+1) d (sub hi) (sub G) (by simpa using e1) (by simpa using e))
noncomputable def qt (N:List Str) (ds:List D):Sl:=ds.map ij++aJ (N.length - ds.length) im
variable {α:Type} {N:List Str}
theorem ka {xs:List α} {x:α}:(xs.map ij++aJ (N.length - xs.length) im)[i]?=ij (ij x)↔xs[i]?=ij x:=by
 by_cases h:i < xs.length
 ·rw [cM (by simpa using h),aH];cases e:xs[i]? with
  | none=>simp
  | some y=>simp
 ·rw [bZ (by simpa using h),bw];have e:xs[i]?=none:=bO.mpr 'b';rw [e];split <;> simp
variable {ms:List PM}
theorem GV (A:Same F H) (r:ArgsIs K F H ms vs ds) (nd:(zq ms vs).Nodup):Rep K (kl 0 ms) F H (vb N vs) (qt N ds):=by
 obtain ⟨h1,h2⟩:=Zg (n:=0) r;obtain ⟨f,l⟩:=r.length;refine ⟨A,by simp [vb,qt,f,l],λi d hi e=>?_,λi d hi e=>?_,λi hi=>?_,λi j a hi G e1 c=>?_⟩;·obtain ⟨v,a,b⟩:=h1 i d (ka.mp e) (by simpa using hi);exact ⟨v,ka.mpr a,b⟩
 ·obtain ⟨v,a,b⟩:=h2 i d (ka.mp e) (by simpa using hi);exact ⟨v,ka.mpr a,b⟩
 ·have q:=yT hi;have hl:i < ds.length:=by lia
  exact ⟨ds[i],ka.mpr (by simp [hl])⟩
 ·exact qcP (n:=0) nd (by simpa using hi) (by simpa using G) (ka.mp e1) (ka.mp c)
theorem qcQ:OA (kl 0 ms) (vb N vs) b↔LA ms vs b:=by
 constructor;·rintro ⟨i,hi,e⟩;exact GT (n:=0) (by simpa using hi) (ka.mp e)
 ·intro h;obtain ⟨j,h1,h2⟩:=GU (n:=0) h;exact ⟨j,by simpa using h1,ka.mpr h2⟩
noncomputable def kb (ρ:Sl):Nat->List PM->List D
 | _,[]=>[]
 | n,.io::ms=>((ρ[n]?).getD im).getD .non::kb ρ (n+1) ms
 | n,_::ms=>.non::kb ρ (n+1) ms
theorem qfz {σ:St} {N:List Str}:∀ {ms:List PM} {vs:List V} {n:Nat},vs.length=ms.length->(∀ i∈WO n ms,∃ d a,ρ[i]?=ij (ij d)/\vs[i - n]?=ij (V.ref a)/\F a=im/\OwnIs K F H a d)->yS K F H ms vs (kb ρ n ms):=by
 intro ms
 induction ms with
 | nil=>intro vs n _ _; trivial
 | cons m ms j=>
  intro vs n hl h;cases vs with
  | nil=>simp at hl
  | cons v vs=>
   have rest:(∀ i∈WO (n+1) ms,i∈WO n (m::ms))->yS K F H ms vs (kb ρ (n+1) ms):=λc=>by refine j (by simpa using hl) λi hi=>?_;obtain ⟨d,a,e1,e,D⟩:=h i (c i hi);have q:=yT (qcO hi);refine ⟨d,a,e1,?_,D⟩;rw [show i - n=(i - (n+1))+1 by lia] at e;simpa using e
   cases m with
   | val=>exact rest λi hi=>hi
   | io=>obtain ⟨d,a,e1,e,D⟩:=h n (ac.mpr (.inl rfl));refine ⟨⟨a,by simpa using e,D.1,?_⟩,rest λi hi=>ae _ hi⟩;rw [e1];exact D.2
   | tk=>exact rest λi hi=>hi
noncomputable def Fl.val:Fl->Option D
 | .nx=>ij .non
 | .rt d=>ij d
 | _=>im
noncomputable def jV (N:List Str) (ms:List PM) (f:qU) (ds:List D):Out (D×List D):=match f (qt N ds) with
 | .ok (.nx,ρ)=>.ok (.non,kb ρ 0 ms)
 | .ok (.rt d,ρ)=>.ok (d,kb ρ 0 ms)
 | .ok _=>.bad
 | .exc c ρ=>.exc c ((kb ρ 0 ms).map ij)
 | .bad=>.bad
theorem Yx:∀ (l:List D),(l.map ij).map (λx:Option D=>x.getD .non)=l
 | []=>rfl
 | a::l=>congrArg (a::·) (Yx l)
def Out.le {α:Type} (a b:Out α):Prop:=a=.bad\/a=b
theorem GW {f:qU} {Q:VK} {o:Out (D×List D)} (j:C.io=WO 0 ms) (l:C.ox=C.io) (r:C.mr=.sh\/∀ ρ,(f (qt N ds))≠.ok (.nx,ρ)) (g:∀ i∈WO 0 ms,i∈own') (A:Same F H) (t:ArgsIs C.K F H ms vs ds) (nd:(zq ms vs).Nodup)
  (G:Out.le o (jV N ms f ds)) (h:PoG C.K C.cv ms C.mr vs F H Q C.E o):tSt C (kl 0 ms) own' f { nx:=λ_ H'=>Q .non H',rt:=Q } (vb N vs) H:=by
 refine ⟨F,qt N ds,GV A t nd,?_⟩;have hl:=t.length.1;have ch:∀ {F' H'},Chg (OA (kl 0 ms) (vb N vs)) F H F' H'->Chg (LA ms vs) F H F' H':=λc=>c.mono λx z=>qcQ.mp z;have b:∀ {σ':St} {ρ':Sl} {F' H':Hp},ZZ C.K C.io F' H' σ' ρ'->(∀ i∈C.io,σ'[i]?=(vb N vs)[i]?)->yS C.K F' H' ms vs (kb ρ' 0 ms):=λ{σ' ρ' F' H'} io e=>by
  refine qfz (N:=N) (σ:=σ') hl λi hi=>?_;have k:i∈C.io:=by rw [j]; exact hi
  obtain ⟨d,a,e1,m,y⟩:=io i k;refine ⟨d,a,e1,?_,y⟩;rw [e i k] at m;exact ka.mp m
 rcases G with e | e;·subst e; exact h.elim
 ·subst e;unfold jV at h;cases q:f (qt N ds) with
  | ok p=>
   rw [q] at h;obtain ⟨w,ρ'⟩:=p;cases w with
   | nx=>have u:C.mr=.sh:=r.resolve_right λz=>z ρ' q;exact λσ' F' H' n=>h .non F' H' n.rep.sub (ch n.chg) (b (n.rep.ioIs (by rw [j]; exact g)) n.io) (by rw [u]; exact .non)
   | rt d=>exact λv σ' F' H' s io c e mo=>h v F' H' s (ch c) (b io e) mo
   | bk=>exact h.elim
   | ct=>exact h.elim
  | exc c ρ'=>rw [q] at h;exact λF' H' s io U=>h F' H' s (ch U) (by rw [Yx]; exact b (σ':=vb N vs) (by rw [<-l]; exact io) λ_ _=>rfl)
  | bad=>rw [q] at h; exact h.elim
def qfA (K:Frag) (cv:Str->iq) (E:XK) (ms:List PM) (mr:Mo):Ct:=⟨K,cv,E,WO 0 ms,mr,[],WO 0 ms,λ_ h=>h⟩
theorem qkV {P:iF} {w:iG} {K:Frag} {mg:Str->Option iq} {base:Heap} {CX:CXT} {x qual:Str} {st:Stmt} {f:Addr} {fd:k6} {N ps:List Str} {k:Nat} {cv:Str->iq} {ms:List PM} {mr:Mo} {own':List Nat} {fb:qU} {G:jK}
  (F:Fun K x qual st f fd) (S:FnScope N ps (qR st)) (hl:ms.length=ps.length) (g:∀ i∈WO 0 ms,i∈own') (r:mr=.sh\/∀ ds ρ,(fb (qt N ds))≠.ok (.nx,ρ))
  (a:∀ (cdv:iq) (A:iJ) (outer:List Env) (s:iw) (H:Hp) (E:XK),Room k (A.deeper (lf qual (qR st) s.heap.objs.size f cdv)) ->PSs (qfd CX P w K mg base N qual (qR st) f cdv A outer s H E) (kG st) (tSt (qfA K cv E ms mr) (kl 0 ms) own' fb))
  (e:∀ ds,Out.le (G ds) (jV N ms fb ds)):FnOk P w K mg base CX (k+1) f fd ps (spD K cv ms mr G):=by
 obtain ⟨oc,od,kV,doc,pm,an,cdv,ct,osl,rfl,j,d⟩:=F.ex;refine qjU j d S (λvs H Q E h=>?_) λA outer s H vs Q E hr p=>?_;·obtain ⟨F,ds,_,b,_⟩:=h;rw [b.length.1,hl]
 ·obtain ⟨F1,ds,c,b,nd,h⟩:=p;refine ⟨_,a cdv A outer s H E hr,?_⟩;exact GW (C:=qfA K cv E ms mr) rfl rfl (r.imp id λz ρ=>z ds ρ) g c b nd (e ds) h
noncomputable def Qx:AK->PM
 | .vl=>.val
 | .sl _=>.io
 | .fr=>.tk
noncomputable def kX:List AK->List D->Sl->Option (List D)
 | [],[],_=>ij []
 | .sl i::as,_::ds,ρ=>match ρ[i]? with
  | some (ij d)=>(kX as ds ρ).map (d::·)
  | _=>im
 | .vl::as,d::ds,ρ=>(kX as ds ρ).map (d::·)
 | .fr::as,d::ds,ρ=>(kX as ds ρ).map (d::·)
 | _,_,_=>im
noncomputable def zD:List AK->List D->Sl->Sl
 | .sl i::as,d::outs,ρ=>zD as outs (ρ.set i (ij d))
 | _::as,_::outs,ρ=>zD as outs ρ
 | _,_,ρ=>ρ
noncomputable def je:List AK->List Nat
 | []=>[]
 | .sl i::as=>i::je as
 | _::as=>je as
noncomputable def frA:List AK->Nat
 | []=>0
 | .fr::as=>frA as+1
 | _::as=>frA as
section
theorem yU:∀ {as:List AK} {vs:List V} {ds f:List D},Rep K own F H σ ρ->(∀ i∈je as,i∈own)->ArgV K H0 F H σ as vs ds->kX as ds ρ=ij f->ArgsIs K F H (as.map Qx) vs f
 | [],vs,ds,f,rp,hs,av,e=>by cases vs <;> cases ds <;> first | exact av.elim | (simp [kX] at e; subst e; trivial)
 | a::as,[],ds,f,rp,hs,av,e=>by cases a <;> exact av.elim
 | a::as,v::vs,[],f,rp,hs,av,e=>by cases a <;> exact av.elim
 | .vl::as,v::vs,d::ds,f,rp,hs,av,e=>by
  cases q:kX as ds ρ with
  | none=>simp [kX,q] at e
  | some l=>
   have e:d::l=f:=by simpa [kX,q] using e
   subst e;exact ⟨av.1,yU rp hs av.2 q⟩
 | .fr::as,v::vs,d::ds,f,rp,hs,av,e=>by
  cases q:kX as ds ρ with
  | none=>simp [kX,q] at e
  | some l=>
   have e:d::l=f:=by simpa [kX,q] using e
   subst e;obtain ⟨a,h1,_,h2,g⟩:=av.1;exact ⟨⟨a,h1,h2,g⟩,yU rp hs av.2 q⟩
 | .sl i::as,v::vs,d::ds,f,rp,hs,av,e=>by
  obtain ⟨h1,_,b⟩:=av;have hi:i∈own:=hs i (ac.mpr (.inl rfl));obtain ⟨d',hd⟩:=rp.opn i hi;obtain ⟨a,e1,h,c⟩:=rp.ow i d' hi hd;rw [h1] at e1;cases e1;cases q:kX as ds ρ with
  | none=>simp [kX,q,hd] at e
  | some l=>
   have e:d'::l=f:=by simpa [kX,q,hd] using e
   subst e;exact ⟨⟨a,rfl,h,c⟩,yU rp (λj G=>hs j (ae _ G)) b q⟩
theorem vz:∀ {as:List AK} {vs:List V} {ds:List D} {b:Addr},ArgV K H0 F H σ as vs ds->b∈zq (as.map Qx) vs->(∃ i∈je as,σ[i]?=ij (ij (V.ref b)))\/(H0 b=im/\frA as≠0/\H b≠im/\F b=im)
 | [],vs,ds,b,av,h=>by cases vs <;> simp [zq] at h
 | a::as,[],ds,b,av,h=>by cases a <;> exact av.elim
 | a::as,v::vs,[],b,av,h=>by cases a <;> exact av.elim
 | .vl::as,v::vs,d::ds,b,av,h=>by
  have h:b∈zq (as.map Qx) vs:=by cases v <;> exact h
  exact vz (as:=as) av.2 h
 | .fr::as,v::vs,d::ds,b,av,h=>by
  obtain ⟨⟨a,rfl,f,C,o⟩,c⟩:=av;have h:b∈a::zq (as.map Qx) vs:=h;rcases ac.mp h with e | h;·subst e; exact .inr ⟨f,by simp [frA],o.there,C⟩
  ·rcases vz c h with z | ⟨z,_,z2⟩
   ·exact .inl z
   ·exact .inr ⟨z,by simp [frA],z2⟩
 | .sl i::as,v::vs,d::ds,b,av,h=>by
  obtain ⟨h1,_,c⟩:=av;have up:b∈zq (as.map Qx) vs->(∃ j∈je (.sl i::as),σ[j]?=ij (ij (V.ref b)))\/(H0 b=im/\frA (.sl i::as)≠0/\H b≠im/\F b=im):=λh=>by
   rcases vz c h with ⟨j,hj,e⟩ | z;·exact .inl ⟨j,ae _ hj,e⟩
   ·exact .inr z
  cases v with
  | ref a=>
   have h:b∈a::zq (as.map Qx) vs:=h;rcases ac.mp h with e | h;·subst e; exact .inl ⟨i,ac.mpr (.inl rfl),h1⟩
   ·exact up h
  | _=>exact up h
theorem uX:∀ {as:List AK} {vs:List V} {ds:List D},Rep K own F H σ ρ->(∀ x,OA own σ x->H0 x≠im)->(∀ i∈je as,i∈own)->(je as).Nodup->frA as<=1->ArgV K H0 F H σ as vs ds->(zq (as.map Qx) vs).Nodup
 | [],vs,ds,rp,h0,hs,nd,hf,av=>by cases vs <;> simp [zq]
 | a::as,[],ds,rp,h0,hs,nd,hf,av=>by cases a <;> exact av.elim
 | a::as,v::vs,[],rp,h0,hs,nd,hf,av=>by cases a <;> exact av.elim
 | .vl::as,v::vs,d::ds,rp,h0,hs,nd,hf,av=>by have q:=uX (as:=as) rp h0 hs nd hf av.2;cases v <;> exact q
 | .fr::as,v::vs,d::ds,rp,h0,hs,nd,hf,av=>by
  have f:frA as=0:=by simp only [frA] at hf; lia
  obtain ⟨⟨a,rfl,k,C,o⟩,b⟩:=av;show (a::zq (as.map Qx) vs).Nodup;refine aK.mpr ⟨λz=>?_,uX rp h0 hs nd 'b' b⟩;rcases vz b z with ⟨i,hi,e⟩ | ⟨_,n,_⟩
  ·exact h0 a ⟨i,hs i hi,e⟩ k
  ·exact n f
 | .sl i::as,v::vs,d::ds,rp,h0,hs,nd,hf,av=>by
  obtain ⟨h1,_,b⟩:=av;have h:∀ j∈je as,j∈own:=λj G=>hs j (ae _ G);have hi:i∈own:=hs i (ac.mpr (.inl rfl));obtain ⟨g,c⟩:=aK.mp nd;have q:=uX rp h0 h c hf b;cases v with
  | ref a=>
   show (a::zq (as.map Qx) vs).Nodup;refine aK.mpr ⟨λz=>?_,q⟩;rcases vz b z with ⟨j,G,e⟩ | ⟨n,_⟩
   ·exact g (by rw [rp.dis i j a hi (h j G) h1 e]; exact G)
   ·exact h0 a ⟨i,hi,h1⟩ n
  | _=>exact q
theorem wH:∀ {as:List AK} {b:List D} {ρ:Sl} {i:Nat},i∉je as->(zD as b ρ)[i]?=ρ[i]?
 | [],b,ρ,i,h=>by cases b <;> rfl
 | a::as,[],ρ,i,h=>by cases a <;> rfl
 | .vl::as,d::b,ρ,i,h=>wH (as:=as) h
 | .fr::as,d::b,ρ,i,h=>wH (as:=as) h
 | .sl j::as,d::b,ρ,i,h=>by
  have h':i≠j/\i∉je as:=by simpa [je] using h
  show (zD as b (ρ.set j (ij d)))[i]?=_;rw [wH h'.2,ax (bo h'.1)]
theorem zE:∀ {as:List AK} {b:List D} {ρ:Sl},(zD as b ρ).length=ρ.length
 | [],b,ρ=>by cases b <;> rfl
 | a::as,[],ρ=>by cases a <;> rfl
 | .vl::as,d::b,ρ=>zE (as:=as)
 | .fr::as,d::b,ρ=>zE (as:=as)
 | .sl j::as,d::b,ρ=>by show (zD as b (ρ.set j (ij d))).length=_;rw [zE,dg]
theorem JA {F' H':Hp}:∀ {as:List AK} {vs:List V} {ds b:List D} {ρ:Sl},(je as).Nodup->(∀ i∈je as,i < ρ.length)->ArgV K H0 F H σ as vs ds->yS K F' H' (as.map Qx) vs b->∀ i∈je as,∃ d a,(zD as b ρ)[i]?=ij (ij d)/\σ[i]?=ij (ij (V.ref a))/\F' a=im/\OwnIs K F' H' a d
 | [],vs,ds,b,ρ,nd,hl,av,o,i,hi=>by simp [je] at hi
 | a::as,[],ds,b,ρ,nd,hl,av,o,i,hi=>by cases a <;> exact av.elim
 | a::as,v::vs,[],b,ρ,nd,hl,av,o,i,hi=>by cases a <;> exact av.elim
 | a::as,v::vs,d::ds,[],ρ,nd,hl,av,o,i,hi=>by cases a <;> exact o.elim
 | .vl::as,v::vs,d::ds,u::b,ρ,nd,hl,av,o,i,hi=>JA (as:=as) nd hl av.2 o i hi
 | .fr::as,v::vs,d::ds,u::b,ρ,nd,hl,av,o,i,hi=>JA (as:=as) nd hl av.2 o i hi
 | .sl j::as,v::vs,d::ds,u::b,ρ,nd,hl,av,o,i,hi=>by
  obtain ⟨g,n⟩:=aK.mp nd;obtain ⟨h1,_,c⟩:=av;obtain ⟨⟨a,e,C,ow⟩,o2⟩:=o;subst e;rcases ac.mp hi with e | hi;·subst e;refine ⟨u,a,?_,h1,C,ow⟩;show (zD as b (ρ.set i (ij u)))[i]?=_;rw [wH g,aG (hl i (ac.mpr (.inl rfl)))]
  ·exact JA (as:=as) (ρ:=ρ.set j (ij u)) n (λk h=>by rw [dg]; exact hl k (ae _ h)) c o2 i hi
end
noncomputable def qo (as:List AK) (G:jK) (fr:ww):jl:=λρ=>(fr ρ).bind λp=>match kX as p.1 p.2 with
 | some ds=>match G ds with
  | .ok q=>.ok (q.1,zD as q.2 p.2)
  | .exc c o=>.exc c (zD as (o.map (·.getD .non)) p.2)
  | .bad=>.bad
 | none=>.bad
variable {mr:Mo} {CX:CXT} {f:Addr} {fd:k6} {ps:List Str}
section
variable {G:jK} {fr:ww}
theorem Yy {F' H':Hp} {b:List D} (r:Rep C.K own F H σ ρ) (k:∀ x,OA own σ x->H0 x≠im) (h:∀ i∈je as,i∈own) (nd:(je as).Nodup) (av:ArgV C.K H0 F H σ as vs ds)
  (A:Same F' H') (c:Chg (LA (as.map Qx) vs) F H F' H') (o:yS C.K F' H' (as.map Qx) vs b):Rep C.K own F' H' σ (zD as b ρ):=by
 have pin:=JA (ρ:=ρ) nd (λi hi=>by obtain ⟨d,e⟩:=r.opn i (h i hi);exact (aB.mp e).1) av o;refine ⟨A,by rw [zE]; exact r.len,λi d hi e=>?_,λi d hi e=>?_,λi hi=>?_,r.dis⟩;·rw [wH (λz=>hi (h i z))] at e;obtain ⟨v,h1,h2⟩:=r.val i d hi e;exact ⟨v,h1,h2.mono c.grow⟩
 ·by_cases q:i∈je as;·obtain ⟨d',a,e1,s,p,m⟩:=pin i q;rw [e1] at e;cases e;exact ⟨a,s,p,m⟩
  ·rw [wH q] at e;obtain ⟨a,h1,h2,f⟩:=r.ow i d hi e;have l:¬LA (as.map Qx) vs a:=λz=>by
    rcases vz av z with ⟨j,G,t⟩ | ⟨n,_⟩
    ·exact q (by rw [r.dis i j a hi (h j G) h1 t]; exact G)
    ·exact k a ⟨i,hi,h1⟩ n
   refine ⟨a,h1,?_,f.grow c.grow λo' g=>c.keep a o' g l⟩;cases g:F' a with
   | none=>rfl
   | some u=>
    rcases c.new a (by rw [g]; simp) with z | z | z;·exact absurd h2 z
    ·exact absurd z f.there
    ·exact absurd z l
 ·by_cases q:i∈je as;·obtain ⟨d',a,e1,_⟩:=pin i q;exact ⟨d',e1⟩
  ·rw [wH q];exact r.opn i hi
theorem Ug {Q:VK} (k:∀ i∈C.ox,i∈own) (s:∀ i∈je as,i∈own) (nd:(je as).Nodup) (t:frA as<=1) (h:tE C own mr (qo as G fr) σ H Q):tAr C own as fr σ H λvs H1=>spD C.K C.cv (as.map Qx) mr G (vs++[]) H1 Q C.E:=by
 obtain ⟨F,ρ,r,h⟩:=h;have l:∀ x,OA own σ x->H x≠none:=λx z=>(r.OA_there z).1;refine ⟨F,ρ,r,?_⟩;unfold qo at h;cases j:fr ρ with
 | ok p=>
  rw [j] at h;obtain ⟨ds,ρ1⟩:=p;intro vs F1 H1 a m av;rw [aZ];have h1:Po C own mr σ F H (match kX as ds ρ1 with | some ds=>(match G ds with | .ok q=>.ok (q.1,zD as q.2 ρ1) | .exc c o=>.exc c (zD as (o.map (·.getD .non)) ρ1) | .bad=>.bad) | none=>.bad) Q:=h;cases q:kX as ds ρ1 with
  | none=>simp only [q] at h1; exact h1.elim
  | some f=>
   simp only [q] at h1;have lo:∀ x,LA (as.map Qx) vs x->OA own σ x\/H x=none:=λx z=>by
    rcases vz av z with ⟨i,hi,e⟩ | ⟨n,_⟩
    ·exact .inl ⟨i,s i hi,e⟩
    ·exact .inr n
   refine ⟨F1,f,a.sub,yU a s av q,uX a l s nd t av,?_⟩;cases g:G f with
   | ok p=>rw [g] at h1;obtain ⟨d,b⟩:=p;exact λv F' H' A c o mo=>h1 v F' H' (Yy a l s nd av A c o) (m.trans c lo) (MoIs.back (Ha:=H1) m mo)
   | exc x o=>rw [g] at h1; exact λF' H' A c b=>h1 F' H' A ((Yy a l s nd av A c b).ioIs k) (m.trans c lo)
   | bad=>rw [g] at h1; exact h1.elim
 | exc c=>rw [j] at h; exact h
 | bad=>rw [j] at h; exact h.elim
theorem qfB {k:Nat} {p pos:Pos} (F:FnOk X.prog X.w X.K X.mg X.base CX k f fd ps (spD C.K C.cv ms mr G)) (hr:Room k X.A) (hg:Gl X x) (m:X.mg x=ij (.ref f)) (a:mm X.K (.ref f)=iu) (j:Binds X.K fd ps []) (hx:vK CX X C.E)
  (n:PA X (e::es) (tAr C own as fr)) (s:ms=as.map Qx:=by rfl) (c:∀ i∈je as,i∈own:=by decide) (nd:(je as).Nodup:=by decide) (d:frA as<=1:=by decide) (o:∀ i∈C.ox,i∈own:=by exact kZ rfl) (b:Dbg x:=by decide) (g:iA (e::es) X.env=(ir,eval e X.env)::iA es X.env:=by exact js rfl)
  (l:(iS pos (iA es X.env)).any (·.1)=false:=by exact wA rfl):PE X (.Call (.Name x p) (e::es) [] pos) (tE C own mr (qo as G fr)):=by
 subst s;exact jN (qfc F hr hg m a j .nil hx n b g l) λσ H Q h=>Ug o c nd d h
end
structure ItIs (K:Frag) (F:Hp) (J:It) (ds:List D):Prop where
 go:∀ i H,i < ds.length->Same F H->J.go i H
 yld:∀ i Fi H x H' d,ds[i]?=ij d->Same F Fi->Same Fi H->J.yld i H x H'->∃ F',Chg No Fi H F' H'/\Same F' H'/\Is K F' x d
 stop:∀ i H,ds.length<=i->Same F H->J.stop i H
def PoI (C:Ct) (own:List Nat) (σ:St) (F H:Hp) (r:Out (List D×Sl)) (R:It->Hp->Prop):Prop:=match r with
 | .ok (ds,ρ')=>∀ J F' H',Rep C.K own F' H' σ ρ'->Chg (OA own σ) F H F' H'->ItIs C.K F' J ds->R J H'
 | .exc c ρ'=>∀ F' H',Same F' H'->ZZ C.K C.ox F' H' σ ρ'->Chg (OA own σ) F H F' H'->C.E (C.cv c) im H'
 | .bad=>False
def tIt (C:Ct) (own:List Nat) (f:ww):TI:=λσ H R=>∃ F ρ,Rep C.K own F H σ ρ/\PoI C own σ F H (f ρ) R
noncomputable def xF:D->Out (List D)
 | .lst xs=>.ok xs
 | .tup xs=>.ok xs
 | _=>.bad
noncomputable def qlz (f:jl):ww:=λρ=>(f ρ).bind λp=>(xF p.1).bind λds=>.ok (ds,p.2)
theorem PoI.bindV {m:Mo} {o:WM} {k:D×Sl->Out (List D×Sl)} {Q:It->Hp->Prop} {R:VK} (hp:PoI C own σ F H (o.bind k) Q)
  (h:∀ v F1 H1 d ρ1,Rep C.K own F1 H1 σ ρ1->Chg (OA own σ) F H F1 H1->MoIs C.K m H F1 H1 v d->PoI C own σ F H (k (d,ρ1)) Q->R v H1):Po C own m σ F H o R:=by
 cases o with
 | ok p=>exact λv F1 H1 a c mo=>h v F1 H1 p.1 p.2 a c mo hp
 | exc x=>exact hp
 | bad=>exact hp.elim
variable {g:D->Sl->Out Sl} {tg iter:Expr} {xs:List V} {gs:List D->Sl->Out Sl}
section
variable {f:jl}
theorem qcR {t t':TI} (h:PI X tg e t) (i:∀ σ H Q,t' σ H Q->t σ H Q):PI X tg e t':=⟨λpins s σ H R I w=>h pins s σ H R I (i σ H R w)⟩
theorem qhL (p:SqL K F a xs) (t:IsL K F xs ds):ItIs K F (Itl K a) ds where
 go:=λi H hi s=>by
  have hx:i < xs.length:=by rw [t.length]; exact hi
  exact ⟨xs,xs[i],s.seq p,by simp [hx]⟩
 yld:=λi Fi H x H' d e s1 s2 y=>by obtain ⟨rfl,y⟩:=y;obtain ⟨v,h1,h2⟩:=t.getD e;have q:=y xs ((s1.trans s2).seq p);rw [h1] at q;cases q;exact ⟨Fi,.refl,s2,h2.mono s1⟩
 stop:=λi H hi s=>⟨xs,s.seq p,by rw [t.length]; exact hi⟩
theorem qhM (p:SqT K F a xs) (t:IsL K F xs ds):ItIs K F (Itt K a) ds where
 go:=λi H hi s=>by
  have hx:i < xs.length:=by rw [t.length]; exact hi
  exact ⟨xs,xs[i],jg s p,by simp [hx]⟩
 yld:=λi Fi H x H' d e s1 s2 y=>by obtain ⟨rfl,y⟩:=y;obtain ⟨v,h1,h2⟩:=t.getD e;have q:=y xs (jg (s1.trans s2) p);rw [h1] at q;cases q;exact ⟨Fi,.refl,s2,h2.mono s1⟩
 stop:=λi H hi s=>⟨xs,jg s p,by rw [t.length]; exact hi⟩
noncomputable def zr (lo:Int) (n:Nat):List D:=(aO n).map λk=>.int (lo+(k:Nat))
theorem qhN {lo:Int}:ItIs K F (Itr lo n) (zr lo n) where
 go:=λi H hi _=>by
  have:i < n:=by simpa [zr] using hi
  exact this
 yld:=λi Fi H x H' d e s1 s2 y=>by
  obtain ⟨rfl,rfl⟩:=y;have e:d=.int (lo+i):=by
   unfold zr at e;rw [aH] at e;cases q:(aO n)[i]? with
   | none=>rw [q] at e; cases e
   | some k=>
    rw [q] at e;have h:k=i:=by have:=aB.mp q;obtain ⟨_,z⟩:=this;simpa using z.symm
    subst h;exact (aI.inj e).symm
  subst e;exact ⟨Fi,.refl,s2,.int _⟩
 stop:=λi H hi _=>by
  have:n<=i:=by simpa [zr] using hi
  exact this
noncomputable def jo (f:jl):ww:=λρ=>(f ρ).bind λp=>match p.1 with
 | .int j=>if -(2 ^ 62)<=j/\j < 2 ^ 62 then .ok (zr 0 j.toNat,p.2) else .bad
 | _=>.bad
theorem kI {p:Pos} (hg:Gl X "range") (b:X.mg "range"=im) (h:PE X e (tE C own m f)) (s:iA [e] X.env=[(ir,eval e X.env)]:=by exact qT rfl):PI X tg (.Call (.Name "range" p) [e] [] pos) (tIt C own (jo f)):=by
 refine qcR (Gk hg b (qY h jT s) s) λσ H R ⟨F,ρ,r,h⟩=>⟨F,ρ,r,PoI.bindV h λv F1 H1 d ρ1 a k c h1=>?_⟩
 cases d with
 | int j=>
  obtain rfl:=c.top.int;have h1:PoI C own σ F H (if -(2 ^ 62)<=j/\j < 2 ^ 62 then .ok (zr 0 j.toNat,ρ1) else .bad) R:=h1;by_cases z:-(2 ^ 62)<=j/\j < 2 ^ 62;·rw [Aa z] at h1;exact ⟨j,rfl,z.1,z.2,h1 _ F1 H1 a k qhN⟩
  ·rw [Ab z] at h1; exact h1.elim
 | _=>exact h1.elim
def tGd (C:Ct) (own:List Nat) (g:D->Sl->Out Sl):TG:=λv σ H Q=>∃ F ρ d,Rep C.K own F H σ ρ/\Is C.K F v d/\∃ ρ',g d ρ=.ok ρ'/\∀ σ',Rep C.K own F H σ' ρ'->(∀ b,OA own σ' b->OA own σ b)->(∀ i∈C.io,σ'[i]?=σ[i]?)->Q σ' H
def qjh (C:Ct) (own:List Nat) (g:List D->Sl->Out Sl):TGs:=λvs σ H Q=>∃ F ρ ds,Rep C.K own F H σ ρ/\IsL C.K F vs ds/\∃ ρ',g ds ρ=.ok ρ'/\∀ σ',Rep C.K own F H σ' ρ'->(∀ b,OA own σ' b->OA own σ b)->(∀ i∈C.io,σ'[i]?=σ[i]?)->Q σ' H
theorem qhO {t t':TG} (h:PG X e t) (i:∀ v σ H Q,t' v σ H Q->t v σ H Q):PG X e t':=⟨λpins s σ H v u Q I r w=>h pins s σ H v u Q I r (i v σ H Q w)⟩
theorem qej {t t':TGs} (h:PGs X es t) (i:∀ v σ H Q,t' v σ H Q->t v σ H Q):PGs X es t':=⟨λpins s σ H v u Q I r w=>h pins s σ H v u Q I r (i v σ H Q w)⟩
noncomputable def gNm (i:Nat):D->Sl->Out Sl:=λd ρ=>if i < ρ.length then .ok (ρ.set i (ij d)) else .bad
theorem QP {own:List Nat} (h:i∉own):wa own [i]=own:=by unfold wa;rw [dL];intro j G;simp only [au,decide_eq_true_eq];exact λz=>h (by rw [<-z]; exact G)
theorem Yz (c:X.N.Nodup) (hi:X.N[i]?=ij x) (hx:Loc X.env.scope x) (l:i∉own:=by decide) (o:i∉C.io:=by exact yP rfl) (h:X.fn x=iu\/X.env.scope.names.lookup x=ij .local:=by first | exact .inl rfl | exact .inr rfl):PG X (.Name x pos) (tGd C own (gNm i)):=by
 refine qhO (qe6 c hi hx h) λv σ H Q ⟨F,ρ,d,a,is,ρ',e,k⟩=>?_;unfold gNm at e;by_cases z:i < ρ.length
 ·rw [Aa z] at e;cases e;have r2:=a.put z is;rw [QP l] at r2;refine k _ r2 (λb q=>?_) λj G=>ax λq=>o (by rw [q]; exact G);have g:OA (wa own [i]) (σ.set i (ij v)) b:=by rw [QP l]; exact q
  exact g.put
 ·rw [Ab z] at e; cases e
noncomputable def jF:List D->Sl->Out Sl
 | [],ρ=>.ok ρ
 | _::_,_=>.bad
noncomputable def qA (g:D->Sl->Out Sl) (gs:List D->Sl->Out Sl):List D->Sl->Out Sl
 | d::ds,ρ=>(g d ρ).bind λρ1=>gs ds ρ1
 | [],_=>.bad
theorem kf:PGs X [] (qjh C own jF):=by
 refine qej qe7 λvs σ H Q ⟨F,ρ,ds,a,is,ρ',e,k⟩=>?_;cases is with
 | nil=>cases e; exact ⟨rfl,k σ a (λ_ z=>z) λ_ _=>rfl⟩
 | cons _ _=>cases e
theorem qJ (h1:PG X e (tGd C own g)) (h2:PGs X es (qjh C own gs)) (s:(i6 (e::es) X.env).map (·.2)=assign e X.env::(i6 es X.env).map (·.2):=by rfl):PGs X (e::es) (qjh C own (qA g gs)):=by
 refine qej (qcr h1 h2 s) λvs σ H Q ⟨F,ρ,ds,p,is,ρ',e,k⟩=>?_;cases is with
 | nil=>cases e
 | @cons v d vs ds a t=>
  have e:(g d ρ).bind (λρ1=>gs ds ρ1)=.ok ρ':=e;cases q:g d ρ with
  | ok ρ1=>rw [q] at e;exact ⟨v,vs,rfl,F,ρ,d,p,a,ρ1,q,λσ1 h j m=>⟨F,ρ1,ds,h,t,ρ',e,λf r o l=>k f r (λb z=>j b (o b z)) λi hi=>(l i hi).trans (m i hi)⟩⟩
  | exc c=>rw [q] at e; cases e
  | bad=>rw [q] at e; cases e
noncomputable def jG (n:Nat) (gs:List D->Sl->Out Sl):D->Sl->Out Sl
 | .tup ds,ρ=>if ds.length=n then gs ds ρ else .bad
 | _,_=>.bad
theorem kY {k:Nat} (f:C.K=X.K) (b:X.calm=iu) (h:PGs X es (qjh C own gs)) (hn:(i6 es X.env).length=n:=by rfl) (c:(i6 es X.env).findIdx? (·.1)=none:=by rfl):PG X (.Tuple es k pos) (tGd C own (jG n gs)):=by
 refine qhO (qhd b h hn c) λv σ H Q ⟨F,ρ,d,r,is,ρ',e,k⟩=>?_;cases is with
 | @tup a xs ds p t=>
  have e:(if ds.length=n then gs ds ρ else .bad)=.ok ρ':=e;by_cases z:ds.length=n;·rw [Aa z] at e;exact ⟨a,xs,rfl,by rw [<-f]; exact jg r.sub p,by rw [t.length]; exact z,F,ρ,ds,r,t,ρ',e,k⟩
  ·rw [Ab z] at e; cases e
 | _=>cases e
noncomputable def qji (fe:jl) (g:D->Sl->Out Sl):qU:=λρ=>(fe ρ).bind λp=>match g p.1 p.2 with
 | .ok ρ'=>.ok (.nx,ρ')
 | _=>.bad
theorem qfC (k:PE X e (tE C own m f)) (hg:PG X tg (tGd C own g)) (j:m≠.any:=by decide) (s:swapsWithSole [tg] e pos.line X.env=pure false:=by rfl) (w:swappedStores [tg] e X.env=pure none:=by rfl)
  (h1:(i6 [tg] X.env).map (·.2)=[assign tg X.env]:=by rfl):PS X (.Assign [tg] e pos) (tSt C own own (qji f g)):=by
 refine Qv (qec (yh k j) hg s w h1) λD σ H ⟨F,ρ,p,h⟩=>⟨F,ρ,p,PoS.bindE h λv F1 H1 d ρ1 a l i h1=>?_⟩
 cases q:g d ρ1 with
 | ok ρ'=>simp only [q] at h1;exact ⟨F1,ρ1,d,a,i,ρ',q,λσ' r oa io=>h1 σ' F1 H1 ⟨r,.refl,λb z=>.inl (oa b z),io⟩⟩
 | exc c=>simp only [q] at h1; exact h1.elim
 | bad=>simp only [q] at h1; exact h1.elim
noncomputable def kU (g:D->Sl->Out Sl) (fb:qU):List D->qU
 | [],ρ=>.ok (.nx,ρ)
 | d::ds,ρ=>(g d ρ).plain.bind λρ1=>(fb ρ1).bind λp=>match p.1 with
  | .nx=>kU g fb ds p.2
  | .ct=>kU g fb ds p.2
  | .bk=>.ok (.nx,p.2)
  | .rt v=>.ok (.rt v,p.2)
noncomputable def yL (fi:ww) (g:D->Sl->Out Sl) (fb:qU):qU:=λρ=>(fi ρ).bind λp=>kU g fb p.1 p.2
theorem jO {body:List Stmt} {fi:ww} {fb:qU} (hp:PassesOwn 'c' X.A X.env X.xe) (T:X.calm=iu) (hi:PI X tg iter (tIt C own fi)) (hg:PG X tg (tGd C own g))
  (U:PSs X body (tSt { C with ol:=own } own own fb)) (R:∀ x,k4 iter X.env x=pure x:=by intro _; rfl):PS X (.For tg iter body [] pos) (tSt C own own (yL fi g fb)):=by
 refine Qv (qhg hp T hi hg U R) λD σ H ⟨F,ρ,Q,h⟩=>⟨F,ρ,Q,?_⟩
 unfold yL at h;cases I:fi ρ with
 | exc c=>rw [I] at h; exact h
 | bad=>rw [I] at h; exact h.elim
 | ok p=>
  rw [I] at h;obtain ⟨ds,ρ1⟩:=p;intro J F1 H1 u P it;have h:PoS C own own σ F H (kU g fb ds ρ1) D:=h;refine ⟨λi m σ' H'=>m=ds.length - i/\i<=ds.length/\∃ F' ρ',Nx C own own σ F H ρ' σ' F' H'/\Same F1 F'/\PoS C own own σ' F' H' (kU g fb (ds.drop i) ρ') D,⟨ds.length,by simp,bH _,F1,ρ1,.ofE u P,Same.refl _,h.shift (.ofE u P)⟩,?_⟩;rintro i m σ' H' ⟨rfl,S,F',ρ',nx,gr,po⟩;by_cases t:i < ds.length
  ·have hd:ds.drop i=ds[i]::ds.drop (i+1):=List.drop_eq_getElem_cons t;rw [hd] at po;have po:PoS C own own σ' F' H' ((g ds[i] ρ').plain.bind λρ1=>(fb ρ1).bind λp=>match p.1 with | .nx=>kU g fb (ds.drop (i+1)) p.2 | .ct=>kU g fb (ds.drop (i+1)) p.2 | .bk=>.ok (.nx,p.2) | .rt v=>.ok (.rt v,p.2)) D:=po;refine .inr ⟨it.go i H' t (gr.trans nx.rep.sub),λl H2=>ds.length - (i+1)=ds.length - (i+1)/\i+1<=ds.length/\∃ F' ρ',Nx C own own σ F H ρ' l F' H2/\Same F1 F'/\PoS C own own l F' H2 (kU g fb (ds.drop (i+1)) ρ') D,λl H2 q=>⟨ds.length - (i+1),by omega,q⟩,λx H2 y=>?_⟩;obtain ⟨o,c2,s2,N⟩:=it.yld i F' H' x H2 ds[i] (by simp [t]) gr nx.rep.sub y;cases E:g ds[i] ρ' with
   | exc c=>rw [E] at po; exact po.elim
   | bad=>rw [E] at po; exact po.elim
   | ok ρ2=>
    rw [E] at po;refine ⟨o,ρ',ds[i],nx.rep.grow c2 s2,N,ρ2,E,λj r K O=>⟨o,ρ2,r,?_⟩⟩;have L:Nx C own own σ' F' H' ρ2 j o H2:=⟨r,c2.ofNo,λb z=>.inl (K b z),O⟩
    have a:=PoS.shift (show PoS C own own σ' F' H' ((fb ρ2).bind λp=>match p.1 with | .nx=>kU g fb (ds.drop (i+1)) p.2 | .ct=>kU g fb (ds.drop (i+1)) p.2 | .bk=>.ok (.nx,p.2) | .rt v=>.ok (.rt v,p.2)) D from po) L;have up:∀ {B f M k},Nx { C with ol:=own } own own j o H2 B f M k->Nx C own own j o H2 B f M k:=λz=>⟨z.rep,z.chg,z.oa,z.io⟩
    cases G:fb ρ2 with
    | exc c=>rw [G] at a; exact a
    | bad=>rw [G] at a; exact a.elim
    | ok p=>
     rw [G] at a;obtain ⟨V,B⟩:=p;cases V with
     | nx=>exact λf M k n=>⟨rfl,t,M,B,(nx.then L).then (up n),(gr.trans c2.grow).trans n.chg.grow,PoS.shift (show PoS C own own j o H2 (kU g fb (ds.drop (i+1)) B) D from a) (up n)⟩
     | ct=>exact λf M k n=>⟨rfl,t,M,B,(nx.then L).then (up n),(gr.trans c2.grow).trans n.chg.grow,PoS.shift (show PoS C own own j o H2 (kU g fb (ds.drop (i+1)) B) D from a) (up n)⟩
     | bk=>exact λf M k n=>a f M k (up n)
     | rt d=>exact λv f M k s io c e mo=>a v f M k s io c e mo
  ·have e:i=ds.length:=by omega
   subst e;rw [List.drop_length] at po;exact .inl ⟨it.stop _ H' (aA _) (gr.trans nx.rep.sub),po σ' F' H' (.refl nx.rep)⟩
noncomputable def kC (ft:yi) (fb:qU):Nat->qU
 | 0,_=>.bad
 | n+1,ρ=>(ft ρ).bind λq=>if q.1=iu then (fb q.2).bind λp=>match p.1 with
  | .nx=>kC ft fb n p.2
  | .ct=>kC ft fb n p.2
  | .bk=>.ok (.nx,p.2)
  | .rt v=>.ok (.rt v,p.2)
  else .ok (.nx,q.2)
theorem GX {body:List Stmt} {ft:yi} {fb:qU} (n:Nat) (hp:PassesOwn 'c' X.A X.env X.xe) (ht:PT X t (tT C own ft)) (x:PSs X body (tSt { C with ol:=own } own own fb)):PS X (.While t body [] pos) (tSt C own own (kC ft fb n)):=by
 refine Qv (qcs hp ht x) λD σ H ⟨F,ρ,u,h⟩=>?_;refine ⟨λm σ' H'=>∃ F' ρ',Rep C.K own F' H' σ' ρ'/\PoS C own own σ' F' H' (kC ft fb m ρ') D,⟨n,F,ρ,u,h⟩,?_⟩;rintro m σ1 H1 ⟨F1,ρ1,j,po⟩;refine ⟨F1,ρ1,j,?_⟩;cases m with
 | zero=>exact po.elim
 | succ m=>
  have po:PoS C own own σ1 F1 H1 ((ft ρ1).bind λq=>if q.1=iu then (fb q.2).bind λp=>match p.1 with | .nx=>kC ft fb m p.2 | .ct=>kC ft fb m p.2 | .bk=>.ok (.nx,p.2) | .rt v=>.ok (.rt v,p.2) else .ok (.nx,q.2)) D:=po;refine PoS.bindT po λi H2 k ρ2 r c2 h2=>?_;cases k with
  | false=>exact h2 σ1 i H2 (.refl r)
  | true=>
   refine ⟨λb o=>∃ F' ρ',Rep C.K own F' o b ρ'/\PoS C own own b F' o (kC ft fb m ρ') D,λb o q=>⟨m,by omega,q⟩,i,ρ2,r,?_⟩;have h2:PoS C own own σ1 i H2 ((fb ρ2).bind λp=>match p.1 with | .nx=>kC ft fb m p.2 | .ct=>kC ft fb m p.2 | .bk=>.ok (.nx,p.2) | .rt v=>.ok (.rt v,p.2)) D:=h2;have up:∀ {B f M a},Nx { C with ol:=own } own own σ1 i H2 B f M a->Nx C own own σ1 i H2 B f M a:=λz=>⟨z.rep,z.chg,z.oa,z.io⟩
   cases l:fb ρ2 with
   | exc c=>rw [l] at h2; exact h2
   | bad=>rw [l] at h2; exact h2.elim
   | ok p=>
    rw [l] at h2;obtain ⟨y,B⟩:=p;cases y with
    | nx=>exact λf M a g=>⟨M,B,g.rep,PoS.shift (show PoS C own own σ1 i H2 (kC ft fb m B) D from h2) (up g)⟩
    | ct=>exact λf M a g=>⟨M,B,g.rep,PoS.shift (show PoS C own own σ1 i H2 (kC ft fb m B) D from h2) (up g)⟩
    | bk=>exact λf M a g=>h2 f M a (up g)
    | rt d=>exact λv f M a s io c e mo=>h2 v f M a s io c e mo
end
noncomputable def KY (cells:List (Str×Addr)):List (Str×lc)->List (Str×Addr)->List (Str×Addr)
 | [],acc=>acc
 | (n,k)::r,acc=>if (k == .free)=iu then KY cells r ((n,(cells.lookup n).getD 0)::acc) else KY cells r acc
variable {env:Env}
theorem uo:∀ (names:List (Str×lc)) (acc:List (Str×Addr)),(∀ x∈names,x.2=.free->∃ c,env.cells.lookup x.1=ij c) ->(forIn names acc λ(x:Str×lc) (cs:List (Str×Addr))=>if (x.2 == bG)=iu then (do let a <-cellOf env x.1; pure (cB ((x.1,a)::cs))) else pure (cB cs):Sem (List (Str×Addr)))=pure (KY env.cells names acc)
 | [],acc,_=>rfl
 | (n,k)::r,acc,h=>by
  rw [fU];by_cases q:(k == bG)=iu
  ·obtain ⟨c,d⟩:=h (n,k) ap (by simpa using q);have e:cellOf env n=pure c:=by unfold cellOf; rw [d]
   simp only [q,if_true,e];have j:=uo r ((n,c)::acc) (λx hx=>h x (ae _ hx));simp only [KY,q,if_true,d,Option.getD_some];exact j
  ·simp only [q,if_false,KY];exact uo r acc (λx hx=>h x (ae _ hx))
variable {scope:lz}
theorem QQ (h:∀ x∈scope.names,x.2=.free->∃ c,env.cells.lookup x.1=ij c):closureFor scope env=pure (KY env.cells scope.names []):=by have:=uo scope.names [] h;unfold closureFor;simp only [bind_pure];exact this
variable {cells:List (Str×Addr)}
theorem yx:∀ {names:List (Str×lc)} {acc:List (Str×Addr)} {x:Str} {c:Addr},(∀ y∈names,y.2=.free->∃ c,cells.lookup y.1=ij c)->(KY cells names acc).lookup x=ij c->cells.lookup x=ij c\/acc.lookup x=ij c
 | [],acc,x,c,_,h=>.inr h
 | (n,k)::r,acc,x,c,hf,h=>by
  unfold KY at h;by_cases q:(k == bG)=iu
  ·rw [Aa q] at h;obtain ⟨U,d⟩:=hf (n,k) ap (by simpa using q);rcases yx (λy D=>hf y (ae _ D)) h with z | z;·exact .inl z
   ·rw [eI] at z;have d:cells.lookup n=ij U:=d;by_cases e:(x == n)=iu
    ·rw [e] at z;simp only [d,Option.getD_some] at z;have:x=n:=by simpa using e
     subst this;rw [d]; exact .inl z
    ·have e:(x == n)=false:=by simpa using e
     rw [e] at z;exact .inr z
  ·rw [Ab q] at h;exact yx (λy D=>hf y (ae _ D)) h
theorem JB:∀ {names:List (Str×lc)} {acc:List (Str×Addr)} {x:Str},(∃ c,acc.lookup x=ij c)->∃ c,(KY cells names acc).lookup x=ij c
 | [],_,_,h=>h
 | (n,k)::r,acc,x,h=>by
  unfold KY;by_cases q:(k == bG)=iu
  ·rw [Aa q];refine JB ?_;obtain ⟨c,d⟩:=h;rw [eI];by_cases e:(x == n)=iu;·rw [e]; exact ⟨_,rfl⟩
   ·have e:(x == n)=false:=by simpa using e
    rw [e]; exact ⟨c,d⟩
  ·rw [Ab q]; exact JB h
theorem zF:∀ {names:List (Str×lc)} {acc:List (Str×Addr)} {x:Str},(x,bG)∈names->∃ c,(KY cells names acc).lookup x=ij c
 | (n,k)::r,acc,x,h=>by
  unfold KY;rcases ac.mp h with e | h
  ·cases e;rw [Aa (by rfl)];refine JB ?_;rw [eI,beq_self_eq_true];exact ⟨_,rfl⟩
  ·by_cases q:(k == bG)=iu;·rw [Aa q]; exact zF h
   ·rw [Ab q]; exact zF h
noncomputable def jA (X:Cx) (scope:lz) (N:List Str) (fp:List Addr) (L:Addr) (s:iw) (H:Hp):Cx:=
 { X with N:=N,s₀:=s,H₀:=H,env:=compEnvC scope (KY X.env.cells scope.names []) L X.env,outer:=X.stack,stack:=X.stack,ex:=fp,fn:=λ_=>ir,pn:=[],xe:=λ_ _=>False }
structure ScOk (X:Cx) (scope:lz):Prop where
 kind:scope.kind=.function
 nocell:∀ y∈scope.names,y.2≠.cell
 names:∀ y∈scope.names,y.2=.local->scope.names.lookup y.1=ij .local
 free:∀ y∈scope.names,y.2=.free->X.env.kindOf y.1=ij .cell\/X.env.kindOf y.1=ij .free
 frl:∀ y∈scope.names,y.2=.free->scope.names.lookup y.1=ij .free
theorem uY {a:α}:∀ {l:List (Str×α)},l.lookup x=ij a->(x,a)∈l
 | [],h=>by simp at h
 | (n,k)::r,h=>by
  rw [eI] at h;by_cases e:(x == n)=iu
  ·rw [e] at h;have h:ij k=ij a:=h;cases h;have:x=n:=by simpa using e
   subst this;exact ap
  ·have e:(x == n)=false:=by simpa using e
   rw [e] at h;exact ae _ (uY h)
theorem zb {k:lc} (h:(relabel scope env).names.lookup x=ij k) (a:k=.cell\/k=.free) (hn:∀ y∈scope.names,y.2≠.cell):(x,bG)∈scope.names:=by
 have m:=uY h;obtain ⟨⟨n,k'⟩,c,e⟩:=ah.mp m;dsimp only at e;by_cases q:(k' == bG&&env.scope.kind == .function&&env.kindOf n == ij .cell)=iu
 ·rw [Aa q] at e;cases e;have:k'=.free:=by rw [aS,aS] at q;simpa using q.1.1
  subst this;exact c
 ·rw [Ab q] at e;cases e;rcases a with rfl | rfl;·exact absurd rfl (hn _ c)
  ·exact c
theorem Vp (h:Vis (relabel scope env) x):∃ k,(x,k)∈scope.names:=by
 have go:∀ {k:lc},(relabel scope env).names.lookup x=ij k->∃ k,(x,k)∈scope.names:=λ{k} h=>by
  obtain ⟨⟨n,k'⟩,c,e⟩:=ah.mp (uY h);dsimp only at e;by_cases q:(k' == bG&&env.scope.kind == .function&&env.kindOf n == ij .cell)=iu;·rw [Aa q] at e;cases e;exact ⟨_,c⟩
  ·rw [Ab q] at e;cases e;exact ⟨_,c⟩
 rcases h with h | h | h <;> exact go h
variable {pins:Pns} {σc:St} {s s':iw} {fp:List Addr} {h':Heap}
section
theorem ge (I:Inv X pins σ H s) (S:ScOk X scope):∀ y∈scope.names,y.2=.free->∃ c,X.env.cells.lookup y.1=ij c:=λy D e=>I.ok.has y.1 (S.free y D e)
theorem qcS (I:Inv X pins σ H s) (S:ScOk X scope) (K:∀ b∈fp,WL X pins H b) (U:∀ b∈fp,b < s.heap.objs.size) (D:h'.Ns s.heap.objs.size (λ_=>im))
  (A:∀ b o,s.heap.get? b=ij o->h'.get? b=ij o) (hl:σc.length=N.length)
  (C:∀ (j:Nat) (x:Str) (v:V),N[j]?=ij x->σc[j]?=ij (ij v)->(∃ k,(x,k)∈scope.names)->∃ i:Nat,X.N[i]?=ij x/\σ[i]?=ij (ij v)/\Vis X.env.scope x/\(x,bG)∈scope.names) {t:Nat} :
  Inv (jA X scope N fp s.heap.objs.size s H) [] σc H { s with heap:=h',toks:=t }:=by
 have J:=ge I S;have cl:∀ x c,(KY X.env.cells scope.names []).lookup x=ij c->X.env.cells.lookup x=ij c:=λx c e=>(yx J e).resolve_right 'g';have B:∀ b∈fp,b∉frs X.stack:=λb g z=>by
  obtain ⟨f0,f1,f2,_⟩:=K b g;rcases ac.mp (I.stkSub b z) with e | e;·exact f1 e
  ·exact f2 e
 refine ⟨⟨I.ok.mod,?_,I.ok.glob,I.ok.blt,aA _,λx y c h1 h2=>I.ok.inj x y c (cl x c h1) (cl y c h2),λx hx=>?_,λx c h=>absurd h (by show ¬(ir=iu); exact bj),I.ok.hd,I.ok.frames,.inl rfl,λb g=>⟨aC (U b g),λx c e z=>?_⟩,I.bs,bY I.ok.bsz I.sz,λb o e g=>?_,B,I.stack,I.stkFree⟩,rfl,I.bare,Un.kept A,⟨_,D,λj x v e1 l R=>?_⟩,λx c e=>?_,I.hok.fresh (aA _),λx c e=>I.freeC x c (cl x c e),λp hp=>absurd (show p∈([]:Pns) from hp) 'g',I.hok.kept A,hl⟩;·exact S.kind
 ·refine zF ?_;rcases hx with hx | hx;·exact zb hx (.inl rfl) S.nocell
  ·exact zb hx (.inr rfl) S.nocell
 ·exact (K b g).2.2.2.2.1 x c (cl x c e) z
 ·rcases (K b g).2.2.2.1 with z | z;·exact I.ok.noex b o e z
  ·have E:=aw e;exact absurd (aF E (bY I.ok.bsz z)) (cH _)
 ·obtain ⟨i,g1,Z,Y,M⟩:=C j x v e1 l (Vp R);obtain ⟨m,hn,G⟩:=I.loc;obtain ⟨u,r,w⟩:=G i x v g1 Z Y;refine ⟨u,r,?_⟩;obtain ⟨O,f⟩:=zF (cells:=X.env.cells) (acc:=[]) M;have L:=cl x O f;have kd:(jA X scope N fp s.heap.objs.size s H).env.kindOf x=ij .cell\/(jA X scope N fp s.heap.objs.size s H).env.kindOf x=ij .free\/(jA X scope N fp s.heap.objs.size s H).env.kindOf x=ij .local:=by
   rcases R with z | z | z;·exact .inr (.inr z)
   ·exact .inl z
   ·exact .inr (.inl z)
  rcases w with ⟨k,_⟩ | ⟨k,c,Q,z⟩
  ·rcases S.free _ M rfl with q | q;·have q:X.env.kindOf x=ij .cell:=q;rw [k] at q; cases q
   ·have q:X.env.kindOf x=ij .free:=q;rw [k] at q; cases q
  ·rw [L] at Q;cases Q;obtain ⟨oc,d,a⟩:=z;rcases kd with q | q | q;·exact .inr ⟨.inl q,O,f,⟨oc,A _ _ d,a⟩⟩
   ·exact .inr ⟨.inr q,O,f,⟨oc,A _ _ d,a⟩⟩
   ·refine absurd q ?_;intro q;have T:=uY (show (relabel scope X.env).names.lookup x=ij .local from q);obtain ⟨⟨n,k'⟩,W,e⟩:=ah.mp T;dsimp only at e;by_cases P:(k' == bG&&X.env.scope.kind == .function&&X.env.kindOf n == ij .cell)=iu;·rw [Aa P] at e; cases e
    ·rw [Ab P] at e;cases e;have e1:=S.names _ W rfl;have l:=S.frl _ M rfl;have e1:scope.names.lookup x=ij .local:=e1;have l:scope.names.lookup x=ij .free:=l;rw [e1] at l;cases l
 ·obtain ⟨v,oc,d,a⟩:=I.cell x c (cl x c e);exact ⟨v,oc,A _ _ d,a⟩
theorem qcT {H1:Hp} {s1:iw} {L:Addr} (I:Inv X pins σ H s) (h:∀ b∈fp,WL X pins H b) (J:Inv (jA X scope N fp s.heap.objs.size s H) [] σc H' s') (A:bI s.heap.objs.size s'.heap h'):Inv X pins σ H' { s' with heap:=h' }:=by
 have a:H' s.heap.objs.size=none:=J.free;have ne:∀ b o,s.heap.get? b=ij o->b≠s.heap.objs.size:=λb o e=>aC (aw e);have U:Un (frs X.stack) fp H H' s.heap s'.heap:=J.base;refine I.call' (s':={ s' with heap:=h' }) (ch:=fp) J.os ⟨λb o e n h1 h2=>(A.2 b (ne b o e)).trans (U.keep b o e n h1 h2),λb o e n h1 h2=>?_,U.free,λb o e h2=>?_,U.tups,U.frzs,U.tbls⟩ (λb u e=>?_) J.bare λb f=>?_;·obtain ⟨sl,q⟩:=U.slot b o e n h1 h2;exact ⟨sl,(A.2 b (ne b o e)).trans q⟩
 ·obtain ⟨o',q⟩:=U.there b o e h2;exact ⟨o',(A.2 b (ne b o e)).trans q⟩
 ·refine (J.hok b u e).stay (λc w d q=>(A.2 c ?_).trans q) (λ_ q=>q) λ_ _ q=>q;rintro rfl;rcases d with z | z;·rw [<-z,a] at e; cases e
  ·rw [a] at z; cases z
 ·obtain ⟨f0,f1,f2,t,f4,g⟩:=h b f;exact ⟨t,f1,f4,g⟩
end
theorem JC {prog:iF} {w:iG} {A:iJ} {R:mG->iw->Prop} {s:iw} {elt target iter:Expr} {ifs:List Expr} {scope:lz} {pos:Pos} {it acc:iq} {env:Env} (I:Nat->iw->Prop)
  (l:∀ n s,I n s->iB 'e' A (la it) (λr d=>match r with
   | none=>R (.ok .next) d
   | some v=>iB 'e' A (lO target it v) (λ_ e=>iB 'e' A (assign target env v) (λ_ i=>
     iB 'e' A (forIn ifs iu λc r=>if r=iu then do let ok <-isTrue c env (eval c env); pure (cB ok) else pure (cB r)) (λok b=>
      if ok=iu then iB 'e' A (eval elt env) (λx g=>
       iB 'e' A (call (.builtin "list.append") [acc,x]) (λ_ f=>∃ m,m < n/\I m f) (λ_ _=>False) g) (λ_ _=>False) b
      else ∃ m,m < n/\I m b) (λ_ _=>False) i) (λ_ _=>False) e) (λ_ _=>False) d) (λ_ _=>False) s)
  (n:Nat) (h:I n s):lg 'e' A (.compLoop (.ListComp elt [⟨target,iter,ifs,0⟩] scope pos) 0 it acc env) R s:=by
 have no:∀ {α:Type} {t:Sem α} {Q y:α->iw->Prop} {E:iq->iw->Prop} {s:iw},iB 'e' A t Q (λ_ _=>False) s->(∀ a s,Q a s->y a s)->iB 'e' A t y E s:=λh k=>j3 h k λ_ _ z=>z.elim;refine codeAny_loop rfl I (λn s B=>?_) n h;show iB _ A ((compTurn (.ListComp elt [⟨target,iter,ifs,0⟩] scope pos) 0 it acc env).onRaise (λx=>do noteFrame x env; theTreesLotGoes x)) _ _ s;refine wpAny_noted ?_;rw [compTurn_list];refine ip (wpAny_standAt (ip (no (l n s B) λr d h₁=>?_)));cases r with
 | none=>exact iy h₁
 | some v=>
  refine ip (no h₁ λ_ e o=>ip (no o λ_ i u=>ip (no u λok b j=>?_)));cases ok with
  | false=>exact iy ⟨rfl,j⟩
  | true=>exact ip (ip (no j λx g q=>ip (no q λ_ f p=>iy (iy ⟨rfl,p⟩))))
structure PTs (Y:Cx) (ifs:List Expr) (t:TT):Prop where
 run:∀ (pins:Pns) (s:iw) (σ:St) (H:Hp) (Q:Bool->Hp->Prop),Inv Y pins σ H s->t σ H Q ->iB (model Y.prog Y.w) Y.A (forIn ifs iu λc r=>if r=iu then do let ok <-isTrue c Y.env (eval c Y.env); pure (cB ok) else pure (cB r)) (TP Y pins σ Q) Y.xe s
instance {Y:Cx} {ifs:List Expr} {t:TT}:CoeFun (PTs Y ifs t) (λ_=>∀ (pins:Pns) (s:iw) (σ:St) (H:Hp) (Q:Bool->Hp->Prop),Inv Y pins σ H s->t σ H Q ->iB (model Y.prog Y.w) Y.A (forIn ifs iu λc r=>if r=iu then do let ok <-isTrue c Y.env (eval c Y.env); pure (cB ok) else pure (cB r)) (TP Y pins σ Q) Y.xe s):=⟨λh=>h.run⟩
variable {Y:Cx}
theorem qfD:PTs Y [] (λ_ H Q=>Q iu H):=⟨λ_ _ _ H _ I h=>wpAny_tests_nil ⟨H,I,h⟩⟩
theorem GY {t:TT} (h:PT Y c t):PTs Y [c] t:=⟨λpins s σ H Q I q=>wpAny_tests_one (h pins s σ H Q I q)⟩
variable {ifs:List Expr} {te:TE} {E:iq->iw->Prop}
section
variable {it:Addr} {tn:Nat->Heap->Prop} {J:It} {elt:Expr} {g:TG} {tt:TT}
theorem qcU (I:Inv X pins σ H s) (P:X.calm=iu) (S:ScOk X scope) (T:Turn X.prog X.w X.K tg J fp it tn) (st0:tn 0 s.heap) (hf:∀ b∈fp,WL X pins H b)
  (hg:∀ fp L s' H',PG (jA X scope N fp L s' H') tg g) (ht:∀ fp L s' H',PTs (jA X scope N fp L s' H') ifs tt) (he:∀ fp L s' H',PE (jA X scope N fp L s' H') elt te) (hl:σc.length=N.length)
  (hσ:∀ (j:Nat) (x:Str) (v:V),N[j]?=ij x->σc[j]?=ij (ij v)->(∃ k,(x,k)∈scope.names)->∃ i:Nat,X.N[i]?=ij x/\σ[i]?=ij (ij v)/\Vis X.env.scope x/\(x,bG)∈scope.names)
  (W:Addr->Nat->Nat->St->Hp->Prop) (Fin:Addr->Hp->Prop) (w0:∀ p,H p=im->∃ m,W p 0 m σc (upd H p (.lst [])))
  (F:∀ p i m σ1 H1,W p i m σ1 H1->(J.stop i H1/\Fin p H1)\/(J.go i H1/\∀ x H2,J.yld i H1 x H2->g x σ1 H2 λC H3=>tt C H3 λb H4=>if b=iu then te C H4 λy H5=>∃ xs,H5 p=ij (.lst xs)/\xs.length < sizeLine/\∃ f,f < m/\W p (i+1) f C (upd H5 p (.lst (xs++[y]))) else ∃ f,f < m/\W p (i+1) f C H4))
  (RR:iq->Addr->mG->iw->Prop)
  (hRR:∀ p L H' s',Fin p H'->(∃ m,s'.heap.Ns L m)->WL X pins H' L->(∀ h',bI L s'.heap h'->Inv X pins σ H' { s' with heap:=h' })->RR (.ref p) L (.ok .next) s') :
  iB 'c' X.A (newList []) (λacc s₃=>iB 'c' X.A (newFunctionEnv scope X.env.globals (KY X.env.cells scope.names []) [] X.env.qual im .none (ij X.env)) (λG s₄=>
   lg 'c' X.A (.compStart (.ListComp elt [⟨tg,iter,ifs,0⟩] scope pos) 0 (.ref it) acc { G with scope:=relabel scope X.env }) (RR acc G.locals) s₄) E s₃) E s:=by
 have hfo:∀ b∈fp,b < s.heap.objs.size:=λb h=>let ⟨o,e,_⟩:=T.obj 0 _ st0 b h; aw e;have D:=I.fresh;have I3:Inv X pins σ (upd H s.heap.objs.size (.lst [])) { s with heap:=s.heap.push { cls:=.type "list",data:=.seq ([]:List iq).toArray } }:=I.lnew (t':=s.toks) (ys:=[]) (its:=[]) .nil (bH _);have O:∀ b∈fp,WL X pins (upd H s.heap.objs.size (.lst [])) b:=λb h=>⟨by rw [qB (aC (hfo b h))]; exact (hf b h).1,(hf b h).2⟩
 have st3:tn 0 (s.heap.push { cls:=.type "list",data:=.seq ([]:List iq).toArray }):=T.keep 0 _ _ st0 λb h o e=>aa _ e;refine iH (wpAny_newFunctionEnv S.nocell (λy hy=>by simp at hy) (λh₁ c a=>?_) S.kind);dsimp only at c a ⊢;generalize hs3:({ s with heap:=s.heap.push { cls:=.type "list",data:=.seq ([]:List iq).toArray } }:iw)=s3 at I3;have e3:s3.heap=s.heap.push { cls:=.type "list",data:=.seq ([]:List iq).toArray }:=by rw [<-hs3]
 rw [<-e3] at c a st3 ⊢;have keep:∀ b o,s3.heap.get? b=ij o->h₁.get? b=ij o:=λb o e=>(a.2 b (aC (aw e))).trans (aa _ e);have ho3:∀ b∈fp,b < s3.heap.objs.size:=λb h=>by rw [e3,bL]; exact dA (hfo b h)
 have J1:Inv (jA X scope N fp s3.heap.objs.size s3 (upd H s.heap.objs.size (.lst []))) [] σc (upd H s.heap.objs.size (.lst [])) { s3 with heap:=h₁,toks:=s.toks+0 }:=
  qcS I3 S O ho3 (by simpa using c) keep hl hσ
 have st4:tn 0 h₁:=T.keep 0 _ _ st3 λb h o e=>keep b o e;have loop:∀ s4:iw,s4={ s3 with heap:=h₁,toks:=s.toks+0 }->lg 'c' X.A (.compLoop (.ListComp elt [⟨tg,iter,ifs,0⟩] scope pos) 0 (.ref it) 'm' (compEnvC scope (KY X.env.cells scope.names []) s3.heap.objs.size X.env)) (RR 'm' s3.heap.objs.size) s4:=by
  rintro s4 rfl;generalize B:jA X scope N fp s3.heap.objs.size s3 (upd H s.heap.objs.size (.lst []))=Y at J1;have eP:Y.prog=X.prog:=by rw [<-B]; rfl
  have ew:Y.w=X.w:=by rw [<-B]; rfl
  have eA:Y.A=X.A:=by rw [<-B]; rfl
  have ee:Y.env=compEnvC scope (KY X.env.cells scope.names []) s3.heap.objs.size X.env:=by rw [<-B]; rfl
  have eK:Y.K=X.K:=by rw [<-B]; rfl
  have ec:Y.calm=true:=by rw [<-B]; exact P
  have ex:Y.xe=λ_ _=>False:=by rw [<-B]; rfl
  have hgY:PG Y tg g:=by rw [<-B]; exact hg fp _ _ _
  have htY:PTs Y ifs tt:=by rw [<-B]; exact ht fp _ _ _
  have heY:PE Y elt te:=by rw [<-B]; exact he fp _ _ _
  have t:∀ {H1:Hp},(∀ b∈fp,H1 b=im)->∀ b∈fp,WL Y [] H1 b:=λhn b h=>by have q:=J1.ok.exf b (by rw [<-B]; exact h);refine ⟨hn b h,q.1,J1.ok.exfs b (by rw [<-B]; exact h),.inl (by rw [<-B]; exact h),q.2,λp hp=>?_⟩;rw [<-B] at hp;exact absurd (show p∈([]:Pns) from hp) 'g'
  obtain ⟨m0,hm0⟩:=w0 s.heap.objs.size D;refine JC (λn s'=>∃ i σ1 H1,Inv Y [] σ1 H1 s'/\tn i s'.heap/\(∀ b∈fp,H1 b=im)/\W s.heap.objs.size i n σ1 H1) ?_ m0 ⟨0,σc,_,J1,st4,λb h=>(O b h).1,hm0⟩;rintro n s5 ⟨i,σ1,H1,J5,st5,fr5,w5⟩;rw [<-eP,<-ew,<-eA,<-ee];have TY:Turn Y.prog Y.w Y.K tg J fp it tn:=by rw [eP,ew,eK]; exact T
  rcases F _ i n σ1 H1 w5 with ⟨stop,fin⟩ | ⟨go,step⟩
  ·refine thn (TY.done Y rfl rfl rfl ec i [] s5 σ1 H1 _ J5 (t fr5) st5 stop) λr s6 ⟨hr,J6⟩=>?_;subst hr;have Q:Inv (jA X scope N fp s3.heap.objs.size s3 (upd H s.heap.objs.size (.lst []))) [] σ1 H1 s6:=by rw [B]; exact J6
   exact hRR _ _ H1 s6 fin (let ⟨m,hn,_⟩:=Q.loc; ⟨m,hn⟩) (I3.fpOk (aA _) Q.free) λh' sb=>qcT (s1:=s6) (H1:=H1) (L:=0) I3 O Q sb
  ·refine thn (TY.item Y rfl rfl rfl ec i [] s5 σ1 H1 _ J5 (t fr5) st5 go) λr s6 ⟨u,hr,h6⟩=>?_;subst hr;refine thn h6 λ_ s7 ⟨x,H7,J7,r7,y7,M,fr7⟩=>?_;have J7':=J7.pinned (t fr7) (TY.obj _ _ M);have back:∀ {l:St} {Z:Hp} {R:iw},Inv Y ([]++Vf fp s7.heap) l Z R->(∃ f,f < n/\W s.heap.objs.size (i+1) f l Z)->∃ m,m < n/\∃ i σ1 H1,Inv Y [] σ1 H1 R/\tn i R.heap/\(∀ b∈fp,H1 b=im)/\W s.heap.objs.size i m σ1 H1:=λ{l Z R} U ⟨f,hm,w9⟩=>by refine ⟨f,hm,i+1,l,Z,U.unpinned,TY.keep _ _ _ M λb h o e=>(U.pin (b,o) (aR _ (aR _ (uV h e)))).1,λb h=>?_,w9⟩;obtain ⟨o,e,d⟩:=TY.obj _ _ M b h;exact (U.pin (b,o) (aR _ (aR _ (uV h e)))).2.1
   rw [<-ex];refine thn (hgY _ s7 σ1 H7 x u _ J7' r7 (step x H7 y7)) λ_ s8 ⟨z,H8,J8,q8⟩=>?_;refine thn (htY _ s8 z H8 _ J8 q8) λok R ⟨Z,U,q9⟩=>?_;cases ok with
   | false=>exact back U q9
   | true=>refine thn (heY _ R z Z _ U q9) λv s10 ⟨y,H10,J10,r10,xs,hx,hlen,q10⟩=>?_;exact thn (Vj _ s10 z H10 'm' [y] 'm' [v] (λ_ H11=>∃ f,f < n/\W s.heap.objs.size (i+1) f z H11) J10 rfl (.cons r10 .nil) ⟨_,xs,y,rfl,rfl,hx,hlen,q10⟩) λ_ s11 ⟨_,H11,J11,_,q11⟩=>back J11 q11
 have e4:({ heap:=h₁,gens:=s.gens,drawn:=s.drawn,toks:=s.toks+([]:List (Str×iq)).length,os:=s.os }:iw)={ s3 with heap:=h₁,toks:=s.toks+0 }:=by rw [<-hs3]; rfl
 exact codeAny_compStart_list (loop _ e4) (T.self _ 0 _ _ _ st4 (loop _ e4))
end
noncomputable def vA (nt:Nat) (cap:List Nat) (ρ:List (Option α)):List (Option α):=aJ nt im++cap.map λk=>(ρ[k]?).getD im
noncomputable def uf (own:List Nat):Nat->List Nat->List Nat
 | _,[]=>[]
 | n,k::cap=>if k∈own then n::uf own (n+1) cap else uf own (n+1) cap
noncomputable def ioC (nt len:Nat):List Nat:=(aO len).map (nt + ·)
noncomputable def ke (own:List Nat) (ρc:Sl):Nat->List Nat->Sl->Sl
 | _,[],ρ=>ρ
 | n,k::cap,ρ=>if k∈own then ke own ρc (n+1) cap (ρ.set k ((ρc[n]?).getD im)) else ke own ρc (n+1) cap ρ
variable {nt:Nat} {cap:List Nat}
theorem vB {ρ:List (Option α)} {d:α}:(vA nt cap ρ)[i]?=ij (ij d)↔∃ j k,i=nt+j/\cap[j]?=ij k/\ρ[k]?=ij (ij d):=by
 unfold vA;constructor
 ·intro h;by_cases hi:i < nt;·rw [cM (by simpa using hi),bw] at h;split at h <;> cases h
  ·rw [bZ (by simpa using hi),dm,aH] at h;cases q:cap[i - nt]? with
   | none=>rw [q] at h; cases h
   | some k=>
    rw [q] at h;have h:(ρ[k]?).getD im=ij d:=aI.inj h;refine ⟨i - nt,k,by lia,q,?_⟩;cases a:ρ[k]? with
    | none=>rw [a] at h; cases h
    | some o=>rw [a] at h; exact congrArg ij h
 ·rintro ⟨j,k,rfl,h1,h2⟩;rw [bZ 'g',dm,aH,show nt+j - nt=j by lia,h1];simp [h2]
theorem kn {own:List Nat}:∀ {n:Nat} {cap:List Nat} {i:Nat},i∈uf own n cap↔∃ j k,i=n+j/\cap[j]?=ij k/\k∈own
 | n,[],i=>by simp [uf]
 | n,k::cap,i=>by
  have a:=@kn own (n+1) cap i;unfold uf;by_cases h:k∈own
  ·rw [Aa h,ac,a];constructor
   ·rintro (rfl | ⟨j,k',e,h1,h2⟩);·exact ⟨0,k,rfl,rfl,h⟩
    ·exact ⟨j+1,k',by lia,by simpa using h1,h2⟩
   ·rintro ⟨j,k',e,h1,h2⟩;cases j with
    | zero=>exact .inl 'b'
    | succ j=>exact .inr ⟨j,k',by lia,by simpa using h1,h2⟩
  ·rw [Ab h,a];constructor;·rintro ⟨j,k',e,h1,h2⟩;exact ⟨j+1,k',by lia,by simpa using h1,h2⟩
   ·rintro ⟨j,k',e,h1,h2⟩;cases j with
    | zero=>simp at h1; subst h1; exact absurd h2 h
    | succ j=>exact ⟨j,k',by lia,by simpa using h1,h2⟩
theorem JD {len:Nat}:i∈ioC nt len↔∃ j,j < len/\i=nt+j:=by
 unfold ioC;rw [ah];constructor;·rintro ⟨j,h1,h2⟩; exact ⟨j,bv.mp h1,h2.symm⟩
 ·rintro ⟨j,h1,h2⟩; exact ⟨j,bv.mpr h1,h2.symm⟩
variable {ρc:Sl}
theorem xG:∀ {n:Nat} {cap:List Nat} {ρ:Sl},(ke own ρc n cap ρ).length=ρ.length
 | _,[],_=>rfl
 | n,k::cap,ρ=>by
  unfold ke;by_cases h:k∈own;·rw [Aa h,xG,dg]
  ·rw [Ab h,xG]
theorem vm:∀ {n:Nat} {cap:List Nat} {ρ:Sl} {i:Nat},¬(i∈cap/\i∈own)->(ke own ρc n cap ρ)[i]?=ρ[i]?
 | _,[],_,_,_=>rfl
 | n,k::cap,ρ,i,h=>by
  unfold ke;have h':¬(i∈cap/\i∈own):=λz=>h ⟨ae _ z.1,z.2⟩;by_cases a:k∈own;·rw [Aa a,vm h',ax (λe=>h ⟨ac.mpr (.inl e.symm),by rw [<-e]; exact a⟩)]
  ·rw [Ab a,vm h']
theorem yV:∀ {n:Nat} {cap:List Nat} {ρ:Sl} {j k:Nat} {d:D},cap.Nodup->cap[j]?=ij k->k∈own->k < ρ.length->ρc[n+j]?=ij (ij d)->(ke own ρc n cap ρ)[k]?=ij (ij d)
 | _,[],_,_,_,_,_,h,_,_,_=>by simp at h
 | n,k0::cap,ρ,0,k,d,nd,h,hk,hl,e=>by simp at h; subst h;obtain ⟨n1,n2⟩:=aK.mp nd;unfold ke;rw [Aa hk,vm (λz=>n1 z.1),aG hl];have e:ρc[n]?=ij (ij d):=e;rw [e]; rfl
 | n,k0::cap,ρ,j+1,k,d,nd,h,hk,hl,e=>by
  obtain ⟨n1,n2⟩:=aK.mp nd;have h:cap[j]?=ij k:=by simpa using h
  have e:ρc[n+1+j]?=ij (ij d):=by rw [show n+1+j=n+(j+1) by lia]; exact e
  unfold ke;by_cases a:k0∈own;·rw [Aa a]; exact yV n2 h hk (by rw [dg]; exact hl) e
  ·rw [Ab a]; exact yV n2 h hk hl e
section
theorem Uh {ρ:List (Option α)}:(vA nt cap ρ).length=nt+cap.length:=by simp [vA]
theorem GZ {l:List Nat} (h:l.Nodup) {j k:Nat} (a:l[i]?=ij k) (b:l[j]?=ij k):i=j:=by obtain ⟨h1,e1⟩:=aB.mp a;obtain ⟨h2,e⟩:=aB.mp b;exact (fM h).mp (e1.trans e.symm)
theorem qfE (r:Rep K own F H σ ρ) (nd:cap.Nodup):Rep K (uf own nt cap) F H (vA nt cap σ) (vA nt cap ρ) where
 sub:=r.sub
 len:=by rw [Uh,Uh]
 val:=λi d hi e=>by obtain ⟨j,k,rfl,h1,h2⟩:=vB.mp e;obtain ⟨v,g1,Z⟩:=r.val k d (λz=>hi (kn.mpr ⟨j,k,rfl,h1,z⟩)) h2;exact ⟨v,vB.mpr ⟨j,k,rfl,h1,g1⟩,Z⟩
 ow:=λi d hi e=>by
  obtain ⟨j,k,rfl,h1,h2⟩:=vB.mp e;obtain ⟨f,k',m,c,h⟩:=kn.mp hi;have:j=f:=by lia
  subst this;rw [h1] at c; cases c;obtain ⟨a,g1,Z⟩:=r.ow k d h h2;exact ⟨a,vB.mpr ⟨j,k,rfl,h1,g1⟩,Z⟩
 opn:=λi hi=>by obtain ⟨j,k,rfl,h1,h2⟩:=kn.mp hi;obtain ⟨d,e⟩:=r.opn k h2;exact ⟨d,vB.mpr ⟨j,k,rfl,h1,e⟩⟩
 dis:=λi u a hi g e m=>by
  obtain ⟨j,k,rfl,h1,h2⟩:=kn.mp hi;obtain ⟨f,k',rfl,c,h⟩:=kn.mp g;obtain ⟨x,y,t,l,o⟩:=vB.mp e;obtain ⟨n,s,p,q,b⟩:=vB.mp m;have:x=j:=by lia
  subst this;have:n=f:=by lia
  subst this;rw [h1] at l; cases l;rw [c] at q; cases q;have e:=r.dis k k' a h2 h o b;subst e;rw [GZ nd h1 c]
theorem qaa (o:∀ i∈ioC nt cap.length,σ1[i]?=(vA nt cap σ)[i]?) (h:OA (uf own nt cap) σ1 b):OA own σ b:=by
 obtain ⟨i,hi,e⟩:=h;obtain ⟨j,k,rfl,h1,h2⟩:=kn.mp hi;rw [o _ (JD.mpr ⟨j,(aB.mp h1).1,rfl⟩)] at e;obtain ⟨x,y,a,d,q⟩:=vB.mp e;have:x=j:=by lia
 subst this;rw [h1] at d; cases d;exact ⟨k,h2,q⟩
theorem qab (p:Rep K own F H σ ρ) (nd:cap.Nodup) (r:Rep K (uf own nt cap) F' H' σ1 ρ1) (f:∀ i∈ioC nt cap.length,σ1[i]?=(vA nt cap σ)[i]?) (c:Chg (OA (uf own nt cap) σ1) F H F' H'):Rep K own F' H' σ (ke own ρ1 nt cap ρ) where
 sub:=r.sub
 len:=by rw [xG]; exact p.len
 val:=λi d hi e=>by rw [vm (λz=>hi z.2)] at e;obtain ⟨v,h1,h2⟩:=p.val i d hi e;exact ⟨v,h1,h2.mono c.grow⟩
 ow:=λi d hi e=>by
  by_cases q:i∈cap
  ·obtain ⟨j,G⟩:=eZ q;have m:nt+j∈uf own nt cap:=kn.mpr ⟨j,i,rfl,G,hi⟩;obtain ⟨d',h⟩:=r.opn _ m;obtain ⟨w,hd0⟩:=p.opn i hi;rw [yV nd G hi (aB.mp hd0).1 h] at e;cases e;obtain ⟨a,h1,h2⟩:=r.ow _ _ m h;rw [f _ (JD.mpr ⟨j,(aB.mp G).1,rfl⟩)] at h1;obtain ⟨x,y,t,b,g⟩:=vB.mp h1;have:x=j:=by lia
   subst this;rw [G] at b; cases b;exact ⟨a,g,h2⟩
  ·rw [vm (λz=>q z.1)] at e;obtain ⟨a,h1,h2,n⟩:=p.ow i d hi e;have na:¬OA (uf own nt cap) σ1 a:=λz=>by
    obtain ⟨A,l,s⟩:=z;obtain ⟨j,k,rfl,g1,Z⟩:=kn.mp l;rw [f _ (JD.mpr ⟨j,(aB.mp g1).1,rfl⟩)] at s;obtain ⟨x,y,t,b,g⟩:=vB.mp s;have:x=j:=by lia
    subst this;rw [g1] at b; cases b;have e:=p.dis i k a hi Z h1 g;subst e;exact q (aP g1)
   refine ⟨a,h1,?_,n.grow c.grow λo z=>c.keep a o z na⟩;cases P:F' a with
   | none=>rfl
   | some u=>
    rcases c.new a (by rw [P]; simp) with z | z | z;·exact absurd h2 z
    ·exact absurd z n.there
    ·exact absurd z na
 opn:=λi hi=>by
  by_cases q:i∈cap;·obtain ⟨j,G⟩:=eZ q;have m:nt+j∈uf own nt cap:=kn.mpr ⟨j,i,rfl,G,hi⟩;obtain ⟨d',h⟩:=r.opn _ m;obtain ⟨w,hd0⟩:=p.opn i hi;exact ⟨d',yV nd G hi (aB.mp hd0).1 h⟩
  ·rw [vm (λz=>q z.1)];exact p.opn i hi
 dis:=p.dis
end
noncomputable def gf (g:D->Sl->Out Sl) (ft:yi) (fe:jl) (d:D) (ρ:Sl):Out (Option D×Sl):=
 (g d ρ).plain.bind λρ1=>(ft ρ1).plain.bind λq=>if q.1=iu then (fe q.2).plain.bind λr=>.ok (ij r.1,r.2) else .ok (im,q.2)
noncomputable def jX (g:D->Sl->Out Sl) (ft:yi) (fe:jl):List D->ww
 | [],ρ=>.ok ([],ρ)
 | d::ds,ρ=>(gf g ft fe d ρ).bind λp=>(jX g ft fe ds p.2).bind λq=>.ok (p.1.toList++q.1,q.2)
noncomputable def jk (own:List Nat) (nt:Nat) (cap:List Nat) (fi:ww) (g:D->Sl->Out Sl) (ft:yi) (fe:jl):jl:=λρ=>(fi ρ).bind λp=>
 if p.1.length<=sizeLine then (jX g ft fe p.1 (vA nt cap p.2)).bind λq=>.ok (.lst q.1,ke own q.2 nt cap p.2) else .bad
noncomputable def ctC (C:Ct) (nt len:Nat):Ct:=⟨C.K,C.cv,λ_ _ _=>False,ioC nt len,.sh,[],[],λ_ h=>absurd h 'g'⟩
noncomputable def ftT:yi:=λρ=>.ok (iu,ρ)
theorem YA:PTs Y [] (tT C own ftT):=⟨λpins s σ H Q I ⟨F,ρ,a,h⟩=>qfD pins s σ H Q I (h F H a .refl)⟩
structure CW (C:Ct) (own:List Nat) (nt:Nat) (cap:List Nat) (σ:St) (F H F0:Hp) (g:D->Sl->Out Sl) (ft:yi) (fe:jl) (ds ys:List D) (ρe:Sl) (p:Addr) (i:Nat) (σ1:St) (H1:Hp) (F1:Hp) (ρi:Sl) (accD:List D) (xs:List V) (rest:List D):Prop where
 rep:Rep C.K (uf own nt cap) F1 H1 σ1 ρi
 io:∀ i∈ioC nt cap.length,σ1[i]?=(vA nt cap σ)[i]?
 chg:Chg (OA (uf own nt cap) σ1) F H F1 H1
 gr:Same F0 F1
 at_:H1 p=ij (.lst xs)
 nF:F1 p=im
 is:IsL C.K F1 xs accD
 le:accD.length<=i
 run:jX g ft fe (ds.drop i) ρi=.ok (rest,ρe)
 all:accD++rest=ys
variable {ρe:Sl}
theorem Zh {ft:yi} {fe:jl} {rest:List D} (h:jX g ft fe (d::ds) ρ=.ok (rest,ρe)):∃ ρ1,g d ρ=.ok ρ1/\∃ b ρ2,ft ρ1=.ok (b,ρ2)/\((b=iu/\∃ y k r,fe ρ2=.ok (y,k)/\jX g ft fe ds k=.ok (r,ρe)/\rest=y::r)\/(b=ir/\jX g ft fe ds ρ2=.ok (rest,ρe))):=by
 unfold jX gf at h;cases e:g d ρ with
 | exc c=>rw [e] at h; cases h
 | bad=>rw [e] at h; cases h
 | ok ρ1=>
  rw [e] at h;refine ⟨ρ1,rfl,?_⟩;simp only [Out.plain,Out.og] at h;cases a:ft ρ1 with
  | exc c=>rw [a] at h; cases h
  | bad=>rw [a] at h; cases h
  | ok p=>
   obtain ⟨b,ρ2⟩:=p;rw [a] at h;refine ⟨b,ρ2,rfl,?_⟩;simp only [Out.plain,Out.og] at h;cases b with
   | true=>
    refine .inl ⟨rfl,?_⟩;simp only [if_true] at h;cases q:fe ρ2 with
    | exc c=>rw [q] at h; cases h
    | bad=>rw [q] at h; cases h
    | ok p=>
     obtain ⟨y,k⟩:=p;rw [q] at h;simp only [Out.plain,Out.og] at h;cases i:jX g ft fe ds k with
     | exc c=>rw [i] at h; cases h
     | bad=>rw [i] at h; cases h
     | ok p=>obtain ⟨r,B⟩:=p;rw [i] at h;simp only [Out.og] at h;cases h;exact ⟨y,k,r,rfl,i,rfl⟩
   | false=>
    refine .inr ⟨rfl,?_⟩;simp only [Bool.false_eq_true,if_false,Out.og] at h;cases i:jX g ft fe ds ρ2 with
    | exc c=>rw [i] at h; cases h
    | bad=>rw [i] at h; cases h
    | ok p=>obtain ⟨r,B⟩:=p;rw [i] at h;simp only [Out.og] at h;cases h;rfl
section
variable {elt:Expr} {fi:ww} {ft:yi} {fe:jl} {me:Mo}
structure CapOk (X:Cx) (scope:lz) (N:List Str) (nt:Nat) (cap:List Nat):Prop where
 nd:cap.Nodup
 len:N.length=nt+cap.length
 at_:∀ (j k:Nat),cap[j]?=ij k->∃ x,N[nt+j]?=ij x/\X.N[k]?=ij x/\((Vis X.env.scope x/\(x,bG)∈scope.names)\/∀ k',(x,k')∉scope.names)
theorem Vq {F:Hp} {ρ1:Sl} {it:Addr} {fp:List Addr} {tn:Nat->Heap->Prop} {J:It} {E:iq->iw->Prop} {ds ys:List D} {ρe:Sl} (I:Inv X pins σ H s) (W:X.calm=iu) (S:ScOk X scope) (CO:CapOk X scope N nt cap)
  (T:Turn X.prog X.w X.K tg J fp it tn) (st0:tn 0 s.heap) (hf:∀ b∈fp,WL X pins H b) (rp:Rep C.K own F H σ ρ1) (O:ItIs C.K F J ds) (hz:ds.length<=sizeLine)
  (hg:∀ fp L s' H',PG (jA X scope N fp L s' H') tg (tGd (ctC C nt cap.length) (uf own nt cap) g)) (ht:∀ fp L s' H',PTs (jA X scope N fp L s' H') ifs (tT (ctC C nt cap.length) (uf own nt cap) ft))
  (he:∀ fp L s' H',PE (jA X scope N fp L s' H') elt (tE (ctC C nt cap.length) (uf own nt cap) me fe)) (hme:me≠.any)
  (hrun:jX g ft fe ds (vA nt cap ρ1)=.ok (ys,ρe)) (RR:iq->Addr->mG->iw->Prop)
  (hRR:∀ p L s' F' H',H p=im->Rep C.K own F' H' σ (ke own ρe nt cap ρ1)->Chg (OA own σ) F H F' H'->F' p=im->OwnIs C.K F' H' p (.lst ys)->(∃ m,s'.heap.Ns L m)->WL X pins H' L->(∀ h',bI L s'.heap h'->Inv X pins σ H' { s' with heap:=h' })->RR (.ref p) L (.ok .next) s') :
  iB 'c' X.A (newList []) (λacc s₃=>iB 'c' X.A (newFunctionEnv scope X.env.globals (KY X.env.cells scope.names []) [] X.env.qual im .none (ij X.env)) (λG s₄=>
   lg 'c' X.A (.compStart (.ListComp elt [⟨tg,iter,ifs,0⟩] scope pos) 0 (.ref it) acc { G with scope:=relabel scope X.env }) (RR acc G.locals) s₄) E s₃) E s:=by
 have oaH:∀ {σ1:St} {b:Addr},(∀ i∈ioC nt cap.length,σ1[i]?=(vA nt cap σ)[i]?)->OA (uf own nt cap) σ1 b->H b≠none:=λU z=>(rp.OA_there (qaa U z)).1;refine qcU (σc:=vA nt cap σ) I W S T st0 hf hg ht (λfp L s' H'=>yh (he fp L s' H') hme) (by rw [Uh,CO.len]) (λj x v e1 e2 e3=>?_)
  (λp i m σ1 H1=>H p=im/\m=ds.length - i/\i<=ds.length/\∃ F1 ρi accD xs rest,CW C own nt cap σ F H F g ft fe ds ys ρe p i σ1 H1 F1 ρi accD xs rest)
  (λp H1=>H p=im/\∃ σ1 F1 xs,Rep C.K (uf own nt cap) F1 H1 σ1 ρe/\(∀ i∈ioC nt cap.length,σ1[i]?=(vA nt cap σ)[i]?)/\Chg (OA (uf own nt cap) σ1) F H F1 H1/\H1 p=ij (.lst xs)/\F1 p=im/\IsL C.K F1 xs ys) (λp hp=>?_) ?_ RR ?_
 ·obtain ⟨j',k,rfl,h1,h2⟩:=vB.mp e2;obtain ⟨y,g1,g2,g3⟩:=CO.at_ j' k h1;rw [g1] at e1; cases e1;obtain ⟨k',hk'⟩:=e3;rcases g3 with ⟨g3,g4⟩ | g3;·exact ⟨k,g2,h2,g3,g4⟩
  ·exact absurd hk' (g3 k')
 ·obtain ⟨r1,c1,hF⟩:=Yv (C:=C) (u:=.lst []) (qfE (nt:=nt) rp CO.nd) hp;exact ⟨ds.length,hp,by simp,bH _,F,vA nt cap ρ1,[],[],ys,r1,λ_ _=>rfl,c1.ofNo,Same.refl _,qu,hF,.nil,aA _,by simpa using hrun,rfl⟩
 ·rintro p i m σ1 H1 ⟨hp,rfl,hle,F1,ρi,accD,xs,rest,w⟩;by_cases t:i < ds.length
  ·have hd:ds.drop i=ds[i]::ds.drop (i+1):=List.drop_eq_getElem_cons t;have run:=w.run;rw [hd] at run;obtain ⟨ρa,ea,b,Z,eb,R⟩:=Zh run;have sub1:Same F H1:=w.gr.trans w.rep.sub;refine .inr ⟨O.go i H1 t sub1,λx H2 y=>?_⟩;obtain ⟨F2,c2,s2,is2⟩:=O.yld i F1 H1 x H2 ds[i] (by simp [t]) w.gr w.rep.sub y;have rp2:=w.rep.grow c2 s2;have M:∀ {Y:St},(∀ i∈ioC nt cap.length,Y[i]?=(vA nt cap σ)[i]?)->¬OA (uf own nt cap) Y p:=λU z=>oaH U z hp;have P:∀ {A:Addr->Prop} {Fa Ha Fb Hb:Hp} {zs:List V},Chg A Fa Ha Fb Hb->¬A p->Ha p=ij (.lst zs)->Fa p=im->Hb p=ij (.lst zs)/\Fb p=none:=λ{A Fa Ha Fb Hb zs} c na e1 e2=>by
    refine ⟨c.keep p _ e1 na,?_⟩;cases q:Fb p with
    | none=>rfl
    | some u=>
     rcases c.new p (by rw [q]; simp) with z | z | z;·exact absurd e2 z
     ·rw [e1] at z; cases z
     ·exact absurd z na
   obtain ⟨at2,nF2⟩:=P c2 (λz=>z) w.at_ w.nF;refine ⟨F2,ρi,ds[i],rp2,is2,ρa,ea,λl rp3 oa3 io3=>?_⟩;have f:∀ i∈ioC nt cap.length,l[i]?=(vA nt cap σ)[i]?:=λi hi=>(io3 i hi).trans (w.io i hi);refine ⟨F2,ρa,rp3,?_⟩;rw [eb];intro F4 H4 rp4 c4;obtain ⟨at4,nF4⟩:=P c4 (M f) at2 nF2;have B:Chg (OA (uf own nt cap) l) F H F4 H4:=by
    have q1:Chg (OA own σ) F H F1 H1:=w.chg.mono λb z=>qaa w.io z;have mv:∀ {b},OA (uf own nt cap) σ1 b->OA (uf own nt cap) l b:=λ{b} z=>by obtain ⟨i',hi',e'⟩:=z;obtain ⟨j,k,rfl,g1,g2⟩:=kn.mp hi';have hm:nt+j∈ioC nt cap.length:=JD.mpr ⟨j,(aB.mp g1).1,rfl⟩;exact ⟨nt+j,hi',by rw [f _ hm,<-w.io _ hm]; exact e'⟩
    exact ((w.chg.mono λb z=>mv z).trans' c2.ofNo).trans' c4
   have gr4:Same F F4:=(w.gr.trans c2.grow).trans c4.grow;have Q:IsL C.K F4 xs accD:=(w.is.mono c2.grow).mono c4.grow;rcases R with ⟨rfl,y',ρc,r,ec,er,hr⟩ | ⟨rfl,er⟩
   ·rw [Aa rfl];refine ⟨F4,Z,rp4,?_⟩;rw [ec];intro v F5 H5 h c5 mo5;obtain ⟨at5,nF5⟩:=P c5 (M f) at4 nF4;have hlen:xs.length=accD.length:=Q.length;refine ⟨xs,at5,by have:=w.le; lia,ds.length - (i+1),by lia,hp,rfl,t,F5,ρc,accD++[y'],xs++[v],r,?_⟩;have cp:Chg (λb=>b=p) F5 H5 F5 (upd H5 p (.lst (xs++[v]))):=⟨λb o e n=>by rw [qB n]; exact e,λb e=>by
     by_cases q:b=p;·rw [q,qu]; simp
     ·rw [qB q]; exact e,Same.refl _,λb e=>.inl e⟩
    have sb5:Same F5 (upd H5 p (.lst (xs++[v]))):=λb o e=>by rw [qB (qL e nF5)]; exact h.sub b o e
    have rp6:Rep C.K (uf own nt cap) F5 (upd H5 p (.lst (xs++[v]))) l ρc:=by
     refine ⟨sb5,h.len,h.val,λi d hi e=>?_,h.opn,h.dis⟩;obtain ⟨a,h1,h2,h3⟩:=h.ow i d hi e;have na:a≠p:=λz=>by subst z; exact M f ⟨i,hi,h1⟩
     exact ⟨a,h1,h2,h3.grow (Same.refl _) λo z=>by rw [qB na]; exact z⟩
    refine ⟨rp6,f,?_,(gr4.trans c5.grow),qu,nF5,(Q.mono c5.grow).append (.cons mo5 .nil),by simp only [af,ao,aX]; have:=w.le; lia,er,?_⟩;·exact (B.trans' c5).trans cp λb z=>.inr (by rw [z]; exact hp)
    ·rw [aV,<-w.all,hr]; rfl
   ·rw [Ab bj];exact ⟨ds.length - (i+1),by lia,hp,rfl,t,F4,Z,accD,xs,rest,rp4,f,B,gr4,at4,nF4,Q,by have:=w.le; lia,er,w.all⟩
  ·have e:i=ds.length:=by lia
   subst e;have run:=w.run;rw [List.drop_length] at run;unfold jX at run;cases run;have ha:=w.all;rw [aZ] at ha;subst ha;exact .inl ⟨O.stop _ H1 (aA _) (w.gr.trans w.rep.sub),hp,σ1,F1,xs,w.rep,w.io,w.chg,w.at_,w.nF,w.is⟩
 ·rintro p L H' s' ⟨hp,σ1,F1,xs,r1,io1,c1,e1,n1,is1⟩ hns hfp hinv;exact hRR p L s' F1 H' hp (qab rp CO.nd r1 io1 c1) (c1.mono λb z=>qaa io1 z) n1 ⟨xs,e1,is1⟩ hns hfp hinv
theorem Ui:∀ (ds:List D) (ρ:Sl) (c:Str) (o:Sl),jX g ft fe ds ρ≠.exc c o:=by
 intro ds
 induction ds with
 | nil=>intro ρ c o z; cases z
 | cons d ds j=>
  intro ρ c o z;unfold jX gf at z;cases b:g d ρ with
  | exc c=>rw [b] at z; cases z
  | bad=>rw [b] at z; cases z
  | ok ρ1=>
   rw [b] at z;simp only [Out.plain,Out.og] at z;cases a:ft ρ1 with
   | exc c=>rw [a] at z; cases z
   | bad=>rw [a] at z; cases z
   | ok p=>
    rw [a] at z;simp only [Out.plain,Out.og] at z;by_cases h:p.1=iu
    ·rw [Aa h] at z;cases q:fe p.2 with
     | exc c=>rw [q] at z; cases z
     | bad=>rw [q] at z; cases z
     | ok r=>
      rw [q] at z;simp only [Out.plain,Out.og] at z;cases i:jX g ft fe ds r.2 with
      | exc c=>exact j _ _ _ i
      | bad=>rw [i] at z; cases z
      | ok t=>rw [i] at z; cases z
    ·rw [Ab h] at z;simp only [Out.og] at z;cases i:jX g ft fe ds p.2 with
     | exc c=>exact j _ _ _ i
     | bad=>rw [i] at z; cases z
     | ok t=>rw [i] at z; cases z
theorem Vr {α:Type} {Z:WM->Prop} (r:Rep C.K own F H σ ρ) (b:¬Z .bad) (hx:∀ c ρ',Z (.exc c ρ')->∀ F' H',Same F' H'->ZZ C.K C.ox F' H' σ ρ'->Chg (OA own σ) F H F' H'->C.E (C.cv c) im H') (h:Z (jk own nt cap fi g ft fe ρ)):tIt C own fi σ H λJ H1=>∃ ds ρ1 ys ρe F1,ds.length<=sizeLine/\jX g ft fe ds (vA nt cap ρ1)=.ok (ys,ρe)/\Rep C.K own F1 H1 σ ρ1/\Chg (OA own σ) F H F1 H1/\ItIs C.K F1 J ds/\Z (.ok (.lst ys,ke own ρe nt cap ρ1)):=by
 refine ⟨F,ρ,r,?_⟩;unfold jk at h;cases q:fi ρ with
 | exc c=>rw [q] at h; exact hx c _ h
 | bad=>rw [q] at h; exact (b h).elim
 | ok p=>
  obtain ⟨ds,ρ1⟩:=p;rw [q] at h;have h:Z (if ds.length<=sizeLine then (jX g ft fe ds (vA nt cap ρ1)).bind λq=>.ok (.lst q.1,ke own q.2 nt cap ρ1) else .bad):=h;by_cases z:ds.length<=sizeLine
  ·rw [Aa z] at h;cases d:jX g ft fe ds (vA nt cap ρ1) with
   | exc c=>exact absurd d (Ui _ _ _ _)
   | bad=>rw [d] at h; exact (b h).elim
   | ok p=>obtain ⟨ys,ρe⟩:=p;rw [d] at h;exact λJ F1 H1 a k it=>⟨ds,ρ1,ys,ρe,F1,z,d,a,k,it,h⟩
  ·rw [Ab z] at h; exact (b h).elim
theorem qfF (P:X.calm=iu) (S:ScOk X scope) (M:CapOk X scope N nt cap) (hi:PI X tg iter (tIt C own fi))
  (hg:∀ fp L s' H',PG (jA X scope N fp L s' H') tg (tGd (ctC C nt cap.length) (uf own nt cap) g)) (ht:∀ fp L s' H',PTs (jA X scope N fp L s' H') ifs (tT (ctC C nt cap.length) (uf own nt cap) ft))
  (G:∀ fp L s' H',PE (jA X scope N fp L s' H') elt (tE (ctC C nt cap.length) (uf own nt cap) me fe)) (j:me≠.any:=by decide) (D:∀ x,k4 iter X.env x=pure x:=by intro _; rfl) :
  PE X (.ListComp elt [⟨tg,iter,ifs,0⟩] scope pos) (tE C own .fr (jk own nt cap fi g ft fe)):=by
 refine ⟨?_⟩;intro pins s σ H Q I ⟨F,ρ,t,h⟩;rw [eval_ListComp];have n:=Vr (α:=Unit) (Z:=λr=>Po C own .fr σ F H r Q) t (λz=>z) (λc _ z=>z) h;refine wpAny_comprehension_free (use:=im) rfl D (QQ (ge I S)) S.kind S.names (thn (hi pins s σ H _ I n) λV s1 h1=>thn h1 λy s2 h2=>?_);obtain ⟨it,fp,tn,J,H2,e,K,T,b,f2,ds,ρ1,ys,ρe,F1,B,a,d,k,O,po⟩:=h2;subst e;refine Vq (RR:=λacc R=>compPost 'c' X.A X.xe im (EP X pins σ Q) acc R) K P S M T b f2 d O B hg ht G j a λp L s' F' H' hp f U nF o i E v=>?_;obtain ⟨m,hn⟩:=i;refine ⟨m,hn,λh' l=>⟨.ref p,H',v h' l,rfl,?_⟩⟩;refine po (.ref p) F' H' f (k.trans' U) ⟨p,rfl,?_,nF,o⟩;cases q:H p with
 | none=>rfl
 | some u=>exact absurd hp (k.stay p (by rw [q]; simp))
theorem qcV {pos' spos:Pos} (hN:X.N.Nodup) (V:X.N[i]?=ij x) (hx:Loc X.env.scope x) (P:X.calm=iu) (S:ScOk X scope) (CO:CapOk X scope N nt cap) (hi:PI X tg iter (tIt C own fi))
  (hg:∀ fp L s' H',PG (jA X scope N fp L s' H') tg (tGd (ctC C nt cap.length) (uf own nt cap) g)) (ht:∀ fp L s' H',PTs (jA X scope N fp L s' H') ifs (tT (ctC C nt cap.length) (uf own nt cap) ft))
  (he:∀ fp L s' H',PE (jA X scope N fp L s' H') elt (tE (ctC C nt cap.length) (uf own nt cap) me fe)) (M:me≠.any:=by decide) (W:i∉C.io:=by exact yP rfl)
  (G:lm (.ListComp elt [⟨tg,iter,ifs,0⟩] scope pos) (ij (.Name x pos')) spos.line X.env=pure true:=by rfl) (hs:∀ x,k4 iter X.env x=pure x:=by intro _; rfl)
  (Y:X.fn x=iu\/X.env.scope.names.lookup x=ij .local:=by first | exact .inl rfl | exact .inr rfl) :
  PS X (.Assign [.Name x pos'] (.ListComp elt [⟨tg,iter,ifs,0⟩] scope pos) spos) (tSt C own (i::wa own [i]) (jp i (jk own nt cap fi g ft fe))):=by
 refine ⟨?_⟩;intro pins s σ H D I ⟨F,ρ,rp,h⟩;rw [exec_Assign_Name_used _ _ _ _ G];refine ip (wpAny_standAt (ip ?_));show iB _ X.A (do let _ <-comprehension (.ListComp elt [⟨tg,iter,ifs,0⟩] scope pos) scope X.env _ (newList []) ir (eval iter X.env) (ij (assign (.Name x pos') X.env))) _ _ s;have n:=Vr (α:=Unit) (Z:=λr=>PoS C own (i::wa own [i]) σ F H (r.bind λp=>if i < p.2.length then .ok (.nx,p.2.set i (ij p.1)) else .bad) D) rp (λz=>z) (λc _ z=>z) h;refine ip (j3 (wpAny_comprehension_free (use:=ij (assign (.Name x pos') X.env)) (Q:=λ_ s'=>SP X pins D .next s') rfl hs (QQ (ge I S)) S.kind S.names (thn (hi pins s σ H _ I n) λxv s1 h1=>thn h1 λitv s2 h2=>?_)) (λ_ s' hq=>iy (iy hq)) λ_ _ e=>e);obtain ⟨it,fp,tn,J,H2,e,I2,T,l,f2,ds,ρ1,ys,ρe,F1,hz,f,B,c1,O,po⟩:=h2;subst e;refine Vq (RR:=λacc C'=>compPost 'c' X.A X.xe (ij (assign (.Name x pos') X.env)) (λ_ s'=>SP X pins D .next s') acc C') I2 P S CO T l f2 B O hz hg ht he M f λp L s' F' H' hp d c' nF o K hfp k=>?_;obtain ⟨m,hn⟩:=K;have I3:Inv X pins σ H' s':=by simpa using k s'.heap (.refl ..)
 have hH:H p=none:=by
  cases q:H p with
  | none=>rfl
  | some u=>exact absurd hp (c1.stay p (by rw [q]; simp))
 show iB _ X.A (assign (.Name x pos') X.env (.ref p)) _ _ s';refine wpAny_assign_Name (Ve I3 hN V hx (v:=.ref p) rfl (λs4 I4 ⟨a,t,ha⟩=>?_) Y);obtain ⟨f0,f1,f2',f3,f4,f5⟩:=hfp;have nL:L≠a:=by
  rcases ha with z | z;·rw [z]; exact f1
  ·exact λq=>f4 x a z q.symm
 refine ⟨m,hn.sameBut t nL,λh' sb=>?_⟩;have I5:Inv X pins (σ.set i (ij (.ref p))) H' { s4 with heap:=h' }:=by have:=I4.turned (h':=h') (t':=s4.toks) (it:=L) (λb o hb e=>(sb.2 b hb).trans e) f0 f1 f3 f4 f5;exact this
 refine ⟨_,H',I5,?_⟩;have po:PoS C own (i::wa own [i]) σ F H (if i < (ke own ρe nt cap ρ1).length then .ok (.nx,(ke own ρe nt cap ρ1).set i (ij (.lst ys))) else .bad) D:=po;by_cases z:i < (ke own ρe nt cap ρ1).length
 ·rw [Aa z] at po;refine po _ F' H' ⟨d.putO z nF (λy=>(rp.OA_there y).1 hH) o,c1.trans' c',λb y=>?_,λj U=>ax λy=>W (by rw [y]; exact U)⟩;obtain ⟨j,U,e⟩:=y;by_cases E:j=i;·subst E;rw [aG (by rw [d.len]; exact z)] at e;cases e;exact .inr hH
  ·have R:=(jm j).mp ((ac.mp U).resolve_left E);rw [ax (bo E)] at e;exact .inl ⟨j,R.1,e⟩
 ·rw [Ab z] at po; exact po.elim
end
def Fly (h:Heap) (ex T:Addr) (cls:iq):Prop:=∃ o vs a ts,h.get? ex=ij o/\o.cls=cls/\o.data=.fields vs/\vs[1]?=ij (.ref T)/\T≠ex/\h.get? T=ij a/\a.data=.fields ts/\ts[3]?=ij .none
def CXk (P:iF) (w:iG):CXT:=λouter H s E e s'=>∃ ex T C H',e=.ref ex/\s'.os=s.os/\lQ s'.gens/\Un (frs outer) [] H H' s.heap s'.heap/\HOk P w H' s'.heap/\Fly s'.heap ex T (.ref C)/\H' ex=im/\H' T=im/\s.heap.get? ex=im/\s.heap.get? T=im/\E (.ref C) im H'
def InB (X:Cx) (H:Hp) (s:iw) (ex:Addr) (cls:iq):Prop:=H ex=im/\X.s₀.heap.get? ex=im /\
 ((∃ o vs,s.heap.get? ex=ij o/\o.cls=cls/\o.data=.fields vs/\vs[1]?=ij .none)\/∃ T,Fly s.heap ex T cls/\H T=im/\X.s₀.heap.get? T=im)
variable {ex:Addr} {T0:Option Addr} {h2:Heap}
section
variable {cls:iq}
noncomputable def yW (ex:Addr) (T:Option Addr) (X:Cx):List Addr:=ex::(T.toList++frs X.stack)
theorem yX (I:Inv X pins σ H s) (d:b∈frs X.stack):∃ o,s.heap.get? b=ij o/\∀ vs,o.data≠.fields vs:=(I.stack.mem d).2
theorem Vs (c:X.stack=X.env::X.outer):∀ env∈X.stack,∀ b,env.frame=ij b->b∈frs X.stack:=λenv i b d=>fm.mpr ⟨env,i,d⟩
structure Gone (X:Cx) (H:Hp) (s:iw) (ex:Addr) (cls:iq) (h2:Heap):Prop where
 keep:∀ b o,s.heap.get? b=ij o->H b≠im\/(X.s₀.heap.get? b≠im/\b∉frs X.stack)->h2.get? b=ij o
 slot:∀ b o,s.heap.get? b=ij o->b∈frs X.stack->∃ sl,h2.get? b=ij { o with slots:=sl }
 ok:HOk X.prog X.w H h2
 un:Un (frs X.stack) [] H H s.heap h2\/True
theorem qac {h2:Heap} (I:Inv X pins σ H s) (hex:H ex=im) (hT:∀ T,T0=ij T->H T=im) (n1:X.s₀.heap.get? ex=im) (n2:∀ T,T0=ij T->X.s₀.heap.get? T=im)
  (st:(bi s.heap (yW ex T0 X)).StaysIn h2) (sl:∀ b o,s.heap.get? b=ij o->(∀ vs,o.data≠.fields vs)->∃ sl,h2.get? b=ij { o with slots:=sl }):Gone X H s ex cls h2:=by
 have keep:∀ b o,s.heap.get? b=ij o->b≠ex->(∀ T,T0=ij T->b≠T)->b∉frs X.stack->h2.get? b=ij o:=λb o e h1 h2 g=>st b o (cZ _ e λm=>by
  rcases ac.mp m with q | m;·exact h1 q
  ·rcases aj.mp m with q | q;·exact h2 b (Option.mem_toList.mp q) rfl
   ·exact g q)
 have k1:∀ b o,s.heap.get? b=ij o->H b≠im->h2.get? b=ij o:=λb o e hn=>keep b o e (λq=>hn (by rw [q]; exact hex)) (λT h q=>hn (by rw [q]; exact hT T h)) λq=>hn (I.stkFree b q);refine ⟨λb o e d=>?_,λb o e d=>?_,λb u e=>?_,.inr trivial⟩
 ·rcases d with d | ⟨d,hf⟩
  ·exact k1 b o e d
  ·exact keep b o e (λq=>d (by rw [q]; exact n1)) (λT h q=>d (by rw [q]; exact n2 T h)) hf
 ·obtain ⟨o',a,y⟩:=yX I d;rw [e] at a; cases a;exact sl b o e y
 ·refine (I.hok b u e).stay (λc v f q=>k1 c v q ?_) (λ_ q=>q) λ_ _ q=>q;rcases f with z | z;·rw [z,e]; simp
  ·rw [z]; simp
theorem Vt (I:Inv X pins σ H s) (hT:∀ T,T0=ij T->H T=im) (n2:∀ T,T0=ij T->X.s₀.heap.get? T=im) (g:Gone X H s ex cls h2) (c:X.ex=[])
  (tr:h2.Traced (bi s.heap (yW ex T0 X)) ex cls):∃ T,Fly h2 ex T cls/\H T=im/\X.s₀.heap.get? T=none:=by
 obtain ⟨t,vs,T,w,ts,J,G,E,D,p,l,k,j,B⟩:=tr;have a:∀ o,s.heap.get? T=ij o->(∃ q,T0=ij q/\T=q):=λo e=>by
  have m:T∈yW ex T0 X:=by refine bP λhn=>?_;rw [cZ _ e hn] at p;cases p
  rcases ac.mp m with q | m;·exact absurd q l
  ·rcases aj.mp m with q | q;·exact ⟨T,Option.mem_toList.mp q,rfl⟩
   ·obtain ⟨o',d,x⟩:=yX I q;obtain ⟨sl,i⟩:=g.slot T o' d q;rw [k] at i;cases i;exact absurd j (x ts)
 refine ⟨T,⟨t,vs,w,ts,J,G,E,D,l,k,j,B⟩,?_,?_⟩
 ·cases q:H T with
  | none=>rfl
  | some u=>
   have A:=I.hok.lt q;obtain ⟨o,e⟩:∃ o,s.heap.get? T=ij o:=by
    have:=(I.hok T u q)
    have st:=this.stay (H':=H) (h':=s.heap) (λb v _ z=>z) (λ_ z=>z) λ_ _ z=>z;cases z:s.heap.get? T with
    | some o=>exact ⟨o,rfl⟩
    | none=>
     exfalso;cases u with
     | lst xs=>obtain ⟨_,_,_,_,e⟩:=st; rw [z] at e; cases e
     | tup xs=>obtain ⟨_,_,_,_,e,_⟩:=st; rw [z] at e; cases e
     | dK kvs=>obtain ⟨_,_,_,_,o,_,_,e,_⟩:=st; rw [z] at e; cases e
     | dT kvs=>obtain ⟨_,_,_,_,o,_,_,e,_⟩:=st; rw [z] at e; cases e
     | set S n=>obtain ⟨o,_,_,_,e,_⟩:=st; rw [z] at e; cases e
     | ins C dx fs=>obtain ⟨_,_,_,e,_⟩:=st; rw [z] at e; cases e
     | own y=>obtain ⟨_,e⟩:=st; rw [z] at e; cases e
     | xd fs=>obtain ⟨_,⟨_,_,_,e,_⟩,_⟩:=st; rw [z] at e; cases e
     | rng lo hi=>obtain ⟨_,_,_,e⟩:=st; rw [z] at e; cases e
     | frz K u=>obtain ⟨e,_⟩:=st; rw [z] at e; cases e
     | tbl ps=>have e:s.heap.get? T=ij _:=st; rw [z] at e; cases e
     | met f y=>have e:s.heap.get? T=ij _:=st; rw [z] at e; cases e
     | ext φ=>obtain ⟨_,⟨_,e⟩,_⟩:=st; rw [z] at e; cases e
   obtain ⟨r,h,rfl⟩:=a o e;rw [hT _ h] at q; cases q
 ·cases q:X.s₀.heap.get? T with
  | none=>rfl
  | some o=>obtain ⟨o',d⟩:=I.base.there T o q (by rw [c]; simp);obtain ⟨r,h,rfl⟩:=a o' d;rw [n2 _ h] at q; cases q
theorem Zi {E:iq->iw->Prop} {Q:Unit->iw->Prop} (I:Inv X pins σ H s) (h:X.stack=X.env::X.outer) (r:X.env.frame=ij X.env.locals) (c:X.ex=[]) (x:InB X H s ex cls)
  (k:∀ h2 T,Gone X H s ex cls h2->Fly h2 ex T cls->H T=im->X.s₀.heap.get? T=im->Q () { s with heap:=h2 }):iB 'c' X.A (leaving X.env (.ref ex)) Q E s:=by
 obtain ⟨hex,n1,hx⟩:=x;have C:X.A.frames=ij (X.env::X.outer):=by rw [I.ok.frames,h]
 have B:∀ as,(bi s.heap as).StaysIn s.heap:=λas b o e=>dQ as e;have hl:∀ T0,s.heap.FunFrames (bi s.heap (yW ex T0 X)) (X.env::X.outer):=λT0=>by rw [<-h];exact PySem.W.funFrames_hide I.stack λenv v b y=>ae _ (aR _ (Vs h env v b y))
 have hn:∀ T0,(bi s.heap (yW ex T0 X)).get? ex=none:=λT0=>cR _ (ac.mpr (.inl rfl));rcases hx with ⟨m,vs,j,i,q,p⟩ | ⟨T,⟨m,vs,u,ts,j,i,q,p,K,J,G,D⟩,hT,n2⟩
 ·refine wpAny_leaving_first (base:=bi s.heap (yW ex im X)) C (hl im) r j (B _) (hn im) q p λh2 ⟨st,_,tr,sl⟩=>?_;have g:Gone X H s ex cls h2:=qac I hex (T0:=im) (λ_ z=>nomatch z) n1 (λ_ z=>nomatch z) st sl;rw [i] at tr;obtain ⟨l,f1,f2,f⟩:=Vt I (T0:=im) (λ_ z=>nomatch z) (λ_ z=>nomatch z) g c tr;exact k h2 l g f1 f2 f
 ·have d:∀ a,ij T=ij a->H a=none:=λa z=>by cases z; exact hT
  have n:∀ a,ij T=ij a->X.s₀.heap.get? a=none:=λa z=>by cases z; exact n2
  have t:s.heap.Traced (bi s.heap (yW ex (ij T) X)) ex cls:=⟨m,vs,T,u,ts,j,i,q,p,cR _ (ae _ (bK _ 'g')),K,J,G,D⟩
  refine wpAny_leaving_next (base:=bi s.heap (yW ex (ij T) X)) C (hl (ij T)) r t (B _) (hn _) λh2 ⟨st,_,tr,sl⟩=>?_;have g:Gone X H s ex cls h2:=qac I hex d n1 n st sl;obtain ⟨l,f1,f2,f⟩:=Vt I d n g c tr;exact k h2 l g f1 f2 f
end
variable {A:iJ} {P:iF} {w:iG} {base h:Heap} {qual:Str} {outer:List Env} {s0:iw}
section
variable {mg:Str->Option iq} {cd:iq} {E:XK}
abbrev cxk (P:iF) (w:iG) (K:Frag) (mg:Str->Option iq) (base:Heap) (N:List Str) (qual:Str) (scope:lz) (f:Addr) (cd:iq) (A:iJ) (outer:List Env) (s0:iw) (H0:Hp) (E:XK):Cx:=qfd (CXk P w) P w K mg base N qual scope f cd A outer s0 H0 E
theorem qhP {C:Addr} (I:Inv (cxk P w K mg base N qual scope f cd A outer s0 H0 E) pins σ H s) (x:InB (cxk P w K mg base N qual scope f cd A outer s0 H0 E) H s ex (.ref C)) (k:E (.ref C) im H):(cxk P w K mg base N qual scope f cd A outer s0 H0 E).xe (.ref ex) s:=by
 refine Zi I rfl rfl rfl x λh2 T g l hT j=>?_;have a:=I.base;have L:∀ b o,s0.heap.get? b=ij o->b≠(cxk P w K mg base N qual scope f cd A outer s0 H0 E).env.locals:=λb o e=>aC (aF (aw e) I.ok.above);have t:∀ b o,s0.heap.get? b=ij o->b∉frs outer->b∉frs (cxk P w K mg base N qual scope f cd A outer s0 H0 E).stack:=λb o e d z=>by
  rcases ac.mp (I.stkSub b z) with q | q;·exact L b o e q
  ·exact d q
 have i:∀ b,b∈frs outer->b∈frs (cxk P w K mg base N qual scope f cd A outer s0 H0 E).stack:=λb d=>by show b∈frs (_::outer);unfold frs;rw [bq];exact ae _ d
 refine ⟨ex,T,C,H,rfl,I.os,I.bare,⟨λb o e n d hx=>?_,λb o e n d hx=>?_,a.free,λb o e hx=>?_,a.tups,a.frzs,a.tbls⟩,g.ok,l,x.1,hT,x.2.1,j,k⟩;·exact g.keep b o (a.keep b o e n d hx) (.inr ⟨by show s0.heap.get? b≠im; rw [e]; simp,t b o e d⟩)
 ·obtain ⟨sl,q⟩:=a.slot b o e n d hx;obtain ⟨c,h⟩:=g.slot b _ q (i b d);exact ⟨c,h⟩
 ·obtain ⟨o',q⟩:=a.there b o e hx;by_cases d:b∈frs (cxk P w K mg base N qual scope f cd A outer s0 H0 E).stack;·obtain ⟨sl,h⟩:=g.slot b o' q d;exact ⟨_,h⟩
  ·exact ⟨o',g.keep b o' q (.inr ⟨by show s0.heap.get? b≠im; rw [e]; simp,d⟩)⟩
theorem qfG {e:iq} (c:X.ex=[]) (I:Inv X pins σ H s) (h:CXk X.prog X.w X.stack H s E e s'):∃ ex C H',e=.ref ex/\Inv X pins σ H' s'/\InB X H' s' ex (.ref C)/\E (.ref C) im H':=by
 obtain ⟨ex,T,C,H',rfl,os,bare,un,hok,l,e1,i,n1,n2,k⟩:=h;have old:∀ b,s.heap.get? b=im->X.s₀.heap.get? b=none:=λb d=>by
  cases q:X.s₀.heap.get? b with
  | none=>rfl
  | some o=>obtain ⟨o',a⟩:=I.base.there b o q (by rw [c]; simp);rw [d] at a; cases a
 exact ⟨ex,C,H',rfl,I.call' (ch:=[]) os un hok bare (λb z=>absurd z 'g'),⟨e1,old ex n1,.inr ⟨T,l,i,old T n2⟩⟩,k⟩
theorem qj7:vK (CXk P w) (cxk P w K mg base N qual scope f cd A outer s0 H0 E) E:=λpins σ H s e s' I h=>by obtain ⟨ex,C,H',rfl,b,x,k⟩:=qfG rfl I h;exact qhP b x k
theorem qfH {C:Addr} {b:List iq} {d:String} (kin:K.In h) (c:mg x=ij (.ref C)) (q:dO K C b d=iu):OwnCls x C b d mg h:=by
 refine ⟨c,?_⟩;unfold dO at q;split at q
 case h_2=>cases q
 case h_1 dd cd sl lk=>
  split at q
  case h_2=>cases q
  case h_1 C' bm a0 a1 a2 a3 n a5 em es=>
   have g:=q;simp only [aS,beq_iff_eq,Bool.not_eq_true'] at g;obtain ⟨⟨⟨⟨⟨e1,i⟩,l⟩,tl⟩,k⟩,t⟩:=g;obtain ⟨nm,bs,mro,ns,a,hd,sn,sub,ab,col,del⟩:=cd;dsimp only at em l k t;obtain ⟨s⟩:=sl;dsimp only at es;subst em l es e1 i;exact ⟨bm,ns,nm,a,bs,hd,sn,sub,ab,col,dd,a0,a1,a2,a3,a5,_,kin _ _ lk,.of_isNs (PySem.W.isNs_of_in kin k),PySem.W.nsMap_none_of_in kin k t,PySem.W.tail_of_in kin tl⟩
end
theorem qek {T:Addr} (hok:HOk P w H h) (q:H T=ij u):∃ o,h.get? T=ij o:=by
 have st:=hok T u q;cases z:h.get? T with
 | some o=>exact ⟨o,rfl⟩
 | none=>
  exfalso;cases u with
  | lst xs=>obtain ⟨_,_,_,_,e⟩:=st; rw [z] at e; cases e
  | tup xs=>obtain ⟨_,_,_,_,e,_⟩:=st; rw [z] at e; cases e
  | dK kvs=>obtain ⟨_,_,_,_,o,_,_,e,_⟩:=st; rw [z] at e; cases e
  | dT kvs=>obtain ⟨_,_,_,_,o,_,_,e,_⟩:=st; rw [z] at e; cases e
  | set S n=>obtain ⟨o,_,_,_,e,_⟩:=st; rw [z] at e; cases e
  | ins C dx fs=>obtain ⟨_,_,_,e,_⟩:=st; rw [z] at e; cases e
  | own y=>obtain ⟨_,e⟩:=st; rw [z] at e; cases e
  | xd fs=>obtain ⟨_,⟨_,_,_,e,_⟩,_⟩:=st; rw [z] at e; cases e
  | rng lo hi=>obtain ⟨_,_,_,e⟩:=st; rw [z] at e; cases e
  | frz b u=>obtain ⟨e,_⟩:=st; rw [z] at e; cases e
  | tbl ps=>have e:h.get? T=ij _:=st; rw [z] at e; cases e
  | met f y=>have e:h.get? T=ij _:=st; rw [z] at e; cases e
  | ext φ=>obtain ⟨_,⟨_,e⟩,_⟩:=st; rw [z] at e; cases e
abbrev bmV:List iq:=[.type "ValueError",.type "Exception",.type "BaseException",.type "object"]
noncomputable def kg (x:Str) (fr:ww):qU:=λρ=>(fr ρ).bind λp=>.exc x p.2
theorem PoS.bindA {as:List AK} {o:Out (List D×Sl)} {k:List D×Sl->Out (Fl×Sl)} {D:Ends} {R:List V->Hp->Prop} (hp:PoS C own own' σ F H (o.bind k) D)
  (h:∀ vs F1 H1 ds ρ1,Rep C.K own F1 H1 σ ρ1->Chg (OA own σ) F H F1 H1->ArgV C.K H F1 H1 σ as vs ds->PoS C own own' σ F1 H1 (k (ds,ρ1)) D->R vs H1):PoA C own as σ F H o R:=by
 cases o with
 | ok p=>obtain ⟨ds,ρ1⟩:=p;exact λvs F1 H1 a c av=>h vs F1 H1 ds ρ1 a c av (PoS.shift (show PoS C own own' σ F H (k (ds,ρ1)) D from hp) (.ofE a c))
 | exc x=>exact hp
 | bad=>exact hp.elim
def YB (X:Cx) (C:Ct):Prop:=∀ (pins:Pns) (σ:St) (H:Hp) (s:iw) (ex A:Addr),Inv X pins σ H s->InB X H s ex (.ref A)->C.E (.ref A) im H->X.xe (.ref ex) s
theorem qhQ {mg:Str->Option iq} {cd:iq}:YB (cxk P w K mg base N qual scope f cd A outer s0 H0 C.E) C:=λpins σ H s ex A I x k=>qhP I x k
variable {Cc:Addr} {cpos:Pos}
section
variable {fr:ww} {np:Pos}
theorem ArgV.len:∀ {as:List AK} {vs:List V} {ds:List D},ArgV K H0 F H σ as vs ds->vs.length=as.length
 | [],[],[],_=>rfl
 | .vl::as,v::vs,d::ds,h=>congrArg (·+1) (ArgV.len h.2)
 | .sl i::as,v::vs,d::ds,h=>congrArg (·+1) (ArgV.len h.2.2)
 | .fr::as,v::vs,d::ds,h=>congrArg (·+1) (ArgV.len h.2)
 | [],_::_,_,h=>h.elim
 | [],[],_::_,h=>h.elim
 | .vl::_,[],_,h=>h.elim
 | .vl::_,_::_,[],h=>h.elim
 | .sl _::_,[],_,h=>h.elim
 | .sl _::_,_::_,[],h=>h.elim
 | .fr::_,[],_,h=>h.elim
 | .fr::_,_::_,[],h=>h.elim
theorem qad (b:X.ex=[]) (ht:YB X C) (P:X.calm=iu) (hg:Gl X x) (m:X.mg x=ij (.ref Cc)) (v:C.cv x=.ref Cc) (q:dO X.K Cc bmV "ValueError.__new__"=iu) (z:PA X (e::es) (tAr C own as fr)) (hsz:as.length<=1000:=by decide) (f:∀ i∈C.ox,i∈own:=by exact kZ rfl) (hd:Dbg x:=by decide)
  (g:iA (e::es) X.env=(ir,eval e X.env)::iA es X.env:=by exact js rfl) (l:(iS cpos (iA es X.env)).any (·.1)=false:=by rfl) :
  PS X (.Raise (ij (.Call (.Name x np) (e::es) [] cpos)) im pos) (tSt C own own' (kg x fr)):=by
 refine ⟨?_⟩;intro pins s σ H D I ⟨F,ρ,r,h⟩;obtain ⟨tl,N,nm,p,bs,hdct,sn,sub,ab,col,dd,k0,k1,k2,k3,k5,mN,hC,A,c,T⟩:=(qfH I.ok.mod.kin m q).obj;refine wpAny_Raise_call_subT (C:=Cc) (nm:=nm) (q:=p) (N:=N) (bs:=bs) (bm:=tl) (hdct:=hdct) (sn:=sn) (sub:=sub) (ab:=ab) (col:=col) (dd:=dd) (k0:=k0) (k1:=k1) (k2:=k2) (k3:=k3) (k5:=k5)
  PySem.F.excBase_ValueError (mN:=mN) (T.hasType PySem.F.excBase_ValueError.hasBase) (I.ok.hd P) (by rw [g]; show (ir||(iS cpos (iA es X.env)).any (·.1))=ir; rw [l]; rfl) c (xD I hg m ⟨rfl,?_⟩ hd)
 have n:tAr C own as fr σ H λvs H1=>vs.length<=sizeLine/\C.E (.ref Cc) im H1:=by
  refine ⟨F,ρ,r,PoS.bindA h λvs F1 H1 ds ρ1 a L av h1=>⟨?_,?_⟩⟩;·rw [av.len]; exact bY hsz (by rw [iM]; decide)
  ·rw [<-v]; exact h1 F1 H1 a.sub (a.ioIs f) .refl
 have run:=z cpos pins s σ H _ I n;rw [g] at run ⊢;refine eY (j3 run (λus s2 ⟨vs,H2,k,r2,z2,B⟩=>?_) λ_ _ y=>y);refine ⟨rfl,by rw [<-r2.length]; exact z2,k.bk _ _ hC,A.keeps k.bk,T.keeps k.bk,λh' ex mk=>?_⟩;have G:Inv X pins σ H2 { s2 with heap:=h' }:=k.kept (t':=s2.toks) mk.keeps;obtain ⟨t,h1,h2,J⟩:=mk.there;refine ht pins σ H2 _ ex Cc G ⟨?_,?_,.inl ⟨_,_,h1,rfl,rfl,rfl⟩⟩ B
 ·cases d:H2 ex with
  | none=>rfl
  | some u=>have w:=k.hok.lt d;refine absurd mk.new ?_;obtain ⟨o,e⟩:=qek k.hok d;rw [e]; simp
 ·cases d:X.s₀.heap.get? ex with
  | none=>rfl
  | some o=>obtain ⟨o',j⟩:=k.base.there ex o d (by rw [b]; simp);rw [mk.new] at j; cases j
end
structure Caught (X:Cx) (pins:Pns) (H:Hp) (s:iw) (ex T Cc:Addr):Prop where
 fly:Fly s.heap ex T (.ref Cc)
 hex:H ex=im
 hT:H T=im
 n1:X.s₀.heap.get? ex=im
 n2:X.s₀.heap.get? T=im
 pp:∀ p∈X.pn++pins,p.1≠ex/\p.1≠T
variable {xe:iq->iw->Prop}
section
variable {T:Addr}
theorem Caught.dex (c:Caught X pins H s ex T Cc):∃ o vs,s.heap.get? ex=ij o/\o.data=.fields vs:=let ⟨o,vs,a,ts,k,g,q,_⟩:=c.fly; ⟨o,vs,k,q⟩
theorem Caught.dT (c:Caught X pins H s ex T Cc):∃ o vs,s.heap.get? T=ij o/\o.data=.fields vs:=let ⟨o,vs,a,ts,d,g,q,p,b,l,k,_⟩:=c.fly; ⟨a,ts,l,k⟩
theorem YC {h2:Heap} (I:Inv X pins σ H s) (g:X.stack=X.env::X.outer) (j:X.env.frame=ij X.env.locals) (K:X.ex=[]) (c:Caught X pins H s ex T Cc)
  (keep:∀ b o,s.heap.get? b=ij o->b≠ex->b≠T->b∉frs X.stack->h2.get? b=ij o)
  (slot:∀ b o,s.heap.get? b=ij o->b∈frs X.stack->∃ sl,h2.get? b=ij { o with slots:=sl }):Inv X pins σ H { s with heap:=h2 }:=by
 obtain ⟨Z,ve,N,R⟩:=c.dex;obtain ⟨F,Y,hT,dT⟩:=c.dT;have G:∀ b o,s.heap.get? b=ij o->(∀ vs,o.data≠.fields vs)->b≠ex/\b≠T:=λb o e n=>by
  constructor;·rintro rfl; rw [N] at e; cases e; exact n _ R
  ·rintro rfl; rw [hT] at e; cases e; exact n _ dT
 have W:X.env.locals∈frs X.stack:=by rw [g]; unfold frs; rw [bq,j]; exact ap
 have L:∀ b o,X.s₀.heap.get? b=ij o->b≠X.env.locals:=λb o e=>aC (aF (aw e) I.ok.above);have w:∀ b o,X.s₀.heap.get? b=ij o->b∉X.fs->b∉frs X.stack:=λb o e h z=>by
  rcases ac.mp (I.stkSub b z) with q | q;·exact L b o e q
  ·exact h q
 have y:∀ b,b∈X.fs->b∈frs X.stack:=λb h=>by rw [g]; unfold frs; rw [bq,j]; exact ae _ h
 have f:∀ b o,X.s₀.heap.get? b=ij o->b≠ex/\b≠T:=λb o e=>⟨(by rintro rfl; rw [c.n1] at e; cases e),(by rintro rfl; rw [c.n2] at e; cases e)⟩
 have A:∀ {a:Addr} {v:Option iq},s.heap.IsCell a v->h2.IsCell a v:=λ{a v} ⟨oc,e1,l⟩=>by
  have q:=G a oc e1 λvs z=>by rw [l] at z; cases z
  by_cases h:a∈frs X.stack;·obtain ⟨sl,z⟩:=slot a oc e1 h;exact ⟨_,z,l⟩
  ·exact ⟨oc,keep a oc e1 q.1 q.2 h,l⟩
 refine ⟨I.ok,I.os,I.bare,⟨λb o e n h hx=>?_,λb o e n h hx=>?_,I.base.free,λb o e hx=>?_,I.base.tups,I.base.frzs,I.base.tbls⟩,?_,λx a e=>?_,I.free,I.freeC,λp hp=>?_,λb u e=>?_,I.len⟩;·exact keep b o (I.base.keep b o e n h hx) (f b o e).1 (f b o e).2 (w b o e h)
 ·obtain ⟨sl,q⟩:=I.base.slot b o e n h hx;obtain ⟨t,E⟩:=slot b _ q (y b h);exact ⟨t,E⟩
 ·obtain ⟨o',q⟩:=I.base.there b o e hx;by_cases h:b∈frs X.stack;·obtain ⟨sl,z⟩:=slot b o' q h;exact ⟨_,z⟩
  ·exact ⟨o',keep b o' q (f b o e).1 (f b o e).2 h⟩
 ·obtain ⟨m,⟨o,es,ep,M,r⟩,hl⟩:=I.loc;obtain ⟨sl,P⟩:=slot _ o M W;refine ⟨m,⟨_,es,ep,P,r⟩,λi x v e1 l Q=>?_⟩;obtain ⟨u,D,J⟩:=hl i x v e1 l Q;refine ⟨u,D,?_⟩;rcases J with z | ⟨k,a,e,z⟩
  ·exact .inl z
  ·exact .inr ⟨k,a,e,A z⟩
 ·obtain ⟨v,z⟩:=I.cell x a e;exact ⟨v,A z⟩
 ·obtain ⟨V,U,C,B,S⟩:=I.pin p hp;refine ⟨keep p.1 p.2 V (c.pp p hp).1 (c.pp p hp).2 λz=>?_,U,C,B,S⟩;rcases ac.mp (I.stkSub p.1 z) with q | q;·exact C q
  ·exact B q
 ·refine (I.hok b u e).stay (λd v O q=>?_) (λ_ q=>q) λ_ _ q=>q;have hd:H d≠none:=by
   rcases O with z | z;·rw [z,e]; simp
   ·rw [z]; simp
  exact keep d v q (λz=>hd (by rw [z]; exact c.hex)) (λz=>hd (by rw [z]; exact c.hT)) λz=>hd (I.stkFree d z)
theorem QR {A:iq} (I:Inv X pins σ H s) (h:X.ex=[]) (c:Caught X pins H s ex T Cc) (slot:∀ b o,s.heap.get? b=ij o->b∈frs X.stack->∃ sl,h2.get? b=ij { o with slots:=sl })
  (tr:h2.TracedW (bi s.heap (yW ex (ij T) X)) ex (.ref Cc) A):∃ l,Caught X pins H { s with heap:=h2 } ex l Cc:=by
 obtain ⟨n,vs,l,r,ts,z,⟨x,_⟩,w,v,k,j,g,f,t⟩:=tr;have a:∀ o,s.heap.get? l=ij o->l=T:=λo e=>by
  have m:l∈yW ex (ij T) X:=by refine bP λhn=>?_;rw [cZ _ e hn] at k;cases k
  rcases ac.mp m with q | m;·exact absurd q j
  ·rcases aj.mp m with q | q;·simpa using q
   ·obtain ⟨o',d,y⟩:=yX I q;obtain ⟨sl,i⟩:=slot l o' d q;rw [g] at i;cases i;exact absurd f (y ts)
 refine ⟨l,⟨n,vs,r,ts,z,x,w,v,j,g,f,t⟩,c.hex,?_,c.n1,?_,λp hp=>⟨(c.pp p hp).1,?_⟩⟩
 ·cases q:H l with
  | none=>rfl
  | some u=>obtain ⟨o,e⟩:=qek I.hok q;rw [a o e,c.hT] at q; cases q
 ·cases q:X.s₀.heap.get? l with
  | none=>rfl
  | some o=>obtain ⟨o',d⟩:=I.base.there l o q (by rw [h]; simp);rw [a o' d,c.n2] at q; cases q
 ·rintro rfl;exact (c.pp p hp).2 (a _ (I.pin p hp).1)
theorem QS (st:(bi s.heap (yW ex (ij T) X)).StaysIn h2):∀ b o,s.heap.get? b=ij o->b≠ex->b≠T->b∉frs X.stack->h2.get? b=ij o:=λb o e h1 h2 g=>st b o (cZ _ e λc=>by
  rcases ac.mp c with q | c;·exact h1 q
  ·rcases aj.mp c with q | q;·exact h2 (by simpa using q)
   ·exact g q)
theorem Vu (c:Caught X pins H s ex T Cc):∃ A,s.heap.TracedW (bi s.heap (yW ex (ij T) X)) ex (.ref Cc) A:=by obtain ⟨o,vs,a,ts,d,g,q,p,b,l,k,j⟩:=c.fly;have z:0 < vs.size:=Nat.lt_of_succ_lt (Array.getElem?_eq_some_iff.mp p).1;exact ⟨vs[0],o,vs,T,a,ts,d,⟨g,by simp [z]⟩,q,p,cR _ (ae _ (bK _ 'g')),b,l,k,j⟩
theorem QT (I:Inv X pins σ H s) (h:X.stack=X.env::X.outer):s.heap.FunFrames (bi s.heap (yW ex (ij T) X)) (X.env::X.outer):=by rw [<-h];exact PySem.W.funFrames_hide I.stack λenv i b d=>ae _ (aR _ (Vs h env i b d))
theorem Vv {E:iq->iw->Prop} {Q:Unit->iw->Prop} (hA:A.frames=ij X.stack) (I:Inv X pins σ H s) (h:X.stack=X.env::X.outer) (r:X.env.frame=ij X.env.locals) (a:X.ex=[]) (c:Caught X pins H s ex T Cc)
  (k:∀ s' l,Inv X pins σ H s'->Caught X pins H s' ex l Cc->Q () s'):iB 'c' A (noteFrame (.ref ex) X.env) (λ_ s1=>iB 'c' A (setFlight (.ref ex) im) Q E s1) E s:=by
 obtain ⟨t,tr⟩:=Vu c;refine wpAny_looks_onW (by rw [hA,h]) r ⟨λb o e=>dQ _ e,cR _ (ac.mpr (.inl rfl)),QT I h,tr⟩ λh1 d j=>?_;refine wpAny_landsW d λh2 g u=>?_;have slot:∀ b o,s.heap.get? b=ij o->b∈frs X.stack->∃ sl,h2.get? b=ij { o with slots:=sl }:=λb o e n=>by obtain ⟨o',i,y⟩:=yX I n;rw [e] at i; cases i;obtain ⟨sl,q⟩:=j b o e y;obtain ⟨f,m⟩:=u b _ q y;exact ⟨f,m⟩
 obtain ⟨l,U⟩:=QR I a c slot g.2.2.2;have p:Inv X pins σ H { s with heap:=h2 }:=YC I h r a c (QS g.1) slot;exact k { s with heap:=h2 } l p U
theorem gh {A:iJ} {E:iq->iw->Prop} {Q:Unit->iw->Prop} (I:Inv X pins σ H s) (h:X.stack=X.env::X.outer) (r:X.env.frame=ij X.env.locals) (a:X.ex=[]) (c:Caught X pins H s ex T Cc)
  (k:∀ s' l,Inv X pins σ H s'->Caught X pins H s' ex l Cc->Q () s'):iB 'c' A (setFlight (.ref ex) im) Q E s:=by
 obtain ⟨g,tr⟩:=Vu c;refine wpAny_setFlight_noneW (base:=bi s.heap (yW ex (ij T) X)) (λb o e=>dQ _ e) (QT I h) tr λh2 st _ t kp=>?_;have slot:∀ b o,s.heap.get? b=ij o->b∈frs X.stack->∃ sl,h2.get? b=ij { o with slots:=sl }:=λb o e f=>by obtain ⟨o',d,y⟩:=yX I f;rw [e] at d; cases d;exact ⟨o.slots,kp b o e y⟩
 obtain ⟨l,U⟩:=QR I a c slot t;exact k _ l (YC I h r a c (QS st) slot) U
theorem qhR (I:Inv X pins σ H s) (c:Caught X pins H s ex T Cc):Inv X pins σ (upd H ex (QN ex Cc)) s:=by
 obtain ⟨f,vs,B,ts,k,A,g,_⟩:=c.fly;have y:∀ b o,s.heap.get? b=ij o->(∀ vs,o.data≠.fields vs)->b≠ex:=λb o e n=>by rintro rfl; rw [k] at e; cases e; exact n _ g
 have up:∀ {b:Addr} {u:HO},H b=ij u->upd H ex (QN ex Cc) b=ij u:=λ{b u} e=>by rw [qB (qL e c.hex)]; exact e
 refine ⟨I.ok,I.os,I.bare,⟨I.base.keep,I.base.slot,λb o e n hx=>?_,I.base.there,λb xs e=>up (I.base.tups b xs e),λb o u e=>up (I.base.frzs b o u e),λb ps e=>?_⟩,I.loc,I.cell,?_,λx a e=>?_,λp hp=>?_,λb u e=>?_,I.len⟩;·rw [qB (by rintro rfl; rw [c.n1] at e; cases e)]; exact I.base.free b o e n hx
 ·obtain ⟨more,z⟩:=I.base.tbls b ps e;exact ⟨more,up z⟩
 ·obtain ⟨m,⟨o,es,ep,l,hd,_⟩,_⟩:=I.loc;rw [qB (y _ o l λvs z=>by rw [hd] at z; cases z)]; exact I.free
 ·obtain ⟨v,oc,e1,i⟩:=I.cell x a e;rw [qB (y _ oc e1 λvs z=>by rw [i] at z; cases z)]; exact I.freeC x a e
 ·obtain ⟨t,j,w⟩:=I.pin p hp;refine ⟨t,?_,w⟩;rw [qB (c.pp p hp).1]; exact j
 ·by_cases q:b=ex;·subst q;rw [qu] at e; cases e;refine ⟨⟨f,vs,k,A,g⟩,⟨f,k⟩,λh1 h2 ⟨o1,h,e1,i,D⟩ r=>⟨o1,h,r _ e1,i,D⟩⟩
  ·rw [qB q] at e;exact (I.hok b u e).stay (λ_ _ _ z=>z) (λd z=>up z) λd xs z=>up z
def JE (X:Cx) (pn:Pns) (xe:iq->iw->Prop):Cx:={ X with pn:=pn,xe:=xe }
theorem qae (I:Inv X pins σ H s):Inv (JE X (X.pn++pins) xe) [] σ H s:=
 ⟨⟨I.ok.mod,I.ok.kind,I.ok.glob,I.ok.blt,I.ok.above,I.ok.inj,I.ok.has,I.ok.cab,I.ok.hd,I.ok.frames,I.ok.stk,I.ok.exf,I.ok.bs,I.ok.bsz,I.ok.noex,I.ok.exfs,I.ok.funs,I.ok.frf⟩,I.os,I.bare,I.base,I.loc,I.cell,I.free,I.freeC,λp hp=>I.pin p (by simpa [JE] using hp),I.hok,I.len⟩
theorem ko {a:Pns} (I:Inv (JE X (X.pn++pins) xe) a σ H s):Inv X pins σ H s:=
 ⟨⟨I.ok.mod,I.ok.kind,I.ok.glob,I.ok.blt,I.ok.above,I.ok.inj,I.ok.has,I.ok.cab,I.ok.hd,I.ok.frames,I.ok.stk,I.ok.exf,I.ok.bs,I.ok.bsz,I.ok.noex,I.ok.exfs,I.ok.funs,I.ok.frf⟩,I.os,I.bare,I.base,I.loc,I.cell,I.free,I.freeC,λp hp=>I.pin p (bK _ hp),I.hok,I.len⟩
noncomputable def qgT (X:Cx) (e:iq):Cx:={ X with A:=X.A.mark (ij e),calm:=ir,xe:=λ_ _=>False }
theorem YD {e:iq} (I:Inv X pins σ H s):Inv (qgT X e) pins σ H s:=
 ⟨⟨I.ok.mod,I.ok.kind,I.ok.glob,I.ok.blt,I.ok.above,I.ok.inj,I.ok.has,I.ok.cab,λz=>absurd z (by show ¬(ir=iu); exact bj),I.ok.frames,I.ok.stk,I.ok.exf,I.ok.bs,I.ok.bsz,I.ok.noex,I.ok.exfs,I.ok.funs,I.ok.frf⟩,I.os,I.bare,I.base,I.loc,I.cell,I.free,I.freeC,I.pin,I.hok,I.len⟩
theorem qaf {e:iq} (hok:X.Ok) (I:Inv (qgT X e) pins σ H s):Inv X pins σ H s:=
 ⟨hok,I.os,I.bare,I.base,I.loc,I.cell,I.free,I.freeC,I.pin,I.hok,I.len⟩
theorem Zj {j:Str->Option iq} {t:Nat} (I:Inv X pins σ H s) (k:X.stack=X.env::X.outer) (r:X.env.frame=ij X.env.locals) (h:h'.Ns X.env.locals j) (A:bI X.env.locals s.heap h'):Inv X pins (σ.map λ_=>im) H { s with heap:=h',toks:=t }:=by
 have L:∀ b o,X.s₀.heap.get? b=ij o->b≠X.env.locals:=λb o e=>aC (aF (aw e) I.ok.above);obtain ⟨m,⟨E,es,ep,Z,f,_⟩,_⟩:=id I.loc;have y:∀ {a:Addr} {v:Option iq},s.heap.IsCell a v->a≠X.env.locals:=λ{a v} ⟨oc,e1,c⟩=>by rintro rfl; rw [Z] at e1; cases e1; rw [f] at c; cases c
 refine ⟨I.ok,I.os,I.bare,⟨λb o e n g hx=>(A.2 b (L b o e)).trans (I.base.keep b o e n g hx),λb o e n g hx=>?_,I.base.free,λb o e hx=>?_,I.base.tups,I.base.frzs,I.base.tbls⟩,⟨j,h,λi x v e1 c=>?_⟩,λx a e=>?_,I.free,I.freeC,λp hp=>?_,λb u e=>?_,by simp [I.len]⟩;·obtain ⟨sl,q⟩:=I.base.slot b o e n g hx;exact ⟨sl,(A.2 b (L b o e)).trans q⟩
 ·obtain ⟨o',q⟩:=I.base.there b o e hx;exact ⟨o',(A.2 b (L b o e)).trans q⟩
 ·simp only [aH] at c;cases q:σ[i]? <;> rw [q] at c <;> cases c
 ·obtain ⟨v,z⟩:=I.cell x a e;exact ⟨v,z.sameBut A (y z)⟩
 ·obtain ⟨D,C,l,B⟩:=I.pin p hp;exact ⟨(A.2 p.1 l).trans D,C,l,B⟩
 ·refine (I.hok b u e).stay (λd v w q=>(A.2 d ?_).trans q) (λ_ q=>q) λ_ _ q=>q;rintro rfl;rcases w with z | z;·rw [<-z,I.free] at e; cases e
  ·rw [I.free] at z; cases z
end
def qjj (C:Ct) (own:List Nat) (E:XK):Ct:=⟨C.K,C.cv,E,own,C.mr,C.ol,own,λ_ h=>h⟩
noncomputable def exC (C:Ct):Ct:=⟨C.K,C.cv,λ_ _ _=>False,[],C.mr,[],[],λ_ h=>h⟩
noncomputable def WP (n:Nat) (j:Option Nat) (hit:Str->Option Addr) (fb fs:qU):qU:=λρ=>match fb ρ with
 | .exc c ρe=>match hit c with
  | some Cc=>match fs (match j with | some j=>(aJ n im).set j (ij (.xcp Cc)) | none=>aJ n im) with
   | .ok (.rt d,_)=>.ok (.rt d,ρe)
   | _=>.bad
  | none=>.bad
 | o=>o
def qhS (C:Ct) (own:List Nat) (σ:St) (F H:Hp) (r:Out (Fl×Sl)):XK:=λcls _ H'=>∃ c ρe F',r=.exc c ρe/\cls=C.cv c/\Same F' H'/\ZZ C.K own F' H' σ ρe/\Chg (OA own σ) F H F' H'
def qjk (X:Cx) (pins:Pns) (E:XK):iq->iw->Prop:=λe s'=>∃ σ ex T Cc H',e=.ref ex/\Inv X pins σ H' s'/\Caught X pins H' s' ex T Cc/\E (.ref Cc) im H'
section
variable {fb fs:qU}
theorem QU {E:XK} (c:X.ex=[]):vK (CXk X.prog X.w) (JE X (X.pn++pins) (qjk X pins E)) E:=λa σ H s e s' I h=>by
 obtain ⟨ex,T,Cc,H',rfl,os,bare,un,hok,l,e1,i,n1,n2,k⟩:=h;have old:∀ b,s.heap.get? b=im->X.s₀.heap.get? b=none:=λb f=>by
  cases q:X.s₀.heap.get? b with
  | none=>rfl
  | some o=>obtain ⟨o',d⟩:=I.base.there b o q (by show b∉X.ex; rw [c]; simp);rw [f] at d; cases d
 have g:Inv (JE X (X.pn++pins) (qjk X pins E)) a σ H' s':=I.call' (ch:=[]) os un hok bare (λb z=>absurd z 'g');refine ⟨σ,ex,T,Cc,H',rfl,ko g,⟨l,e1,i,old ex n1,old T n2,λp hp=>?_⟩,k⟩;have q:=(I.pin p (bK _ hp)).1;exact ⟨λz=>(by rw [z,n1] at q; cases q),λz=>(by rw [z,n2] at q; cases q)⟩
theorem Nx.untry {E:XK} {σ':St} {ρ':Sl} (g:∀ i∈C.io,i∈own) (n:Nx (qjj C own E) o1 o2 σ F H ρ' σ' F' H'):Nx C o1 o2 σ F H ρ' σ' F' H':=⟨n.rep,n.chg,n.oa,λi hi=>n.io i (g i hi)⟩
theorem YE {D:Ends} {j:Option Nat} {hit:Str->Option Addr} (g:∀ i∈C.io,i∈own) (r:Rep C.K own F H σ ρ) (h:PoS C own own' σ F H (WP n j hit fb fs ρ) D):tSt (qjj C own (qhS C own σ F H (fb ρ))) own own' fb D σ H:=by
 refine ⟨F,ρ,r,?_⟩;unfold WP at h;cases q:fb ρ with
 | ok p=>
  rw [q] at h;obtain ⟨l,ρ'⟩:=p;cases l with
  | nx=>exact λσ' F' H' a=>h σ' F' H' (a.untry g)
  | rt d=>exact λv σ' F' H' s io c e mo=>h v σ' F' H' s (λi hi=>io i (g i hi)) c (λi hi=>e i (g i hi)) mo
  | bk=>exact λσ' F' H' a=>h σ' F' H' (a.untry g)
  | ct=>exact λσ' F' H' a=>h σ' F' H' (a.untry g)
 | exc c ρe=>exact λF' H' s io ch=>⟨c,ρe,F',rfl,rfl,s,io,ch⟩
 | bad=>rw [q] at h; exact h.elim
theorem Vw {f e:Hp} {Cc:Addr} {D:Ends} {d:D2.D} {v:V} {w:St} (g:∀ i∈C.io,i∈own) (h:PoS C own own' σ F H (.ok (.rt d,ρe)) D) (hn:H1 ex=im) (A:Same F1 H1) (io:ZZ C.K own F1 H1 σ ρe) (ch:Chg (OA own σ) F H F1 H1)
  (s3:Same f e) (J:Chg (OA [] w) (upd F1 ex (QN ex Cc)) (upd H1 ex (QN ex Cc)) f e) (mo:MoIs C.K C.mr (upd H1 ex (QN ex Cc)) f e v d):D.rt v e:=by
 obtain ⟨s,c2⟩:=wF (u:=QN ex Cc) A hn;have no:∀ {b},OA [] w b->False:=λ⟨i,hi,_⟩=>by simp at hi
 have j:Chg No (upd F1 ex (QN ex Cc)) (upd H1 ex (QN ex Cc)) f e:=J.mono λx z=>no z;have c:Chg No F1 H1 f e:=c2.trans j λ_ z=>z.elim;refine h v σ f e s3 (λi hi=>?_) (ch.trans c λ_ z=>z.elim) (λ_ _=>rfl) (MoIs.back (Ha:=e) (ch.trans c2 λ_ z=>z.elim) mo);obtain ⟨d',a,e1,l,k,m⟩:=io i (g i hi);refine ⟨d',a,e1,l,?_,m.grow c.grow λo q=>c.keep a o q λz=>z⟩;cases q:f a with
 | none=>rfl
 | some u=>
  rcases c.new a (by rw [q]; simp) with z | z | z;·exact absurd k z
  ·exact absurd z m.there
  ·exact z.elim
theorem qfI {cn en:Str} {np J pos:Pos} {body b:List Stmt} {b0:Stmt} {cls:iq} {n j:Nat} {hit:Str->Option Addr} {own2:List Nat} (t:X.ex=[]) (k:X.stack=X.env::X.outer) (x:X.env.frame=ij X.env.locals)
  (hg:Gl X cn) (hm:X.mg cn=ij cls) (L:∀ c Cc,hit c=ij Cc->C.cv c=.ref Cc/\bM X.K (.ref Cc) cls=ij iu) (hN:X.N.Nodup) (hj:X.N[j]?=ij en) (hx:X.env.scope.names.lookup en=ij .local) (hn:X.N.length=n)
  (hb:∀ pn xe E,vK (CXk X.prog X.w) (JE X pn xe) E->PSs (JE X pn xe) body (tSt (qjj C own E) own own' fb)) (hs:∀ e,PSs (qgT X e) (b0::b) (tSt (exC C) [] own2 fs)) (o:∀ i∈C.io,i∈own:=by exact kZ rfl) (hd:Dbg cn:=by decide) :
  PS X (.Try body [.ExceptHandler (ij (.Name cn np)) (ij en) (b0::b) J] [] [] pos) (tSt C own own' (WP n (ij j) hit fb fs)):=by
 refine ⟨?_⟩;intro pins s σ H D I ⟨F,ρ,rp,h⟩;have run:=hb (X.pn++pins) (qjk X pins (qhS C own σ F H (fb ρ))) (qhS C own σ F H (fb ρ)) (QU t) [] s σ H D (qae I) (YE o rp h);refine wpAny_Try_except (j3 run (λf s1 l=>?_) λe s1 he=>?_)
 ·cases f with
  | next=>obtain ⟨σ',H',y,q⟩:=l;exact WS pins s1 σ' H' D (ko y) q
  | brk=>obtain ⟨σ',H',y,q⟩:=l; exact ⟨σ',H',ko y,q⟩
  | cont=>obtain ⟨σ',H',y,q⟩:=l; exact ⟨σ',H',ko y,q⟩
  | ret u=>obtain ⟨v,σ',H',y,r,q⟩:=l; exact ⟨v,σ',H',ko y,r,q⟩
 ·obtain ⟨σ1,ex,T,Cc,H1,rfl,I1,c1,c,ρe,F1,hr,P,A,Z,ch1⟩:=he;refine Vv I1.ok.frames I1 k x t c1 λs2 T2 I2 c2=>?_;unfold WP at h;rw [hr] at h;cases Y:hit c with
  | none=>simp only [Y] at h; exact h.elim
  | some Ch=>
   simp only [Y] at h;obtain ⟨hc1,hc2⟩:=L c Ch Y;rw [hc1] at P;obtain rfl:Cc=Ch:=by injection P
   refine wpAny_handleBy_cons (codeAny_handlers_test (xD (X:=qgT X (.ref ex)) (YD I2) hg hm ?_ hd)) (by intro q; cases q);obtain ⟨oe,vs,oT,ts,a1,a2,a3,_⟩:=id c2.fly;have LT:PySem.W.Looks 'c' s2.heap (lX (.ref ex)) (.ref Cc):=by rw [<-a2]; exact (PySem.W.Looks.ld a1).andThen .now
   refine (PySem.W.exm_one I2.kIn LT hc2) _ _ _ _ (λ_ _ z=>z) ?_;refine codeAny_handlers_suite_as (gh I2 k x t c2 λs3 T3 I3 c3=>?_);have I4:=qhR I3 c3;refine Ju I4 hN hj (.inl hx) (v:=.ref ex) rfl (λs5 I5=>?_) (.inr hx);have g:j < n:=by rw [<-hn]; exact (aB.mp hj).1
   have I6:Inv X pins ((aJ n im).set j (ij (.ref ex))) (upd H1 ex (QN ex Cc)) s5:=I5.weak (by simp [I3.len,hn]) λi v e=>by
    by_cases B:i=j;·subst B;rw [aG (by simpa using g)] at e;rw [aG (by rw [I3.len,hn]; exact g)];exact e
    ·rw [ax (bo B),bw] at e;split at e <;> cases e
   obtain ⟨Q,cc2⟩:=wF (u:=QN ex Cc) A c1.hex;have S:Rep C.K [] (upd F1 ex (QN ex Cc)) (upd H1 ex (QN ex Cc)) ((aJ n im).set j (ij (V.ref ex))) ((aJ n im).set j (ij (.xcp Cc))):=by
    refine ⟨Q,by simp,λi d hi e=>?_,λi d hi=>by simp at hi,λi hi=>by simp at hi,λi j a hi=>by simp at hi⟩;by_cases B:i=j;·subst B;rw [aG (by simpa using g)] at e;cases e;exact ⟨.ref ex,by rw [aG (by simpa using g)],.xcp qu⟩
    ·rw [ax (bo B),bw] at e;split at e <;> cases e
   have G:tSt (exC C) [] own2 fs { nx:=λ_ _=>False,rt:=D.rt } ((aJ n im).set j (ij (V.ref ex))) (upd H1 ex (QN ex Cc)):=by
    refine ⟨_,_,S,?_⟩;cases U:fs ((aJ n im).set j (ij (.xcp Cc))) with
    | ok p=>
     obtain ⟨fl,ρ5⟩:=p;rw [U] at h;cases fl with
     | rt d=>exact λv σ' F3 H3 s3 io c3 e mo=>Vw (own':=own') (D:=D) (ex:=ex) (Cc:=Cc) o h c1.hex A Z ch1 s3 c3 mo
     | nx=>exact h.elim
     | bk=>exact h.elim
     | ct=>exact h.elim
    | exc _ _=>rw [U] at h; exact h.elim
    | bad=>rw [U] at h; exact h.elim
   refine j3 (hs (.ref ex) pins s5 _ _ _ (YD I6) G) (λf s7 l=>?_) λ_ _ z=>z.elim;cases f with
   | next=>obtain ⟨_,_,_,q⟩:=l; exact q.elim
   | brk=>obtain ⟨_,_,_,q⟩:=l; exact q.elim
   | cont=>obtain ⟨_,_,_,q⟩:=l; exact q.elim
   | ret u=>obtain ⟨v,O,H7,I7,r7,q7⟩:=l;have M:Inv X pins O H7 s7:=qaf I.ok I7;obtain ⟨m,hns,_⟩:=id M.loc;refine wpAny_nameGoes hx hns (by rw [I.ok.kind]; rfl) λh' m' hn' R=>?_;exact ⟨v,_,H7,Zj M k x hn' R,r7,q7⟩
theorem qcW {cn:Str} {np J pos:Pos} {body b:List Stmt} {b0:Stmt} {cls:iq} {n:Nat} {hit:Str->Option Addr} {own2:List Nat} (m:X.ex=[]) (l:X.stack=X.env::X.outer) (x:X.env.frame=ij X.env.locals)
  (hg:Gl X cn) (hm:X.mg cn=ij cls) (L:∀ c Cc,hit c=ij Cc->C.cv c=.ref Cc/\bM X.K (.ref Cc) cls=ij iu) (hn:X.N.length=n)
  (hb:∀ pn xe E,vK (CXk X.prog X.w) (JE X pn xe) E->PSs (JE X pn xe) body (tSt (qjj C own E) own own' fb)) (hs:∀ e,PSs (qgT X e) (b0::b) (tSt (exC C) [] own2 fs)) (k:∀ i∈C.io,i∈own:=by exact kZ rfl) (hd:Dbg cn:=by decide) :
  PS X (.Try body [.ExceptHandler (ij (.Name cn np)) im (b0::b) J] [] [] pos) (tSt C own own' (WP n im hit fb fs)):=by
 refine ⟨?_⟩;intro pins s σ H D I ⟨F,ρ,rp,h⟩;have run:=hb (X.pn++pins) (qjk X pins (qhS C own σ F H (fb ρ))) (qhS C own σ F H (fb ρ)) (QU m) [] s σ H D (qae I) (YE k rp h);refine wpAny_Try_except (j3 run (λf s1 g=>?_) λe s1 he=>?_)
 ·cases f with
  | next=>obtain ⟨σ',H',o,q⟩:=g;exact WS pins s1 σ' H' D (ko o) q
  | brk=>obtain ⟨σ',H',o,q⟩:=g; exact ⟨σ',H',ko o,q⟩
  | cont=>obtain ⟨σ',H',o,q⟩:=g; exact ⟨σ',H',ko o,q⟩
  | ret u=>obtain ⟨v,σ',H',o,r,q⟩:=g; exact ⟨v,σ',H',ko o,r,q⟩
 ·obtain ⟨σ1,ex,T,Cc,H1,rfl,I1,V,c,ρe,F1,hr,P,A,G,Q⟩:=he;refine Vv I1.ok.frames I1 l x m V λs2 T2 Z c2=>?_;unfold WP at h;rw [hr] at h;cases Y:hit c with
  | none=>simp only [Y] at h; exact h.elim
  | some Ch=>
   simp only [Y] at h;obtain ⟨O,M⟩:=L c Ch Y;rw [O] at P;obtain rfl:Cc=Ch:=by injection P
   refine wpAny_handleBy_cons (codeAny_handlers_test (xD (X:=qgT X (.ref ex)) (YD Z) hg hm ?_ hd)) (by intro q; cases q);obtain ⟨oe,vs,oT,ts,a1,a2,a3,_⟩:=id c2.fly;have LT:PySem.W.Looks 'c' s2.heap (lX (.ref ex)) (.ref Cc):=by rw [<-a2]; exact (PySem.W.Looks.ld a1).andThen .now
   refine (PySem.W.exm_one Z.kIn LT M) _ _ _ _ (λ_ _ z=>z) ?_;refine codeAny_handlers_suite (gh Z l x m c2 λs3 T3 I3 R=>?_);have I4:=qhR I3 R;have I6:Inv X pins (aJ n im) (upd H1 ex (QN ex Cc)) s3:=I4.weak (by simp [I3.len,hn]) λi v e=>by rw [bw] at e;split at e <;> cases e
   obtain ⟨B,cc2⟩:=wF (u:=QN ex Cc) A V.hex;have S:Rep C.K [] (upd F1 ex (QN ex Cc)) (upd H1 ex (QN ex Cc)) (aJ n im) (aJ n im):=by refine ⟨B,by simp,λi d hi e=>?_,λi d hi=>by simp at hi,λi hi=>by simp at hi,λi j a hi=>by simp at hi⟩;rw [bw] at e;split at e <;> cases e
   have t:tSt (exC C) [] own2 fs { nx:=λ_ _=>False,rt:=D.rt } (aJ n im) (upd H1 ex (QN ex Cc)):=by
    refine ⟨_,_,S,?_⟩;cases U:fs (aJ n im) with
    | ok p=>
     obtain ⟨fl,ρ5⟩:=p;rw [U] at h;cases fl with
     | rt d=>exact λv σ' F3 H3 s3 io R e mo=>Vw (own':=own') (D:=D) (ex:=ex) (Cc:=Cc) k h V.hex A G Q s3 R mo
     | nx=>exact h.elim
     | bk=>exact h.elim
     | ct=>exact h.elim
    | exc _ _=>rw [U] at h; exact h.elim
    | bad=>rw [U] at h; exact h.elim
   refine j3 (hs (.ref ex) pins s3 _ _ _ (YD I6) t) (λf s7 g=>?_) λ_ _ z=>z.elim;cases f with
   | next=>obtain ⟨_,_,_,q⟩:=g; exact q.elim
   | brk=>obtain ⟨_,_,_,q⟩:=g; exact q.elim
   | cont=>obtain ⟨_,_,_,q⟩:=g; exact q.elim
   | ret u=>obtain ⟨v,y,H7,I7,r7,q7⟩:=g;exact ⟨v,y,H7,qaf I.ok I7,r7,q7⟩
end
structure RoomQ (k:Nat) (A:iJ):Prop where
 dp:A.depth+3 * k+5 < lS
 un:A.units+16 * k+200 < iW
theorem RoomQ.deeper {k:Nat} (r:RoomQ (k+1) A) (env:Env):RoomQ k (A.deeper env):=
 ⟨by have:=r.dp; show A.depth+1+3 * k+5 < _; lia,by have:=r.un; show A.units+3+16 * k+200 < _; lia⟩
theorem RoomQ.depth {k:Nat} (r:RoomQ k A):A.depth < lS:=by have:=r.dp; lia
theorem RoomQ.units {k:Nat} (r:RoomQ k A):A.units+64 < iW:=by have:=r.un; lia
theorem _root_.L2.Room.quiet {k:Nat} (r:Room k A):RoomQ k A:=⟨r.dp,r.un⟩
theorem RoomQ.mark {k:Nat} (r:RoomQ k A) (e:Option iq):RoomQ k (A.mark e):=⟨r.dp,r.un⟩
structure FnQ (P:iF) (w:iG) (K:Frag) (mg:Str->Option iq) (base:Heap) (CX:CXT) (k:Nat) (f:Addr) (fd:k6) (ps:List Str) (sp:Sp):Prop where
 len:∀ vs H Q E,sp vs H Q E->vs.length=ps.length
 run:∀ (A:iJ) (outer:List Env) (s:iw) (H:Hp) (args:Args) (us:List iq) (vs:List V) (Q:VK) (E:XK),RoomQ k A->Env0 P w K mg base A outer s H->mz s fd args (ps.zip us)->Vals vs us->sp vs H Q E ->lg (model P w) A (.call (.ref f) args) (CR CX outer P w H s Q E) s
def cxQ (CX:CXT) (P:iF) (w:iG) (K:Frag) (mg:Str->Option iq) (base:Heap) (N:List Str) (qual:Str) (scope:lz) (f:Addr) (cd:iq) (A:iJ) (outer:List Env) (s:iw) (H:Hp) (E:XK):Cx where
 prog:=P
 w:=w
 K:=K
 mg:=mg
 base:=base
 A:=A.deeper (lf qual scope s.heap.objs.size f cd)
 N:=N
 s₀:=s
 H₀:=H
 env:=lf qual scope s.heap.objs.size f cd
 outer:=outer
 stack:=lf qual scope s.heap.objs.size f cd::outer
 ex:=[]
 calm:=ir
 fn:=λ_=>iu
 pn:=[]
 xe:=λe s'=>iB (model P w) (A.deeper (lf qual scope s.heap.objs.size f cd)) (leaving (lf qual scope s.heap.objs.size f cd) e) (λ_ a=>CX outer H s E e a) (λb a=>CX outer H s E b a) s'
theorem Zk {CX:CXT} {P:iF} {w:iG} {K:Frag} {mg:Str->Option iq} {base:Heap} {N ps:List Str} {qual:Str} {scope:lz} {f:Addr} {cd:iq} {A:iJ} {outer:List Env} {s s1:iw} {H:Hp} {E:XK} {us:List iq} {vs:List V}
  (S:FnScope N ps scope) (e0:Env0 P w K mg base A outer s H) (hl:vs.length=ps.length) (r:Vals vs us)
  (x:InCallC s s.heap.objs.size (bindL (lf qual scope s.heap.objs.size f cd).kindOf (ps.zip us) λ_=>im) (mB (s.heap.objs.size+1) scope.names []) (bindC (lf qual scope s.heap.objs.size f cd).kindOf (ps.zip us) λ_=>im) s1) :
  Inv (cxQ CX P w K mg base N qual scope f cd A outer s H E) [] (vb N vs) H s1:=by
 have o:ps.length<=N.length:=by have:=congrArg fB S.pre; rw [fN] at this; lia
 obtain ⟨h1,tk,rfl,l⟩:=x.done;have d:∀ b:Addr,b∉(cxQ CX P w K mg base N qual scope f cd A outer s H E).ex:=λb z=>absurd (show b∈([]:List Addr) from z) 'g';refine ⟨⟨e0.mod,S.kind,rfl,rfl,aA _,λy z c h1 h2=>?_,λy D=>?_,λy c _ h=>?_,λz=>absurd z (by show ¬(ir=iu); exact bj),Around.frames_deeper e0.frames,.inr ⟨rfl,rfl⟩,λb z=>absurd z (d b),e0.bs,e0.bsz,λb _ _=>d b,λb z=>absurd z (d b),e0.funs,e0.frf⟩,rfl,e0.bare,Un.kept l,⟨_,x.toInCall.ns,λi y v h1 h2 B=>?_⟩,λy c h=>⟨_,x.cell y c h⟩,e0.hok.fresh (aA _),λy c h=>?_,λp hp=>absurd (show p∈([]:Pns) from hp) 'g',e0.hok.kept l,?_⟩;·exact name_of_addr x.apart (br h1) (br h2)
 ·have D:scope.names.lookup y=ij .cell\/scope.names.lookup y=ij .free:=D;rcases D with D | D;·exact zy D
  ·exact absurd rfl (S.nofree _ (br D))
 ·exact c8 (x.above y c (br h))
 ·have hi:i < vs.length:=by
   unfold vb at h2;by_cases hi:i < vs.length;·exact hi
   ·rw [bZ (by simpa using hi)] at h2;rw [bw] at h2;split at h2 <;> cases h2
  have t:vs[i]?=ij v:=by
   unfold vb at h2;rw [cM (by simpa using hi),aH] at h2;cases e:vs[i]? with
   | none=>rw [e] at h2; cases h2
   | some a=>rw [e] at h2; cases h2; rfl
  obtain ⟨u,j,m⟩:=r.get t;have hp:ps[i]?=ij y:=by rw [<-S.pre,List.getElem?_take_of_lt 'b']; exact h1
  have g:ps.Nodup:=by rw [<-S.pre]; exact S.nd.sublist (List.take_sublist _ _)
  refine ⟨u,m,?_⟩;rcases S.par y (aP hp) with k | k;·exact .inl ⟨k,zV g hp j k⟩
  ·obtain ⟨c,e⟩:=zy (n:=s.heap.objs.size+1) k;refine .inr ⟨.inl k,c,e,?_⟩;have q:=x.cell y c e;rw [zW g hp j (by show scope.names.lookup y≠_; rw [k]; decide)] at q;exact q
 ·exact e0.hok.fresh (c8 (x.above y c (br h)))
 ·unfold vb;show _=N.length;rw [af,ay,dm]
  lia
theorem qhT {CX:CXT} {P:iF} {w:iG} {K:Frag} {mg:Str->Option iq} {base:Heap} {k:Nat} {f:Addr} {name qual:Str} {params:Arguments} {body:List Stmt} {scope:lz} {i kV doc pm cdv ct oc:iq} {an od:Option Addr}
  {osl:Array (Option iq)} {N ps:List Str} {sp:Sp} (j:K.lookup f=ij ⟨oc,od,.func (ce name qual params body scope i kV doc pm an cdv ct),osl⟩) (g:codeIn K cdv qual=iu) (S:FnScope N ps scope)
  (len:∀ vs H Q E,sp vs H Q E->vs.length=ps.length)
  (a:∀ (A:iJ) (outer:List Env) (s:iw) (H:Hp) (vs:List V) (Q:VK) (E:XK),RoomQ k (A.deeper (lf qual scope s.heap.objs.size f cdv))->sp vs H Q E ->∃ t,PSs (cxQ CX P w K mg base N qual scope f cdv A outer s H E) body t/\t { nx:=λ_ H'=>Q .non H',rt:=Q } (vb N vs) H) :
  FnQ P w K mg base CX (k+1) f (ce name qual params body scope i kV doc pm an cdv ct) ps sp:=by
 refine ⟨len,λA outer s H args us vs Q E hr e0 z r p=>?_⟩;have hl:=len _ _ _ _ p;have X:K.In s.heap:=e0.mod.kin.keeps λb o e=>(e0.bs b o e).1;have l:s.heap.NoLimit:=e0.mod.nolimit.keeps λb o e=>(e0.bs b o e).1;have h:∀ y∈ps.zip us,scope.names.lookup y.1=ij .local\/(scope.names.lookup y.1=ij .cell/\((mB (s.heap.objs.size+1) scope.names []).lookup y.1).isSome=iu):=λ⟨n,v⟩ D=>by
  rcases S.par n (cO D).1 with q | q;·exact .inl q
  ·exact .inr ⟨q,d7 _ _ _ (.inl q)⟩
 refine codeAny_call_function hr.depth (X _ _ j) rfl S.co S.gen rfl (PySem.W.codeRec_of X g) (z _ _ _ _ ?_);refine wpAny_newFunctionEnv_cells S.kind h λenv m s1 x=>?_;subst m;refine ⟨l.keeps x.toInCall.keep,codeAny_func ?_⟩;obtain ⟨t,ht,hq⟩:=a A outer s H vs Q E (hr.deeper _) p;have I:Inv (cxQ CX P w K mg base N qual scope f cdv A outer s H E) [] (vb N vs) H s1:=Zk S e0 hl r x;refine j3 (ht [] s1 (vb N vs) H _ I hq) (λB s' c=>?_) λe s' c=>c;have fin:∀ {σ':St} {H':Hp} {v:V} {u:iq},Inv (cxQ CX P w K mg base N qual scope f cdv A outer s H E) [] σ' H' s'->RelV v u->Q v H'->CE outer P w H s Q u s':=
  λ{σ' H' v u} J d q=>⟨v,H',J.os,J.bare,J.base,J.hok,d,q⟩
 cases B with
 | ret u=>obtain ⟨v,σ',H',J,d,q⟩:=c;exact fin J d q
 | next=>obtain ⟨σ',H',J,q⟩:=c;exact fin (v:=V.non) (u:=bV) J rfl q
 | brk=>obtain ⟨_,_,_,q⟩:=c;exact cr q
 | cont=>obtain ⟨_,_,_,q⟩:=c;exact cr q
theorem qj8 {P:iF} {w:iG} {K:Frag} {mg:Str->Option iq} {base:Heap} {CX:CXT} {x qual:Str} {st:Stmt} {f:Addr} {fd:k6} {N ps:List Str} {k:Nat} {cv:Str->iq} {ms:List PM} {mr:Mo} {own':List Nat} {fb:qU} {G:jK}
  (F:Fun K x qual st f fd) (S:FnScope N ps (qR st)) (hl:ms.length=ps.length) (g:∀ i∈WO 0 ms,i∈own') (r:mr=.sh\/∀ ds ρ,(fb (qt N ds))≠.ok (.nx,ρ))
  (a:∀ (cdv:iq) (A:iJ) (outer:List Env) (s:iw) (H:Hp) (E:XK),RoomQ k (A.deeper (lf qual (qR st) s.heap.objs.size f cdv)) ->PSs (cxQ CX P w K mg base N qual (qR st) f cdv A outer s H E) (kG st) (tSt (qfA K cv E ms mr) (kl 0 ms) own' fb))
  (e:∀ ds,Out.le (G ds) (jV N ms fb ds)):FnQ P w K mg base CX (k+1) f fd ps (spD K cv ms mr G):=by
 obtain ⟨oc,od,kV,doc,pm,an,cdv,ct,osl,rfl,j,d⟩:=F.ex;refine qhT j d S (λvs H Q E h=>?_) λA outer s H vs Q E hr p=>?_;·obtain ⟨F,ds,_,b,_⟩:=h;rw [b.length.1,hl]
 ·obtain ⟨F1,ds,c,b,nd,h⟩:=p;refine ⟨_,a cdv A outer s H E hr,?_⟩;exact GW (C:=qfA K cv E ms mr) rfl rfl (r.imp id λz ρ=>z ds ρ) g c b nd (e ds) h
section
variable {G:jK} {fr:ww}
theorem qfJ {k:Nat} {sp:Sp} {E:XK} {pins:Pns} {σ:St} {H:Hp} {s:iw} {Q:VK} {us:List iq} {vs:List V} (F:FnQ X.prog X.w X.K X.mg X.base CX k f fd ps sp) (hr:RoomQ k X.A) (d:Binds X.K fd ps []) (hx:vK CX X E)
  (I:Inv X pins σ H s) (r:Vals vs us) (h:sp (vs++[]) H Q E):iB 'c' X.A (call (.ref f) us) (EP X pins σ Q) X.xe s:=by
 have r2:Vals (vs++[]) (us++[]):=r.append .nil;have hl:(us++[]).length=ps.length:=by rw [<-r2.length]; exact F.len _ _ _ _ h
 refine wpAny_call (lH (F.run X.A X.stack s H ⟨us,[]⟩ (us++[]) (vs++[]) Q E hr I.env0 (d s us I.kIn hl) r2 h) λr s' hq=>?_);cases r with
 | error e=>exact hx pins σ H s e s' I hq
 | ok l=>
  cases l with
  | ret u=>exact I.after hq
  | next=>exact cr hq
  | brk=>exact cr hq
  | cont=>exact cr hq
theorem qcX {k:Nat} {p pos:Pos} (F:FnQ X.prog X.w X.K X.mg X.base CX k f fd ps (spD C.K C.cv ms mr G)) (hr:RoomQ k X.A) (hg:Gl X x) (m:X.mg x=ij (.ref f)) (g:mm X.K (.ref f)=iu) (t:Binds X.K fd ps []) (hx:vK CX X C.E)
  (u:PA X (e::es) (tAr C own as fr)) (a:ms=as.map Qx:=by rfl) (c:∀ i∈je as,i∈own:=by decide) (nd:(je as).Nodup:=by decide) (j:frA as<=1:=by decide) (o:∀ i∈C.ox,i∈own:=by exact kZ rfl) (b:Dbg x:=by decide) (n:iA (e::es) X.env=(ir,eval e X.env)::iA es X.env:=by exact js rfl)
  (l:(iS pos (iA es X.env)).any (·.1)=false:=by exact wA rfl):PE X (.Call (.Name x p) (e::es) [] pos) (tE C own mr (qo as G fr)):=by
 subst a;refine ⟨?_⟩;intro pins s σ H Q I h;refine j4 (xD I hg m ?_ b);refine fq (h₀:=X.base) I.ok.mod.kin g (thn (u pos pins s σ H _ I (Ug o c nd j h)) λus s1 ⟨vs,H1,d,r,q⟩=>⟨d.kIn,?_⟩) n l;exact qfJ F hr t hx d r q
end
def DefOk (P:iF) (w:iG) (K:Frag) (mg:Str->Option iq) (base:Heap) (cv:Str->iq) (k:Nat) (x:Str) (ps:List Str) (ms:List PM) (mr:Mo) (G:jK):Prop:=
 ∃ f fd,FnOk P w K mg base (CXk P w) k f fd ps (spD K cv ms mr G)/\mg x=ij (.ref f)/\mm K (.ref f)=iu/\Binds K fd ps []
def qj9 (P:iF) (w:iG) (K:Frag) (mg:Str->Option iq) (base:Heap) (cv:Str->iq) (k:Nat) (x:Str) (ps:List Str) (ms:List PM) (mr:Mo) (G:jK):Prop:=
 ∃ f fd,FnQ P w K mg base (CXk P w) k f fd ps (spD K cv ms mr G)/\mg x=ij (.ref f)/\mm K (.ref f)=iu/\Binds K fd ps []
def kq (K:Frag) (mg:Str->Option iq) (x:Str) (st:Stmt) (ps:List Str):Prop:=∃ f fd,Fun K x x st f fd/\mg x=ij (.ref f)/\Binds K fd ps []
theorem qhU {P:iF} {w:iG} {mg:Str->Option iq} {base:Heap} {cv:Str->iq} {k:Nat} {ms:List PM} {mr:Mo} {own':List Nat} {fb:qU} (T:kq K mg x st ps) (S:FnScope N ps (qR st))
  (a:∀ (cdv:iq) (f:Addr) (A:iJ) (outer:List Env) (s:iw) (H:Hp) (E:XK),Room k (A.deeper (lf x (qR st) s.heap.objs.size f cdv)) ->PSs (cxk P w K mg base N x (qR st) f cdv A outer s H E) (kG st) (tSt (qfA K cv E ms mr) (kl 0 ms) own' fb))
  (hl:ms.length=ps.length:=by rfl) (g:∀ i∈WO 0 ms,i∈own':=by exact kZ rfl) (r:mr=.sh\/∀ ds ρ,(fb (qt N ds))≠.ok (.nx,ρ):=by exact .inl rfl):DefOk P w K mg base cv (k+1) x ps ms mr (jV N ms fb):=by
 obtain ⟨f,fd,F,c,d⟩:=T;exact ⟨f,fd,qkV F S hl g r (λcdv A outer s H E hr=>a cdv f A outer s H E hr) λ_=>.inr rfl,c,F.kp,d⟩
theorem qka {P:iF} {w:iG} {mg:Str->Option iq} {base:Heap} {cv:Str->iq} {k:Nat} {ms:List PM} {mr:Mo} {own':List Nat} {fb:qU} (T:kq K mg x st ps) (S:FnScope N ps (qR st))
  (a:∀ (cdv:iq) (f:Addr) (A:iJ) (outer:List Env) (s:iw) (H:Hp) (E:XK),RoomQ k (A.deeper (lf x (qR st) s.heap.objs.size f cdv)) ->PSs (cxQ (CXk P w) P w K mg base N x (qR st) f cdv A outer s H E) (kG st) (tSt (qfA K cv E ms mr) (kl 0 ms) own' fb))
  (hl:ms.length=ps.length:=by rfl) (g:∀ i∈WO 0 ms,i∈own':=by exact kZ rfl) (r:mr=.sh\/∀ ds ρ,(fb (qt N ds))≠.ok (.nx,ρ):=by exact .inl rfl):qj9 P w K mg base cv (k+1) x ps ms mr (jV N ms fb):=by
 obtain ⟨f,fd,F,c,d⟩:=T;exact ⟨f,fd,qj8 F S hl g r (λcdv A outer s H E hr=>a cdv f A outer s H E hr) λ_=>.inr rfl,c,F.kp,d⟩
variable {cv:Str->iq}
theorem DefOk.mono {mg:Str->Option iq} {j k:Nat} {G:jK} (h:DefOk P w K mg base cv j x ps ms mr G) (a:j<=k):DefOk P w K mg base cv k x ps ms mr G:=by obtain ⟨f,fd,F,r⟩:=h;exact ⟨f,fd,F.mono a,r⟩
section
variable {G:jK} {fr:ww} {p:Pos} {k j:Nat}
theorem jq (F:DefOk X.prog X.w X.K X.mg X.base cv j x ps ms mr G) (hr:Room k X.A) (d:j<=k) (hx:vK (CXk X.prog X.w) X C.E) (hg:Gl X x) (r:PA X (e::es) (tAr C own as fr)) (v:C.cv=cv:=by rfl) (n:C.K=X.K:=by rfl) (s:ms=as.map Qx:=by rfl) (c:∀ i∈je as,i∈own:=by decide) (nd:(je as).Nodup:=by decide) (g:frA as<=1:=by decide) (o:∀ i∈C.ox,i∈own:=by exact kZ rfl)
  (b:Dbg x:=by decide) (m:iA (e::es) X.env=(ir,eval e X.env)::iA es X.env:=by exact js rfl) (l:(iS pos (iA es X.env)).any (·.1)=false:=by exact wA rfl):PE X (.Call (.Name x p) (e::es) [] pos) (tE C own mr (qo as G fr)):=by
 subst v;obtain ⟨f,fd,F,h,a,q⟩:=F;rw [<-n] at F;exact qfB (by rw [<-n]; exact F) (hr.mono d) hg h a q hx r s c nd g o b m l
theorem qag (F:qj9 X.prog X.w X.K X.mg X.base cv j x ps ms mr G) (hr:RoomQ j X.A) (hx:vK (CXk X.prog X.w) X C.E) (hg:Gl X x) (m:PA X (e::es) (tAr C own as fr)) (v:C.cv=cv:=by rfl) (n:C.K=X.K:=by rfl) (s:ms=as.map Qx:=by rfl) (c:∀ i∈je as,i∈own:=by decide) (nd:(je as).Nodup:=by decide) (a:frA as<=1:=by decide) (o:∀ i∈C.ox,i∈own:=by exact kZ rfl)
  (b:Dbg x:=by decide) (d:iA (e::es) X.env=(ir,eval e X.env)::iA es X.env:=by exact js rfl) (l:(iS pos (iA es X.env)).any (·.1)=false:=by exact wA rfl):PE X (.Call (.Name x p) (e::es) [] pos) (tE C own mr (qo as G fr)):=by
 subst v;obtain ⟨f,fd,F,h,k,g⟩:=F;rw [<-n] at F;exact qcX (by rw [<-n]; exact F) hr hg h k g hx m s c nd a o b d l
noncomputable def Zl:D->Out D
 | .int i=>.ok (.int (-i))
 | _=>.bad
theorem gi:UnD X C .sh (unaryOp .USub) Zl:=by
 intro pins s σ H x v Q I d h;obtain ⟨F,dx,A,tx,po⟩:=h;cases dx <;> try exact po.elim
 obtain rfl:=tx.int;exact qhl pins s σ H _ v Q I d ⟨_,rfl,po _ F H A .refl (.int _)⟩
end
noncomputable def yj:Option (Option D)->Bool
 | some (ij (.lst _))=>iu
 | _=>ir
noncomputable def JF (i:Nat) (g:List D->D->Out (List D)) (fe:jl):jl:=λρ=>if yj ρ[i]?=iu then (fe ρ).bind λp=>match p.2[i]? with
 | some (ij (.lst xs))=>match g xs p.1 with
  | .ok ys=>.ok (.non,p.2.set i (ij (.lst ys)))
  | _=>.bad
 | _=>.bad
 else .bad
noncomputable def Qy (xs:List D) (d:D):Out (List D):=if xs.length < sizeLine then .ok (xs++[d]) else .bad
noncomputable def qel (xs:List D):D->Out (List D)
 | .lst ys=>if xs.length+ys.length<=sizeLine then .ok (xs++ys) else .bad
 | .tup ys=>if xs.length+ys.length<=sizeLine then .ok (xs++ys) else .bad
 | _=>.bad
section
variable {fe:jl}
theorem Rep.write (r:Rep K own F H σ ρ) (hi:i∈own) (g:σ[i]?=ij (ij (V.ref a))) (ow:OwnIs K F (upd H a u) a d):Rep K own F (upd H a u) σ (ρ.set i (ij d))/\Chg (OA own σ) F H F (upd H a u):=by
 obtain ⟨w,hd0⟩:=r.opn i hi;obtain ⟨t,e1,C,c⟩:=r.ow i w hi hd0;rw [g] at e1; cases e1;have hl:i < ρ.length:=(aB.mp hd0).1;refine ⟨⟨λb o e=>by rw [qB (qL e C)]; exact r.sub b o e,by simp [r.len],λj d' G e=>?_,λj d' G e=>?_,λj G=>?_,r.dis⟩,⟨λb o e n=>?_,λb e=>?_,Same.refl _,λb e=>.inl e⟩⟩;·rw [ax (λz=>G (by rw [<-z]; exact hi))] at e;exact r.val j d' G e
 ·by_cases q:j=i;·subst q;rw [aG hl] at e;cases e;exact ⟨a,g,C,ow⟩
  ·rw [ax (bo q)] at e;obtain ⟨b,h1,h2,h⟩:=r.ow j d' G e;have nb:b≠a:=λz=>by subst z; exact q (r.dis j i b G hi h1 g)
   exact ⟨b,h1,h2,h.grow (Same.refl _) λo z=>by rw [qB nb]; exact z⟩
 ·by_cases q:j=i;·subst q; exact ⟨d,aG hl⟩
  ·rw [ax (bo q)]; exact r.opn j G
 ·have nb:b≠a:=λz=>n (by rw [z]; exact ⟨i,hi,g⟩);rw [qB nb]; exact e
 ·by_cases q:b=a;·rw [q,qu]; simp
  ·rw [qB q]; exact e
theorem YF {o:Option (Option D)} (h:yj o=iu):∃ xs,o=ij (ij (.lst xs)):=by
 unfold yj at h;split at h;·exact ⟨_,rfl⟩
 ·cases h
theorem qcY {g:List D->D->Out (List D)} {R:V->V->Hp->VK->Prop} {σ:St} {H:Hp} {Q:VK} (l:i∈own) (w:m≠.any)
  (j:∀ (a:Addr) (xs:List V) (ds ys:List D) (v:V) (d:D) (F H:Hp),Same F H->H a=ij (.lst xs)->F a=im->IsL C.K F xs ds->Is C.K F v d->g ds d=.ok ys->(∀ zs,IsL C.K F zs ys->Q .non (upd H a (.lst zs)))->R (.ref a) v H Q)
  (h:tE C own .sh (JF i g fe) σ H Q):∃ a xs,σ[i]?=ij (ij (V.ref a))/\H a=ij (.lst xs)/\tE C own .sh fe σ H λv H1=>R (.ref a) v H1 Q:=by
 obtain ⟨F,ρ,p,h⟩:=h;unfold JF at h;by_cases q:yj ρ[i]?=iu
 ·rw [Aa q] at h;obtain ⟨ds,hd⟩:=YF q;obtain ⟨a,h1,h2,xs,k,x⟩:=p.ow i _ l hd;refine ⟨a,xs,h1,k,F,ρ,p,Po.bind h λv F1 H1 d ρ1 r y f po=>?_⟩;cases e:ρ1[i]? with
  | none=>simp only [e] at po; exact po.elim
  | some o=>
   cases o with
   | none=>simp only [e] at po; exact po.elim
   | some dd=>
    simp only [e] at po;cases dd with
    | lst es=>
     simp only at po;cases b:g es d with
     | ok ys=>simp only [b] at po;obtain ⟨A,e1,t,vs,s,n⟩:=r.ow i _ l e;rw [h1] at e1; cases e1;refine j a vs es ys v d F1 H1 r.sub s t n f b λzs z=>?_;obtain ⟨r2,c2⟩:=r.write (u:=.lst zs) (d:=.lst ys) l h1 ⟨zs,qu,z⟩;exact po .non F1 _ r2 c2 .non
     | exc c o=>simp only [b] at po; exact po.elim
     | bad=>simp only [b] at po; exact po.elim
    | _=>exact po.elim
 ·rw [Ab q] at h; exact h.elim
theorem wp {px apos cpos:Pos} (u:C.K=X.K) (r:X.N[i]?=ij x) (n:Vis X.env.scope x) (o:i∈own) (p:PE X e (tE C own m fe)) (j:m≠.any:=by decide)
  (hd:Dbg x:=by decide) (f:Cdk x:=by decide)
  (c:i7 (.Name x px) "append" X.env (eval (.Name x px) X.env)=eval (.Name x px) X.env:=by rfl)
  (w:((iS cpos (iA [e] X.env)).all (λx=>!x.1)&&(lq cpos (iZ [] X.env)).all (λx=>x.1.isSome)
   && decide ([e].length+([]:List i5).length+(if ([]:List i5).isEmpty then 0 else 1) < 30))=true:=by exact wC rfl)
  (b:(apos.endLine == cpos.line)=true:=by rfl) (s:iA [e] X.env=[(ir,eval e X.env)]:=by exact qT rfl) :
  PE X (.Call (.Attribute (.Name x px) "append" apos) [e] [] cpos) (tE C own .sh (JF i Qy fe)):=by
 refine jN (XZ cz PySem.F.slot_list_append PySem.F.type_list_append Vj (yl r n hd f) (qY (yh p j) jT s) c w b s rfl) λσ H Q h=>?_;have q:∀ (a:Addr) (xs:List V) (ds ys:List D) (v:V) (d:D) (F H:Hp),Same F H->H a=ij (.lst xs)->F a=im->IsL C.K F xs ds->Is C.K F v d->Qy ds d=.ok ys->(∀ zs,IsL C.K F zs ys->Q .non (upd H a (.lst zs)))->WU (.ref a) [v] H Q:=λa xs ds ys v d F H A t y ix l g k=>by
  unfold Qy at g;split at g;·cases g;exact ⟨a,xs,v,rfl,rfl,t,by rw [ix.length]; assumption,k _ (ix.append (.cons l .nil))⟩
  ·cases g
 obtain ⟨a,xs,h1,h2,k⟩:=qcY (R:=λx v H Q=>WU x [v] H Q) o j q h;exact ⟨.ref a,h1,.inl ⟨rfl,xs,.inl (.inl h2)⟩,k⟩
theorem Vx {px apos cpos:Pos} (I:X.N[i]?=ij x) (A:Vis X.env.scope x) (l:i∈own) (B:PE X e (tE C own .fr fe))
  (hd:Dbg x:=by decide) (j:Cdk x:=by decide)
  (f:i7 (.Name x px) "extend" X.env (eval (.Name x px) X.env)=eval (.Name x px) X.env:=by rfl)
  (w:((iS cpos (iA [e] X.env)).all (λx=>!x.1)&&(lq cpos (iZ [] X.env)).all (λx=>x.1.isSome)
   && decide ([e].length+([]:List i5).length+(if ([]:List i5).isEmpty then 0 else 1) < 30))=true:=by exact wC rfl)
  (c:(apos.endLine == cpos.line)=true:=by rfl) (s:iA [e] X.env=[(ir,eval e X.env)]:=by exact qT rfl) :
  PE X (.Call (.Attribute (.Name x px) "extend" apos) [e] [] cpos) (tE C own .sh (JF i qel fe)):=by
 refine jN (XZ cz PySem.F.slot_list_extend PySem.F.type_list_extend Gv (yl I A hd j) (qY B jT s) f w c s rfl) λσ H Q ⟨F,ρ,p,h⟩=>?_;unfold JF at h;by_cases q:yj ρ[i]?=iu
 ·rw [Aa q] at h;obtain ⟨ds,hd⟩:=YF q;obtain ⟨a,h1,h2,xs,J,L⟩:=p.ow i _ l hd;refine ⟨.ref a,h1,.inl ⟨rfl,xs,.inl (.inl J)⟩,F,ρ,p,Po.bind h λv F1 H1 d ρ1 r O m po=>?_⟩;obtain ⟨b,rfl,G,E,k⟩:=m;cases g:ρ1[i]? with
  | none=>simp only [g] at po; exact po.elim
  | some o=>
   cases o with
   | none=>simp only [g] at po; exact po.elim
   | some dd=>
    simp only [g] at po;cases dd with
    | lst es=>
     simp only at po;obtain ⟨P,e1,M,vs,K,t⟩:=r.ow i _ l g;rw [h1] at e1; cases e1;cases d with
     | lst ys=>
      obtain ⟨zs,y,n⟩:=k;have po:Po C own .sh σ F1 H1 (match (if es.length+ys.length<=sizeLine then .ok (es++ys) else .bad:Out (List D)) with | .ok ys=>.ok (.non,ρ1.set i (ij (.lst ys))) | _=>.bad) Q:=po;by_cases z:es.length+ys.length<=sizeLine;·rw [Aa z] at po;refine ⟨a,b,vs,zs,rfl,rfl,K,y,by rw [t.length,n.length]; exact z,?_⟩;obtain ⟨r2,c2⟩:=r.write (u:=.lst (vs++zs)) (d:=.lst (es++ys)) l h1 ⟨_,qu,t.append n⟩;exact po .non F1 _ r2 c2 .non
      ·rw [Ab z] at po; exact po.elim
     | dct ys=>exact po.elim
     | ins _ _=>exact po.elim
     | at_ _ _=>exact po.elim
     | _=>exact k.elim
    | _=>exact po.elim
 ·rw [Ab q] at h; exact h.elim
end
noncomputable def scB (names:List (Str×lc)) (scope:lz):Bool:=decide (scope.kind=.function)&&scope.names.all λy=>decide (y.2≠.cell)&&(!decide (y.2=.local)||decide (scope.names.lookup y.1=ij .local)) &&
 (!decide (y.2=.free)||((decide (names.lookup y.1=ij .cell)||decide (names.lookup y.1=ij .free))&&decide (scope.names.lookup y.1=ij .free)))
variable {names:List (Str×lc)}
theorem qhV (h:X.env.scope.names=names) (b:scB names scope=iu):ScOk X scope:=by
 subst h;unfold scB at b;rw [aS,aQ] at b;obtain ⟨c,a⟩:=b;refine ⟨Ae c,λy D=>?_,λy D e=>?_,λy D e=>?_,λy D e=>?_⟩;all_goals
  have q:=a y D;simp only [aS,Bool.or_eq_true,Bool.not_eq_true',decide_eq_true_eq,decide_eq_false_iff_not] at q
 ·exact q.1.1
 ·exact q.1.2.resolve_left λz=>z e
 ·exact (q.2.resolve_left λz=>z e).1
 ·exact (q.2.resolve_left λz=>z e).2
noncomputable def qjl (names:List (Str×lc)) (N:List Str) (scope:lz) (c:List Str) (nt:Nat) (cap:List Nat):Bool:=decide cap.Nodup&&decide (c.length=nt+cap.length)&&(aO cap.length).all λj=>match cap[j]? with
 | some k=>match c[nt+j]? with
  | some x=>decide (N[k]?=ij x)&&(((decide (names.lookup x=ij .local)||decide (names.lookup x=ij .cell)||decide (names.lookup x=ij .free))&&decide ((x,bG)∈scope.names))||scope.names.all λy=>decide (y.1≠x))
  | none=>ir
 | none=>ir
theorem qem {c:List Str} (a:X.env.scope.names=names) (d:X.N=N) (b:qjl names N scope c nt cap=iu):CapOk X scope c nt cap:=by
 subst a d;unfold qjl at b;rw [aS,aS,aQ] at b;obtain ⟨⟨i,g⟩,f⟩:=b;refine ⟨Ae i,Ae g,λj k G=>?_⟩;have q:=f j (bv.mpr (aB.mp G).1);rw [G] at q;cases e:c[nt+j]? with
 | none=>simp only [e] at q; cases q
 | some x=>
  simp only [e,aS,Bool.or_eq_true,decide_eq_true_eq] at q;refine ⟨x,rfl,q.1,?_⟩;rcases q.2 with ⟨z,q2⟩ | z
  ·refine .inl ⟨?_,q2⟩;rcases z with (z | z) | z;·exact .inl z
   ·exact .inr (.inl z)
   ·exact .inr (.inr z)
  ·refine .inr λk' h=>?_;rw [aQ] at z;exact Ae (z (x,k') h) rfl
theorem uq:vK (CXk P w) X (λ_ _ _=>False):=λ_ _ _ _ _ _ _ h=>by obtain ⟨_,_,_,_,_,_,_,_,_,_,_,_,_,_,k⟩:=h;exact k.elim
noncomputable def qkb (f:jl):jl:=λρ=>(qF f ρ).bind λp=>.ok (.bl (!p.1),p.2)
section
variable {i:Int}
theorem uZ (h:∃ t,X.mg x=ij (.int i t)) (hg:Gl X x) (hd:Dbg x:=by decide):PE X (.Name x pos) (tE C own .sh (dC (.int i))):=by obtain ⟨t,h⟩:=h;exact GD (v:=.int i) hg h ⟨t,rfl⟩ (λ_=>.int i) hd
end
variable {us:List iq}
section
variable {a b:Expr} {f fa fb:jl}
noncomputable def yY:D->Out D
 | .lst xs=>.ok (.tup xs)
 | .tup xs=>.ok (.tup xs)
 | _=>.bad
noncomputable def qcZ:D->Out D
 | .lst xs=>.ok (.lst xs)
 | .tup xs=>.ok (.lst xs)
 | _=>.bad
theorem zH (n:C.K=X.K):Qw X C .sh (.type "tuple") yY:=by
 intro pins s σ H xs us Q I r h;obtain ⟨x,F,dx,rfl,A,tx,po⟩:=h;cases dx with
 | lst ds=>obtain ⟨p,vs,rfl,hq,t⟩:=tx.lst A;refine yN pins s σ H _ us Q I r ⟨p,vs,rfl,.inl ⟨by rw [<-n]; exact hq,λl hl=>?_⟩⟩;obtain ⟨s2,c2⟩:=wF (u:=.tup vs) A hl;exact po _ _ _ s2 c2 (.tup (.inl (.inl qu)) (t.mono c2.grow))
 | tup ds=>
  rcases tx with tx | ⟨_,_,tx⟩
  ·have a:=tx;cases tx with
   | tup hq t=>exact yN pins s σ H _ us Q I r ⟨_,_,rfl,.inr ⟨by rw [<-n]; exact jg A hq,po _ F H A .refl a⟩⟩
  ·exact tx.elim
 | _=>exact po.elim
theorem qfK (n:C.K=X.K):Qw X C .fr (.type "list") qcZ:=by
 intro pins s σ H xs us Q I r h;obtain ⟨x,F,dx,rfl,A,tx,po⟩:=h;cases dx with
 | lst ds=>obtain ⟨p,vs,rfl,hq,t⟩:=tx.lst A;refine xY pins s σ H _ us Q I r ⟨p,vs,rfl,.inl (by rw [<-n]; exact hq),λl hl=>?_⟩;obtain ⟨s2,c2,a⟩:=vy (u:=.lst vs) A hl;exact po _ _ _ s2 c2 ⟨l,rfl,hl,a,vs,qu,t⟩
 | tup ds=>obtain ⟨p,vs,rfl,hq,t⟩:=tx.tup A;refine xY pins s σ H _ us Q I r ⟨p,vs,rfl,.inr (by rw [<-n]; exact hq),λl hl=>?_⟩;obtain ⟨s2,c2,a⟩:=vy (u:=.lst vs) A hl;exact po _ _ _ s2 c2 ⟨l,rfl,hl,a,vs,qu,t⟩
 | _=>exact po.elim
def qah (X:Cx) (C:Ct) (m:Mo) (f:iq) (g:D->D->Out D):Prop:=uj X f (λxs H Q=>∃ x y F dx d,xs=[x,y]/\Same F H/\TopIs C.K F H x dx/\TopIs C.K F H y d/\PoV C m F H (g dx d) Q)
theorem qc0 {Q:VK} {g:D->D->Out D} (k:ma≠.any) (h:tE C own m (d2 g fa fb) σ H Q):XX (tE C own ma fa) (XX (tE C own mb fb) qjf) σ H λxs H1=>∃ x y F dx a,xs=[x,y]/\Same F H1/\TopIs C.K F H1 x dx/\TopIs C.K F H1 y a/\PoV C m F H1 (g dx a) Q:=by
 obtain ⟨F,ρ,n,h⟩:=Vn (mb:=mb) k h;refine ⟨F,ρ,n,?_⟩;cases q:fa ρ with
 | ok p=>
  rw [q] at h;obtain ⟨d,ρ1⟩:=p;intro v F1 H1 e o j;obtain ⟨t,ρ2,b,h2⟩:=h v F1 H1 e o j;refine ⟨t,ρ2,b,?_⟩;cases f:fb ρ2 with
  | ok p=>rw [f] at h2;obtain ⟨d',l⟩:=p;intro w u s r J i;obtain ⟨M,dx,a,z⟩:=h2 w u s r J i;exact ⟨v,w,M,dx,a,rfl,z⟩
  | exc c=>rw [f] at h2; exact h2
  | bad=>rw [f] at h2; exact h2.elim
 | exc c=>rw [q] at h; exact h
 | bad=>rw [q] at h; exact h.elim
theorem Vy {id:String} {p:Pos} {g:D->D->Out D} (e:qah X C m (.builtin id) g) (hg:Gl X x) (d:X.mg x=im) (v:iE x=ij (.builtin id)) (j:PE X a (tE C own ma fa)) (i:PE X b (tE C own mb fb)) (f:ma≠.any:=by decide) (hn:x ≠ "__name__":=by decide) (c:Dbg x:=by decide)
  (h1:iA [a,b] X.env=(ir,eval a X.env)::iA [b] X.env:=by rfl) (h2:iA [b] X.env=[(ir,eval b X.env)]:=by exact qT rfl):PE X (.Call (.Name x p) [a,b] [] pos) (tE C own m (d2 g fa fb)):=
 jN (wx e hg d v (qY j (qY i jT h2) h1) hn c (by rw [h1]) (by rw [h2]; rfl)) λ_ _ _ h=>qc0 f h
noncomputable def qjm:D->D->Out D:=ym λi j=>.ok (.int (if j > i then j else i))
noncomputable def qjn:D->D->Out D:=ym λi j=>.ok (.int (if j < i then j else i))
theorem qhW (d:X.calm=iu):qah X C .sh (.builtin "max") qjm:=by
 intro pins s σ H xs us Q I r h;obtain ⟨x,y,F,dx,a,rfl,A,tx,ty,po⟩:=h;cases dx <;> try exact po.elim
 cases a <;> try exact po.elim
 obtain rfl:=tx.int;obtain rfl:=ty.int;exact Gq d pins s σ H _ us Q I r ⟨_,_,rfl,po _ F H A .refl (.int _)⟩
theorem qhX (d:X.calm=iu):qah X C .sh (.builtin "min") qjn:=by
 intro pins s σ H xs us Q I r h;obtain ⟨x,y,F,dx,a,rfl,A,tx,ty,po⟩:=h;cases dx <;> try exact po.elim
 cases a <;> try exact po.elim
 obtain rfl:=tx.int;obtain rfl:=ty.int;exact Gr d pins s σ H _ us Q I r ⟨_,_,rfl,po _ F H A .refl (.int _)⟩
noncomputable def kJ (a T:String):Option Bool:=if (fj a == fj T)=iu then ij iu else if PySem.W.kitMeta T=iu then (fastBuiltinMro a).map (·.contains (.type T)) else im
theorem qc1 (K:Frag) (a T:String):cf K (.type a) (.type T)=kJ a T:=rfl
noncomputable def tyN:D->Option String
 | .non=>ij "NoneType"
 | .bl _=>ij "bool"
 | .int _=>ij "int"
 | .str _=>ij "str"
 | .tup _=>ij "tuple"
 | .lst _=>ij "list"
 | .dct _=>ij "dict"
 | _=>im
noncomputable def wI (T:String) (d:D):Out D:=match tyN d with
 | some a=>match kJ a T with
  | some b=>.ok (.bl b)
  | none=>.bad
 | none=>.bad
theorem qc2 (g:C.K=X.K):uj X (.builtin "isinstance") (λxs H Q=>∃ x F d,xs=[x,.ty T]/\Same F H/\TopIs C.K F H x d/\PoV C .sh F H (wI T d) Q):=by
 intro pins s σ H xs us Q I r h;obtain ⟨x,F,d,rfl,A,tx,po⟩:=h;obtain ⟨u,c,rfl,B,i⟩:=Gp r;cases i;cases q:tyN d with
 | none=>unfold wI at po; rw [q] at po; exact po.elim
 | some a=>
  cases f:kJ a T with
  | none=>unfold wI at po; rw [q] at po; simp only [f] at po; exact po.elim
  | some b=>
   have po:PoV C .sh F H (.ok (.bl b)) Q:=by unfold wI at po; rw [q] at po; simp only [f] at po; exact po
   have fin:∀ tk,EP X pins σ Q (.bool b) { s with toks:=tk }:=λtk=>⟨.bl b,H,I.tok tk,rfl,po _ F H A .refl (.bl b)⟩
   have e:cf X.K (.type a) (.type T)=ij b:=(qc1 X.K a T).trans f;cases d with
   | non=>obtain rfl:=tx.non; cases B; cases q; exact cQ PySem.W.kitx_none I.kIn cU e (λz=>nomatch z) fin
   | bl y=>obtain rfl:=tx.bl; cases B; cases q; exact cQ PySem.W.kitx_bool I.kIn cU e (λz=>nomatch z) fin
   | int y=>obtain rfl:=tx.int; obtain ⟨t,rfl⟩:=B; cases q; exact cQ PySem.W.kitx_int I.kIn cU e (λz=>nomatch z) fin
   | str y=>obtain ⟨rfl,_⟩:=tx.str; obtain ⟨t,rfl⟩:=B; cases q; exact cQ PySem.W.kitx_str I.kIn cU e (λz=>nomatch z) fin
   | tup y=>obtain ⟨p,vs,rfl,hq,t⟩:=tx.tup A;cases B; cases q;obtain ⟨its,_,⟨o,h1,h2,_⟩,_⟩:=I.tuple (show SqT X.K H p vs by rw [<-g]; exact hq);exact cQ PySem.W.kitx_tuple I.kIn ⟨o,h1,h2⟩ e (λz=>nomatch z) fin
   | lst y=>obtain ⟨p,vs,rfl,hq,t⟩:=tx.lst A;cases B; cases q;obtain ⟨its,_,⟨o,n,h1,h2,_⟩,_⟩:=I.list (show SqL X.K H p vs by rw [<-g]; exact hq);exact cQ PySem.W.kitx_list I.kIn ⟨o,h1,h2⟩ e (λz=>nomatch z) fin
   | dct y=>
    obtain ⟨p,vs,rfl,hq,t⟩:=tx.dct A;cases B; cases q;obtain ⟨_,_,ws,_,o,es,ep,h1,h2,_⟩:=(show ObjOk X.prog X.w H s.heap p (.dK vs) from I.hok p _ hq)
    exact cQ PySem.W.kitx_dict I.kIn ⟨o,h1,h2.1⟩ e (λz=>nomatch z) fin
   | _=>cases q
theorem wq {tn:Str} {p t:Pos} (n:C.K=X.K) (hg:Gl X "isinstance") (j:X.mg "isinstance"=im) (i:iE "isinstance"=ij (.builtin "isinstance")) (ht:Gl X tn) (e:X.mg tn=im) (b:iE tn=ij (.type T)) (k:PE X a (tE C own ma fa)) (hn:tn ≠ "__name__":=by decide) (f:Dbg tn:=by decide)
  (h1:iA [a,.Name tn t] X.env=(ir,eval a X.env)::iA [.Name tn t] X.env:=by rfl) (h2:iA [.Name tn t] X.env=[(ir,eval (.Name tn t) X.env)]:=by rfl):PE X (.Call (.Name "isinstance" p) [a,.Name tn t] [] pos) (tE C own .sh (d1 (wI T) fa)):=by
 refine jN (wx (qc2 (T:=T) n) hg j i (qY k (qY (Gi (v:=.ty T) ht e b rfl hn f) jT h2) h1) 'd' 'd' (by rw [h1]) (by rw [h2]; rfl)) λσ H Q h=>?_;obtain ⟨F,ρ,g,h⟩:=Za (ma:=ma) h;refine ⟨F,ρ,g,?_⟩;cases q:fa ρ with
 | ok p=>rw [q] at h;obtain ⟨d,ρ1⟩:=p;intro v F1 H1 r l m;obtain ⟨o,dx,z⟩:=h v F1 H1 r l m;exact ⟨v,o,dx,rfl,z⟩
 | exc c=>rw [q] at h; exact h
 | bad=>rw [q] at h; exact h.elim
noncomputable def vC:List D->Option (List Bool)
 | []=>ij []
 | .bl b::ds=>(vC ds).map (b::·)
 | _::_=>im
noncomputable def Gb:D->Out D
 | .lst ds=>match vC ds with
  | some bs=>.ok (.bl (bs.all id))
  | none=>.bad
 | _=>.bad
theorem JG {bs:List Bool} (a:IsL K F vs ds) (l:Vals vs us) (e:vC ds=ij bs):us=bs.map bb:=by
 induction ds generalizing vs us bs with
 | nil=>cases a;cases l;cases e;rfl
 | cons d ds j=>
  cases a with
  | cons i a=>
   cases l with
   | cons r l=>
    cases d with
    | bl b=>obtain ⟨c,e1,rfl⟩:=aY.mp (show (vC ds).map (b::·)=ij bs from e);cases i;cases r;rw [j a l e1];rfl
    | _=>cases e
theorem gj (n:C.K=X.K) (j:X.calm=iu):Qw X C .sh (.builtin "all") Gb:=by
 intro pins s σ H xs us Q I r h;obtain ⟨x,F,dx,rfl,d,tx,po⟩:=h;cases dx <;> try exact po.elim
 rename_i ds;obtain ⟨p,vs,rfl,hq,t⟩:=tx.lst d;obtain ⟨u,rfl,g⟩:=yM r;cases g;unfold Gb at po;cases q:vC ds with
 | none=>simp only [q] at po; exact po.elim
 | some bs=>
  simp only [q] at po;obtain ⟨its,f,pl,z⟩:=I.list (show SqL X.K H p vs by rw [<-n]; exact hq);have J:=JG t f q;subst J;have hp:p < s.heap.objs.size:=let ⟨o,h1,_⟩:=pl.isList; aw h1;refine call_all_walk (wpAny_pyIter_list pl.isList ?_);have W:Walks X.prog X.w X.A.in1 s.heap.objs.size [s.heap.objs.size,p] [s.heap.objs.size] (bs.map bb).toArray.size (λi v=>(bs.map bb).toArray[i]?=ij v) (λi h=>h.IsListIter s.heap.objs.size p i/\h.IsList p (bs.map bb).toArray):=Walks.list (A:=X.A.in1) (show X.A.in1.handled=im from I.ok.hd j) s.heap.objs.size p (aC hp) _;have st:(s.heap.push { cls:=.type "list_iterator",data:=.fields #[.ref p,.int 0 0] }).IsListIter s.heap.objs.size p 0/\(s.heap.push { cls:=.type "list_iterator",data:=.fields #[.ref p,.int 0 0] }).IsList p (bs.map bb).toArray:=⟨⟨_,ai _ rfl,rfl,rfl⟩,let ⟨o,h1,h2⟩:=pl.isList; ⟨o,aa _ h1,h2⟩⟩
  refine ⟨_,_,_,_,_,_,λi=>(bs[i]?).getD ir,rfl,W,st,λi v s' l E m c=>?_,λh' tk kp=>?_⟩
  ·have m:(bs.map bb).toArray[i]?=ij v:=m;rw [ez,aH] at m;cases B:bs[i]? with
   | none=>rw [B] at m; cases m
   | some b=>have a:l ((bs[i]?).getD ir) s':=c;rw [B] at m a;cases m;exact i4 a
  ·have e:(aO (bs.map bb).toArray.size).all (λi=>(bs[i]?).getD ir)=bs.all id:=by
    rw [aq,ay,Bool.eq_iff_iff,aQ,aQ];constructor;·intro h b k;obtain ⟨i,hi,e⟩:=fg.mp k;have:=h i (bv.mpr hi);rw [aE hi,e] at this;exact this
    ·intro h i hi;have hi:=bv.mp hi;rw [aE hi];exact h _ (cu hi)
   rw [e];refine ⟨.bl (bs.all id),H,?_,rfl,po _ F H d .refl (.bl _)⟩;have k2:∀ b o,s.heap.get? b=ij o->h'.get? b=ij o:=λb o J=>kp b o (by simp; exact aC (aw J)) (aa _ J);exact I.kept (t':=tk) k2
end
noncomputable def wt (idx:List Nat) (xs:List α):List α:=idx.filterMap λk=>xs[k]?
theorem IsL.pick (h:IsL K F vs ds):∀ (idx:List Nat),IsL K F (wt idx vs) (wt idx ds)
 | []=>.nil
 | k::idx=>by
  unfold wt;rw [bq,bq];cases e:vs[k]? with
  | none=>have a:ds[k]?=none:=bO.mpr (by rw [<-h.length]; exact bO.mp e);rw [a];exact IsL.pick h idx
  | some v=>obtain ⟨d,a,i⟩:=h.get e;rw [a];exact .cons i (IsL.pick h idx)
theorem gk (h:Vals vs us):∀ (idx:List Nat),Vals (wt idx vs) (wt idx us)
 | []=>.nil
 | k::idx=>by
  unfold wt;rw [bq,bq];cases e:vs[k]? with
  | none=>rw [h.none_of e]; exact gk h idx
  | some v=>obtain ⟨u,i,r⟩:=h.get e;rw [i];exact .cons r (gk h idx)
theorem qc3 (xs:List α):wt (aO xs.length) xs=xs:=by unfold wt;have:=PySem.W.krv_all xs.toArray;simpa using this
noncomputable def Vz (n:Nat) (lo hi:Option Int) (st:Int):List Nat:=(aO (dI (bB lo hi st n).1 (bB lo hi st n).2 st)).map λ(k:Nat)=>((bB lo hi st n).1+(k:Int) * st).toNat
noncomputable def QV (x:Str) (lo hi:Option Int) (st:Int):Str:=if (st == 1&&(dB lo hi st x.length).length == x.length)=iu then x else ⟨((dB lo hi st x.length).filterMap (x.cps[·]?)).toArray⟩
noncomputable def slD (lo hi st:Option Int):D->Out D
 | .tup xs=>if st.getD 1≠0/\(wt (Vz xs.length lo hi (st.getD 1)) xs).length<=sizeLine then .ok (.tup (wt (Vz xs.length lo hi (st.getD 1)) xs)) else .bad
 | .str x=>if st.getD 1≠0/\(QV x lo hi (st.getD 1)).length<=sizeLine then .ok (.str (QV x lo hi (st.getD 1))) else .bad
 | _=>.bad
def qkW (X:Cx) (r:V->Option Int->Option Int->Option Int->Hp->VK->Prop):Prop:=
 ∀ (pins:Pns) (s:iw) (σ:St) (H:Hp) (x:V) (v vl u k:iq) (lo hi st:Option Int) (sl:Addr) (Q:VK),Inv X pins σ H s->RelV x v->s.heap.IsSliceOf sl vl u k->lT vl lo->lT u hi->lT k st->r x lo hi st H Q ->∃ T id,l9 (.type T) "__getitem__"=pure (ij (.builtin id))/\s.TypeIs v T/\iB 'c' X.A (mI v (.ref sl)) (EP X pins σ Q) X.xe s
section
variable {prog:iF}
theorem Qz {sl:Addr} {vl u k:iq} {lo hi st:Option Int} {n:Nat} {Q:Int×Int×Nat->iw->Prop} (c:s.heap.IsSliceOf sl vl u k) (pl:lT vl lo) (p:lT u hi) (pk:lT k st) (e:st.getD 1≠0)
  (h:Q ((bB lo hi (st.getD 1) n).1,st.getD 1,dI (bB lo hi (st.getD 1) n).1 (bB lo hi (st.getD 1) n).2 (st.getD 1)) s):iB 'e' A (Builtin.Slice.sliceApplied (.ref sl) (pure (n:Int))) Q E s:=by
 obtain ⟨os,a,d,b⟩:=id c;unfold Builtin.Slice.sliceApplied Builtin.Slice.sliceFields;refine ip (ip (iR a b (x:=vl) rfl (ip (iR a b (x:=u) rfl (ip (iR a b (x:=k) rfl (iy ?_)))))));refine ip (HT.slicePart_ pk ?_);show iB _ _ (if (st.getD 1 == 0)=iu then _ else _) _ _ s;rw [Ab (by simpa using e)];refine ip (HT.slicePart_ pl (ip (HT.slicePart_ p (ip (iy ?_)))));exact iy h
theorem gl {t sl:Addr} {items:Array iq} {vl u v:iq} {lo hi st:Option Int} {Q:iq->iw->Prop} (ht:IsTup s.heap t items) (g:s.heap.IsSliceOf sl vl u v) (pl:lT vl lo) (p:lT u hi) (pk:lT v st) (r:st.getD 1≠0)
  (l:Vz items.size lo hi (st.getD 1)=aO items.size->Q (.ref t) s)
  (h:Q 'm' { s with heap:=s.heap.push { cls:=.type "tuple",data:=.seq (wt (Vz items.size lo hi (st.getD 1)) items.toList).toArray } })
  (hsz:(wt (Vz items.size lo hi (st.getD 1)) items.toList).length<=sizeLine):iB 'e' A (mI (.ref t) (.ref sl)) Q E s:=by
 obtain ⟨os,b,d,n⟩:=id g;have f:s.TypeIs (.ref sl) "slice":=⟨os,b,d⟩
 unfold mI;try with_reducible refine iP ?_
 first | refine ip (iy ?_) | skip
 refine ip (wpAny_sequenceKey ht.typeIs 'd' ?_);refine ip (iK (name:=aL "__getitem__") ht.typeIs cX
  (iL cX ht.typeIs entry_tuple_getitem ?_ (args_tuple_getitem _ _)))
 show iB _ _ (Builtin.Tuple.tupleItemsOf (.ref t) >>= _) _ _ s;refine ip (tupleItemsOf_ ht ?_);refine ip (li f ?_);rw [Aa 'd'];refine ip (Qz g pl p pk r ?_);generalize hA:bB lo hi (st.getD 1) items.size=A0;generalize N:dI A0.1 A0.2 (st.getD 1)=N0;have ep:wt (Vz items.size lo hi (st.getD 1)) items.toList=(aO N0).filterMap λ(k:Nat)=>items[(A0.1+(k:Int) * st.getD 1).toNat]?:=by unfold wt Vz;rw [hA,N,List.filterMap_map];congr 1;funext k;simp
 rw [ep] at h hsz;by_cases c:(A0.1 == 0&&st.getD 1 == 1&&N0 == items.size)=iu
 ·have S:=c;rw [aS,aS] at S;have j:A0.1=0:=eq_of_beq S.1.1;have i:st.getD 1=1:=eq_of_beq S.1.2;have q:N0=items.size:=eq_of_beq S.2;have whole:Vz items.size lo hi (st.getD 1)=aO items.size:=by
   unfold Vz;rw [hA,N,j,i,q];have e:(λ(k:Nat)=>((0:Int)+(k:Int) * 1).toNat)=id:=by
    funext k;show ((0:Int)+(k:Int) * 1).toNat=k
    lia
   rw [e,List.map_id]
  have o:=l whole;show iB _ _ (if (A0.1 == 0&&st.getD 1 == 1&&N0 == items.size)=iu then _ else _) _ _ s;rw [Aa c];unfold Builtin.Tuple.tupleIsExact;refine ip (ip (li ht.typeIs (iy ?_)));rw [Aa 'd'];exact ip (lu (iy ⟨_,rfl,iy o⟩))
 ·show iB _ _ (if (A0.1 == 0&&st.getD 1 == 1&&N0 == items.size)=iu then _ else _) _ _ s;rw [Ab c];have a:sizeOk (.seq ((aO N0).filterMap λ(k:Nat)=>items[(A0.1+(k:Int) * st.getD 1).toNat]?).toArray):=by show (((aO N0).filterMap λ(k:Nat)=>items[(A0.1+(k:Int) * st.getD 1).toNat]?).toArray).size<=sizeLine;rw [aq]; exact hsz
  first
   | exact ip (m:=cV _) (iH (iy ⟨_,rfl,iy h⟩) a)
   | exact ip (m:=cV _) (iH (ip (iy (iy ⟨_,rfl,iy h⟩))) a)
   | exact ip (ip (m:=cV _) (iH (iy (iy ⟨_,rfl,iy h⟩)) a))
   | exact ip (ip (m:=cV _) (iH (iy ⟨_,rfl,iy h⟩) a))
end
def PoO (C:Ct) (own:List Nat) (σ:St) (F H:Hp) (r:Out (Option Int×Sl)) (Q:Option Int->Hp->Prop):Prop:=match r with
 | .ok (b,ρ')=>∀ F' H',Rep C.K own F' H' σ ρ'->Chg (OA own σ) F H F' H'->Q b H'
 | .exc c ρ'=>∀ F' H',Same F' H'->ZZ C.K C.ox F' H' σ ρ'->Chg (OA own σ) F H F' H'->C.E (C.cv c) im H'
 | .bad=>False
def tO (C:Ct) (own:List Nat) (f:Sl->Out (Option Int×Sl)):TO:=λσ H Q=>∃ F ρ,Rep C.K own F H σ ρ/\PoO C own σ F H (f ρ) Q
noncomputable def JH:Option (jl)->Sl->Out (Option Int×Sl)
 | none,ρ=>.ok (im,ρ)
 | some f,ρ=>(f ρ).bind λp=>match p.1 with
  | .int i=>.ok (ij i,p.2)
  | _=>.bad
theorem Po.bindO {o:Out (Option Int×Sl)} {k:Option Int×Sl->WM} {Q:VK} {R:Option Int->Hp->Prop} (hp:Po C own m σ F H (o.bind k) Q)
  (h:∀ F1 H1 b ρ1,Rep C.K own F1 H1 σ ρ1->Chg (OA own σ) F H F1 H1->Po C own m σ F1 H1 (k (b,ρ1)) Q->R b H1):PoO C own σ F H o R:=by
 cases o with
 | ok p=>obtain ⟨d,ρ1⟩:=p;exact λF1 H1 a c=>h F1 H1 d ρ1 a c (Po.shift (show Po C own m σ F H (k (d,ρ1)) Q from hp) c)
 | exc x=>exact hp
 | bad=>exact hp.elim
noncomputable def kR (fa:jl) (l u k:Option (jl)):jl:=λρ=>(fa ρ).bind λp=>(JH l p.2).bind λa=>(JH u a.2).bind λb=>(JH k b.2).bind λc=>(slD a.1 b.1 c.1 p.1).plain.bind λd=>.ok (d,c.2)
section
variable {a:Expr} {fa f:jl} {p2:Pos}
theorem jL:PO X im (tO C own (JH im)):=by intro pins s σ H Q I ⟨F,ρ,a,h⟩;exact qff pins s σ H Q I (h F H a .refl)
theorem kN (h:PE X e (tE C own m f)):PO X (ij e) (tO C own (JH (ij f))):=by
 intro pins s σ H Q I ⟨F,ρ,r,hp⟩;refine qfg h pins s σ H Q I ⟨F,ρ,r,?_⟩;have hp:PoO C own σ F H ((f ρ).bind λp=>match p.1 with | .int i=>.ok (ij i,p.2) | _=>.bad) Q:=hp;cases q:f ρ with
 | ok p=>
  rw [q] at hp;obtain ⟨d,ρ1⟩:=p;cases d with
  | int i=>exact λv F1 H1 a k b=>⟨i,b.top.int,hp F1 H1 a k⟩
  | _=>exact hp.elim
 | exc c=>rw [q] at hp; exact hp
 | bad=>rw [q] at hp; exact hp.elim
theorem qai {r:V->Option Int->Option Int->Option Int->Hp->VK->Prop} {tl th tk:TO} {lo hi st:Option Expr} (hr:qkW X r) (t:PE X e te) (hl:PO X lo tl) (n:PO X hi th) (o:PO X st tk):PE X (.Subscript e (.Slice lo hi st p2) pos) (λσ H Q=>te σ H λx H1=>tl σ H1 λl H2=>th σ H2 λu f=>tk σ f λk d=>r x l u k d Q):=by
 refine ⟨?_⟩;intro pins s σ H Q I h;refine Subscript_ (thn (t pins s σ H _ I h) λv s1 ⟨x,H1,C,r1,m⟩=>?_);refine wpAny_Slice (thn (hl pins s1 σ H1 _ C m) λvl s2 ⟨l,H2,z,pl,j⟩=>thn (n pins s2 σ H2 _ z j) λa s3 ⟨u,f,y,p,g⟩=>thn (o pins s3 σ f _ y g) λc s4 ⟨k,d,B,pk,i⟩=>?_);have G:Inv X pins σ d { s4 with heap:=s4.heap.push { cls:=.type "slice",data:=.fields #[vl,a,c] } }:=B.kept (t':=s4.toks) λb D q=>aa _ q;obtain ⟨T,id,hT,ht,hg⟩:=hr pins { s4 with heap:=s4.heap.push { cls:=.type "slice",data:=.fields #[vl,a,c] } } σ d x v vl a c l u k s4.heap.objs.size Q G r1 (Heap.IsSliceOf.new ..) pl p pk i;show iB 'c' X.A (subscriptTail e (.Slice lo hi st p2) v (.ref s4.heap.objs.size)) (EP X pins σ Q) X.xe { s4 with heap:=s4.heap.push { cls:=.type "slice",data:=.fields #[vl,a,c] } };cases st with
 | none=>exact tail_any (ops:=[.ref s4.heap.objs.size,v]) ht hT hg (by with_unfolding_all rfl)
 | some st=>exact tail_any (ops:=[v,.ref s4.heap.objs.size]) ht hT hg (by with_unfolding_all rfl)
theorem JI {v:iq} {o:Option Int} (h:lT v o):∃ l:Option (Int×Tok),v=partValue l/\l.map (·.1)=o:=by
 cases h with
 | none=>exact ⟨im,rfl,rfl⟩
 | int i t=>exact ⟨ij (i,t),rfl,rfl⟩
theorem qlA (D:C.K=X.K):qkW X (λx lo hi st H Q=>∃ F d,Same F H/\Is C.K F x d/\PoV C .sh F H (slD lo hi st d) Q):=by
 intro pins s σ H x v vl G J lo hi st sl Q I m y pl w pk h;obtain ⟨F,d,A,is,po⟩:=h;cases d with
 | tup ds=>
  have f:=is;cases is with
  | @tup a xs _ hq t=>
   cases m;have g:SqT X.K H a xs:=by rw [<-D]; exact jg A hq
   obtain ⟨its,r,ht,M⟩:=I.tuple g;have n:its.length=ds.length:=r.length.symm.trans t.length;have po:PoV C .sh F H (if st.getD 1≠0/\(wt (Vz ds.length lo hi (st.getD 1)) ds).length<=sizeLine then .ok (.tup (wt (Vz ds.length lo hi (st.getD 1)) ds)) else .bad) Q:=po;by_cases c:st.getD 1≠0/\(wt (Vz ds.length lo hi (st.getD 1)) ds).length<=sizeLine
   ·rw [Aa c] at po;have i:=t.pick (Vz ds.length lo hi (st.getD 1));have p:=gk r (Vz ds.length lo hi (st.getD 1));refine ⟨"tuple",_,cX.lookup,ht.typeIs,gl ht y pl w pk c.1 (λe=>?_) ?_ ?_⟩;·rw [aq,n] at e;refine ⟨.ref a,H,I,rfl,po _ F H A .refl ?_⟩;rw [e,qc3];exact f
    ·simp only [aq,n];have j:(wt (Vz ds.length lo hi (st.getD 1)) xs).length<=sizeLine:=by rw [i.length]; exact c.2
     refine ⟨.ref s.heap.objs.size,_,I.laid (t':=s.toks) (o:=.tup (wt (Vz ds.length lo hi (st.getD 1)) xs)) (λb L q=>aa _ q) (aA _) ⟨⟨j,⟨_,ai _ rfl,rfl⟩⟩,_,p,IsTup.new _ _⟩,rfl,?_⟩;obtain ⟨s2,c2⟩:=wF (u:=.tup (wt (Vz ds.length lo hi (st.getD 1)) xs)) A (I.hok.fresh (aA _));exact po _ _ _ s2 c2 (.tup (.inl (.inl qu)) (i.mono c2.grow))
    ·simp only [aq,n];rw [<-p.length,i.length];exact c.2
   ·rw [Ab c] at po; exact po.elim
 | str z=>
  cases is;obtain ⟨t,rfl⟩:=m;have po:PoV C .sh F H (if st.getD 1≠0/\(QV z lo hi (st.getD 1)).length<=sizeLine then .ok (.str (QV z lo hi (st.getD 1))) else .bad) Q:=po;by_cases c:st.getD 1≠0/\(QV z lo hi (st.getD 1)).length<=sizeLine
  ·rw [Aa c] at po;obtain ⟨l,rfl,el⟩:=JI pl;obtain ⟨u,rfl,E⟩:=JI w;obtain ⟨k,rfl,B⟩:=JI pk;refine ⟨"str",_,PySem.F.slot_str_getitem.lookup,typeIs_str s z t,wpAny_getItem_str_slice (l:=l) (u:=u) (st:=k) y (by rw [B]; simpa using c.1) ?_⟩;have c2:=c.2;unfold sliceMade slicePicked;rw [el,E,B];unfold QV at c2 po;by_cases q:(st.getD 1 == 1&&(dB lo hi (st.getD 1) z.length).length == z.length)=iu;·rw [Aa q] at c2 po ⊢;exact ⟨.str z,H,I,⟨t,rfl⟩,po _ F H A .refl (.str c2)⟩
   ·rw [Ab q] at c2 po ⊢;exact ⟨c2,.str _,H,I.tok _,⟨_,rfl⟩,po _ F H A .refl (.str c2)⟩
  ·rw [Ab c] at po; exact po.elim
 | _=>exact po.elim
theorem vN {lo hi st:Option Expr} {l u k:Option (jl)} (t:C.K=X.K) (s:PE X e (tE C own ma fa)) (hl:PO X lo (tO C own (JH l))) (o:PO X hi (tO C own (JH u))) (q:PO X st (tO C own (JH k))) (n:ma≠.any:=by decide):PE X (.Subscript e (.Slice lo hi st p2) pos) (tE C own .sh (kR fa l u k)):=by
 refine jN (qai (qlA (C:=C) t) (yh s n) hl o q) λσ H Q ⟨F,ρ,p,h⟩=>⟨F,ρ,p,Po.bind h λv F1 H1 d ρ1 j A m h1=>?_⟩
 refine ⟨F1,ρ1,j,Po.bindO h1 λz H2 a ρ2 i c2 h2=>⟨z,ρ2,i,Po.bindO h2 λy E b f g J x=>⟨y,f,g,Po.bindO x λM D c B r I w=>?_⟩⟩⟩;exact ⟨M,d,r.sub,((m.mono c2.grow).mono J.grow).mono I.grow,PoV.of r w⟩
end
noncomputable def Its (x:Str):It:=⟨λi _=>i < x.cps.size,λi H v H'=>H'=H/\∃ c,x.cps[i]?=ij c/\v=.str ⟨#[c]⟩,λi _=>x.cps.size<=i⟩
noncomputable def VA (x:Str):List D:=x.cps.toList.map λc=>.str ⟨#[c]⟩
theorem YG {P:iF} {w:iG} {K:Frag} {tg:Expr} (it:Addr) (x:Str) (t:Tok) (ty:String) (hn:["enumerate", "zip", "dict_itemiterator", "dict_reverseitemiterator", "odict_iterator", "itertools.zip_longest", "itertools.pairwise"].contains ty=ir)
  (W:∀ A:iJ,A.handled=im->Walks P w A it [it] [it] x.cps.size (SignAt x) (λi h=>h.IsStrIter it ty x t i)) (y:∀ (A:iJ) (i:Nat) (s:iw) (Q:iq->iw->Prop) (E:iq->iw->Prop),s.heap.IsStrIter it ty x t i->Q (.ref it) s->iB (model P w) A (mF (.ref it)) Q E s) :
  Turn P w K tg (Its x) [it] it (λi h=>h.IsStrIter it ty x t i/\i<=x.cps.size) where
 mem:=by simp
 obj:=λi h st b a=>by
  have e:b=it:=by simpa using a
  subst e;obtain ⟨o,e,c,d⟩:=st.1;exact ⟨o,e,λv z=>by rw [d] at z; cases z⟩
 keep:=λi h h' st k=>by obtain ⟨⟨o,e,r⟩,hi⟩:=st;exact ⟨⟨o,k it 'g' o e,r⟩,hi⟩
 item:=by
  intro X m j n l i pins s σ H E I f st hg;subst m j n;obtain ⟨f0,f1,f2,p,f4,q⟩:=f it 'g';refine (W X.A (I.ok.hd l)).item i s _ _ hg st.1 λv h' tk m g kp=>?_;have B:Inv X pins σ H { s with heap:=h',toks:=tk }:=I.turned (t':=tk) (λb o a e=>kp b o (by simpa using a) e) f0 f1 p f4 q;obtain ⟨o,e,c,d⟩:=id g;obtain ⟨U,u,h1,h2⟩:∃ U u,x.cps[i]?=ij U/\v=f9 ⟨#[U]⟩ u:=by
   unfold SignAt at m;first
    | exact m
    | (obtain ⟨U,u,h1,h2⟩:=m; exact ⟨U,u,h1,h2⟩)
    | (obtain ⟨U,h1,u,h2⟩:=m; exact ⟨U,u,h1,h2⟩)
    | (obtain ⟨u,U,h1,h2⟩:=m; exact ⟨U,u,h1,h2⟩)
  subst h2;exact ⟨_,rfl,qct (s:={ s with heap:=h',toks:=tk }) e c d hn ⟨.str ⟨#[U]⟩,H,B,⟨u,rfl⟩,⟨rfl,U,h1,rfl⟩,⟨g,hg⟩,λb a=>(f b a).1⟩⟩
 done:=by intro X m j n l i pins s σ H E I f st hg;subst m j n;obtain ⟨f0,f1,f2,p,f4,q⟩:=f it 'g';have hi:i=x.cps.size:=fV st.2 hg;subst hi;exact (W X.A (I.ok.hd l)).done s _ _ st.1 λh' tk kp=>⟨rfl,I.turned (t':=tk) (λb o a e=>kp b o (by simpa using a) e) f0 f1 p f4 q⟩
 self:=λA i s Q E st h=>y A i s Q E st.1 h
theorem qhY:ItIs K F (Its x) (VA x) where
 go:=λi H hi _=>by
  have:i < x.cps.size:=by simpa [VA] using hi
  exact this
 yld:=λi Fi H v H' d e s1 s2 y=>by
  obtain ⟨rfl,c,h1,rfl⟩:=y;have e:d=.str ⟨#[c]⟩:=by
   unfold VA at e;rw [aH] at e;have h1:x.cps.toList[i]?=ij c:=by simpa using h1
   rw [h1] at e;exact (aI.inj e).symm
  subst e;exact ⟨Fi,.refl,s2,.str (Yw c)⟩
 stop:=λi H hi _=>by
  have:x.cps.size<=i:=by simpa [VA] using hi
  exact this
noncomputable def jM:D->Out (List D)
 | .lst xs=>.ok xs
 | .tup xs=>.ok xs
 | .str x=>.ok (VA x)
 | _=>.bad
noncomputable def jR (f:jl):ww:=λρ=>(f ρ).bind λp=>(jM p.1).bind λds=>.ok (ds,p.2)
section
variable {f:jl}
theorem qhZ {l:Expr} {tl:TE} (hl:PE X l tl):PI X tg l (λσ H R=>tl σ H λx H1=>(∃ a,x=.ref a/\(((∃ xs,SqL X.K H1 a xs)/\R (Itl X.K a) H1)\/((∃ xs,SqT X.K H1 a xs)/\R (Itt X.K a) H1)))\/∃ z,x=.str z/\R (Its z) H1):=by
 refine ⟨?_⟩;intro pins s σ H R I h;refine thn (hl pins s σ H _ I h) λv s1 ⟨x,H1,d,r1,c⟩=>?_;have fp:∀ b∈[s1.heap.objs.size],WL X pins H1 b:=λb j=>by
  have e:b=s1.heap.objs.size:=by simpa using j
  subst e;exact d.fpOk (aA _) (d.hok.fresh (aA _))
 rcases c with ⟨a,rfl,q⟩ | ⟨z,rfl,q⟩
 ·cases r1;rcases q with ⟨⟨xs,hq⟩,q⟩ | ⟨⟨xs,hq⟩,q⟩
  ·obtain ⟨its,r,p,f⟩:=d.list hq;refine wpAny_pyIter_list p.isList ?_;exact ⟨s1.heap.objs.size,[s1.heap.objs.size],_,_,H1,rfl,d.kept (t':=s1.toks) λb o e=>aa _ e,Gj a _,⟨_,ai _ rfl,rfl,rfl⟩,fp,q⟩
  ·obtain ⟨its,r,p,f⟩:=d.tuple hq;refine lj (show s1.heap.IsTuple a its.toArray from p) ?_;exact ⟨s1.heap.objs.size,[s1.heap.objs.size],_,_,H1,rfl,d.kept (t':=s1.toks) λb o e=>aa _ e,XT a _,⟨_,ai _ rfl,rfl,rfl⟩,fp,q⟩
 ·obtain ⟨t,rfl⟩:=r1;cases g:z.cps.all (· < 128) with
  | true=>refine wpAny_pyIter_ascii g ?_;exact ⟨s1.heap.objs.size,[s1.heap.objs.size],_,_,H1,rfl,d.kept (t':=s1.toks) λb o e=>aa _ e,YG _ z t "str_ascii_iterator" 'd' (λA hA=>Walks.strAscii hA _ z t) (λA i s Q E st h=>wpAny_pyIter_striter_ascii st h),⟨⟨_,ai _ rfl,rfl,rfl⟩,bH _⟩,fp,q⟩
  | false=>refine wpAny_pyIter_wide g ?_;exact ⟨s1.heap.objs.size,[s1.heap.objs.size],_,_,H1,rfl,d.kept (t':=s1.toks) λb o e=>aa _ e,YG _ z t "str_iterator" 'd' (λA hA=>Walks.strWide hA _ z t) (λA i s Q E st h=>wpAny_pyIter_striter_wide st h),⟨⟨_,ai _ rfl,rfl,rfl⟩,bH _⟩,fp,q⟩
theorem qW (n:C.K=X.K) (h:PE X e (tE C own m f)) (b:m≠.any:=by decide):PI X tg e (tIt C own (jR f)):=by
 refine qcR (qhZ (yh h b)) λσ H R ⟨F,ρ,r,h⟩=>⟨F,ρ,r,PoI.bindV h λv F1 H1 d ρ1 a k c h1=>?_⟩
 have c:Is C.K F1 v d:=c;cases c with
 | lst p t=>exact .inl ⟨_,rfl,.inl ⟨⟨_,by rw [<-n]; exact a.sub.seq p⟩,by rw [<-n]; exact h1 _ F1 H1 a k (qhL p t)⟩⟩
 | tup p t=>exact .inl ⟨_,rfl,.inr ⟨⟨_,by rw [<-n]; exact jg a.sub p⟩,by rw [<-n]; exact h1 _ F1 H1 a k (qhM p t)⟩⟩
 | str z=>exact .inr ⟨_,rfl,h1 _ F1 H1 a k qhY⟩
 | _=>exact h1.elim
end
noncomputable def QW (b:Bool):D->Out D
 | .lst ds=>match vC ds with
  | some bs=>.ok (.int (bs.countP (· == b):Nat))
  | none=>.bad
 | _=>.bad
noncomputable def QX (b:Bool):D->Out D
 | .lst ds=>match vC ds with
  | some bs=>match bs.findIdx? (· == b) with
   | some j=>.ok (.int (j:Nat))
   | none=>.bad
  | none=>.bad
 | _=>.bad
section
variable {o:Expr} {fo:jl} {apos:Pos} {b:Bool}
theorem VB (A:iJ) (s:iw) (c b:Bool):ii A s (.bool c) (.bool b) (c == b):=SeqAt.EqAt.bool_bool _ _
theorem qc4:MtR X "list.count" (λx vs H Q=>∃ (a:Addr) (xs:List V) (bs:List Bool) (b:Bool),x=.ref a/\vs=[.bl b]/\SqL X.K H a xs/\(∀ us,Vals xs us->us=bs.map bb)/\Q (.int (bs.countP (· == b):Nat)) H):=by
 intro pins s σ H x vs v us Q I f g h;obtain ⟨a,xs,bs,b,rfl,rfl,hq,i,q⟩:=h;cases f;obtain ⟨u,rfl,B⟩:=g.one;cases B;obtain ⟨its,r,pl,z⟩:=I.list hq;have e:=i its r;subst e;obtain ⟨⟨cls,dd,data,sl⟩,n,l,d,hd,t⟩:=pl;simp only at d hd t;subst d t;refine lr PySem.F.slot_list_count ⟨_,l,rfl⟩ PySem.F.entry_list_count (PySem.F.args_list_count_2 _ _) (SeqAt.list_countAt a _ n dd sl (.bool b) (λv=>v == .bool b)) ⟨l,λy D=>?_,?_⟩
 ·have D:y∈bs.map bb:=by simpa using D
  obtain ⟨c,_,rfl⟩:=ah.mp D;have e:(bb c == bb b)=(c == b):=by cases c <;> cases b <;> rfl
  show ii _ s (.bool c) (.bool b) (bb c == bb b);rw [e];exact VB _ s c b
 ·refine ⟨.int (bs.countP (· == b):Nat),H,I.tok _,⟨s.toks,?_⟩,q⟩;have e:(bs.map bb).toArray.toList.countP (λv=>v == bb b)=bs.countP (· == b):=by rw [List.toList_toArray,List.countP_map];congr 1;funext c;cases c <;> cases b <;> rfl
  rw [e]
theorem qc5:MtR X "list.index" (λx vs H Q=>∃ (a:Addr) (xs:List V) (bs:List Bool) (b:Bool) (j:Nat),x=.ref a/\vs=[.bl b]/\SqL X.K H a xs/\(∀ us,Vals xs us->us=bs.map bb)/\bs.findIdx? (· == b)=ij j/\Q (.int (j:Nat)) H):=by
 intro pins s σ H x vs v us Q I o p h;obtain ⟨a,xs,bs,b,j,rfl,rfl,hq,w,G,q⟩:=h;cases o;obtain ⟨u,rfl,B⟩:=p.one;cases B;obtain ⟨its,r,pl,z⟩:=I.list hq;have e:=w its r;subst e;obtain ⟨⟨cls,dd,data,sl⟩,n,l,k,hd,t⟩:=pl;simp only at k hd t;subst k t;obtain ⟨i,g,f⟩:=List.findIdx?_eq_some_iff_getElem.mp G;have d:bs.length<=sizeLine:=by have:=r.length; simp at this; lia
 have ev:∀ c:Bool,(bb c == bb b)=(c == b):=λc=>by cases c <;> cases b <;> rfl
 refine lr PySem.F.slot_list_index ⟨_,l,rfl⟩ PySem.F.entry_list_index (PySem.F.args_list_index_2 _ _) (SeqAt.list_indexAt a _ n dd sl (.bool b) (λv=>v == .bool b) j (by simpa using i) (by rw [iM] at d; lia) (by simp [ev]; simpa using g) λm A h1=>?_) ⟨l,λy D=>?_,?_⟩;·have:=f m h1;simp [ev];simpa using this
 ·have D:y∈bs.map bb:=by simpa using D
  obtain ⟨c,_,rfl⟩:=ah.mp D;show ii _ s (.bool c) (.bool b) (bb c == bb b);rw [ev];exact VB _ s c b
 ·exact ⟨.int (j:Nat),H,I.tok _,⟨_,rfl⟩,q⟩
theorem qc6 {k c2} (y:C.K=X.K) (u:PE X o (tE C own m fo))
  (f:i7 o "count" X.env (eval o X.env)=eval o X.env:=by rfl)
  (w:((iS cpos (iA [.Constant (.bool b) k c2] X.env)).all (λx=>!x.1)&&(lq cpos (iZ [] X.env)).all (λx=>x.1.isSome)
   && decide ([g7 (.bool b) k c2].length+([]:List i5).length+(if ([]:List i5).isEmpty then 0 else 1) < 30))=true:=by exact wC rfl)
  (e:(apos.endLine == cpos.line)=true:=by rfl) (s:iA [.Constant (.bool b) k c2] X.env=[(ir,eval (.Constant (.bool b) k c2) X.env)]:=by exact qT rfl) :
  PE X (.Call (.Attribute o "count" apos) [.Constant (.bool b) k c2] [] cpos) (tE C own .sh (d1 (QW b) fo)):=by
 refine jN (XZ cz PySem.F.slot_list_count PySem.F.type_list_count qc4 u (qY qe2 jT s) f w e s rfl) λσ H Q h=>?_;obtain ⟨F,ρ,n,h⟩:=Za (ma:=m) h;refine ⟨F,ρ,n,?_⟩;cases q:fo ρ with
 | ok p=>
  rw [q] at h;obtain ⟨d,ρ1⟩:=p;intro v F1 H1 i k l;obtain ⟨z,dx,A,tx,po⟩:=h v F1 H1 i k l;cases dx <;> try exact po.elim
  rename_i ds;unfold QW at po;cases j:vC ds with
  | none=>simp only [j] at po; exact po.elim
  | some bs=>
   simp only [j] at po;obtain ⟨a,vs,rfl,hq,t⟩:=tx.lst A;have g:SqL X.K H1 a vs:=by rw [<-y]; exact hq
   exact ⟨.inl ⟨rfl,vs,g⟩,a,vs,bs,b,rfl,rfl,g,λus r=>JG t r j,po _ z H1 A .refl (.int _)⟩
 | exc c=>rw [q] at h; exact h
 | bad=>rw [q] at h; exact h.elim
theorem qc7 {k c2} (B:C.K=X.K) (z:PE X o (tE C own m fo))
  (f:i7 o "index" X.env (eval o X.env)=eval o X.env:=by rfl)
  (w:((iS cpos (iA [.Constant (.bool b) k c2] X.env)).all (λx=>!x.1)&&(lq cpos (iZ [] X.env)).all (λx=>x.1.isSome)
   && decide ([g7 (.bool b) k c2].length+([]:List i5).length+(if ([]:List i5).isEmpty then 0 else 1) < 30))=true:=by exact wC rfl)
  (e:(apos.endLine == cpos.line)=true:=by rfl) (u:iA [.Constant (.bool b) k c2] X.env=[(ir,eval (.Constant (.bool b) k c2) X.env)]:=by exact qT rfl) :
  PE X (.Call (.Attribute o "index" apos) [.Constant (.bool b) k c2] [] cpos) (tE C own .sh (d1 (QX b) fo)):=by
 refine jN (XZ cz PySem.F.slot_list_index PySem.F.type_list_index qc5 z (qY qe2 jT u) f w e u rfl) λσ H Q h=>?_;obtain ⟨F,ρ,y,h⟩:=Za (ma:=m) h;refine ⟨F,ρ,y,?_⟩;cases q:fo ρ with
 | ok p=>
  rw [q] at h;obtain ⟨d,ρ1⟩:=p;intro v F1 H1 i k s;obtain ⟨D,dx,A,tx,po⟩:=h v F1 H1 i k s;cases dx <;> try exact po.elim
  rename_i ds;unfold QX at po;cases n:vC ds with
  | none=>simp only [n] at po; exact po.elim
  | some bs=>
   simp only [n] at po;cases l:bs.findIdx? (· == b) with
   | none=>simp only [l] at po; exact po.elim
   | some j=>
    simp only [l] at po;obtain ⟨a,vs,rfl,hq,t⟩:=tx.lst A;have g:SqL X.K H1 a vs:=by rw [<-B]; exact hq
    exact ⟨.inl ⟨rfl,vs,g⟩,a,vs,bs,b,j,rfl,rfl,g,λus r=>JG t r n,l,po _ D H1 A .refl (.int _)⟩
 | exc c=>rw [q] at h; exact h
 | bad=>rw [q] at h; exact h.elim
end
end L2.D2
namespace L2.D2
open PySem PySem.Spec PySem.Calls PyProof.Rows PySem.W Builtin Builtin.ObjectAttr Builtin.Getset_descriptor
variable {K:Frag} {R:mG->iw->Prop}
section
variable {prog:iF} {w:iG} {A:iJ} {E:iq->iw->Prop} {h:Heap} {g:Array mj} {d:Drawn} {t:Nat} {os:j7} {a C:Addr} {o:Obj}
theorem qh0 (X:K.In h) (b:Looks 'e' h (lX (.ref a)) (.ref C)) (c:mroIn K C (.type "object")=ij iu) (hq:R (.ok (.ret (.ref C))) ⟨h,g,d,t,os⟩):lg 'e' A (.call (.builtin "getset_descriptor.__get__") ⟨[.builtin "object.__class__",.ref a,.ref C],[]⟩) R ⟨h,g,d,t,os⟩:=by
 have L:=looks_mroIn (M:=model prog w) X c;refine codeAny_call_builtin KF.slot_gs.plain KF.entry_gs (KF.slot_gs.check _ _ _ _ _ _ _ _ g8 (KF.args_gs _ _ _) ?_);unfold Builtin.«getset_descriptor.__get__» descrGet;rw [dga_obj];refine ip (iy ?_);unfold descrGetter descrCheckInstance descrNameAndClass isInstance;simp only [KF.owner_class];repeat lk
 refine ⟨Code.quiet_builtin _ 'a',iQ KF.entry_class ?_⟩;unfold Builtin.«object.__class__» shownTypeOf;repeat lk
 exact hq
theorem qc8 {n:iq} {Q:Unit->iw->Prop} (X:K.In h) (e:Looks 'e' h (lX (.ref a)) (.ref C)) (c:subIn K (.ref C) (.type "BaseException")=ij iu) (hq:Q () ⟨h,g,d,t,os⟩):iB 'e' A (checkBuiltinCall "BaseException.__getattribute__" ⟨[.ref a,n],[]⟩) Q E ⟨h,g,d,t,os⟩:=by
 have k:builtinKind "BaseException.__getattribute__"=ij .slot:=by decide +kernel
 have b:splitId "BaseException.__getattribute__"=ij ("BaseException", "__getattribute__"):=by decide +kernel
 have f:=F.args_bexc_ga (.ref a) n;have L:Looks 'e' h (isInstance (.ref a) (.type "BaseException")) true:=e.andThen (looks_subIn X c);simp only [checkBuiltinCall,k,b];refine ip (L.at ?_);repeat (first | assumption | wp_step)
theorem qc9 {tk:Tok} {Q:Fin->iw->Prop} (X:K.In h) (b:Looks 'e' h (lX (.ref a)) (.ref C)) (Y:lY K (.ref C) "__class__"=ij (ij (.builtin "object.__class__"))) (c:mroIn K C (.type "object")=ij iu) (hq:Q (.done (.ret (.ref C))) ⟨h,g,d,t,os⟩):iB 'e' A (Builtin.«object.__getattribute__» ⟨[.ref a,.str "__class__" tk],[]⟩) Q E ⟨h,g,d,t,os⟩:=by
 have L:=looks_findIn (M:=model prog w) X Y;have e:(⟨h,g,d,t,os⟩:iw).TypeIs (.builtin "object.__class__") "getset_descriptor":=g8;have q:=g8;have i:=F.slot_gs_get.lookup;have f:=F.slot_gs_set.lookup;repeat (any_goals (first | assumption | with_reducible refine b.at ?_ | with_reducible refine L.at ?_ | wp_step))
 refine qh0 X b c ?_;repeat (any_goals (first | assumption | wp_step))
theorem qfL {tk:Tok} (X:K.In h) (b:Looks 'e' h (lX (.ref a)) (.ref C)) (c:subIn K (.ref C) (.type "BaseException")=ij iu) (Y:lY K (.ref C) "__class__"=ij (ij (.builtin "object.__class__"))) (m:mroIn K C (.type "object")=ij iu) (hq:R (.ok (.ret (.ref C))) ⟨h,g,d,t,os⟩):lg 'e' A (.call (.builtin "BaseException.__getattribute__") ⟨[.ref a,.str "__class__" tk],[]⟩) R ⟨h,g,d,t,os⟩:=
 codeAny_call_builtin F.excAttr_ValueError.ga.plain F.entry_bexc_ga (qc8 X b c (qc9 X b Y m hq))
theorem qkc {tk:Tok} {f e:Bool} {Q:iq->iw->Prop} (X:K.In h) (L:Looks 'e' h (lX (.ref a)) (.ref C)) (s:subIn K (.ref C) (.type "BaseException")=ij iu) (g1:lY K (.ref C) "__getattribute__"=ij (ij (.builtin "BaseException.__getattribute__"))) (Z:lY K (.ref C) "__getattr__"=ij im)
  (Y:lY K (.ref C) "__class__"=ij (ij (.builtin "object.__class__"))) (m:mroIn K C (.type "object")=ij iu) (hq:Q (.ref C) ⟨h,g,d,t,os⟩) :
  iB 'e' A (getAttrBy (.ref a) (.str "__class__" tk) f e) Q E ⟨h,g,d,t,os⟩:=by
 have j:=looks_findIn (M:=model prog w) X g1;have L2:=looks_findIn (M:=model prog w) X Z;have k:=F.excAttr_ValueError.ga.bind (.ref a);have i:(e&&onTheHeap (dj "BaseException.__getattribute__"))=false:=by cases e <;> rfl
 have b:(dj "BaseException.__getattribute__" == dj "object.__getattribute__")=false:=by decide +kernel
 have c:(onTheHeap (bA C)&&dj "BaseException.__getattribute__" == dj "object.__getattribute__")=false:=by rw [b]; rfl
 repeat (any_goals (first | assumption | with_reducible refine L.at ?_ | with_reducible refine j.at ?_ | with_reducible refine L2.at ?_ | wp_step))
 refine qfL X L s Y m ?_;repeat (any_goals (first | assumption | wp_step))
theorem qfM {Q:Option iq->iw->Prop} (X:K.In h) (b:Looks 'e' h (lX (.ref a)) (.ref C)) (c:subIn K (.ref C) (.type "BaseException")=ij iu) (g1:lY K (.ref C) "__getattribute__"=ij (ij (.builtin "BaseException.__getattribute__"))) (Z:lY K (.ref C) "__getattr__"=ij im)
  (Y:lY K (.ref C) "__class__"=ij (ij (.builtin "object.__class__"))) (m:mroIn K C (.type "object")=ij iu) (hq:Q (ij (.ref C)) ⟨h,g,d,t+1,os⟩) :
  iB 'e' A (l5 (.ref a) "__class__") Q E ⟨h,g,d,t,os⟩:=by
 unfold l5 getAttrBy?;exact ip (wpAny_mkText (ip (i8 (qkc X b c g1 Z Y m (iy hq)))))
end
noncomputable def xcB (K:Frag) (C:Addr):Bool:=decide (subIn K (.ref C) (.type "BaseException")=ij iu)&&decide (lY K (.ref C) "__getattribute__"=ij (ij (.builtin "BaseException.__getattribute__")))&&decide (lY K (.ref C) "__getattr__"=ij im) &&
 decide (lY K (.ref C) "__class__"=ij (ij (.builtin "object.__class__")))&&decide (mroIn K C (.type "object")=ij iu)&&(clsIn K C).isSome
def qfN (a C:Addr) (h:Heap):Prop:=∃ o vs,h.get? a=ij o/\o.cls=.ref C/\o.data=.fields vs
theorem qda {a C:Addr} (b:xcB K C=iu):KitX K (.ref a) (.ref C) (qfN a C):=by
 unfold xcB at b;simp only [aS,decide_eq_true_eq] at b;obtain ⟨⟨⟨⟨⟨r,o⟩,m⟩,v⟩,f⟩,j⟩:=b;have ty:∀ (M:Model) (h:Heap),qfN a C h->Looks M h (lX (.ref a)) (.ref C):=λM h ⟨u,vs,e1,i,D⟩=>by rw [<-i]; exact (Looks.ld e1).andThen .now
 refine ⟨λM h _ x=>ty M h x,λM h X _=>?_,λh p dd its n sl X ht=>?_,λ{prog w A E Q s} X x hq=>?_⟩
 ·unfold clsIn at j;split at j;·rename_i U d' e c l;intro B y z s' k q;unfold isType loadHead;exact ip (wpAny_loadPart (k _ _ (X _ _ l)) (iy q))
  ·cases j
 ·refine Bool.eq_false_iff.mpr λq=>?_;have q:bA C=bA p:=beq_iff_eq.mp q;cases q;unfold clsIn at j;split at j;·rename_i U d' e c l;rw [X _ _ l] at ht;cases ht
  ·cases j
 ·obtain ⟨h,g,d,t,os⟩:=s;exact qfM X (ty _ h x) r o m v f hq
noncomputable def JJ (ans:Addr->Option Bool):D->Out D
 | .xcp C=>match ans C with
  | some b=>.ok (.bl b)
  | none=>.bad
 | _=>.bad
variable {cn:Str}
section
variable {X:Cx} {C:Ct} {own:List Nat} {a:Expr} {fa:jl} {ma:Mo} {pos:Pos} {cls:iq} {vc:V} {ans:Addr->Option Bool}
theorem YH (f:∀ Cc b,ans Cc=ij b->xcB X.K Cc=iu/\kitOne X.K (.ref Cc) cls=ij b) (i:RelV vc cls):uj X (.builtin "isinstance") (λxs H Q=>∃ x F d,xs=[x,vc]/\Same F H/\TopIs C.K F H x d/\PoV C .sh F H (JJ ans d) Q):=by
 intro pins s σ H xs us Q I r h;obtain ⟨x,F,d,rfl,A,tx,po⟩:=h;obtain ⟨u,c,rfl,B,a⟩:=Gp r;cases d with
 | xcp Cc=>
  unfold JJ at po;cases q:ans Cc with
  | none=>simp only [q] at po; exact po.elim
  | some b=>
   simp only [q] at po;obtain ⟨h1,h2⟩:=f Cc b q;rcases tx with tx | ⟨_,_,tx⟩
   ·cases tx with
    | @xcp ad _ hF=>
     cases B;have hx:qfN ad Cc s.heap:=(show ObjOk X.prog X.w H s.heap ad (QN ad Cc) from I.hok ad _ (A _ _ hF)).1;have e:cls=c:=by
      cases vc with
      | ref z=>exact (show cls=bA z from i).trans (show c=bA z from a).symm
      | ty z=>exact (show cls=fj z from i).trans (show c=fj z from a).symm
      | non=>exact (show cls=bV from i).trans (show c=bV from a).symm
      | bl z=>exact (show cls=bb z from i).trans (show c=bb z from a).symm
      | int z=>obtain ⟨t,rfl⟩:=i; unfold kitOne kitCls at h2; simp at h2
      | str z=>obtain ⟨t,rfl⟩:=i; unfold kitOne kitCls at h2; simp at h2
      | byt z=>obtain ⟨t,rfl⟩:=i; unfold kitOne kitCls at h2; simp at h2
      | flt z=>obtain ⟨t,rfl⟩:=i; unfold kitOne kitCls at h2; simp at h2
     subst e;exact kia_one (qda h1) I.kIn hx h2 (λz=>nomatch z) λtk=>⟨.bl b,H,I.tok tk,rfl,po _ F H A .refl (.bl b)⟩
   ·exact tx.elim
 | _=>exact po.elim
theorem YI {σ:St} {H:Hp} {Q:VK} (h:tE C own .sh (d1 (JJ ans) fa) σ H Q):XX (tE C own ma fa) (XX (tC vc) qjf) σ H λxs H1=>∃ x F d,xs=[x,vc]/\Same F H1/\TopIs C.K F H1 x d/\PoV C .sh F H1 (JJ ans d) Q:=by
 obtain ⟨F,ρ,r,h⟩:=Za (ma:=ma) h;refine ⟨F,ρ,r,?_⟩;cases q:fa ρ with
 | ok p=>rw [q] at h;obtain ⟨d,ρ1⟩:=p;intro v F1 H1 a k m;obtain ⟨b,dx,z⟩:=h v F1 H1 a k m;exact ⟨v,b,dx,rfl,z⟩
 | exc c=>rw [q] at h; exact h
 | bad=>rw [q] at h; exact h.elim
theorem yZ {Ct:Addr} {p t:Pos} (hg:Gl X "isinstance") (m:X.mg "isinstance"=im) (d:iE "isinstance"=ij (.builtin "isinstance")) (ht:Gl X cn) (e:X.mg cn=ij (.ref Ct)) (f:∀ Cc b,ans Cc=ij b->xcB X.K Cc=iu/\kitOne X.K (.ref Cc) (.ref Ct)=ij b) (g:PE X a (tE C own ma fa)) (c:Dbg cn:=by decide)
  (h1:iA [a,.Name cn t] X.env=(ir,eval a X.env)::iA [.Name cn t] X.env:=by rfl) (h2:iA [.Name cn t] X.env=[(ir,eval (.Name cn t) X.env)]:=by rfl):PE X (.Call (.Name "isinstance" p) [a,.Name cn t] [] pos) (tE C own .sh (d1 (JJ ans) fa)):=
 jN (wx (YH (vc:=.ref Ct) f rfl) hg m d (qY g (qY (Gh (v:=.ref Ct) ht e rfl c) jT h2) h1) 'd' 'd' (by rw [h1]) (by rw [h2]; rfl)) λσ H Q h=>YI h
theorem qfO {T:String} {p t:Pos} (hg:Gl X "isinstance") (m:X.mg "isinstance"=im) (g:iE "isinstance"=ij (.builtin "isinstance")) (ht:Gl X cn) (e:X.mg cn=im) (c:iE cn=ij (.type T)) (f:∀ Cc b,ans Cc=ij b->xcB X.K Cc=iu/\kitOne X.K (.ref Cc) (.type T)=ij b) (i:PE X a (tE C own ma fa)) (hn:cn ≠ "__name__":=by decide) (d:Dbg cn:=by decide)
  (h1:iA [a,.Name cn t] X.env=(ir,eval a X.env)::iA [.Name cn t] X.env:=by rfl) (h2:iA [.Name cn t] X.env=[(ir,eval (.Name cn t) X.env)]:=by rfl):PE X (.Call (.Name "isinstance" p) [a,.Name cn t] [] pos) (tE C own .sh (d1 (JJ ans) fa)):=
 jN (wx (YH (vc:=.ty T) f rfl) hg m g (qY i (qY (Gi (v:=.ty T) ht e c rfl hn d) jT h2) h1) 'd' 'd' (by rw [h1]) (by rw [h2]; rfl)) λσ H Q h=>YI h
end
end L2.D2
namespace L2.D2
open PySem PySem.Spec PyProof.Rows
variable {P:iF} {w:iG} {K:Frag} {N:List Str} {A:iJ} {C:Ct}
theorem qh1 {mg:Str->Option iq} {base:Heap} {qual:Str} {scope:lz} {f:Addr} {cd:iq} {outer:List Env} {s0:iw} {H0:Hp} {E:XK} (h:C.E=E):YB (cxk P w K mg base N qual scope f cd A outer s0 H0 E) C:=by subst h;exact qhQ
theorem RoomQ.mono {j k:Nat} (r:RoomQ k A) (h:j<=k):RoomQ j A:=⟨by have:=r.dp; lia,by have:=r.un; lia⟩
noncomputable def Gc (ca:Str->Addr) (cs:List Str) (c:Str):Option Addr:=if c∈cs then ij (ca c) else im
noncomputable def Zm (ca:Str->Addr) (cs:List Str) (x:Str) (C:Addr):Option Bool:=if C∈cs.map ca then ij (decide (C=ca x)) else im
noncomputable def qh2 (ca:Str->Addr) (cs:List Str) (C:Addr):Option Bool:=if C∈cs.map ca then ij iu else im
structure Xs (K:Frag) (cv:Str->iq) (ca:Str->Addr) (cs:List Str) (top:Str):Prop where
 val:∀ c∈cs,cv c=.ref (ca c)
 own:∀ c∈cs,bM K (.ref (ca c)) (cv top)=ij iu
 cls:∀ c∈cs,xcB K (ca c)=iu
 kit:∀ c∈cs,∀ d∈cs,cf K (.ref (ca c)) (.ref (ca d))=ij (decide (ca c=ca d))
 ve:∀ c∈cs,cf K (.ref (ca c)) (.type "ValueError")=ij iu
variable {x:Str}
section
variable {cv:Str->iq} {ca:Str->Addr} {cs:List Str} {top:Str}
theorem Xs.hit (z:Xs K cv ca cs top):∀ c Cc,Gc ca cs c=ij Cc->cv c=.ref Cc/\bM K (.ref Cc) (cv top)=ij true:=λc Cc h=>by
 unfold Gc at h;split at h;·cases h;exact ⟨z.val c (by assumption),z.own c (by assumption)⟩
 ·cases h
theorem Xs.ans (z:Xs K cv ca cs top) (hx:x∈cs):∀ Cc b,Zm ca cs x Cc=ij b->xcB K Cc=iu/\cf K (.ref Cc) (.ref (ca x))=ij b:=λCc b h=>by
 unfold Zm at h;split at h;·rename_i m;obtain ⟨c,d,rfl⟩:=ah.mp m;cases h;exact ⟨z.cls c d,z.kit c d x hx⟩
 ·cases h
theorem Xs.ansV (z:Xs K cv ca cs top):∀ Cc b,qh2 ca cs Cc=ij b->xcB K Cc=iu/\cf K (.ref Cc) (.type "ValueError")=ij b:=λCc b h=>by
 unfold qh2 at h;split at h;·rename_i m;obtain ⟨c,d,rfl⟩:=ah.mp m;cases h;exact ⟨z.cls c d,z.ve c d⟩
 ·cases h
end
inductive SK where
 | l | t
noncomputable def SK.itc:SK->String
 | .l => "list_iterator"
 | .t => "tuple_iterator"
def SeqK (h:Heap) (a:Addr):SK->Array iq->Prop
 | .l,xs=>h.IsList a xs
 | .t,xs=>h.IsTuple a xs
def ItK (h:Heap) (it a:Addr):SK->Nat->Prop
 | .l,i=>h.IsListIter it a i
 | .t,i=>h.IsTupleIter it a i
def SqK (K:Frag) (H:Hp) (a:Addr):SK->List V->Prop
 | .l,xs=>SqL K H a xs
 | .t,xs=>SqT K H a xs
variable {h h':Heap} {a:Addr} {xs:Array iq}
theorem SeqK.at:∀ {k:SK},SeqK h a k xs->(∀ o,h.get? a=ij o->h'.get? a=ij o)->SeqK h' a k xs
 | .l,⟨o,e,c⟩,k=>⟨o,k _ e,c⟩
 | .t,⟨o,e,c⟩,k=>⟨o,k _ e,c⟩
theorem SeqK.lt:∀ {k:SK},SeqK h a k xs->a < h.objs.size
 | .l,⟨o,e,c⟩=>aw e
 | .t,⟨o,e,c⟩=>aw e
variable {it:Addr} {i:Nat}
theorem ItK.obj:∀ {k:SK},ItK h it a k i->∃ o,h.get? it=ij o/\o.cls=.type k.itc/\o.data=.fields #[.ref a,.int i 0]
 | .l,⟨o,e,c,d⟩=>⟨o,e,c,d⟩
 | .t,⟨o,e,c,d⟩=>⟨o,e,c,d⟩
theorem ItK.of:∀ {k:SK},(∃ o,h.get? it=ij o/\o.cls=.type k.itc/\o.data=.fields #[.ref a,.int i 0])->ItK h it a k i
 | .l,⟨o,e,c,d⟩=>⟨o,e,c,d⟩
 | .t,⟨o,e,c,d⟩=>⟨o,e,c,d⟩
variable {E:iq->iw->Prop} {prog:iF} {s:iw} {Q:Option iq->iw->Prop} {l:Addr} {items:Array iq} {o:Obj} {n:Nat}
section
theorem qdb {k:SK} {Q:iq->iw->Prop} (h:SeqK s.heap a k xs) (c:Q 'm' { s with heap:=s.heap.push { cls:=.type k.itc,data:=.fields #[.ref a,.int 0 0] } }):iB 'e' A (mF (.ref a)) Q E s:=by
 cases k with
 | l=>exact wpAny_pyIter_list h c
 | t=>exact lj h c
noncomputable def SK.cl:SK->String
 | .l => "list"
 | .t => "tuple"
theorem qaj {k:SK} (a:A.handled=im) (hi:ItK s.heap it l k i) (hl:SeqK s.heap l k items) (hx:items[i]?=im) (c:∀ h',fY it s.heap h'->Q im { s with heap:=h' }):iB 'e' A (la (.ref it)) Q E s:=by
 cases k with
 | l=>exact wpAny_pyNext_list_end a hi hl hx c
 | t=>exact wpAny_pyNext_tuple_end a hi hl hx c
theorem Zn {k:SK} {x:iq} (hi:ItK s.heap it l k i) (hl:SeqK s.heap l k items) (hx:items[i]?=ij x) (c:∀ h',ItK h' it l k (i+1)->bI it s.heap h'->Q (ij x) { s with heap:=h' }):iB 'e' A (la (.ref it)) Q E s:=by
 cases k with
 | l=>exact wpAny_pyNext_list_item hi hl hx c
 | t=>exact wpAny_pyNext_tuple_item hi hl hx c
theorem SeqK.of (e:h.get? a=ij o) (d:o.data=.seq xs n):∀ {k:SK},o.cls=.type k.cl->SeqK h a k xs
 | .l,c=>⟨o,e,c,n,d⟩
 | .t,c=>⟨o,e,c,n,d⟩
end
variable {sk:SK}
section
theorem Zo:l9 (.type "tuple") "keys"=pure none:=by rw [ll,iX]; kernel_rfl
theorem QA {k:Nat} {Q:Option iq->iw->Prop} (n:A.handled=im) (hx:s.heap.get? a=ij o) (l:o.cls=.type "tuple") (t:o.data=.seq xs k) (hd:o.dict=im)
  (h:∀ h' tk,(∀ b j,s.heap.get? b=ij j->h'.get? b=ij j)->Q im { s with heap:=h',toks:=tk }):iB 'e' A (l5 (.ref a) "keys") Q E s:=by
 obtain ⟨c,dct,q,sl⟩:=o;simp only at l t hd;subst l t hd;obtain ⟨hp,g,d,tk,os⟩:=s;have hT:∀ f,(⟨hp,g,d,f,os⟩:iw).TypeIs (.ref a) "tuple":=λ_=>⟨_,hx,rfl⟩
 have f1:=sub_AttributeError;have v:=dJ.lookup;have f4:=dJ.bind (.ref a);have u:=am_tuple_getattr_none;have p:=Zo;have m:(["__module__", "__name__", "__qualname__", "__doc__", "__annotations__"]:List Str).contains ("keys":Str)=false:=by decide +kernel
 have hsz:("keys":Str).length+100<=sizeLine:=by rw [iM]; decide +kernel
 unfold l5 getAttrBy?;refine ip (wpAny_mkText (ip (i8 ?_)));unfold getAttrBy;repeat (any_goals (first | assumption | exact hT _ | ((with_reducible show iB _ _ (call (dj "tuple.__getattribute__") _ _) _ _ _); refine lr dJ (hT _) am_entry_tuple_getattribute (F.args_tuple_getattribute_2 _ _) (meets_getattribute_miss_tuple a xs k sl "keys" _ p m hsz) ⟨hx,n,λh' f e i=>?_⟩) | wp_step))
 obtain ⟨t',W,r⟩:=i.there;show iB _ _ (lE _ _ _ _ _ _ _) _ _ _;unfold lE;repeat (any_goals (first | assumption | wp_step))
 exact h h' f i.keeps
theorem Zp:l9 (.type "list") "keys"=pure none:=by rw [ll,iX]; kernel_rfl
theorem gm {k:Nat} {Q:Option iq->iw->Prop} (n:A.handled=im) (hx:s.heap.get? a=ij o) (l:o.cls=.type "list") (t:o.data=.seq xs k) (hd:o.dict=im)
  (h:∀ h' tk,(∀ b j,s.heap.get? b=ij j->h'.get? b=ij j)->Q im { s with heap:=h',toks:=tk }):iB 'e' A (l5 (.ref a) "keys") Q E s:=by
 obtain ⟨c,dct,q,sl⟩:=o;simp only at l t hd;subst l t hd;obtain ⟨hp,g,d,tk,os⟩:=s;have hT:∀ f,(⟨hp,g,d,f,os⟩:iw).TypeIs (.ref a) "list":=λ_=>⟨_,hx,rfl⟩
 have f1:=sub_AttributeError;have v:=dP.lookup;have f4:=dP.bind (.ref a);have u:=am_list_getattr_none;have p:=Zp;have m:(["__module__", "__name__", "__qualname__", "__doc__", "__annotations__"]:List Str).contains ("keys":Str)=false:=by decide +kernel
 have hsz:("keys":Str).length+100<=sizeLine:=by rw [iM]; decide +kernel
 unfold l5 getAttrBy?;refine ip (wpAny_mkText (ip (i8 ?_)));unfold getAttrBy;repeat (any_goals (first | assumption | exact hT _ | ((with_reducible show iB _ _ (call (dj "list.__getattribute__") _ _) _ _ _); refine lr dP (hT _) am_entry_list_getattribute (F.args_list_getattribute_2 _ _) (meets_getattribute_miss_list a xs k sl "keys" _ p m hsz) ⟨hx,n,λh' f e i=>?_⟩) | wp_step))
 obtain ⟨t',W,r⟩:=i.there;show iB _ _ (lE _ _ _ _ _ _ _) _ _ _;unfold lE;repeat (any_goals (first | assumption | wp_step))
 exact h h' f i.keeps
theorem zc:entryFor table "dict.update.loop"=ij Builtin.«dict.update.loop»:=entryFor_of_tree (by kernel_rfl)
theorem kO:plainId "dict.update.loop"=true:=by decide +kernel
def qak (h:Heap) (v key val:iq):Prop:=∃ p o n,v=.ref p/\h.get? p=ij o/\o.cls=.type "tuple"/\o.data=.seq #[key,val] n
theorem qdc {sk:SK} {R:mG->iw->Prop} {d t:Addr} (hh:A.in1.handled=im) (Q:d≠t) (u:d≠it) (M:t≠it):∀ (n i:Nat) (s:iw) (kvs:List (Key×iq)) (ps:List (Key×iq×iq)),items.size - i=n->i<=items.size ->ItK s.heap it t sk i->SeqK s.heap t sk items->s.heap.DictOf (qZ prog w) d kvs->ps.length=n->(∀ j p,ps[j]?=ij p->∃ v,items[i+j]?=ij v/\zU p.1 p.2.1=iu/\qak s.heap v p.2.1 p.2.2)->kvs.length+n<=sizeLine ->(∀ h' tk,h'.DictOf (qZ prog w) d (ps.foldl (λl p=>stored l p.1 p.2.2) kvs)->(∀ b o,b≠d->b≠it->s.heap.get? b=ij o->h'.get? b=ij o)->R (.ok (.ret .none)) { s with heap:=h',toks:=tk }) ->lg 'e' A (.builtin "dict.update.loop" ⟨[.ref d,.ref it,iT i,.none],[]⟩) R s:=by
 intro n
 induction n with
 | zero=>intro i s kvs ps hn hi st ht hd hl hp hz V;have e:ps=[]:=List.length_eq_zero_iff.mp hl;subst e;refine iQ zc ?_;rw [bz kO _];show iB _ A.in1 (la (.ref it) >>= _) _ _ s;refine ip (qaj hh st ht (by simp; lia) λh' Y=>?_);show iB _ A.in1 (ret bV) _ _ _;refine iy (V h' s.toks ?_ λb o _ h2 e=>Y b o h2 e);obtain ⟨o,es,ep,D,r⟩:=hd;exact ⟨o,es,ep,Y d o u D,r⟩
 | succ n ih=>
  intro i s kvs ps hn hi st ht hd hl hp hz V;cases ps with
  | nil=>simp at hl
  | cons p ps=>
   obtain ⟨v,hv,hk,q,W,nq,rfl,hq,O,c⟩:=hp 0 p rfl;obtain ⟨od,es,ep,g,hdx,a⟩:=id hd;have F:q≠d:=λz=>by subst z;rw [hq] at g; cases g;rw [a.1] at c; cases c
   obtain ⟨oi,f,hic,E⟩:=st.obj;have J:q≠it:=λz=>by subst z;rw [hq] at f; cases f;rw [E] at c; cases c
   refine iQ zc ?_;rw [bz kO _];show iB _ A.in1 (la (.ref it) >>= _) _ _ s;refine ip (Zn st ht (x:=.ref q) (by simpa using hv) λh' H G=>?_);have C:h'.get? q=ij W:=(G.2 q J).trans hq;have U:fK { s with heap:=h' } (.ref q) "tuple":=⟨W,C,O⟩
   have T:h'.DictOf (qZ prog w) d kvs:=by obtain ⟨o,es,ep,D,r⟩:=hd;exact ⟨o,es,ep,(G.2 d u).trans D,r⟩
   have N:SeqK h' t sk items:=ht.at λo D=>(G.2 t M).trans D;dsimp only;refine ip (iP (ip ?_));refine wpAny_tryCatch ?_;unfold Builtin.Dict.pairItems;refine ip (li U ?_);rw [Aa 'd'];refine ip (iN C c (iy ?_));show iB _ A.in1 (holding [p.2.1,p.2.2] (dictSet d p.2.1 p.2.2)) _ _ _;refine iP (wpAny_dictSet_pairs (knd:=qZ prog w) hk T (λh2 hd2 k=>?_) 'b');have keep:∀ b o,b≠d->b≠it->s.heap.get? b=ij o->h2.get? b=ij o:=λb o n1 n2 e=>(k.2 b n1).trans ((G.2 b n2).trans e);have X:(stored kvs p.1 p.2.2).length<=kvs.length+1:=by unfold stored;split <;> simp
   refine iy ⟨k7 kO _,?_⟩;have ec:iT ((i:Int)+1)=iT ((i+1:Nat):Int):=by push_cast; rfl
   rw [ec];refine ih (i+1) _ (stored kvs p.1 p.2.2) ps 'b' 'b' ?_ ?_ hd2 (by simpa using hl) (λj Z e=>?_) 'b' λh3 tk S k3=>?_;·obtain ⟨o,e,r⟩:=H.obj;exact .of ⟨o,(k.2 it (bo u)).trans e,r⟩
   ·exact N.at λo e=>(k.2 t (bo Q)).trans e
   ·obtain ⟨v',L,P,I,y,K,rfl,m,B,h⟩:=hp (j+1) Z (by simpa using e);refine ⟨.ref I,by rw [show i+1+j=i+(j+1) by lia]; exact L,P,I,y,K,rfl,keep I y (λz=>?_) (λz=>?_) m,B,h⟩;·subst z;rw [m] at g; cases g;rw [a.1] at h; cases h
    ·subst z;rw [m] at f; cases f;rw [E] at h; cases h
   ·exact V h3 tk S λb o n1 n2 e=>k3 b o n1 n2 (keep b o n1 n2 e)
theorem gp {t:Addr} {ps:List (Key×iq×iq)} {Q:iq->iw->Prop} (J:A.handled=im) {m:Obj} {nt:Nat} (z:s.heap.get? t=ij m) (d:m.cls=.type sk.cl) (n:m.dict=im) (f:m.data=.seq items nt)
  (hl:ps.length=items.size) (hp:∀ (j:Nat) (p:Key×iq×iq),ps[j]?=ij p->∃ v,items[j]?=ij v/\zU p.1 p.2.1=iu/\qak s.heap v p.2.1 p.2.2) (N:items.size<=sizeLine)
  (h:∀ h' tk,h'.DictOf (qZ prog w) s.heap.objs.size (ps.foldl (λl p=>stored l p.1 p.2.2) [])->(∀ b o,s.heap.get? b=ij o->h'.get? b=ij o)->Q 'm' { s with heap:=h',toks:=tk }) :
  iB 'e' A (call (.type "dict") [.ref t]) Q E s:=by
 refine callType_codes (Q₁:=λobj k=>obj=.ref s.heap.objs.size/\k={ s with heap:=s.heap.push { cls:=.type "dict",data:=.dict #[] } }) F.kt_called_dict (F.kt_typeCall_dict_1 _) F.entry_dict_init (kt_code_dict_new _ ⟨rfl,rfl⟩) ?_;rintro obj k ⟨rfl,rfl⟩;have i:(s.heap.push { cls:=.type "dict",data:=.dict #[] }).DictOf (qZ prog w) s.heap.objs.size []:=Heap.DictOf.new s.heap;refine ⟨i.typeIs,F.args_dict_init_2 _ _,?_⟩;unfold Builtin.«dict.__init__»;refine ip ?_;unfold Builtin.Dict.selfAndRest;refine ip (wpAny_notOrdered_dict i.typeIs ?_);show iB _ _ (pure (s.heap.objs.size,[bA t])) _ _ _;refine iy ?_;show iB _ _ (Builtin.Dict.updateFrom "dict.__init__" s.heap.objs.size (.ref t) [] .none) _ _ _;unfold Builtin.Dict.updateFrom;have g:(s.heap.push { cls:=.type "dict",data:=.dict #[] }).get? t=ij m:=aa _ z;have C:t < s.heap.objs.size:=aw z;refine ip (li (T:=sk.cl) ⟨m,g,d⟩ ?_);rw [Aa (by cases sk <;> decide)];have ak:∀ {L:Option iq->iw->Prop} {A1:iJ} {R:iq->iw->Prop} {s1:iw},A1.handled=im->s1.heap.get? t=ij m->(∀ h' tk,(∀ b I,s1.heap.get? b=ij I->h'.get? b=ij I)->L im { s1 with heap:=h',toks:=tk })->iB 'e' A1 (l5 (.ref t) "keys") L R s1:=λa b c=>by
  cases sk with
  | l=>exact gm a b d f n c
  | t=>exact QA a b d f n c
 refine ip (ak (by exact J) g λh1 H k1=>?_);rw [Aa (show (im:Option iq).isNone=iu from rfl)];refine ip (lu ?_);have y:h1.get? t=ij m:=k1 _ _ g;have D:h1.DictOf (qZ prog w) s.heap.objs.size []:=by obtain ⟨o,es,ep,B,r⟩:=i;exact ⟨o,es,ep,k1 _ _ B,r⟩
 have x:SeqK h1 t sk items:=.of y f d;refine ip (qdb (s:={ s with heap:=h1,toks:=H }) x ?_);have u:s.heap.objs.size < h1.objs.size:=let ⟨o,es,ep,B,r⟩:=D; aw B;have up:∀ b o,s.heap.get? b=ij o->(h1.push { cls:=.type sk.itc,data:=.fields #[.ref t,.int 0 0] }).get? b=ij o:=λb o e=>aa _ (k1 _ _ (aa _ e));refine iy ⟨k7 kO _,?_⟩;refine qdc (items:=items) (t:=t) (A:=A.in1) (show A.in1.in1.handled=im from J) (cx C) (aC u) (aC (eh C u)) items.size 0 _ [] ps 'b' (bH _) (.of ⟨_,ai _ rfl,rfl,rfl⟩) ?_ ?_ hl (λj p e=>?_) (by simpa using N) λh2 G hd2 k2=>⟨rfl,h h2 G hd2 λb o e=>?_⟩
 ·exact .of (aa _ y) f d
 ·obtain ⟨o,es,ep,B,r⟩:=D;exact ⟨o,es,ep,aa _ B,r⟩
 ·obtain ⟨v,O,P,q,W,M,rfl,hq,r⟩:=hp j p e;exact ⟨.ref q,by simpa using O,P,q,W,M,rfl,up q W hq,r⟩
 ·have K:=aw e;exact k2 b o (aC K) (aC (eh K u)) (up b o e)
end
noncomputable def zd:D->Option Key
 | .int i=>ij (.inl i)
 | .str x=>ij (.inr x)
 | _=>im
noncomputable def zI (kvs:List (Key×D)) (k:Key) (d:D):List (Key×D):=if kvs.any (λp=>decide (p.1=k)) then kvs.map λp=>if p.1=k then (p.1,d) else p else kvs++[(k,d)]
noncomputable def qdd:D->Option (Key×D)
 | .tup [k,v]=>(zd k).map λk=>(k,v)
 | _=>im
noncomputable def ur:List D->Option (List (Key×D))
 | []=>ij []
 | d::ds=>match qdd d,ur ds with
  | some p,ij ps=>ij (p::ps)
  | _,_=>im
noncomputable def qde:D->Out D
 | .tup ds=>match ur ds with
  | some ps=>.ok (.dct (ps.foldl (λl p=>zI l p.1 p.2) []))
  | none=>.bad
 | _=>.bad
noncomputable def qh3 (d:D):Out D:=(xF d).bind λds=>match ur ds with
 | some ps=>.ok (.dct (ps.foldl (λl p=>zI l p.1 p.2) []))
 | none=>.bad
variable {d:D} {F H:Hp} {v:V} {ds:List D}
theorem qen (A:Same F H) (h:TopIs K F H v d) (e:xF d=.ok ds):∃ a k xs,v=.ref a/\SqK K H a k xs/\IsL K F xs ds:=by
 cases d with
 | lst es=>cases e; obtain ⟨a,xs,rfl,q,t⟩:=h.lst A; exact ⟨a,.l,xs,rfl,q,t⟩
 | tup es=>cases e; obtain ⟨a,xs,rfl,q,t⟩:=h.tup A; exact ⟨a,.t,xs,rfl,q,t⟩
 | _=>cases e
theorem IsK.any {k:Key}:∀ {kv:List (Key×V)} {ks:List (Key×D)},IsK K F kv ks->(kv.any λp=>decide (p.1=k))=(ks.any λp=>decide (p.1=k))
 | _,_,.nil=>rfl
 | _,_,.cons h t=>by rw [cI,cI,IsK.any t]
theorem IsK.repl {k:Key} (i:Is K F v d):∀ {kv:List (Key×V)} {ks:List (Key×D)},IsK K F kv ks->IsK K F (kv.map λp=>if p.1=k then (p.1,v) else p) (ks.map λp=>if p.1=k then (p.1,d) else p)
 | _,_,.nil=>.nil
 | _,_,.cons (k:=k') h t=>by
  rw [aD,aD];by_cases e:k'=k;·simp only [e,if_true]; exact .cons i (IsK.repl i t)
  ·simp only [e,if_false]; exact .cons h (IsK.repl i t)
theorem IsK.snoc {k:Key} (i:Is K F v d):∀ {kv:List (Key×V)} {ks:List (Key×D)},IsK K F kv ks->IsK K F (kv++[(k,v)]) (ks++[(k,d)])
 | _,_,.nil=>.cons i .nil
 | _,_,.cons h t=>.cons h (IsK.snoc i t)
variable {kv:List (Key×V)}
theorem IsK.put {k:Key} {ks:List (Key×D)} (h:IsK K F kv ks) (i:Is K F v d):IsK K F (zo kv k v) (zI ks k d):=by
 unfold zo zI;rw [h.any];by_cases e:(ks.any λp=>decide (p.1=k))=iu;·rw [Aa e,Aa e]; exact IsK.repl i h
 ·rw [Ab e,Ab e]; exact IsK.snoc i h
theorem YJ:∀ {v:List (Key×V)} {ps:List (Key×D)} {kv:List (Key×V)} {ks:List (Key×D)},IsK K F v ps->IsK K F kv ks->IsK K F (v.foldl (λl p=>zo l p.1 p.2) kv) (ps.foldl (λl p=>zI l p.1 p.2) ks)
 | _,_,_,_,.nil,h=>h
 | _,_,_,_,.cons i t,h=>by rw [cj,cj];exact YJ t (h.put i)
def qkX (p:Key×V) (q:Key×iq×iq):Prop:=p.1=q.1/\RelV p.2 q.2.2
theorem qal:∀ {v:List (Key×V)} {tr:List (Key×iq×iq)} {kv:List (Key×V)} {vs:List (Key×iq)},ml qkX v tr->KV kv vs->KV (v.foldl (λl p=>zo l p.1 p.2) kv) (tr.foldl (λl p=>stored l p.1 p.2.2) vs)
 | _,_,_,_,.nil,h=>h
 | _,_,_,_,.cons r t,h=>by rw [cj,cj];refine qal t ?_;rw [r.1];exact h.put _ r.2
theorem YK:∀ {v:List (Key×V)} {kv:List (Key×V)},(v.foldl (λl p=>zo l p.1 p.2) kv).length<=kv.length+v.length
 | [],kv=>aA _
 | p::v,kv=>by
  have h1:=@YK v (zo kv p.1 p.2);have h2:=wy kv p.1 p.2;rw [cj,ao]
  lia
variable {X:Cx} {pins:Pns} {σ:St} {u:iq} {vs:List V}
section
theorem xZ {k:Key} (i:Is C.K F v d) (r:RelV v u) (e:zd d=ij k):zU k u=true:=by
 cases d with
 | int z=>cases i; cases e; obtain ⟨t,rfl⟩:=r; exact Vc z t
 | str z=>cases i; cases e; obtain ⟨t,rfl⟩:=r; exact Vd z t
 | _=>cases e
theorem YL (g:C.K=X.K) (I:Inv X pins σ H s) (A:Same F H):∀ {vs:List V} {us:List iq} {ds:List D} {ps:List (Key×D)},IsL C.K F vs ds->Vals vs us->ur ds=ij ps ->∃ (c:List (Key×V)) (tr:List (Key×iq×iq)),IsK C.K F c ps/\ml qkX c tr/\tr.length=us.length/\c.length=us.length/\∀ (j:Nat) (p:Key×iq×iq),tr[j]?=ij p->∃ v,us[j]?=ij v/\zU p.1 p.2.1=iu/\qak s.heap v p.2.1 p.2.2
 | _,_,_,_,.nil,.nil,e=>by cases e; exact ⟨[],[],.nil,.nil,rfl,rfl,λj p e=>by simp at e⟩
 | _,_,_,_,.cons (d:=d) (ds:=ds) i t,.cons (b:=u) r rs,e=>by
  unfold ur at e;cases q:qdd d with
  | none=>rw [q] at e; cases e
  | some kd=>
   cases f:ur ds with
   | none=>rw [q,f] at e; cases e
   | some rest=>
    rw [q,f] at e;cases e;obtain ⟨c,tr,h1,h2,z,h,y⟩:=YL g I A t rs f;unfold qdd at q;split at q
    ·rename_i E B;obtain ⟨k,w,rfl⟩:=aY.mp q;cases i with
     | @tup a xs _ hq il=>
      cases il with
      | @cons xk _ xr _ ik il2=>
       cases il2 with
       | @cons xv _ xr2 _ iv il3=>
        cases il3;cases r;obtain ⟨its,l,⟨o,m,x,n,hd⟩,_⟩:=I.tuple (show SqT X.K H a [xk,xv] by rw [<-g]; exact jg A hq);cases l with
        | @cons _ uk _ _ rk rv2=>
         cases rv2 with
         | @cons _ uv _ _ rv3 rv4=>
          cases rv4;refine ⟨(k,xv)::c,(k,uk,uv)::tr,.cons iv h1,.cons ⟨rfl,rv3⟩ h2,by simp [z],by simp [h],λj p e=>?_⟩;cases j with
          | zero=>simp at e;subst e;exact ⟨_,rfl,xZ ik rk w,a,o,n,rfl,m,x,hd⟩
          | succ j=>simpa using y j p (by simpa using e)
    ·cases q
theorem VC (I:Inv X pins σ H s):∀ {k:SK},SqK X.K H a k vs->∃ its o n,Vals vs its/\s.heap.get? a=ij o/\o.cls=.type k.cl/\o.dict=im/\o.data=.seq its.toArray n/\vs.length<=sizeLine
 | .l,h=>let ⟨its,r,⟨o,n,e,c,b,hd⟩,z⟩:=I.list h; ⟨its,o,n,r,e,c,b,hd,z⟩
 | .t,h=>by obtain ⟨its,r,⟨o,e,c,n,hd⟩,z⟩:=I.tuple h;obtain ⟨o2,d,b⟩:=I.tupleN h;rw [e] at d; cases d;exact ⟨its,o,n,r,e,c,b,hd,z⟩
theorem YM (w:C.K=X.K) (z:X.calm=iu):Qw X C .fr (.type "dict") qh3:=by
  intro pins s σ H xs us Q I r h;obtain ⟨x,F,dx,rfl,A,tx,po⟩:=h;unfold qh3 at po;cases e:xF dx with
  | bad=>rw [e] at po; exact po.elim
  | exc c o=>cases dx <;> cases e
  | ok ds=>
   rw [e] at po;have po:PoV C .fr F H (match ur ds with | some ps=>.ok (.dct (ps.foldl (λl p=>zI l p.1 p.2) [])) | none=>.bad) Q:=po;cases q:ur ds with
   | none=>simp only [q] at po; exact po.elim
   | some ps=>
    simp only [q] at po;obtain ⟨a,sk,vs,rfl,hq,t⟩:=qen A tx e;obtain ⟨u,rfl,B⟩:=yM r;cases B;rw [w] at hq;obtain ⟨its,o,n,k,y,i,f,hd,M⟩:=VC I hq;obtain ⟨d,tr,h1,h2,J,G,E⟩:=YL w I A t k q;have m:=k.length;refine gp (ps:=tr) (I.ok.hd z) y i f hd (by simp [J]) (λj p e=>?_) (by simp; lia) λh' tk g kp=>?_;· obtain ⟨v,e1,L⟩:=E j p e;exact ⟨v,by simpa using e1,L⟩
    · have hp:H s.heap.objs.size=none:=I.hok.fresh (aA _);obtain ⟨s2,c2,D⟩:=vy (u:=.dK (d.foldl (λl p=>zo l p.1 p.2) [])) A hp;have hl:(d.foldl (λl p=>zo l p.1 p.2) ([]:List (Key×V))).length<=sizeLine:=by
        have:=@YK d [];simp at this
        lia
      have b:(s.heap.objs.size == j0)=false:=beq_eq_false_iff_ne.mpr (cx I.big);refine ⟨.ref s.heap.objs.size,_,I.laid (o:=.dK (d.foldl (λl p=>zo l p.1 p.2) [])) (t':=tk) kp (aA _) (Yn hl b (qal h2 .nil) g),rfl,po _ F _ s2 c2 ⟨_,rfl,hp,D,_,qu,YJ h1 .nil⟩⟩
theorem qfP (n:C.K=X.K) (d:X.calm=iu):Qw X C .fr (.type "dict") qde:=by
 intro pins s σ H xs us Q I r h;obtain ⟨x,F,dx,rfl,A,tx,po⟩:=h;cases dx <;> try exact po.elim
 exact YM n d pins s σ H _ us Q I r ⟨x,F,_,rfl,A,tx,po⟩
noncomputable def Zq (kvs:List (Key×D)) (k:Key):Bool:=kvs.any λp=>decide (p.1=k)
noncomputable def inA:D->D->Out D
 | x,.dct kvs=>match zd x with
  | some k=>.ok (.bl (Zq kvs k))
  | none=>.bad
 | x,y=>qjg x y
noncomputable def ui:D->D->Out D
 | x,.dct kvs=>match zd x with
  | some k=>.ok (.bl (!Zq kvs k))
  | none=>.bad
 | x,y=>Zd x y
theorem YN {ks:List (Key×D)} {k:Key} (h:IsK K F kv ks):(WV kv k).isSome=Zq ks k:=by rw [<-Jx,h.any]; rfl
theorem qh4 {k:Key} (h:TopIs C.K F H v d) (e:zd d=ij k):v=kV k:=by
 cases d with
 | int z=>cases e; exact h.int
 | str z=>cases e; exact h.str.1
 | _=>cases e
theorem VD (n:C.K=X.K) (f:X.A.units+64 < iW):OpD X C .sh (iI .In) inA:=by
 intro pins s σ H x y v u Q I r c h;obtain ⟨F,dx,d,b,tx,ty,po⟩:=h;by_cases hd:∃ kvs,d=.dct kvs
 ·obtain ⟨kvs,rfl⟩:=hd;cases q:zd dx with
  | none=>unfold inA at po; simp only [q] at po; exact po.elim
  | some k=>
   unfold inA at po;simp only [q] at po;obtain ⟨a,kv,rfl,g,i⟩:=ty.dct b;cases c;have ex:=qh4 tx q;subst ex;refine qly 'b' I (DGet.k (k:=k) g) r λs' j=>⟨.bl _,H,j,rfl,?_⟩
   rw [YN i];exact po _ F H b .refl (.bl _)
 ·have e:inA dx d=qjg dx d:=by cases d <;> first | rfl | exact absurd ⟨_,rfl⟩ hd
  rw [e] at po;exact qj4 n f pins s σ H x y v u Q I r c ⟨F,dx,d,b,tx,ty,po⟩
theorem kr (n:C.K=X.K) (f:X.A.units+64 < iW):OpD X C .sh (iI .NotIn) ui:=by
 intro pins s σ H x y v u Q I r c h;obtain ⟨F,dx,d,b,tx,ty,po⟩:=h;by_cases hd:∃ kvs,d=.dct kvs
 ·obtain ⟨kvs,rfl⟩:=hd;cases q:zd dx with
  | none=>unfold ui at po; simp only [q] at po; exact po.elim
  | some k=>
   unfold ui at po;simp only [q] at po;obtain ⟨a,kv,rfl,g,i⟩:=ty.dct b;cases c;have ex:=qh4 tx q;subst ex;refine qfl 'b' I (DGet.k (k:=k) g) r λs' j=>⟨.bl _,H,j,rfl,?_⟩
   rw [YN i];exact po _ F H b .refl (.bl _)
 ·have e:ui dx d=Zd dx d:=by cases d <;> first | rfl | exact absurd ⟨_,rfl⟩ hd
  rw [e] at po;exact qcL n f pins s σ H x y v u Q I r c ⟨F,dx,d,b,tx,ty,po⟩
end
theorem qfQ (t:lL) (es:Array (Int×iq)) (h:Int) (x:iq):(layNew t es h x).2.1.led=t.led:=by
 unfold layNew;cases t.freeSlot h with
 | none=>rfl
 | some p=>obtain ⟨sl,w⟩:=p;show (SetTable.orStandIn (t.put sl).1 _).led=t.led;unfold SetTable.orStandIn;split <;> rfl
variable {t:lL}
theorem qfR {m f v:Nat} {l p:Bool} {c:Array Int} {o:Array Nat} (h:g9 m f v l p c=ij (t,o)):t.led=l/\t.plain=p:=by
 unfold g9 at h;cases e:SetTable.layClean m c with
 | none=>rw [e] at h;cases h
 | some ow=>rw [e] at h;have h2:=congrArg Prod.fst (aI.inj h);subst h2;exact ⟨rfl,rfl⟩
theorem Uj (t:lL) (es:Array (Int×iq)) (n:Nat):(l6 t es n).2.1.led=t.led/\(t.plain=ir->(l6 t es n).2.1.plain=ir):=by
 unfold l6;cases e:t.relaid (es.map (·.1)) n with
 | none=>exact ⟨rfl,λ_=>rfl⟩
 | some q=>
  obtain ⟨t',o⟩:=q;have k:=qfR (show g9 _ _ _ _ _ _=ij (t',o) from e);dsimp only;split;·exact ⟨k.1,λz=>k.2.trans z⟩
  ·exact ⟨rfl,λ_=>rfl⟩
variable {κ:Type}
noncomputable def xC [DecidableEq κ] (ks:List κ) (x:κ):List κ:=if x∈ks then ks else ks++[x]
noncomputable def xa (ks:List Str) (x:Str):List Str:=if x∈ks then ks else ks++[x]
noncomputable def kt (es:Array (Int×iq)) (ep:Nat) (t:lL):Obj:={ cls:=.type "set",dict:=im,data:=.set es ep t,slots:=#[] }
structure KP (κ:Type) [DecidableEq κ] where
 kd:∀ (p:iF) (w:iG),PySem.KeyKind p w κ
 of:iq->κ
 pb:Bool
 ofi:∀ {p:iF} {w:iG} {x:κ} {v:iq},(kd p w).is x v=iu->of v=x
 sc:∀ {p:iF} {w:iG} {x:κ} {v:iq},(kd p w).is x v=iu->v.scannable=iu
 pl:∀ {p:iF} {w:iG} {x:κ} {v:iq},(kd p w).is x v=iu->pb=iu->plainKind v=ir
noncomputable def KpS:KP Str where
 kd:=PySem.strKind
 of:=strOf
 pb:=iu
 ofi:=λh=>let ⟨_,e⟩:=cY h; by rw [e]; rfl
 sc:=λh=>let ⟨_,e⟩:=cY h; by rw [e]; rfl
 pl:=λh _=>let ⟨_,e⟩:=cY h; by rw [e]; rfl
structure SetG {κ:Type} [DecidableEq κ] (T:KP κ) (prog:iF) (w:iG) (es:Array (Int×iq)) (t:lL) (ks:List κ):Prop where
 el:ElemsOf (T.kd prog w) es.toList
 perm:(es.toList.map λe=>T.of e.2).Perm ks
 nd:ks.Nodup
 bd:es.size < lJ
 fits:t.fits es.size=iu
 led:t.led=!(w.params.followText "set-order")
 plain:T.pb=iu->ks≠[]->t.plain=ir
def SetK {κ:Type} [DecidableEq κ] (T:KP κ) (prog:iF) (w:iG) (h:Heap) (a:Addr) (ks:List κ):Prop:=∃ es ep t,h.get? a=ij (kt es ep t)/\SetG T prog w es t ks
variable {es:Array (Int×iq)} {ep:Nat}
section
theorem qh5 {l:List (Int×iq)} (h:ElemsOf (PySem.strKind prog w) l) {e:Int×iq} (i:e∈l):∃ x t,e.2=.str x t:=by obtain ⟨⟨k,a,_⟩,_⟩:=h e i;obtain ⟨t,ht⟩:=cY a;exact ⟨k,t,ht⟩
variable [DecidableEq κ] {T:KP κ}
theorem SetG.mem {ks:List κ} (h:SetG T prog w es t ks) {x:κ}:x∈ks↔∃ e∈es.toList,(T.kd prog w).is x e.2=true:=by
 rw [<-h.perm.mem_iff,ah];constructor;·rintro ⟨e,i,z⟩;obtain ⟨⟨k,a,_⟩,_⟩:=h.el e i;rw [T.ofi a] at z;exact ⟨e,i,z ▸ a⟩
 ·rintro ⟨e,i,z⟩;exact ⟨e,i,T.ofi z⟩
theorem SetG.size {ks:List κ} (h:SetG T prog w es t ks):es.size=ks.length:=by have e:=h.perm.length_eq;simpa using e
theorem qeo {es':Array (Int×iq)} {t':lL} (l:h.get? a=ij (kt es ep t)):(h.update a (hV es' t')).get? a=ij (kt es' (ep+1) t'):=by have e:=bf (hV es' t') l (by rw [putSet_of (o:=kt es ep t) es' t' rfl]; rfl);rw [putSet_of (o:=kt es ep t) es' t' rfl] at e;exact e
theorem SetG.more {e:Array (Int×iq)} {t1:lL} {ks:List κ} {x:κ} {v:iq} (h:SetG T prog w es t ks) (c:(T.kd prog w).is x v=iu) (nx:x∉ks) (hr:ks.length+1 < lJ)
  (hp:e.toList.Perm (es.toList++[((T.kd prog w).hash x,v)])) (f:t1.fits e.size=iu) (hl:t1.led=t.led) (hq:T.pb=iu->t1.plain=ir):SetG T prog w e t1 (xC ks x):=by
 have ex:xC ks x=ks++[x]:=Ab nx;have d:e.size=ks.length+1:=by rw [<-bR,hp.length_eq,af,bR,h.size];rfl
 rw [ex];refine ⟨(h.el.push c (T.sc c)).perm hp,?_,?_,?_,f,hl.trans h.led,λb _=>hq b⟩;·refine (hp.map _).trans ?_;rw [fh,List.map_singleton,T.ofi c];exact h.perm.append (cK _)
 ·exact cg.mpr ⟨h.nd,by simp,λa i b g=>by rw [au.mp g]; exact λz=>nx (z ▸ i)⟩
 ·rw [d];exact hr
theorem qfS {ks:List κ} {x:κ} {v:iq} {Q:Bool->iw->Prop} (k:(T.kd prog w).is x v=iu) (S:SetK T prog w s.heap a ks) (hr:ks.length+1 < lJ)
  (h:∀ h' b,bI a s.heap h'->SetK T prog w h' a (xC ks x)->Q b { s with heap:=h' }):iB 'e' A (setAddHashed a v ((T.kd prog w).hash x)) Q E s:=by
 obtain ⟨es,ep,t,o,d⟩:=S;unfold setAddHashed setAddHashedIn;refine iP (ip (iV o rfl d.fits ?_));dsimp only;rw [byScan_of (T.sc k) d.bd d.el,Aa rfl];unfold setAddByScan;refine ip (ip (lu (ip (wpAny_setScan_of k o rfl d.fits d.el ?_))));cases hq:es.toList.findIdx? (λe=>(T.kd prog w).is x e.2) with
 | some j=>obtain ⟨J,hp,_⟩:=List.findIdx?_eq_some_iff_getElem.mp hq;have hx:x∈ks:=d.mem.mpr ⟨_,cu J,hp⟩;have q:=h s.heap ir (Heap.SameBut.refl a s.heap) ⟨es,ep,t,o,by rw [show xC ks x=ks from Aa hx]; exact d⟩;dsimp only;exact iy (iy q)
 | none=>
  have hx:x∉ks:=λz=>by obtain ⟨e,K,q⟩:=d.mem.mp z;have:=List.findIdx?_eq_none_iff.mp hq e K;rw [q] at this;cases this
  dsimp only;have hp:=layNew_perm t es ((T.kd prog w).hash x) v;have m:=layNew_fits t es ((T.kd prog w).hash x) v;have hl:=qfQ t es ((T.kd prog w).hash x) v;generalize layNew t es ((T.kd prog w).hash x) v=L at hp m hl ⊢;obtain ⟨c,t1,I,N⟩:=L;dsimp only at hp m hl ⊢;rw [Array.toList_push] at hp;have l:∀ t2:lL,t2.fits c.size=iu->t2.led=t.led->(T.pb=iu->t2.plain=ir)->iB 'e' A (do
    storeSet a c t2
    if (!I&&t2.tooFull)=iu then do
      (match (l6 t2 c (c7 c.size)).2.2 with | true=>rule "set.scan.the-table-gave-way" | false=>pure ())
      storeSet a (l6 t2 c (c7 c.size)).1 (l6 t2 c (c7 c.size)).2.1
      pure (ij iu)
     else pure (ij iu)) (λr s'=>∃ h',s'={ s with heap:=h' }/\r=ij iu/\bI a s.heap h'/\SetK T prog w h' a (xC ks x)) E s:=by
   intro t2 f2 G p2;have d2:=d.more k hx hr hp f2 G p2;refine ip (wpAny_storeSet_of o rfl ?_ (lI d2.bd));have g:=qeo (es':=c) (t':=t2) o;have p:=bu s.heap a (hV c t2);split
   ·have y:=relayAll_perm t2 c (c7 c.size);have B:=relayAll_fits t2 c (c7 c.size);have u:=Uj t2 c (c7 c.size);generalize l6 t2 c (c7 c.size)=R at y B u ⊢;obtain ⟨n,D,Z⟩:=R;dsimp only at y B u ⊢;have H:=d.more k hx hr (y.trans hp) B (u.1.trans G) (λb=>u.2 (p2 b));refine ip ?_;have go:iB 'e' A (storeSet a n D >>= λ_=>pure (ij iu)) (λr s'=>∃ h',s'={ s with heap:=h' }/\r=ij iu/\bI a s.heap h'/\SetK T prog w h' a (xC ks x)) E { s with heap:=s.heap.update a (hV c t2) }:=
     ip (wpAny_storeSet_of g rfl (iy ⟨_,rfl,rfl,p.trans (bu _ a _),n,_,D,qeo g,H⟩) (lI H.bd))
    cases Z;·exact iy go
    ·exact lu go
   ·exact iy ⟨_,rfl,rfl,p,c,_,t2,g,d2⟩
  have fin:∀ (r:Option Bool) (s':iw),(∃ h',s'={ s with heap:=h' }/\r=ij iu/\bI a s.heap h'/\SetK T prog w h' a (xC ks x)) ->iB 'e' A (match r with | some i=>pure i | none=>setAddHashedIn a v ((T.kd prog w).hash x) 99999) Q E s':=by rintro r s' ⟨h',rfl,rfl,p,S⟩;exact iy (h h' iu p S)
  have M:∀ (b:Bool) {f:iw} {C:Unit->iw->Prop},C () f->iB 'e' A (match b with | true=>rule "set.scan.the-table-gave-way" | false=>pure ()) C E f:=λb f C q=>by
   cases b;·exact iy q
   ·exact lu q
  refine ip (M _ ?_);cases e1:t1.plain with
  | true=>rw [Aa rfl,hashByValue_scannable 8 (T.sc k)];refine ip (iy ?_);exact j3 (l (if plainKind v=iu then t1 else { t1 with plain:=ir }) (by split; exact m; exact SetTable.fits_plain_off m) (by split <;> exact hl) (λb=>by rw [T.pl k b]; rfl)) fin λ_ _ z=>z
  | false=>rw [Ab 'g'];refine ip (iy ?_);exact j3 (l t1 m hl λ_=>e1) fin λ_ _ z=>z
end
theorem qdf [DecidableEq κ] (ks:List κ) (x:κ):(xC ks x).length<=ks.length+1:=by
 unfold xC;split
 ·lia
 ·rw [af];exact aA _
theorem xb [DecidableEq κ]:∀ (l ks:List κ),(l.foldl xC ks).length<=ks.length+l.length
 | [],ks=>aA _
 | x::l,ks=>by
  have h1:=xb l (xC ks x);have h2:=qdf ks x;rw [cj,ao]
  lia
theorem YO:(xC:List Str->Str->List Str)=xa:=by funext ks x;unfold xC xa;congr
theorem VE (l ks:List Str):(l.foldl xa ks).length<=ks.length+l.length:=by rw [<-YO];exact xb l ks
theorem SetK.at [DecidableEq κ] {T:KP κ} {ks:List κ} (S:SetK T prog w h a ks) (k:∀ o,h.get? a=ij o->h'.get? a=ij o):SetK T prog w h' a ks:=
 let ⟨es,ep,t,l,d⟩:=S; ⟨es,ep,t,k _ l,d⟩
section
variable [DecidableEq κ] {T:KP κ} {R:mG->iw->Prop} {I:Addr} {fp wr:List Addr} {P:Nat->iq->Prop} {St:Nat->iw->Prop}
theorem qdg {G:Array mj->Array mj->Prop} (W:WalksS prog w A.in1 I fp wr G n P St) (S:Addr) (j:S∉fp) (ss:List κ) (hn:ss.length=n) (J:∀ i v,P i v->∃ x,ss[i]?=ij x/\(T.kd prog w).is x v=iu) (d:n+1 < lJ):∀ (k i:Nat) (s:iw),n - i=k->i<=n->St i s->SetK T prog w s.heap S ((ss.take i).foldl xC []) ->(∀ s',Moved (S::wr) G s s'->SetK T prog w s'.heap S (ss.foldl xC [])->R (.ok (.ret .none)) s')->lg 'e' A (.builtin "set.update.loop" ⟨[.ref S,.ref I],[]⟩) R s:=by
 have E:S∉wr:=λh=>j (W.sub _ h);have up:∀ b∈wr,b∈S::wr:=λb d=>ae _ d;intro k
 induction k with
 | zero=>
  intro i s q hi c r C;have y:i=n:=by lia
  subst y;refine iQ F.entry_set_update_loop ?_;rw [bz dU _]; show iB _ A.in1 (la (.ref I) >>= _) _ _ s;refine ip (W.done s _ _ c λs' g=>iy (C s' (g.mono up) ?_));rw [List.take_of_length_le (fR hn)] at r;exact r.at λo e=>g.heap S o E e
 | succ k H=>
  intro i s q hi c r C;have t:i < n:=by lia
  refine iQ F.entry_set_update_loop ?_;rw [bz dU _]; show iB _ A.in1 (la (.ref I) >>= _) _ _ s;refine ip (W.item i s _ _ t c λv s' K a g=>?_);obtain ⟨x,hx,q⟩:=J i v K;have B:SetK T prog w s'.heap S ((ss.take i).foldl xC []):=r.at λo e=>g.heap S o E e;show iB _ A.in1 (holding [v] (setAdd S v) >>= _) _ _ s';refine ip (iP ?_);unfold setAdd;refine iP (ip ((T.kd prog w).pyHash q ?_));have m:((ss.take i).foldl xC []).length+1 < lJ:=by
   have h1:=xb (ss.take i) [];rw [fN,aX] at h1
   lia
  refine qfS (s:={ s' with toks:=s'.toks+1 }) q B m λh' b D l=>?_;have L:xC ((ss.take i).foldl xC []) x=(ss.take (i+1)).foldl xC []:=by rw [List.take_add_one,hx,List.foldl_append];rfl
  rw [L] at l;refine iy ⟨k7 dU _,H (i+1) _ 'b' t (W.frame _ s' _ _ a (fC _) λb d o e=>?_) l λu f p=>?_⟩;·rw [D.2 b λz:b=S=>j (z ▸ d)];exact e
  ·refine C u (Moved.trans W.gtrans ((g.mono up).then_heap (fC _) λb o d e=>?_) f) p;rw [D.2 b λz:b=S=>d (z ▸ ap)];exact e
end
section
variable [DecidableEq κ] {T:KP κ}
abbrev qh6 (w:iG):Obj:=kt #[] 0 (.fresh 0 0 (!(w.params.followText "set-order")))
theorem qam (e:h.get? a=ij (qh6 w)):SetK T prog w h a []:=
 ⟨_,_,_,e,⟨λe i=>by simp at i,by simp,cy,by decide,by rfl,rfl,λ_ z=>absurd rfl z⟩⟩
theorem qfT (a:iq) {Q₁:iq->iw->Prop} (h:Q₁ 'm' { s with heap:=s.heap.push (qh6 w) }):lg 'e' A (.call (.builtin "set.__new__") ⟨[.type "set",a],[]⟩) (wants Q₁ E) s:=by
 refine codeAny_of_tree ?_; show iB _ A.in1 (do checkBuiltinCall "set.__new__" ⟨[.type "set",a],[]⟩; again (.builtin "set.__new__" ⟨[.type "set",a],[]⟩)) _ _ s;refine ip (mn (PySem.F.newCall_set_1 a) (iy ⟨k7 PySem.F.plain_set_new _,iQ PySem.F.entry_set_new ?_⟩)); rw [bz PySem.F.plain_set_new _];unfold Builtin.«set.__new__» Builtin.Frozenset.newClass; have b:=sub_set_self; obtain ⟨hp,g,d,tk,os⟩:=s; dsimp only; wp_walk
 refine iU (iy ?_); dsimp only; simp only [newObj];exact ip (wpAny_alloc (iy (iy h)))
theorem Uk:isSubtype (.type "tuple") (.type "set")=pure false:=by rw [lv]; kernel_rfl
theorem QB:isSubtype (.type "tuple") (.type "frozenset")=pure false:=by rw [lv]; kernel_rfl
theorem qdh:∀ sk:SK,isSubtype (.type sk.cl) (.type "set")=pure ir
 | .l=>PySem.F.sub_list_set
 | .t=>Uk
theorem Ul:∀ sk:SK,isSubtype (.type sk.cl) (.type "frozenset")=pure ir
 | .l=>PySem.F.sub_list_frozenset
 | .t=>QB
theorem qh7 (a:A.handled=im) (sk:SK) (it l:Addr) (e:l≠it) (items:Array iq):Walks prog w A it [it,l] [it] items.size (λi v=>items[i]?=ij v) (λi h=>ItK h it l sk i/\SeqK h l sk items):=by
 cases sk with
 | l=>exact Walks.list a it l e items
 | t=>exact Walks.tuple a it l e items
theorem SeqK.ty:∀ {sk:SK},SeqK s.heap a sk xs->s.TypeIs (.ref a) sk.cl
 | .l,⟨o,e,c,_⟩=>⟨o,e,c⟩
 | .t,⟨o,e,c,_⟩=>⟨o,e,c⟩
theorem qlB {S:Addr} {ss:List κ} {Q:Unit->iw->Prop} (q:A.handled=im) (k:SetK T prog w s.heap S []) (hl:SeqK s.heap l sk items) (hn:ss.length=items.size) (hi:∀ (i:Nat) (v:iq),items[i]?=ij v->∃ x,ss[i]?=ij x/\(T.kd prog w).is x v=iu) (j:items.size+1 < lJ) (g:l≠S)
  (h:∀ h' tk,SetK T prog w h' S (ss.foldl xC [])->(∀ b o,b≠S->s.heap.get? b=ij o->h'.get? b=ij o)->Q () { s with heap:=h',toks:=tk }) :
  iB 'e' A (cC "set.__init__" S (.ref l)) Q E s:=by
 have hT:=hl.ty;unfold cC;refine ip (m:=Builtin.Frozenset.isAnySet _) ?_;unfold Builtin.Frozenset.isAnySet;refine ip (i9 hT (qdh sk) ?_);refine i9 hT (Ul sk) ?_;rw [Ab 'd'];refine ip (li hT ?_);rw [Ab (by cases sk <;> decide)];refine ip (qdb hl ?_);have n:s.heap.objs.size≠S:=λz=>by obtain ⟨es,ep,t,p,_⟩:=k;exact cH _ (z ▸ aw p)
 have d:l≠s.heap.objs.size:=aC hl.lt;refine ip (wpAny_runValue (qdg ((qh7 (A:=A.in1) q sk _ l d items).toS) S ?_ ss hn hi j items.size 0 _ 'b' (bH _) ⟨.of ⟨_,ai _ rfl,rfl,rfl⟩,hl.at λo e=>aa _ e⟩ ?_ ?_))
 ·intro z;rcases ac.mp z with z | z;·exact n z.symm
  ·exact g (au.mp z).symm
 ·exact k.at λo e=>aa _ e
 ·intro s' c B;obtain ⟨h',g',d',f,a⟩:=s';have u:g'=s.gens:=c.gens;have y:d'=s.drawn:=c.drawn;have r:a=s.os:=c.os;subst u y r;refine iy (h h' f B λb o j e=>c.heap b o ?_ (aa _ e));intro z;rcases ac.mp z with z | z;·exact j z
  ·rw [au.mp z] at e;exact cH _ (aw e)
set_option maxHeartbeats 3200000 in
theorem qan {l:Addr} {ks:List κ} {Q:iq->iw->Prop}
  (p:∀ (A1:iJ) (L:Unit->iw->Prop) (C:iq->iw->Prop),A1.handled=A.handled->(∀ h' tk,SetK T prog w h' s.heap.objs.size ks->(∀ b o,s.heap.get? b=ij o->h'.get? b=ij o)->L () { s with heap:=h',toks:=tk }) ->iB 'e' A1 (cC "set.__init__" s.heap.objs.size (.ref l)) L C { s with heap:=s.heap.push (qh6 w) })
  (h:∀ h' tk,SetK T prog w h' s.heap.objs.size ks->(∀ b o,s.heap.get? b=ij o->h'.get? b=ij o)->Q 'm' { s with heap:=h',toks:=tk }) :
  iB 'e' A (call (.type "set") [.ref l]) Q E s:=by
 have i:∀ {Q₁:iq->iw->Prop},Q₁ 'm' { s with heap:=s.heap.push (qh6 w) }->lg 'e' A.in1 (.call (.builtin "set.__new__") ⟨[.type "set",.ref l],[]⟩) (wants Q₁ E) s:=λh=>qfT (.ref l) h;unfold qh6 kt at i p;generalize (!(w.params.followText "set-order"))=led at i p;obtain ⟨c,tl,q⟩:=bW.mro;have k:=bW.made;have n:=bW.sub;refine wpAny_call (codeAny_of_tree ?_); show iB _ _ (callAny (.type "set") _) _ _ _;refine iy ⟨Code.quiet_builtin _ 'a',iQ PySem.F.entry_type_call ?_⟩; rw [Around.under_plain (weight_type_call_type "set" [.ref l] []) rfl];have h1:=bW.notType;have h2:=bW.canCreate;have v:=PySem.F.typeCall_set_1 (.ref l);repeat (any_goals (first | assumption | wp_step))
 refine lH (i (Q₁:=λobj f=>obj=.ref s.heap.objs.size/\f={ s with heap:=s.heap.push { cls:=.type "set",dict:=im,data:=.set #[] 0 (.fresh 0 0 led) } }) ⟨rfl,rfl⟩) λr f hr=>?_;cases r with
 | error e=>exact hr
 | ok z=>
  cases z with
  | ret obj=>
   obtain ⟨rfl,rfl⟩:=hr;have S:(s.heap.push { cls:=.type "set",dict:=im,data:=.set #[] 0 (.fresh 0 0 led) }).get? s.heap.objs.size=ij { cls:=.type "set",dict:=im,data:=.set #[] 0 (.fresh 0 0 led) }:=ai _ rfl;have hT:fK { s with heap:=s.heap.push { cls:=.type "set",dict:=im,data:=.set #[] 0 (.fresh 0 0 led) } } 'm' "set":=⟨_,S,rfl⟩
   have t:=bW.init.lookup;have x:=bW.init.bind 'm';repeat (any_goals (first | assumption | wp_step))
   refine lH (codeAny_call_builtin (R:=wants (λr d=>r=.none/\∃ h' tk,d={ s with heap:=h',toks:=tk }/\SetK T prog w h' s.heap.objs.size ks/\(∀ b o,s.heap.get? b=ij o->h'.get? b=ij o)) E) bW.init.plain PySem.F.entry_set_init (check_set_init_1 hT ?_)) λj d a=>?_
   ·unfold Builtin.«set.__init__» noKeywords;generalize y:cC=U;wp_walk
    subst y;refine p _ _ _ rfl λh' tk B u=>?_;exact iy ⟨rfl,h',tk,rfl,B,u⟩
   ·cases j with
    | error e=>exact a
    | ok g=>
     cases g with
     | ret r=>
      obtain ⟨rfl,h',tk,rfl,B,m⟩:=a;repeat (any_goals (first | assumption | wp_step))
      exact h _ _ B m
     | _=>exact a.elim
  | _=>exact hr.elim
end
theorem xH {α:Type}:∀ {xs:List α} {i:Nat} (h:i < xs.length),(xs[i]::xs.eraseIdx i).Perm xs
 | [],_,h=>absurd h (Nat.not_lt_zero _)
 | x::xs,0,h=>cK _
 | x::xs,i+1,h=>(List.Perm.swap _ _ _).trans ((xH (xs:=xs) (i:=i) (Nat.lt_of_succ_lt_succ h)).cons x)
variable {M:Model}
theorem Zr {c:Source} {Q:Nat->iw->Prop} (hn:n≠0) (h:∀ i d',i < n->Q i { s with drawn:=d' }):iB M A (choose c n) Q E s:=
 λ_ _ _=>⟨hn,h _ _ (Nat.mod_lt _ (Nat.pos_of_ne_zero hn))⟩
variable {α:Type}
theorem qao:∀ (n:Nat) (xs:List α) (s:iw) {Q:List α->iw->Prop},n=xs.length->(∀ ys d',ys.Perm xs->Q ys { s with drawn:=d' })->iB M A (drawOrder n xs) Q E s
 | 0,xs,s,Q,hn,h=>by
  cases xs with
  | nil=>exact iy (h [] s.drawn (cK _))
  | cons x l=>cases hn
 | n+1,[],s,Q,hn,h=>by cases hn
 | n+1,x::l,s,Q,hn,h=>by show iB M A (choose .order (x::l).length >>= _) Q E s;refine ip (Zr 'g' λi d' hi=>?_);have e:(x::l)[i]?=ij (x::l)[i]:=aE hi;rw [e];refine ip (qao n _ _ (by rw [List.length_eraseIdx_of_lt hi]; simp only [ao] at hn ⊢; lia) λys d2 hp=>iy (h _ d2 ?_));exact (hp.cons _).trans (xH hi)
theorem qap (next:Nat->Nat):∀ (f k:Nat) (left:List α) (out:Array α),f=left.length->(pickOrder.go next f k left out).toList.Perm (out.toList++left)
 | 0,k,left,out,hf=>by
  cases left with
  | nil=>rw [aZ];exact cK _
  | cons x l=>cases hf
 | f+1,k,left,out,hf=>by have t:next k % left.length < left.length:=Nat.mod_lt _ 'b';have e:left[next k % left.length]?=ij left[next k % left.length]:=aE t;unfold pickOrder.go;rw [e];refine (qap next f (k+1) _ _ (by rw [List.length_eraseIdx_of_lt t]; lia)).trans ?_;rw [Array.toList_push,aV];exact List.Perm.append_left _ (xH t)
theorem gq (next:Nat->Nat) (xs:Array α):(lG next xs).toList.Perm xs.toList:=by unfold lG;exact qap next _ _ _ _ 'g'
noncomputable def ut (first:iq) (i:Nat) (a:Addr) (n ep:Nat):Obj:={ cls:=.type "set_iterator",data:=.fields #[first,iT i,.ref a,iT n,iT ep] }
theorem qX:Slot "set_iterator" "__next__" "set_iterator.__next__":=
 .of (owner := "set_iterator") (n := "__next__") (by rw [ll,iX]; kernel_rfl) 'a' 'a' 'a' (by first | exact .inl 'a' | exact .inr 'a') (by rw [lv]; kernel_rfl)
theorem ze:Slot "set_iterator" "__iter__" "set_iterator.__iter__":=
 .of (owner := "set_iterator") (n := "__iter__") (by rw [ll,iX]; kernel_rfl) 'a' 'a' 'a' (by first | exact .inl 'a' | exact .inr 'a') (by rw [lv]; kernel_rfl)
theorem vP (a:iq):argsOk "set_iterator.__next__" ⟨[a],[]⟩:=by unfold argsOk; kernel_rfl
theorem VF (a:iq):argsOk "set_iterator.__iter__" ⟨[a],[]⟩:=by unfold argsOk; kernel_rfl
theorem vg:entryFor table "set_iterator.__next__"=ij Builtin.«set_iterator.__next__»:=entryFor_of_tree (by kernel_rfl)
theorem JK:entryFor table "set_iterator.__iter__"=ij Builtin.«dict_keyiterator.__iter__»:=entryFor_alias (id' := "dict_keyiterator.__iter__") (by kernel_rfl) rfl 'a' (by kernel_rfl)
theorem VG:entryFor table "set.__iter__"=ij Builtin.«frozenset.__iter__»:=entryFor_alias (id' := "frozenset.__iter__") (by kernel_rfl) rfl 'a' (by kernel_rfl)
variable {ks:List Str} {p:Addr} {b:Bool} {ps:List Nat}
section
theorem vD (d:w.params.followText "set-order"=b):({ program:=(model prog w).prog,params:=(model prog w).w.params }:Setting).params.followText "set-order"=b:=d
theorem VH {sl nx:Nat} {x:iq} {Q:Option iq->iw->Prop} (hi:s.heap.get? it=ij (ut (iT sl) i a n ep)) (g:s.heap.get? a=ij (kt es ep t)) (h:t.fits es.size=iu) (z:es.size=n)
  (hn:∀ (A1:iJ) (L:Option (iq×Nat)->iw->Prop) (R:iq->iw->Prop),L (ij (x,nx)) s->iB 'e' A1 (md a sl i ep) L R s)
  (c:∀ h',h'.get? it=ij (ut (iT nx) (i+1) a n ep)->bI it s.heap h'->Q (ij x) { s with heap:=h' }):iB 'e' A (la (.ref it)) Q E s:=by
 have hT:s.TypeIs (.ref it) "set_iterator":=⟨_,hi,rfl⟩
 unfold la;refine ip (i8 (iK (name:=aL "__next__") hT qX (iL qX hT vg ?_ (vP _))));show iB _ _ (fieldsOf (.ref it) >>= _) _ _ s;refine ip (lU hi rfl ?_);show iB _ _ (mH a >>= _) _ _ s;refine ip (k9 g rfl h ?_);rw [Ab (by rw [z]; simp)];show iB _ _ (md a sl i ep >>= _) _ _ s;refine ip (hn _ _ _ ?_);show iB _ _ (setField (.ref it) 0 (iT nx) >>= _) _ _ s;refine ip (j5 hi rfl 'g' ?_);have h1:(s.heap.update it (Obj.mapFields (·.setIfInBounds 0 (iT nx)))).get? it=ij (ut (iT nx) i a n ep):=bf _ hi rfl;refine ip (j5 h1 rfl 'g' (iy ⟨x,rfl,iy (c _ ?_ ((bu ..).trans (bu ..)))⟩));exact bf _ h1 rfl
theorem VI {sl:Nat} {Q:Option iq->iw->Prop} (h:A.handled=im) (hi:s.heap.get? it=ij (ut (iT sl) i a n ep)) (g:s.heap.get? a=ij (kt es ep t)) (f:t.fits es.size=iu) (z:es.size=n)
  (hn:∀ (A1:iJ) (L:Option (iq×Nat)->iw->Prop) (R:iq->iw->Prop),L im s->iB 'e' A1 (md a sl i ep) L R s)
  (c:∀ h',fY it s.heap h'->Q im { s with heap:=h' }):iB 'e' A (la (.ref it)) Q E s:=by
 have hT:s.TypeIs (.ref it) "set_iterator":=⟨_,hi,rfl⟩
 unfold la;refine ip (i8 (iK (name:=aL "__next__") hT qX (iL qX hT vg ?_ (vP _))));show iB _ _ (fieldsOf (.ref it) >>= _) _ _ s;refine ip (lU hi rfl ?_);show iB _ _ (mH a >>= _) _ _ s;refine ip (k9 g rfl f ?_);rw [Ab (by rw [z]; simp)];show iB _ _ (md a sl i ep >>= _) _ _ s;refine ip (hn _ _ _ ?_);show iB _ _ (setField (.ref it) 2 bV >>= _) _ _ s;refine ip (j5 hi rfl 'g' ?_); show iB _ _ (newExc (.type "StopIteration") [] >>= _) _ _ _;refine ip ?_; simp only [newExc,newTuple]; refine ip (iH ?_ (by size_fits));refine ip (m:=lw _ _) (mn (a:=bV) (by first | rfl | (simp only [lw]; rfl)) ?_); refine iH ?_ (by size_fits); simp only [raiseNew];refine ip (wpAny_handled ?_); first | rw [show A.in1.handled=im from h] | rw [h]
 refine ip (iy (wpAny_throw ?_)); refine ip (i9 (T := "StopIteration") (b:=iu) ⟨_,ai _ rfl,rfl⟩ isSubtype_stop ?_);exact iy (c _ (((bu ..).extBut.push _).push _))
theorem Zs {pl m:Nat} {hx:Int} {x:iq} {ps:Array iq} {Q:Option iq->iw->Prop} (hi:s.heap.get? it=ij (ut (.ref p) i a n ep)) (g:s.heap.get? a=ij (kt es ep t)) (h:t.fits es.size=iu) (z:es.size=n)
  (hp:s.heap.get? p=ij { cls:=.type "tuple",data:=.seq ps m }) (l:ps[i]?=ij (iT pl)) (hx:es[pl]?=ij (hx,x))
  (c:∀ h',h'.get? it=ij (ut (.ref p) (i+1) a n ep)->bI it s.heap h'->Q (ij x) { s with heap:=h' }):iB 'e' A (la (.ref it)) Q E s:=by
 have hT:s.TypeIs (.ref it) "set_iterator":=⟨_,hi,rfl⟩
 unfold la;refine ip (i8 (iK (name:=aL "__next__") hT qX (iL qX hT vg ?_ (vP _))));show iB _ _ (fieldsOf (.ref it) >>= _) _ _ s;refine ip (lU hi rfl ?_);show iB _ _ (mH a >>= _) _ _ s;refine ip (k9 g rfl h ?_);rw [Ab (by rw [z]; simp)];show iB _ _ (seqItems? (.ref p) >>= _) _ _ s;refine ip (iN hp rfl ?_);dsimp only;rw [show ps[Int.toNat (i:Int)]?=ij (iT pl) from l];show iB _ _ (setNextDrawn a pl ep >>= _) _ _ s;refine ip ?_;unfold setNextDrawn;refine ip (iV g rfl h ?_);dsimp only;rw [Ab 'g',hx];refine iy ?_;show iB _ _ (setField (.ref it) 1 (iT (i+1)) >>= _) _ _ s;refine ip (j5 hi rfl 'g' (iy ⟨x,rfl,iy (c _ ?_ (bu ..))⟩));exact bf _ hi rfl
theorem qaq {m:Nat} {ps:Array iq} {Q:Option iq->iw->Prop} (h:A.handled=im) (hi:s.heap.get? it=ij (ut (.ref p) i a n ep)) (g:s.heap.get? a=ij (kt es ep t)) (f:t.fits es.size=iu) (z:es.size=n)
  (hp:s.heap.get? p=ij { cls:=.type "tuple",data:=.seq ps m }) (l:ps[i]?=im)
  (c:∀ h',fY it s.heap h'->Q im { s with heap:=h' }):iB 'e' A (la (.ref it)) Q E s:=by
 have hT:s.TypeIs (.ref it) "set_iterator":=⟨_,hi,rfl⟩
 unfold la;refine ip (i8 (iK (name:=aL "__next__") hT qX (iL qX hT vg ?_ (vP _))));show iB _ _ (fieldsOf (.ref it) >>= _) _ _ s;refine ip (lU hi rfl ?_);show iB _ _ (mH a >>= _) _ _ s;refine ip (k9 g rfl f ?_);rw [Ab (by rw [z]; simp)];show iB _ _ (seqItems? (.ref p) >>= _) _ _ s;refine ip (iN hp rfl ?_);dsimp only;rw [show ps[Int.toNat (i:Int)]?=im from l];show iB _ _ (setField (.ref it) 0 (iT 0) >>= _) _ _ s;refine ip (j5 hi rfl 'g' ?_);have h1:(s.heap.update it (Obj.mapFields (·.setIfInBounds 0 (iT 0)))).get? it=ij (ut (iT 0) i a n ep):=bf _ hi rfl;refine ip (j5 h1 rfl 'g' ?_); show iB _ _ (newExc (.type "StopIteration") [] >>= _) _ _ _;refine ip ?_; simp only [newExc,newTuple]; refine ip (iH ?_ (by size_fits));refine ip (m:=lw _ _) (mn (a:=bV) (by first | rfl | (simp only [lw]; rfl)) ?_); refine iH ?_ (by size_fits); simp only [raiseNew];refine ip (wpAny_handled ?_); first | rw [show A.in1.handled=im from h] | rw [h]
 refine ip (iy (wpAny_throw ?_)); refine ip (i9 (T := "StopIteration") (b:=iu) ⟨_,ai _ rfl,rfl⟩ isSubtype_stop ?_);exact iy (c _ (((((bu ..).trans (bu ..))).extBut.push _).push _))
theorem gt {Q:iq->iw->Prop} (hi:s.heap.get? it=ij o) (d:o.cls=.type "set_iterator") (h:Q (.ref it) s):iB 'e' A (mF (.ref it)) Q E s:=by
 have hT:s.TypeIs (.ref it) "set_iterator":=⟨_,hi,d⟩
 refine wpAny_pyIter_slot hT ze (iL ze hT JK ?_ (VF _)); show iB _ _ (ret (.ref it)) _ _ s;exact iy ⟨_,rfl, "set_iterator",_,hT,qX.lookup,h⟩
theorem qar {ep:Nat} (u:A.handled=im) (d:w.params.followText "set-order"=iu) (f:t.fits es.size=iu) (g:a≠it):Walks prog w A it [it,a] [it] es.size (λi v=>((lG (w.params.setOrder a ep) es).toList.map (·.2))[i]?=ij v) (λi h=>h.get? it=ij (ut (iT 0) i a es.size ep)/\h.get? a=ij (kt es ep t)) where
 sub:=λb d=>by simp at d; simp [d]
 frame:=λ_ _ _ st p=>⟨p it 'g' _ st.1,p a 'g' _ st.2⟩
 item:=λi s Q E hi st c=>by
  have n:(lG (w.params.setOrder a ep) es).size=es.size:=by have:=(gq (w.params.setOrder a ep) es).length_eq;simpa using this
  have j:i < (lG (w.params.setOrder a ep) es).size:=by lia
  obtain ⟨e,he⟩:∃ e,(lG (w.params.setOrder a ep) es)[i]?=ij e:=⟨_,bQ j⟩
  refine VH (x:=e.2) (nx:=0) st.1 st.2 f rfl (λA1 L R q=>?_) λh' k l=>c e.2 h' s.toks ?_ ⟨k,?_⟩ λb o nb r=>?_;·unfold md;refine ip (iV st.2 rfl f ?_);dsimp only;refine ip (m:=lV) (ip (iU (iy ?_)));rw [vD d,Aa rfl,Ab 'g'];refine ip ?_;unfold setWalk;refine ip (iV st.2 rfl f ?_);dsimp only;refine ip (m:=lV) (ip (iU (iy ?_)));rw [vD d,Aa rfl];refine ip (iU (iy ?_));refine iy ?_;rw [show (lG ((⟨(model prog w).prog,(model prog w).w.params⟩:Setting).params.setOrder a ep) es)[i]?=ij e from he];exact q
  ·rw [aH,bS,he];rfl
  ·rw [l.2 a g];exact st.2
  ·rw [l.2 b (λz=>nb (by simp [z]))];exact r
 done:=λs Q E st c=>by
  have n:(lG (w.params.setOrder a ep) es).size=es.size:=by have:=(gq (w.params.setOrder a ep) es).length_eq;simpa using this
  refine VI u st.1 st.2 f rfl (λA1 L R q=>?_) λh' J=>c h' s.toks λb o nb r=>J b o (λz=>nb (by simp [z])) r;unfold md;refine ip (iV st.2 rfl f ?_);dsimp only;refine ip (m:=lV) (ip (iU (iy ?_)));rw [vD d,Aa rfl,Ab 'g'];refine ip ?_;unfold setWalk;refine ip (iV st.2 rfl f ?_);dsimp only;refine ip (m:=lV) (ip (iU (iy ?_)));rw [vD d,Aa rfl];refine ip (iU (iy ?_));refine iy ?_;rw [show (lG ((⟨(model prog w).prog,(model prog w).w.params⟩:Setting).params.setOrder a ep) es)[es.size]?=im from c9 (fR n)];exact q
 self:=λi s Q E st c=>gt st.1 rfl c
noncomputable def yy (t:lL) (i:Nat):Nat:=if i=0 then 0 else t.place.getD 0 0+1
theorem VJ (j k:Nat):bx #[j] k=if j < k then 1 else 0:=by unfold bx;show bx.go #[j] k 1 0 1=_;unfold bx.go;rw [Aa 'b'];show (if (#[j]:Array Nat).getD 0 k < k then bx.go #[j] k 0 1 1 else bx.go #[j] k 0 0 0)=_;show (if j < k then bx.go #[j] k 0 1 1 else bx.go #[j] k 0 0 0)=_;split <;> rfl
theorem YQ {Q:Option (iq×Nat)->iw->Prop} (d:w.params.followText "set-order"=ir) (f:t.fits es.size=iu) (hl:t.led=iu) (c:es.size<=1) (g:s.heap.get? a=ij (kt es ep t)) (hi:i<=es.size)
  (q:Q (match es[i]? with | some e=>ij (e.2,yy t (i+1)) | none=>im) s):iB 'e' A (md a (yy t i) i ep) Q E s:=by
 have h:t.place.size=es.size:=by have:=f;simp only [SetTable.fits,aS,beq_iff_eq] at this;exact this.1
 unfold md;refine ip (iV g rfl f ?_);dsimp only;refine ip (m:=lV) (ip (iU (iy ?_)));rw [vD d,Ab 'g'];show iB _ _ (if (!t.plain&&decide (es.size > 1))=iu then _ else _) _ _ _;rw [Ab (by simp; intro _; lia)];refine ip ?_;show iB _ _ (if (!t.led&&!es.isEmpty)=iu then _ else _) _ _ _;rw [hl,Ab 'g'];refine iy (iy ?_);have e:(match es[bx t.place (yy t i)]?,t.place[bx t.place (yy t i)]? with | some (_,x),ij j=>ij (x,j+1) | _,_=>im)=(match es[i]? with | some e=>ij (e.2,yy t (i+1)) | none=>im:Option (iq×Nat)):=by
  obtain ⟨l⟩:=es;obtain ⟨k,⟨pl⟩,u,fi,le,mo,pn⟩:=t;cases l with
  | nil=>simp
  | cons e0 l=>
   cases l with
   | cons _ _=>exact absurd c 'g'
   | nil=>
    cases pl with
    | nil=>exact absurd h 'g'
    | cons j pl=>
     cases pl with
     | cons _ _=>exact absurd h 'g'
     | nil=>
      have b:i=0\/i=1:=by simp at hi; lia
      rcases b with rfl | rfl;·show (match (#[e0]:Array (Int×iq))[bx #[j] 0]?,(#[j]:Array Nat)[bx #[j] 0]? with | some (_,x),ij j=>ij (x,j+1) | _,_=>im)=ij (e0.2,j+1);rw [VJ,Ab 'b'];rfl
      ·show (match (#[e0]:Array (Int×iq))[bx #[j] (j+1)]?,(#[j]:Array Nat)[bx #[j] (j+1)]? with | some (_,x),ij j=>ij (x,j+1) | _,_=>im)=im;rw [VJ,Aa 'b'];rfl
 exact Eq.mp (congrArg (λz=>Q z s) e.symm) q
theorem qdi {ep:Nat} (n:A.handled=im) (d:w.params.followText "set-order"=ir) (f:t.fits es.size=iu) (hl:t.led=iu) (k:es.size<=1) (e:a≠it):Walks prog w A it [it,a] [it] es.size (λi v=>(es.toList.map (·.2))[i]?=ij v) (λi h=>h.get? it=ij (ut (iT (yy t i)) i a es.size ep)/\h.get? a=ij (kt es ep t)) where
 sub:=λb d=>by simp at d; simp [d]
 frame:=λ_ _ _ st l=>⟨l it 'g' _ st.1,l a 'g' _ st.2⟩
 item:=λi s Q E hi st c=>by
  have m:es[i]?=ij es[i]:=bQ hi;refine VH (x:=es[i].2) (nx:=yy t (i+1)) st.1 st.2 f rfl (λA1 L R q=>YQ d f hl k st.2 (c8 hi) (by rw [m]; exact q)) λh' g j=>c es[i].2 h' s.toks ?_ ⟨g,?_⟩ λb o nb r=>?_;·rw [aH,bS,m];rfl
  ·rw [j.2 a e];exact st.2
  ·rw [j.2 b (λz=>nb (by simp [z]))];exact r
 done:=λs Q E st c=>VI n st.1 st.2 f rfl (λA1 L R q=>YQ d f hl k st.2 (aA _) (by rw [c9 (aA _)]; exact q)) λh' J=>c h' s.toks λb o nb r=>J b o (λz=>nb (by simp [z])) r
 self:=λi s Q E st c=>gt st.1 rfl c
noncomputable def qh8 (es:Array (Int×iq)) (ps:List Nat):List iq:=ps.map λk=>(es[k]?.map (·.2)).getD .none
theorem qas (h:ps.Perm (aO es.size)):(qh8 es ps).Perm (es.toList.map (·.2)):=by
 have e:qh8 es (aO es.size)=es.toList.map (·.2):=by
  apply ei;intro i;unfold qh8;rw [aH,aH,show es.toList[i]?=es[i]? from bS];by_cases hi:i < es.size;·rw [List.getElem?_range hi,bQ hi];simp [hi]
  ·rw [cq (by rw [cA]; lia),c9 'b'];rfl
 rw [<-e];exact h.map _
theorem Zu {ep m:Nat} (y:A.handled=im) (j:t.fits es.size=iu) (hp:ps.Perm (aO es.size)) (f:a≠it) (e:p≠it):Walks prog w A it [it,a,p] [it] es.size (λi v=>(qh8 es ps)[i]?=ij v) (λi h=>h.get? it=ij (ut (.ref p) i a es.size ep)/\h.get? a=ij (kt es ep t)/\h.get? p=ij { cls:=.type "tuple",data:=.seq (ps.map λ(i:Nat)=>iT i).toArray m }) where
 sub:=λb u=>by simp at u; simp [u]
 frame:=λ_ _ _ st k=>⟨k it 'g' _ st.1,k a 'g' _ st.2.1,k p 'g' _ st.2.2⟩
 item:=λi s Q E hi st c=>by
  have n:ps.length=es.size:=by rw [hp.length_eq,cA]
  have l:i < ps.length:=by lia
  have k:ps[i] < es.size:=bv.mp (hp.mem_iff.mp (cu l));have q:es[ps[i]]?=ij es[ps[i]]:=bQ k;refine Zs (x:=es[ps[i]].2) (hx:=es[ps[i]].1) (pl:=ps[i]) st.1 st.2.1 j rfl st.2.2 ?_ q λh' g d=>c es[ps[i]].2 h' s.toks ?_ ⟨g,?_,?_⟩ λb o nb r=>?_;·rw [ez,aH,aE l];rfl
  ·unfold qh8;rw [aH,aE l];simp [q]
  ·rw [d.2 a f];exact st.2.1
  ·rw [d.2 p e];exact st.2.2
  ·rw [d.2 b (λz=>nb (by simp [z]))];exact r
 done:=λs Q E st c=>by
  have n:ps.length=es.size:=by rw [hp.length_eq,cA]
  refine qaq y st.1 st.2.1 j rfl st.2.2 ?_ λh' J=>c h' s.toks λb o nb r=>J b o (λz=>nb (by simp [z])) r;rw [ez,cq (by simp; lia)]
 self:=λi s Q E st c=>gt st.1 rfl c
theorem qdj {A1:iJ} {Q:iq->iw->Prop} (n:A1.handled=im) (g:s.heap.get? a=ij (kt es ep t)) (d:SetG KpS prog w es t ks)
  (q:∀ (it:Addr) (h':Heap) (r:Drawn) (ord:List iq) (fp:List Addr) (St:Nat->Heap->Prop),(∀ b o,s.heap.get? b=ij o->h'.get? b=ij o)->ord.Perm (es.toList.map (·.2))->Walks prog w A1 it fp [it] es.size (λi v=>ord[i]?=ij v) St->St 0 h' ->(∀ b∈fp,b=a\/s.heap.objs.size<=b)->s.heap.objs.size<=it->Q (.ref it) { s with heap:=h',drawn:=r }):iB 'e' A (mF (.ref a)) Q E s:=by
 have hT:s.TypeIs (.ref a) "set":=⟨_,g,rfl⟩
 have f:a < s.heap.objs.size:=aw g;refine wpAny_pyIter_slot hT PySem.F.slot_set_iter (iL PySem.F.slot_set_iter hT VG ?_ (PySem.F.args_set_iter_1 _));show iB _ _ (Builtin.Frozenset.sizeOf a >>= _) _ _ s;refine ip (m:=Builtin.Frozenset.sizeOf a) (ip (k9 g rfl d.fits (iy ?_)));refine ip (m:=setDrawn a) ?_;unfold setDrawn;refine ip (iV g rfl d.fits ?_);dsimp only;refine ip (m:=lV) (ip (iU (iy ?_)));refine iy ?_;cases h:w.params.followText "set-order" with
 | true=>
  rw [vD h,Ab 'g'];refine ip (iy ?_);refine ip (m:=setEpoch a) (wpAny_setEpoch_of g rfl d.fits ?_);refine ip (iH (iy ⟨_,rfl, "set_iterator",_,⟨_,ai _ rfl,rfl⟩,qX.lookup,?_⟩));refine q _ _ s.drawn _ _ _ (λb o e=>aa _ e) ((gq (w.params.setOrder a ep) es).map _) (qar n h d.fits (aC f)) ⟨ai _ rfl,aa _ g⟩ ?_ (aA _);intro b h;rcases ac.mp h with z | z;·exact .inr (z ▸ aA _)
  ·exact .inl (au.mp z)
 | false=>
  have k:t.led=true:=by rw [d.led,h]; rfl
  rw [vD h];show iB _ _ (if (!false&&(!t.plain&&decide (es.size > 1)))=iu then _ else _) _ _ _;by_cases hn:es.size<=1
  ·rw [Ab (by simp; intro _; lia)];refine ip (iy ?_);refine ip (m:=setEpoch a) (wpAny_setEpoch_of g rfl d.fits ?_);refine ip (iH (iy ⟨_,rfl, "set_iterator",_,⟨_,ai _ rfl,rfl⟩,qX.lookup,?_⟩));refine q _ _ s.drawn _ _ _ (λb o e=>aa _ e) (cK _) (qdi n h d.fits k hn (aC f)) ⟨ai _ rfl,aa _ g⟩ ?_ (aA _);intro b h;rcases ac.mp h with z | z;·exact .inr (z ▸ aA _)
   ·exact .inl (au.mp z)
  ·have l:t.plain=false:=d.plain rfl λz=>by
    have u:=d.size;rw [z,aX] at u
    lia
   rw [Aa (by rw [l]; simp; lia)];refine ip (qao es.size (aO es.size) s 'g' λps r hp=>?_);have j:ps.length=es.size:=by rw [hp.length_eq,cA]
   have hsz:(ps.map λ(i:Nat)=>iT i).length<=sizeLine:=by rw [ay,j]; exact lI d.bd
   refine ip (wpAny_newTuple ?_ hsz);refine ip (m:=setEpoch a) (wpAny_setEpoch_of (aa _ g) rfl d.fits ?_);refine ip (iH (iy ⟨_,rfl, "set_iterator",_,⟨_,ai _ rfl,rfl⟩,qX.lookup,?_⟩));have c:s.heap.objs.size < (s.heap.push ({ cls:=.type "tuple",data:=.seq (ps.map λ(i:Nat)=>iT i).toArray }:Obj)).objs.size:=by rw [bL]; exact Nat.lt_succ_self _
   refine q _ _ r _ _ _ (λb o e=>aa _ (aa _ e)) (qas hp) (Zu (p:=s.heap.objs.size) n d.fits hp (aC (eh f c)) (aC c)) ⟨ai _ rfl,aa _ (aa _ g),aa _ (ai _ rfl)⟩ ?_ (c8 c);intro b h;rcases ac.mp h with z | z;·exact .inr (z ▸ c8 c)
   ·rcases ac.mp z with z | z;·exact .inl z
    ·exact .inr (fR (au.mp z).symm)
end
section
theorem qdk {ord:List iq} {acc:Array iq} (hl:ord.length=n) (h:mJ (λi v=>ord[i]?=ij v) acc n):acc.toList=ord:=by
 apply ei;intro i;rw [show acc.toList[i]?=acc[i]? from bS];by_cases hi:i < acc.size;·rw [bQ hi];exact (h.2 i _ (bQ hi)).symm
 ·rw [c9 'b',cq (by have:=h.1; lia)]
theorem Um {Q:List iq->iw->Prop} (M:A.handled=im) (J:s.heap.get? a=ij (kt es ep t)) (d:SetG KpS prog w es t ks)
  (N:∀ h' x tk ord,(∀ b o,s.heap.get? b=ij o->h'.get? b=ij o)->ord.Perm (es.toList.map (·.2))->Q ord { s with heap:=h',drawn:=x,toks:=tk }):iB 'e' A (collect (.ref a)) Q E s:=by
 have n:a < s.heap.objs.size:=aw J;unfold collect;refine ip (wpAny_runValue (iQ PySem.F.entry_proto_collect ?_)); rw [bz PySem.F.plain_proto_collect _];show iB _ A.in1 (newList [] >>= λl=>again (.builtin "list.__iadd__" ⟨[l,.ref a],[]⟩)) _ _ s; refine ip (iH ?_);refine iy ⟨k7 PySem.F.plain_list_iadd _,iQ PySem.F.entry_list_iadd ?_⟩; rw [bz PySem.F.plain_list_iadd _];have g:(s.heap.push { cls:=.type "list",data:=.seq ([]:List iq).toArray }).get? a=ij (kt es ep t):=aa _ J;have hT:fK { s with heap:=s.heap.push { cls:=.type "list",data:=.seq ([]:List iq).toArray } } (.ref a) "set":=⟨_,g,rfl⟩
 show iB _ A.in1 (bp 'm' (.ref a) 'm') _ _ _; unfold bp;refine ip (li hT ?_);have h1:cW 'm' (.ref a)=false:=by simp [cW,cx n]
 rw [Ab (by rw [h1]; decide)];refine ip (qdj (A1:=A.in1) M g d λit h2 x ord fp St k2 hp W C D hit=>?_);have u:h2.get? s.heap.objs.size=ij { cls:=.type "list",data:=.seq ([]:List iq).toArray }:=k2 _ _ (ai _ rfl);have G:h2.get? a=ij (kt es ep t):=k2 _ _ g;refine ip (iP ?_);unfold Builtin.List.listLengthHint;have i:fK { s with heap:=h2,drawn:=x } (.ref a) "set":=⟨_,G,rfl⟩
 refine ip (wpAny_specialOf i PySem.F.slot_set_len.lookup ?_)
 (generalize f:("set.__len__":String)=id0; (fail_if_success (clear f id0)); wp_delta; rw [show splitId id0=ij ("set", "__len__") from by subst f; decide +kernel]; subst f)
 refine ip (i9 (b:=iu) i (by rw [lv]; kernel_rfl) ?_);refine ip (m:=lX (.ref a)) (li i ?_);refine iy ?_;show iB _ A.in1 (rule "list.extend.makes-room" >>= λ_=>Builtin.List.listTouch 'm' >>= λ_=>again (.builtin "list.extend.loop" ⟨[.ref s.heap.objs.size,.ref it,.ref s.heap.objs.size],[]⟩)) _ _ _;refine ip (lu (ip ?_)); show iB _ A.in1 (updateSeq s.heap.objs.size (·.push .none) >>= λ_=>updateSeq s.heap.objs.size (·.pop)) _ _ _;refine ip (wpAny_updateSeq u rfl ?_); have h:=bf (cS (·.push bV)) u rfl;refine wpAny_updateSeq h rfl ?_; have j:=bf (cS (·.pop)) h rfl;have k:(s.heap.push ({ cls:=.type "list",data:=.seq ([]:List iq).toArray }:Obj)).objs.size=s.heap.objs.size+1:=bL ..;have oth:∀ b o,b≠s.heap.objs.size->h2.get? b=ij o->((h2.update s.heap.objs.size (cS (·.push bV))).update s.heap.objs.size (cS (·.pop))).get? b=ij o:=λb o c e=>(cG _ _ (bo c)).trans ((cG _ _ (bo c)).trans e);have I:s.heap.objs.size∉fp:=λz=>by
  rcases D _ z with q | q;·exact cx n q
  ·exact Nat.not_succ_le_self _ (k ▸ q)
 have p:ord.length=es.size:=by rw [hp.length_eq];simp
 refine iy ⟨k7 PySem.F.plain_extend_loop _,codeAny_extend_loopS W.toS (lI d.bd) _ I _ es.size 0 _ _ _ rfl (bH _) (W.frame 0 h2 _ C λb c o e=>oth b o (λz=>I (z ▸ c)) e) j (ItemsOf.nil _) λs' L U v H r=>?_⟩;show iB _ A (load s.heap.objs.size >>= _) _ _ s';refine ip (wpAny_load H (iy ?_));rw [qdk p r];obtain ⟨h',g',d',y,B⟩:=s';have P:g'=s.gens:=v.gens;have R:d'=x:=v.drawn;have O:B=s.os:=v.os;subst P R O;refine N h' d' y ord (λb o e=>?_) hp;have c:=aw e;refine v.heap b o (λz=>?_) (oth b o (aC c) (k2 b o (aa _ e)));rcases ac.mp z with z | z;·exact aC c z
 ·have K:s.heap.objs.size+1<=it:=k ▸ hit;rw [<-au.mp z] at K;exact cH _ (eh c K)
theorem Zv {Q:iq->iw->Prop} (q:A.handled=im) (S:SetK KpS prog w s.heap a ks) (j:ks.length < 64)
  (x:∀ (h1 h':Heap) r tk vs e ss,(∀ b o,s.heap.get? b=ij o->h1.get? b=ij o)->(∀ b o,h1.get? b=ij o->h'.get? b=ij o)->h'.get? h1.objs.size=ij (mh "list" vs e)->mE vs.toList ss->ss.Perm ks->sortedS ss=iu->Q (.ref h1.objs.size) { s with heap:=h',drawn:=r,toks:=tk }) :
  iB 'e' A (call (.builtin "sorted") [.ref a]) Q E s:=by
 obtain ⟨es,ep,t,u,d⟩:=S;refine Calls.call_function_entry kind_sorted plain_sorted entry_sorted (args_sorted1 _) ?_; unfold Builtin.«sorted»;refine ip (m:=checkCount "sorted" 1 1 _) (iy ?_);refine ip (Um (by exact q) u d λh1 r tk ord k1 hp=>?_);have c:mE ord (ord.map strOf):=strsAre_map ord λv p=>by obtain ⟨e,i,rfl⟩:=ah.mp (hp.mem_iff.mp p);exact qh5 d.el i
 have h:(ord.map strOf).Perm ks:=(hp.map strOf).trans (by rw [bg]; exact d.perm);have n:ord.length=ks.length:=by have:=h.length_eq;rwa [ay] at this
 refine ip (wpAny_newList ?_ (by rw [n,iM]; lia));have Z:(h1.push (mh "list" ord.toArray 0)).get? h1.objs.size=ij (mh "list" ord.toArray 0):=ai _ rfl;refine ip (iP (iL slot_list_sort (s:={ s with heap:=h1.push (mh "list" ord.toArray 0),drawn:=r,toks:=tk }) ⟨_,Z,rfl⟩ entry_list_sort (list_sort_treeK strKind_oneLt Z c.keysOf (λv₁ k rest e=>keyKind_strs (by rw [<-e]; exact c)) (by rw [n]; exact j) λg D C=>⟨_,rfl,?_⟩) (args_list_sort _)));obtain ⟨f,B,z,y⟩:=sorted_out_str c D C;obtain ⟨e,i⟩:=sortedHeap_at (out:=(arrOf g).map (·.2)) Z;refine iy ⟨_,rfl,x h1 _ r tk _ e f k1 (λb o J=>?_) i B (z.trans h) y⟩;have l:=aw J;rw [sortedHeap_old (aC l) (by rw [bL]; exact dA l)];exact aa _ J
end
section
theorem VL {x:iq} {Q:iq->iw->Prop} (hit:s.heap.IsTupleIter it l i) (hl:s.heap.IsTuple l items) (hx:items[i]?=ij x)
  (c:∀ h',h'.IsTupleIter it l (i+1)->bI it s.heap h'->Q x { s with heap:=h' }):iB 'e' A (bh (.ref it)) Q E s:=by
 obtain ⟨o,h,d,hd⟩:=id hit;obtain ⟨ol,a,_,n,b⟩:=hl;unfold bh;refine ip (iK (name:=aL "__next__") hit.typeIs ci (iL ci hit.typeIs PySem.F.entry_tuple_iterator_next ?_ (PySem.F.args_tuple_iterator_next_1 _))); show iB _ _ (field (.ref it) 0 >>= _) _ _ s;refine ip (iR h hd (x:=.ref l) rfl ?_); show iB _ _ (if (bA l == bV)=iu then _ else _) _ _ s;rw [Ab (show ¬((bA l == bV)=iu) from bj)]; show iB _ _ (field (.ref it) 1 >>= _) _ _ s;refine ip (iR h hd (x:=.int i 0) rfl ?_); show iB _ _ (seqItems? (.ref l) >>= _) _ _ s;refine ip (iN a b ?_); simp only [fF,hx];refine ip (j5 h hd 'g' (iy ⟨x,rfl,iy (c _ ?_ (bu ..))⟩)); exact ⟨_,bf _ h (Obj.isFreed_of_fields (Obj.data_mapFields hd _)),(Obj.cls_mapFields ..).trans d,by rw [Obj.data_mapFields hd]; simp [iT]⟩
theorem zt {Q:iq->iw->Prop} (d:A.handled=im) (hit:s.heap.IsTupleIter it l i) (hl:s.heap.IsTuple l items) (hx:items[i]?=im)
  (k:∀ h' e,fY it s.heap h'->(∃ o,h'.get? e=ij o/\o.cls=.type "StopIteration")->E (.ref e) { s with heap:=h' }):iB 'e' A (bh (.ref it)) Q E s:=by
 obtain ⟨o,b,f,hd⟩:=id hit;obtain ⟨ol,h,_,n,c⟩:=hl;unfold bh;refine ip (iK (name:=aL "__next__") hit.typeIs ci (iL ci hit.typeIs PySem.F.entry_tuple_iterator_next ?_ (PySem.F.args_tuple_iterator_next_1 _))); show iB _ _ (field (.ref it) 0 >>= _) _ _ s;refine ip (iR b hd (x:=.ref l) rfl ?_); show iB _ _ (if (bA l == bV)=iu then _ else _) _ _ s;rw [Ab (show ¬((bA l == bV)=iu) from bj)]; show iB _ _ (field (.ref it) 1 >>= _) _ _ s;refine ip (iR b hd (x:=.int i 0) rfl ?_); show iB _ _ (seqItems? (.ref l) >>= _) _ _ s;refine ip (iN h c ?_); simp only [fF,hx];refine ip (lu (ip (j5 b hd 'g' ?_))); show iB _ _ (newExc (.type "StopIteration") [] >>= _) _ _ _;refine ip ?_; simp only [newExc,newTuple]; refine ip (iH ?_ (by size_fits));refine ip (m:=lw _ _) (mn (a:=bV) (by first | rfl | (simp only [lw]; rfl)) ?_); refine iH ?_ (by size_fits); simp only [raiseNew];refine ip (wpAny_handled ?_); first | rw [show A.in1.handled=im from d] | rw [d]
 refine ip (iy (wpAny_throw ?_)); exact k _ _ (((bu ..).extBut.push _).push _) ⟨_,ai _ rfl,rfl⟩
theorem Uo (g:A.handled=im) (it l:Addr) (d:l≠it) (items:Array iq):Draws prog w A it [it,l] items.size (λi v=>items[i]?=ij v) (λi h=>h.IsTupleIter it l i/\h.IsTuple l items) where
 live:=λ_ _ st=>let ⟨o,f,_⟩:=st.1; ⟨o,f⟩
 frame:=λ_ _ _ st k=>⟨st.1.at λo e=>k it 'g' o e,let ⟨o,e,c⟩:=st.2; ⟨o,k l 'g' o e,c⟩⟩
 item:=λi s Q E hi st j=>by refine VL st.1 st.2 (x:=items[i]) (by simp [hi]) λh' b a=>j _ h' s.toks (by simp [hi]) ⟨b,?_⟩ a;obtain ⟨o,e,c⟩:=st.2;exact ⟨o,(a.2 l d).trans e,c⟩
 done:=λs Q E st m=>zt g st.1 st.2 'g' m
structure Apart2 (z TI TO i1 i2:Addr) (fp1 fp2:List Addr):Prop where
 TIz:TI≠z
 TOz:TO≠z
 i1z:i1≠z
 i2z:i2≠z
 TITO:TI≠TO
 TIi1:TI≠i1
 TIi2:TI≠i2
 TOi1:TO≠i1
 TOi2:TO≠i2
 i12:i1≠i2
 z1:z∉fp1
 z2:z∉fp2
 o1:TO∉fp1
 o2:TO∉fp2
 a12:i1∉fp2
 a21:i2∉fp1
variable {z TI TO i1 i2:Addr} {fp1 fp2:List Addr} {n1 n2:Nat} {P1 P2:Nat->iq->Prop} {S1 S2:Nat->Heap->Prop} {a b:iq}
theorem qdl {Q:iq->iw->Prop} (D:Apart2 z TI TO i1 i2 fp1 fp2) (D1:Draws prog w A i1 fp1 n1 P1 S1) (D2:Draws prog w A i2 fp2 n2 P2 S2)
  (W:lW s.heap z TI TO .none) (Z:k8 s.heap TI (.ref i1) (.ref i2)) (Y:k8 s.heap TO a b) (h1:S1 i s.heap) (h2:S2 i s.heap) (l1:i < n1) (l2:i < n2)
  (hQ:∀ x y h' tk,P1 i x->P2 i y->lW h' z TI TO (iT s.heap.objs.size)->k8 h' TO x y->S1 (i+1) h'->S2 (i+1) h'->k8 h' s.heap.objs.size x y ->(∀ c o,c≠z->c≠TO->c≠i1->c≠i2->s.heap.get? c=ij o->h'.get? c=ij o)->Q 'm' { s with heap:=h',toks:=tk }) :
  iB 'e' A (Builtin.«zip.__next__» ⟨[.ref z],[]⟩) (λfin s'=>∃ v,fin=.done (.ret v)/\Q v s') E s:=by
 show iB _ _ (field (.ref z) 2 >>= _) _ _ _; refine ip (iR W rfl (x:=.bool ir) rfl ?_);show iB _ _ (field (.ref z) 3 >>= _) _ _ _; refine ip (iR W rfl (x:=.ref TI) rfl ?_); refine ip (iN Z rfl ?_);show iB _ _ (bT (.ref z) >>= _) _ _ _; refine ip ?_; unfold bT;refine ip (iR W rfl (x:=.none) rfl (iy ?_)); simp only [if_true];refine ip (lu ?_); refine ip (iR W rfl (x:=.ref TO) rfl ?_);refine ip (j6 W 'g' λh₁ r k=>?_); replace r:lW h₁ z TI TO .ellipsis:=r;refine ip ?_; simp only [dF,List.zipIdx_nil,fU,List.forIn_nil];refine ip (ip (lZ ?_)); show iB _ _ (bh (.ref i1) >>= _) _ _ _;refine ip (D1.item i _ _ _ l1 (D1.frame _ _ _ h1 λc C o e=>k.extBut _ _ (λq=>D.z1 (q ▸ C)) e) λx V X hx N j=>iy ?_);have B:k8 V TO a b:=(j.2 _ D.TOi1).trans (k.extBut _ _ D.TOz Y);refine ip (iN B rfl ?_); refine ip (wpAny_updateSeq_pair B λU m g=>?_);replace m:k8 U TO x b:=m; refine ip (mq (iy ?_));refine ip (ip (lZ ?_)); show iB _ _ (bh (.ref i2) >>= _) _ _ _;refine ip (D2.item i _ _ _ l2 (D2.frame _ _ _ h2 λc C o e=>(g.extBut _ _ (λq=>D.o2 (q ▸ C)) ((j.2 _ (λq=>D.a12 (q ▸ C))).trans (k.extBut _ _ (λq=>D.z2 (q ▸ C)) e)))) λy T L hy M f=>iy ?_);have u:k8 T TO x b:=(f.2 _ D.TOi2).trans m;refine ip (iN u rfl ?_); refine ip (wpAny_updateSeq_pair u λp h d=>?_);replace h:k8 p TO x y:=h; refine ip (mq (iy (iy ?_)));refine ip (iN h rfl ?_); refine ip (wpAny_newTuple ?_);have hsz:p.objs.size=s.heap.objs.size:=by rw [d.1,f.1,g.1,j.1,k.1]
 have G:lW p z TI TO .ellipsis:=d.extBut _ _ D.TOz.symm ((f.2 _ D.i2z.symm).trans (g.extBut _ _ D.TOz.symm ((j.2 _ D.i1z.symm).trans r)));have P:∀ c o,c≠z->c≠TO->c≠i1->c≠i2->s.heap.get? c=ij o->p.get? c=ij o:=λc o R c2 c3 F e=>d.extBut _ _ c2 ((f.2 _ F).trans (g.extBut _ _ c2 ((j.2 _ c3).trans (k.extBut _ _ R e))));have K:z < p.objs.size:=aw G;show iB _ _ (Builtin.SmallTypes.ownedTupleHandOut (.ref z) (.ref p.objs.size) >>= _) _ _ _; refine ip ?_; unfold Builtin.SmallTypes.ownedTupleHandOut;have O:lW (p.push { cls:=.type "tuple",data:=.seq #[x,y] }) z TI TO .ellipsis:=aa _ G;refine ip (j6 O 'g' λS n I=>?_); replace n:lW S z TI TO (iT p.objs.size):=n;refine j6 n 'g' λt l H=>?_; replace l:lW t z TI TO (iT p.objs.size):=l;have up:∀ c o,c≠z->p.get? c=ij o->t.get? c=ij o:=λc o R e=>H.extBut _ _ R (I.extBut _ _ R (aa _ e));have J:k8 t p.objs.size x y:=H.extBut _ _ (cx K) (I.extBut _ _ (cx K) (ai _ rfl));rw [hsz] at l J;refine iy ⟨_,rfl,?_⟩;show Q (.ref p.objs.size) _;rw [hsz];refine hQ x y t L hx hy l (up _ _ D.TOz h) (D1.frame _ _ _ N λc C o e=>up _ _ (λq=>D.z1 (q ▸ C)) (d.extBut _ _ (λq=>D.o1 (q ▸ C)) ((f.2 _ (λq=>D.a21 (q ▸ C))).trans (g.extBut _ _ (λq=>D.o1 (q ▸ C)) e))))
  (D2.frame _ _ _ M λc C o e=>up _ _ (λq=>D.z2 (q ▸ C)) (d.extBut _ _ (λq=>D.o2 (q ▸ C)) e)) J λc o R c2 c3 F e=>up c o R (P c o R c2 c3 F e)
theorem qfU {Q:Fin->iw->Prop} (D:Apart2 z TI TO i1 i2 fp1 fp2) (O:Draws prog w A i1 fp1 n1 P1 S1) (R:Draws prog w A i2 fp2 n2 P2 S2)
  (y:lW s.heap z TI TO .none) (Z:k8 s.heap TI (.ref i1) (.ref i2)) (Y:k8 s.heap TO a b) (h1:S1 i s.heap) (h2:S2 i s.heap) (C:i=n1\/(i < n1/\i=n2))
  (P:∀ h' tk e,(∀ c o,c≠z->c≠TO->c≠i1->c≠i2->s.heap.get? c=ij o->h'.get? c=ij o)->(∃ o,h'.get? e=ij o/\o.cls=.type "StopIteration")->E (.ref e) { s with heap:=h',toks:=tk }) :
  iB 'e' A (Builtin.«zip.__next__» ⟨[.ref z],[]⟩) Q E s:=by
 show iB _ _ (field (.ref z) 2 >>= _) _ _ _; refine ip (iR y rfl (x:=.bool ir) rfl ?_);show iB _ _ (field (.ref z) 3 >>= _) _ _ _; refine ip (iR y rfl (x:=.ref TI) rfl ?_); refine ip (iN Z rfl ?_);show iB _ _ (bT (.ref z) >>= _) _ _ _; refine ip ?_; unfold bT;refine ip (iR y rfl (x:=.none) rfl (iy ?_)); simp only [if_true];refine ip (lu ?_); refine ip (iR y rfl (x:=.ref TO) rfl ?_);refine ip (j6 y 'g' λh₁ r k=>?_); replace r:lW h₁ z TI TO .ellipsis:=r;refine ip ?_; simp only [dF,List.zipIdx_nil,fU,List.forIn_nil];refine ip (ip (lZ ?_)); show iB _ _ (bh (.ref i1) >>= _) _ _ _;have f1:S1 i h₁:=O.frame _ _ _ h1 λc G o e=>k.extBut _ _ (λq=>D.z1 (q ▸ G)) e;rcases C with rfl | ⟨hlt,rfl⟩
 ·refine ip (O.done _ _ _ f1 λu e j K=>?_);obtain ⟨J,h,L⟩:=K;have f:lW u z TI TO .ellipsis:=j _ _ D.i1z.symm r;have p:e≠z:=λx=>by subst x; rw [f] at h; cases h; simp at L
  exact j6 f 'g' λn _ g=>P n s.toks e (λc o H _ M _ x=>g.extBut _ _ H (j _ _ M (k.extBut _ _ H x))) ⟨J,g.extBut _ _ p h,L⟩
 ·refine ip (O.item i _ _ _ hlt f1 λx u X hx N j=>iy ?_);have B:k8 u TO a b:=(j.2 _ D.TOi1).trans (k.extBut _ _ D.TOz Y);refine ip (iN B rfl ?_); refine ip (wpAny_updateSeq_pair B λn I g=>?_);refine ip (mq (iy ?_)); refine ip (ip (lZ ?_)); show iB _ _ (bh (.ref i2) >>= _) _ _ _;refine ip (R.done _ _ _ (R.frame _ _ _ h2 λc G o e=>(g.extBut _ _ (λq=>D.o2 (q ▸ G)) ((j.2 _ (λq=>D.a12 (q ▸ G))).trans (k.extBut _ _ (λq=>D.z2 (q ▸ G)) e)))) λv e m K=>?_);obtain ⟨J,h,L⟩:=K;have d:lW v z TI TO .ellipsis:=m _ _ D.i2z.symm (g.extBut _ _ D.TOz.symm ((j.2 _ D.i1z.symm).trans r));have p:e≠z:=λx=>by subst x; rw [d] at h; cases h; simp at L
  exact j6 d 'g' λt _ l=>P t X e (λc o H c2 M S x=>l.extBut _ _ H (m _ _ S (g.extBut _ _ c2 ((j.2 _ M).trans (k.extBut _ _ H x))))) ⟨J,l.extBut _ _ p h,L⟩
theorem Up {Q:Option iq->iw->Prop} (D:Apart2 z TI TO i1 i2 fp1 fp2) (O:Draws prog w A.in1 i1 fp1 n1 P1 S1) (R:Draws prog w A.in1 i2 fp2 n2 P2 S2)
  (h:lW s.heap z TI TO .none) (Z:k8 s.heap TI (.ref i1) (.ref i2)) (Y:k8 s.heap TO a b) (h1:S1 i s.heap) (h2:S2 i s.heap) (f:i < n1) (l:i < n2)
  (d:∀ x y h' tk,P1 i x->P2 i y->lW h' z TI TO (iT s.heap.objs.size)->k8 h' TO x y->S1 (i+1) h'->S2 (i+1) h'->k8 h' s.heap.objs.size x y ->(∀ c o,c≠z->c≠TO->c≠i1->c≠i2->s.heap.get? c=ij o->h'.get? c=ij o)->Q (ij 'm') { s with heap:=h',toks:=tk }):iB 'e' A (la (.ref z)) Q E s:=by
 have hT:s.TypeIs (.ref z) "zip":=⟨_,h,rfl⟩
 unfold la;exact ip (i8 (iK (name:=aL "__next__") hT dn (iL dn hT PySem.F.entry_zip_next
  (qdl D O R h Z Y h1 h2 f l λx y h' tk n m q p g e k j=>iy (d x y h' tk n m q p g e k j)) (PySem.F.args_zip_next_1 _))))
theorem Zw {Q:Option iq->iw->Prop} (D:Apart2 z TI TO i1 i2 fp1 fp2) (O:Draws prog w A.in1 i1 fp1 n1 P1 S1) (R:Draws prog w A.in1 i2 fp2 n2 P2 S2)
  (h:lW s.heap z TI TO .none) (Z:k8 s.heap TI (.ref i1) (.ref i2)) (Y:k8 s.heap TO a b) (h1:S1 i s.heap) (h2:S2 i s.heap) (C:i=n1\/(i < n1/\i=n2))
  (g:∀ h' tk,(∀ c o,c≠z->c≠TO->c≠i1->c≠i2->s.heap.get? c=ij o->h'.get? c=ij o)->Q im { s with heap:=h',toks:=tk }):iB 'e' A (la (.ref z)) Q E s:=by
 have hT:s.TypeIs (.ref z) "zip":=⟨_,h,rfl⟩
 unfold la;refine ip (i8 (iK (name:=aL "__next__") hT dn (iL dn hT PySem.F.entry_zip_next (qfU D O R h Z Y h1 h2 C λh' tk e k d=>?_) (PySem.F.args_zip_next_1 _))));obtain ⟨o,l,f⟩:=d;refine ip (i9 (T := "StopIteration") (b:=iu) ⟨o,l,f⟩ isSubtype_stop ?_);exact iy (g _ _ k)
end
section
theorem QY (a:A.handled=im) (k:SK) (it l:Addr) (e:l≠it) (items:Array iq):Draws prog w A it [it,l] items.size (λi v=>items[i]?=ij v) (λi h=>ItK h it l k i/\SeqK h l k items):=by
 cases k with
 | l=>exact Draws.list a it l e items
 | t=>exact Uo a it l e items
end
abbrev zH1 (k1:SK) (h:Heap) (f:Addr):Heap:=h.push { cls:=.type k1.itc,data:=.fields #[.ref f,.int 0 0] }
abbrev zH2 (k1 k2:SK) (h:Heap) (f l:Addr):Heap:=(zH1 k1 h f).push { cls:=.type k2.itc,data:=.fields #[.ref l,.int 0 0] }
abbrev zH3 (k1 k2:SK) (h:Heap) (f l:Addr):Heap:=(zH2 k1 k2 h f l).push { cls:=.type "tuple",data:=.seq #[.ref h.objs.size,.ref (zH1 k1 h f).objs.size] }
abbrev zH4 (k1 k2:SK) (h:Heap) (f l:Addr):Heap:=(zH3 k1 k2 h f l).push { cls:=.type "tuple",data:=.seq #[.none,.none] }
abbrev zH5 (k1 k2:SK) (h:Heap) (f l:Addr):Heap:=(zH4 k1 k2 h f l).push { cls:=.type "zip",data:=.fields #[.none,.bool ir,.bool ir,.ref (zH2 k1 k2 h f l).objs.size,.ref (zH3 k1 k2 h f l).objs.size] }
theorem qat (k1 k2:SK) (f l:Addr) (xs ys:Array iq):Meets (Builtin.«zip.__new__» ⟨[.type "zip",.ref f,.ref l],[]⟩) (λ_ R s=>SeqK s.heap f k1 xs/\SeqK s.heap l k2 ys/\R (.ok (.ret (.ref (zH4 k1 k2 s.heap f l).objs.size))) { s with heap:=zH5 k1 k2 s.heap f l }):=
 .of_wp λprog w A R s h=>by
  obtain ⟨hp,g,d,tk,os⟩:=s; obtain ⟨t,a,h⟩:=h;have i:=sub_zip;have c:SeqK (ia ⟨hp,g,d,tk,os⟩) f k1 xs:=t;have b:SeqK (ia ⟨hp.push { cls:=.type k1.itc,data:=.fields #[.ref f,.int 0 0] },g,d,tk,os⟩) l k2 ys:=SeqK.at a λo e=>aa _ e;wp_walk using qdb c,qdb b
  exact ⟨_,rfl,h⟩
variable {k1 k2:SK}
section
theorem qau {f l:Addr} {ys:Array iq} {Q:iq->iw->Prop} (t:SeqK s.heap f k1 xs) (a:SeqK s.heap l k2 ys)
  (h:∀ h',lW h' (s.heap.objs.size+4) (s.heap.objs.size+2) (s.heap.objs.size+3) .none->k8 h' (s.heap.objs.size+2) 'm' (.ref (s.heap.objs.size+1)) ->k8 h' (s.heap.objs.size+3) .none .none->ItK h' s.heap.objs.size f k1 0->ItK h' (s.heap.objs.size+1) l k2 0->(∀ c o,s.heap.get? c=ij o->h'.get? c=ij o)->Q (.ref (s.heap.objs.size+4)) { s with heap:=h' }) :
  iB 'e' A (call (.type "zip") [.ref f,.ref l]) Q E s:=by
 refine callType_new PySem.F.called_zip 'd' (PySem.F.typeCall_zip_2 _ _) (PySem.F.newCall_zip_2 _ _) (λobj=>PySem.F.args_object_init_3 obj _ _) PySem.F.entry_zip_new (qat k1 k2 f l xs ys) ⟨t,a,?_⟩;have z1:(zH1 k1 s.heap f).objs.size=s.heap.objs.size+1:=bL ..;have z2:(zH2 k1 k2 s.heap f l).objs.size=s.heap.objs.size+2:=by rw [bL,z1]
 have z:(zH3 k1 k2 s.heap f l).objs.size=s.heap.objs.size+3:=by rw [bL,z2]
 have b:(zH4 k1 k2 s.heap f l).objs.size=s.heap.objs.size+4:=by rw [bL,z]
 have g:(zH5 k1 k2 s.heap f l).get? (zH4 k1 k2 s.heap f l).objs.size=ij _:=ai _ rfl;have M:(zH5 k1 k2 s.heap f l).get? (zH3 k1 k2 s.heap f l).objs.size=ij _:=aa _ (ai _ rfl);have Y:(zH5 k1 k2 s.heap f l).get? (zH2 k1 k2 s.heap f l).objs.size=ij _:=aa _ (aa _ (ai _ rfl));have Z:(zH5 k1 k2 s.heap f l).get? (zH1 k1 s.heap f).objs.size=ij _:=aa _ (aa _ (aa _ (ai _ rfl)));have g1:(zH5 k1 k2 s.heap f l).get? s.heap.objs.size=ij _:=aa _ (aa _ (aa _ (aa _ (ai _ rfl))));show _/\_;rw [z2,z,b] at g;rw [z1,z2] at Y;rw [z] at M;rw [z1] at Z;rw [b];exact ⟨⟨_,g,rfl⟩,h _ g Y M (.of ⟨_,g1,rfl,rfl⟩) (.of ⟨_,Z,rfl,rfl⟩) λc o x=>aa _ (aa _ (aa _ (aa _ (aa _ x))))⟩
end
variable {t':Nat}
section
theorem JL {ch:List Addr} (I:Inv X pins σ H s) (k:∀ b o,b∉ch->s.heap.get? b=ij o->h'.get? b=ij o) (h:∀ b∈ch,WL X pins H b):Inv X pins σ H { s with heap:=h',toks:=t' }:=by
 have t:∀ b u,H b=ij u->b∉ch:=λb u e z=>by rw [(h b z).1] at e;cases e
 refine I.step (g':=s.gens) (d':=s.drawn) (ch:=ch) (λb f=>?_) (λb o _ _ d e _=>k b o d e) (λb o _ _ d e _=>⟨o.slots,k b o d e⟩) (λ_ _ _ _ n=>n) (λb o d e=>⟨o,k b o d e⟩) (λ_ _ e=>e) (λ_ _ _ e=>e) (λb ps e=>⟨#[],by rw [e]; simp⟩) (λm a=>?_) (λb u e=>?_) I.bare;·obtain ⟨f0,f1,f2,i,f4,g⟩:=h b f;exact ⟨i,f1,f4,g⟩
 ·obtain ⟨o,es,ep,l,r⟩:=a;exact ⟨o,es,ep,k _ o (λz=>(h _ z).2.1 rfl) l,r⟩
 ·refine (I.hok b u e).stay (λc v d q=>k c v ?_ q) (λ_ q=>q) λ_ _ q=>q;rcases d with z | z
  ·rw [z];exact t b u e
  ·exact t c _ z
theorem qlC {d':Drawn} (I:Inv X pins σ H s) (k:∀ b u,s.heap.get? b=ij u->h'.get? b=ij u):Inv X pins σ H { s with heap:=h',drawn:=d',toks:=t' }:=by refine I.step (g':=s.gens) (d':=d') (ch:=[]) (λ_ z=>nomatch z) (λb o _ _ _ e _=>k b o e) (λb o _ _ _ e _=>⟨o.slots,k b o e⟩) (λ_ _ _ _ n=>n) (λb o _ e=>⟨o,k b o e⟩) (λ_ _ e=>e) (λ_ _ _ e=>e) (λb ps e=>⟨#[],by rw [e]; simp⟩) (λm c=>?_) (I.hok.kept k) I.bare;obtain ⟨o,es,ep,l,r⟩:=c;exact ⟨o,es,ep,k _ o l,r⟩
theorem xI {xs:List V} (I:Inv X pins σ H s):∀ {k:SK},SqK X.K H a k xs->∃ its:List iq,Vals xs its/\SeqK s.heap a k its.toArray
 | .l,h=>let ⟨its,r,p,_⟩:=I.list h; ⟨its,r,p.isList⟩
 | .t,h=>let ⟨its,r,p,_⟩:=I.tuple h; ⟨its,r,p⟩
end
noncomputable def Itz (K:Frag) (k g:Addr) (k1 k2:SK) (xs ys:List V):It:=
 ⟨λi H=>i < xs.length/\i < ys.length/\SqK K H k k1 xs/\SqK K H g k2 ys,λi H v H'=>∃ x y p,xs[i]?=ij x/\ys[i]?=ij y/\H p=im/\v=.ref p/\H'=upd H p (.tup [x,y]),λi H=>(xs.length<=i\/ys.length<=i)/\SqK K H k k1 xs/\SqK K H g k2 ys⟩
variable {us:List iq}
theorem gu {xs:List V} (r:Vals xs us) (h:us[i]?=ij u):∃ x,xs[i]?=ij x/\RelV x u:=by
 have hi:i < us.length:=(aB.mp h).1;have hx:i < xs.length:=by rw [r.length]; exact hi
 obtain ⟨W,h1,h2⟩:=r.get (aE hx);rw [h] at h1;cases h1;exact ⟨xs[i],aE hx,h2⟩
theorem VM (b k g:Nat) (h1:k < b) (h2:g < b):Apart2 (b+4) (b+2) (b+3) b (b+1) [b,k] [b+1,g]:=by have ne:∀ x y:Nat,x≠y->x≠y:=λ_ _ h=>h;have n:∀ x a c:Nat,x≠a->x≠c->x∉[a,c]:=λx a c n1 n2 h=>(ac.mp h).elim n1 λh=>n2 (au.mp h);exact ⟨ne _ _ 'b',ne _ _ 'b',ne _ _ 'b',ne _ _ 'b',ne _ _ 'b',ne _ _ 'b',ne _ _ 'b',ne _ _ 'b',ne _ _ 'b',ne _ _ 'b',n _ _ _ 'b' 'b',n _ _ _ 'b' 'b',n _ _ _ 'b' 'b',n _ _ _ 'b' 'b',n _ _ _ 'b' 'b',n _ _ _ 'b' 'b'⟩
theorem qdm {P:iF} {w:iG} {K:Frag} {G:List Expr} {x1} {pos:Pos} {k1 k2:SK} (b r q:Nat) (xs ys:List V) (h1:r < b) (h2:q < b):Turn P w K (.Tuple G x1 pos) (Itz K r q k1 k2 xs ys) [b+4,b+2,b+3,b,b+1] (b+4)
   (λi h=>lW h (b+4) (b+2) (b+3) .none/\k8 h (b+2) (.ref b) (.ref (b+1))/\(∃ a c,k8 h (b+3) a c)/\ItK h b r k1 i/\ItK h (b+1) q k2 i/\i<=xs.length/\i<=ys.length) where
 mem:=by simp
 obj:=λi h st c f=>by
  obtain ⟨p,hi,⟨a,c',S⟩,t1,t2,_⟩:=st;simp only [ac,aN,or_false] at f;rcases f with rfl | rfl | rfl | rfl | rfl;·exact ⟨_,p,λv z=>by cases z⟩
  ·exact ⟨_,hi,λv z=>by cases z⟩
  ·exact ⟨_,S,λv z=>by cases z⟩
  ·obtain ⟨o,e,_,d⟩:=t1.obj;exact ⟨o,e,λv z=>by rw [d] at z; cases z⟩
  ·obtain ⟨o,e,_,d⟩:=t2.obj;exact ⟨o,e,λv z=>by rw [d] at z; cases z⟩
 keep:=λi h h' st k=>by
  obtain ⟨p,hi,⟨a,c',S⟩,t1,t2,n⟩:=st;refine ⟨k _ 'g' _ p,k _ 'g' _ hi,⟨a,c',k _ 'g' _ S⟩,?_,?_,n⟩;·obtain ⟨o,e,c,d⟩:=t1.obj;exact .of ⟨o,k _ 'g' _ e,c,d⟩
  ·obtain ⟨o,e,c,d⟩:=t2.obj;exact .of ⟨o,k _ 'g' _ e,c,d⟩
 item:=by
  intro X T R U f i pins s σ H E I C st hg;subst T R U;obtain ⟨p,Z,⟨oa,ob,Y⟩,t1,t2,n1,n2⟩:=st;obtain ⟨Q,F,M,L⟩:=hg;obtain ⟨l,r1,p1⟩:=xI I M;obtain ⟨N,r2,p2⟩:=xI I L;have e1:l.toArray.size=xs.length:=by rw [aq,r1.length]
  have W:N.toArray.size=ys.length:=by rw [aq,r2.length]
  have D:=VM b r q h1 h2;have B:X.A.in1.handled=none:=I.ok.hd f;refine Up (A:=X.A) D (QY (prog:=X.prog) (w:=X.w) (A:=X.A.in1) B k1 b r (aC h1) l.toArray) (QY (prog:=X.prog) (w:=X.w) (A:=X.A.in1) B k2 (b+1) q (aC (dA h2)) N.toArray) p Z Y ⟨t1,p1⟩ ⟨t2,p2⟩ (by rw [e1]; exact Q) (by rw [W]; exact F) λu v h' tk hu hv z' J s1 s2 tp kp=>?_;refine ⟨_,rfl,wpAny_letOwnedTupleGo_zip z' λhq z2 j=>?_⟩;obtain ⟨x,hx,rx⟩:=gu r1 (by simpa using hu);obtain ⟨y,hy,ry⟩:=gu r2 (by simpa using hv);have hT:H s.heap.objs.size=none:=I.hok.fresh (aA _);have O:b+4 < s.heap.objs.size:=aw p;have fT:∀ c∈[b+4,b+2,b+3,b,b+1],c≠s.heap.objs.size:=λc f=>by
   simp only [ac,aN,or_false] at f;have t:b+4 < s.heap.objs.size:=O;generalize s.heap.objs.size=m at t;intro z
   lia
  have I1:Inv X pins σ (upd H s.heap.objs.size (.tup [x,y])) { s with heap:=s.heap.push { cls:=.type "tuple",data:=.seq #[u,v] } }:=
   I.laid (t':=s.toks) (λ_ _ e=>aa _ e) (aA _) ⟨⟨by simp only [ao,aX]; rw [iM]; decide,_,ai _ rfl,rfl⟩,[u,v],.cons rx (.cons ry .nil),⟨_,ai _ rfl,rfl,_,rfl⟩⟩
  have I2:Inv X pins σ (upd H s.heap.objs.size (.tup [x,y])) { s with heap:=hq,toks:=tk }:=by
   refine JL (s:={ s with heap:=s.heap.push { cls:=.type "tuple",data:=.seq #[u,v] } }) (ch:=[b+4,b+2,b+3,b,b+1]) I1 (λc o g e=>?_) λc f=>⟨by rw [qB (fT c f)]; exact (C c f).1,(C c f).2⟩
   simp only [ac,aN,or_false,not_or] at g;rw [j.2 c g.1];by_cases ec:c=s.heap.objs.size;·subst ec;have e3:(s.heap.push ({ cls:=.type "tuple",data:=.seq #[u,v] }:Obj)).get? s.heap.objs.size=ij { cls:=.type "tuple",data:=.seq #[u,v] }:=ai _ rfl;rw [show (s.heap.push ({ cls:=.type "tuple",data:=.seq #[u,v] }:Obj)).get? s.heap.objs.size=ij o from e] at e3;rw [e3];exact tp
   ·have e4:s.heap.get? c=ij o:=by have:=e;rwa [show (s.heap.push ({ cls:=.type "tuple",data:=.seq #[u,v] }:Obj)).get? c=s.heap.get? c from Heap.get?_push_ne _ _ _ ec] at this
    exact kp c o g.1 g.2.2.1 g.2.2.2.1 g.2.2.2.2 e4
  refine ⟨.ref s.heap.objs.size,_,I2,rfl,⟨x,y,_,hx,hy,hT,rfl,rfl⟩,⟨z2,?_,⟨u,v,?_⟩,?_,?_,Q,F⟩,λc f=>by rw [qB (fT c f)]; exact (C c f).1⟩;·exact (j.2 _ D.TIz).trans (kp _ _ D.TIz D.TITO D.TIi1 D.TIi2 Z)
  ·exact (j.2 _ D.TOz).trans J
  ·obtain ⟨o,e,c,d⟩:=s1.1.obj;exact .of ⟨o,(j.2 _ D.i1z).trans e,c,d⟩
  ·obtain ⟨o,e,c,d⟩:=s2.1.obj;exact .of ⟨o,(j.2 _ D.i2z).trans e,c,d⟩
 done:=by
  intro X T R U f i pins s σ H E I C st hg;subst T R U;obtain ⟨p,Z,⟨oa,ob,Y⟩,t1,t2,n1,n2⟩:=st;obtain ⟨Q,M,L⟩:=hg;obtain ⟨l,r1,p1⟩:=xI I M;obtain ⟨N,r2,p2⟩:=xI I L;have e1:l.toArray.size=xs.length:=by rw [aq,r1.length]
  have W:N.toArray.size=ys.length:=by rw [aq,r2.length]
  have D:=VM b r q h1 h2;have B:X.A.in1.handled=none:=I.ok.hd f;refine Zw (A:=X.A) D (QY (prog:=X.prog) (w:=X.w) (A:=X.A.in1) B k1 b r (aC h1) l.toArray) (QY (prog:=X.prog) (w:=X.w) (A:=X.A.in1) B k2 (b+1) q (aC (dA h2)) N.toArray) p Z Y ⟨t1,p1⟩ ⟨t2,p2⟩ (by rw [e1,W]; lia) λh' tk kp=>⟨rfl,JL (ch:=[b+4,b+2,b+3,b,b+1]) I (λc o g e=>?_) C⟩
  simp only [ac,aN,or_false,not_or] at g;exact kp c o g.1 g.2.2.1 g.2.2.2.1 g.2.2.2.2 e
 self:=λ_ _ _ _ _ st h=>wpAny_pyIter_zip st.1 h
theorem qav:iE "zip"=ij (.type "zip"):=by decide +kernel
variable {own:List Nat} {ma:Mo} {pos:Pos}
section
variable {a c:Expr} {fa fb:jl} {mb:Mo}
theorem qh9 {ta:TA} {p tpos:Pos} {G:List Expr} {x1} (hg:Gl X "zip") (n:X.mg "zip"=im) (o:PA X [a,c] ta) (m:iA [a,c] X.env=[(ir,eval a X.env),(ir,eval c X.env)]) (d:iA [c] X.env=[(ir,eval c X.env)]):PI X (.Tuple G x1 tpos) (.Call (.Name "zip" p) [a,c] [] pos) (λσ H R=>ta σ H λvs H1=>∃ k g k1 k2 xs ys,vs=[.ref k,.ref g]/\SqK X.K H1 k k1 xs/\SqK X.K H1 g k2 ys/\R (Itz X.K k g k1 k2 xs ys) H1):=by
 refine ⟨?_⟩;intro pins s σ H R I h;refine Call_ (xX I hg n qav (bJ (thn (o pos pins s σ H _ I h) λus s1 ⟨vs,H1,e,r1,j⟩=>?_) (by rw [m,d]) (by rw [d]; rfl)));obtain ⟨k,g,k1,k2,xs,ys,rfl,i,w,q⟩:=j;obtain ⟨x,u,rfl,e1,r⟩:=Gp r1;cases e1;cases r;obtain ⟨l,t,p1⟩:=xI e i;obtain ⟨N,v,p2⟩:=xI e w;refine qau p1 p2 λh' z Z Y t1 t2 kp=>?_;refine wpAny_pyIter_zip z ?_;refine ⟨s1.heap.objs.size+4,_,_,Itz X.K k g k1 k2 xs ys,H1,rfl,e.kept (t':=s1.toks) kp,qdm s1.heap.objs.size k g xs ys p1.lt p2.lt,⟨z,Z,⟨_,_,Y⟩,t1,t2,bH _,bH _⟩,λb f=>?_,q⟩;have S:s1.heap.objs.size<=b:=by
  simp only [ac,aN,or_false] at f;rcases f with rfl | rfl | rfl | rfl | rfl;·exact dG _ _
  ·exact dG _ _
  ·exact dG _ _
  ·exact aA _
  ·exact dG _ _
 exact e.fpOk S (e.hok.fresh S)
theorem PoI.bindA {as:List AK} {o:Out (List D×Sl)} {k:List D×Sl->Out (List D×Sl)} {R:It->Hp->Prop} {Q:List V->Hp->Prop} (hp:PoI C own σ F H (o.bind k) R)
  (h:∀ vs F1 H1 ds ρ1,Rep C.K own F1 H1 σ ρ1->Chg (OA own σ) F H F1 H1->ArgV C.K H F1 H1 σ as vs ds->PoI C own σ F H (k (ds,ρ1)) R->Q vs H1):PoA C own as σ F H o Q:=by
 cases o with
 | ok p=>obtain ⟨ds,ρ1⟩:=p;exact λvs F1 H1 a c av=>h vs F1 H1 ds ρ1 a c av hp
 | exc e=>exact hp
 | bad=>exact hp.elim
noncomputable def qcm (xs ys:List D):List D:=List.zipWith (λx y=>.tup [x,y]) xs ys
noncomputable def qjo (fr:ww):ww:=λρ=>(fr ρ).bind λp=>match p.1 with
 | [x,y]=>(xF x).bind λxs=>(xF y).bind λys=>.ok (qcm xs ys,p.2)
 | _=>.bad
theorem qep (h:Is K F v d) (e:xF d=.ok ds):∃ a k xs,v=.ref a/\(∀ H,Same F H->SqK K H a k xs)/\IsL K F xs ds:=by
 cases h with
 | @lst a xs ds' p t=>cases e;exact ⟨_,.l,_,rfl,λH s=>s.seq p,t⟩
 | @tup a xs ds' p t=>cases e;exact ⟨_,.t,_,rfl,λH s=>jg s p,t⟩
 | _=>cases e
theorem qia {k g:Addr} {xs ys:List V} {es:List D} (p1:∀ H,Same F H->SqK K H k k1 xs) (p2:∀ H,Same F H->SqK K H g k2 ys) (t1:IsL K F xs ds) (t2:IsL K F ys es):ItIs K F (Itz K k g k1 k2 xs ys) (qcm ds es) where
 go:=λi H hi s=>by unfold qcm at hi;rw [List.length_zipWith] at hi;exact ⟨by rw [t1.length]; lia,by rw [t2.length]; lia,p1 H s,p2 H s⟩
 yld:=λi Fi H v H' d e s1 s2 y=>by
  obtain ⟨x,y,p,hx,h,hn,rfl,rfl⟩:=y;obtain ⟨d1,e1,i1⟩:=t1.get hx;obtain ⟨d2,a,i2⟩:=t2.get h;have o:d=.tup [d1,d2]:=by unfold qcm at e;rw [List.getElem?_zipWith,e1,a] at e;exact (aI.inj e).symm
  subst o;obtain ⟨g1,Z⟩:=wF (u:=.tup [x,y]) s2 hn;exact ⟨_,Z,g1,.tup (.of qu) (.cons ((i1.mono s1).mono Z.grow) (.cons ((i2.mono s1).mono Z.grow) .nil))⟩
 stop:=λi H hi s=>by unfold qcm at hi;rw [List.length_zipWith] at hi;exact ⟨by rw [t1.length,t2.length]; lia,p1 H s,p2 H s⟩
theorem qfV {p tpos:Pos} {G:List Expr} {x1} (n:C.K=X.K) (hg:Gl X "zip") (m:X.mg "zip"=im) (j:PE X a (tE C own ma fa)) (g:PE X c (tE C own mb fb)) (h1:ma≠.any:=by decide) (h2:mb≠.any:=by decide) (s:iA [a,c] X.env=[(ir,eval a X.env),(ir,eval c X.env)]:=by exact qcG rfl rfl) (b:iA [c] X.env=[(ir,eval c X.env)]:=by exact qT rfl):PI X (.Tuple G x1 tpos) (.Call (.Name "zip" p) [a,c] [] pos) (tIt C own (qjo (qb fa (qb fb qw)))):=by
 refine qcR (qh9 hg m (qa j (qa g qd h2 (by rw [b]; rfl)) h1 (by rw [s,b])) s b) λσ H R ⟨F,ρ,f,h⟩=>⟨F,ρ,f,PoI.bindA h λvs F1 H1 ds ρ1 r k av h1=>?_⟩
 have i:=ArgV.isL 'd' av;cases i with
 | nil=>exact h1.elim
 | @cons v d vs ds i1 i=>
  cases i with
  | nil=>exact h1.elim
  | @cons v2 d2 vs ds i2 i=>
   cases i with
   | cons=>exact h1.elim
   | nil=>
    have h1:PoI C own σ F H ((xF d).bind λxs=>(xF d2).bind λys=>.ok (qcm xs ys,ρ1)) R:=h1;cases e1:xF d with
    | bad=>rw [e1] at h1; exact h1.elim
    | exc c=>cases d <;> cases e1
    | ok xs=>
     cases e:xF d2 with
     | bad=>rw [e1,e] at h1; exact h1.elim
     | exc c=>cases d2 <;> cases e
     | ok ys=>rw [e1,e] at h1;obtain ⟨o,k1,ws,rfl,p1,t1⟩:=qep i1 e1;obtain ⟨l,k2,w,rfl,p2,t2⟩:=qep i2 e;refine ⟨o,l,k1,k2,ws,w,rfl,n ▸ p1 H1 r.sub,n ▸ p2 H1 r.sub,?_⟩;rw [<-n];exact h1 _ F1 H1 r k (qia p1 p2 t1 t2)
end
def leS (x y:Str):Prop:=¬y.cps.toList < x.cps.toList
noncomputable def qgU (x:Str):List Str->List Str
 | []=>[x]
 | y::l=>if vd y x=iu then y::qgU x l else x::y::l
noncomputable def jY:List Str->List Str
 | []=>[]
 | x::l=>qgU x (jY l)
variable {y:Str}
theorem gx {z:Str} (a:leS x y) (b:leS y z):leS x z:=List.le_trans (α:=Nat) a b
theorem VN (x y:Str):leS x y\/leS y x:=List.le_total (α:=Nat) x.cps.toList y.cps.toList
theorem JM (a:leS x y) (b:leS y x):x=y:=by have e:=List.le_antisymm (α:=Nat) (as:=x.cps.toList) (bs:=y.cps.toList) a b;obtain ⟨⟨l⟩⟩:=x;obtain ⟨⟨m⟩⟩:=y;simp at e;rw [e]
theorem yz:vd y x=ir↔leS x y:=by unfold vd leS;exact decide_eq_false_iff_not
theorem gy (x:Str):∀ l,(qgU x l).Perm (x::l)
 | []=>cK _
 | y::l=>by
  unfold qgU;split;·exact ((gy x l).cons y).trans (List.Perm.swap _ _ _)
  ·exact cK _
theorem qM:∀ l,(jY l).Perm l
 | []=>cK _
 | x::l=>(gy x _).trans ((qM l).cons x)
theorem gz (x:Str):∀ l,l.Pairwise leS->(qgU x l).Pairwise leS
 | [],_=>dX _ _
 | y::l,h=>by
  have d:=bn.mp h;unfold qgU;split
  ·rename_i t;have c:leS y x:=by
    rcases VN y x with q | q;·exact q
    ·rw [<-yz] at q;rw [q] at t;cases t
   refine bn.mpr ⟨λz a=>?_,gz x l d.2⟩;rcases ac.mp ((gy x l).mem_iff.mp a) with rfl | a;·exact c
   ·exact d.1 z a
  ·rename_i t;have b:leS x y:=yz.mp (by cases e:vd y x with | true=>exact absurd e t | false=>rfl);refine bn.mpr ⟨λz a=>?_,h⟩;rcases ac.mp a with rfl | a;·exact b
   ·exact gx b (d.1 z a)
theorem ji:∀ l,(jY l).Pairwise leS
 | []=>d9
 | x::l=>gz x _ (ji l)
theorem uu:∀ {l m:List Str},l.Perm m->l.Pairwise leS->m.Pairwise leS->l=m
 | [],m,p,_,_=>p.nil_eq
 | x::l,[],p,_,_=>absurd p.length_eq 'g'
 | x::l,y::m,p,hl,hm=>by
  have a:=bn.mp hl;have b:=bn.mp hm;have c:x=y:=by
   have h1:y∈x::l:=p.mem_iff.mpr (ap ..);have h2:x∈y::m:=p.mem_iff.mp (ap ..);rcases ac.mp h1 with e | e;·exact e.symm
   ·rcases ac.mp h2 with d | d;·exact d
    ·exact JM (a.1 y e) (b.1 x d)
  subst c;rw [uu p.cons_inv a.2 b.2]
theorem QZ:∀ (x:Str) (l:List Str),risingS x l=iu->(x::l).Pairwise leS
 | x,[],_=>dX _ _
 | x,y::l,h=>by
  have h:(!ltCps y.cps.toList x.cps.toList&&risingS y l)=true:=h;rw [aS] at h;have j:=QZ y l h.2;have b:leS x y:=by have h1:=h.1;rw [ltCps_eq] at h1;unfold leS;simpa using h1
  refine bn.mpr ⟨λz a=>?_,j⟩;rcases ac.mp a with rfl | a;·exact b
  ·exact gx b ((bn.mp j).1 z a)
theorem Uq:∀ (l:List Str),sortedS l=iu->l.Pairwise leS
 | [],_=>d9
 | x::l,h=>QZ x l h
variable {ss:List Str}
theorem VO (p:ss.Perm ks) (h:sortedS ss=iu):ss=jY ks:=uu (p.trans (qM ks).symm) (Uq ss h) (ji ks)
noncomputable def VP:List D->Option (List Str)
 | []=>ij []
 | .str x::l=>(VP l).map (x::·)
 | _::_=>im
noncomputable def yn:D->Option (List Str)
 | .lst ds=>VP ds
 | .tup ds=>VP ds
 | _=>im
noncomputable def qgV [DecidableEq κ] (T:KP κ) (P:iF) (w:iG) (p:Addr) (ks:List κ):HO:=.ext λh=>SetK T P w h p ks
theorem qfW [DecidableEq κ] {T:KP κ} {ks:List κ} (x:SetK T P w h p ks):ObjOk P w H h p (qgV T P w p ks):=
 ⟨x,let ⟨_,_,_,e,_⟩:=x; ⟨_,e⟩,λ_ _ a k=>a.at k⟩
structure KD {κ:Type} [DecidableEq κ] (T:KP κ) where
 sqd:D->Option (List κ)
 ok:κ->Prop
 get:∀ {K:Frag} {F:Hp} {dx:D} {ss:List κ},sqd dx=ij ss->∃ ds,xF dx=.ok ds/\∀ {vs:List V} {us:List iq},IsL K F vs ds->Vals vs us->us.length=ss.length/\(∀ (i:Nat) (v:iq),us[i]?=ij v->∃ x,ss[i]?=ij x/\∀ p w,(T.kd p w).is x v=iu)/\∀ x∈ss,ok x
theorem qfX (a:IsL K F vs ds) (l:Vals vs us) (e:VP ds=ij ss):mE us ss/\∀ x∈ss,x.length<=sizeLine:=by
 induction ds generalizing vs us ss with
 | nil=>cases a;cases l;cases e;exact ⟨.nil,λx h=>nomatch h⟩
 | cons d ds j=>
  cases a with
  | cons i a=>
   cases l with
   | cons r l=>
    cases d with
    | str x=>
     obtain ⟨sl,q,rfl⟩:=aY.mp (show (VP ds).map (x::·)=ij ss from e);cases i with
     | str b=>obtain ⟨t,rfl⟩:=r;obtain ⟨i1,i2⟩:=j a l q;exact ⟨.cons x t i1,λy D=>(ac.mp D).elim (λz=>z ▸ b) (i2 y)⟩
    | _=>cases e
section
variable {e:Expr} {fa:jl}
theorem VQ:∀ (l ks:List Str) {x:Str},x∈l.foldl xa ks->x∈ks\/x∈l
 | [],ks,x,h=>.inl h
 | y::l,ks,x,h=>by
  rcases VQ l (xa ks y) h with q | q
  ·unfold xa at q;split at q;·exact .inl q
   ·rcases aj.mp q with q | q;·exact .inl q
    ·exact .inr (by rw [au.mp q]; exact ap ..)
  ·exact .inr (ae _ q)
theorem YR (e:VP ds=ij ss) (l:IsL K F vs ds) (d:Vals vs us):us.length=ss.length/\(∀ (i:Nat) (v:iq),us[i]?=ij v->∃ x,ss[i]?=ij x/\∀ p w,(KpS.kd p w).is x v=iu)/\∀ x∈ss,x.length<=sizeLine:=by obtain ⟨st,D⟩:=qfX l d e;refine ⟨st.length,λi v h=>?_,D⟩;obtain ⟨y,t,e1,a⟩:=st.item i v h;refine ⟨y,a,λp w=>?_⟩;rw [e1];show fI y (.str y t)=iu;simp [fI]
noncomputable def KdS:KD KpS where
 sqd:=yn
 ok:=λy=>y.length<=sizeLine
 get:=λ{K F dx ss} e=>by
  cases dx with
  | lst ds=>exact ⟨ds,rfl,YR e⟩
  | tup ds=>exact ⟨ds,rfl,YR e⟩
  | _=>cases e
theorem qeq [DecidableEq κ] {T:KP κ} (U:KD T) (m:C.K=X.K) (j:X.calm=iu):uj X (.type "set") (λxs H Q=>∃ x F dx ss,xs=[x]/\Same F H/\TopIs C.K F H x dx/\U.sqd dx=ij ss/\ss.length < 4000/\((∀ y∈ss,U.ok y)->∀ p,H p=im->Q (.ref p) (upd H p (qgV T X.prog X.w p (ss.foldl xC []))))):=by
 intro pins s σ H xs us Q I r h;obtain ⟨x,F,dx,ss,rfl,A,tx,es,hl,q⟩:=h;obtain ⟨u,rfl,B⟩:=yM r;obtain ⟨ds,e,hg⟩:=U.get (K:=C.K) (F:=F) es;obtain ⟨a,sk,vs,rfl,hq,f⟩:=qen A tx e;cases B;rw [m] at hq;obtain ⟨its,o,n,d,l,c,g,hd,z⟩:=VC I hq;obtain ⟨hn,hi,D⟩:=hg f d;refine qan (T:=T) (λA1 L R hA k=>?_) λh' tk S kp=>⟨.ref s.heap.objs.size,_,I.laid (t':=tk) kp (aA _) (qfW S),rfl,q D _ (I.hok.fresh (aA _))⟩
 exact qlB (sk:=sk) (items:=its.toArray) (hA.trans (I.ok.hd j)) (qam (ai _ rfl)) (.of (aa _ l) hd c) (by simp [hn]) (λi v e=>(hi i v (by simpa using e)).imp λx h=>⟨h.1,h.2 _ _⟩) (by rw [aq,hn]; unfold lJ; lia) (aC (aw l)) λh' tk S kp=>k h' tk S λb o J=>kp b o (aC (aw J)) (aa _ J)
theorem gA:∀ {us:List iq} {ss:List Str},mE us ss->Vals (ss.map V.str) us
 | _,_,.nil=>.nil
 | _,_,.cons y t h=>.cons ⟨t,rfl⟩ (gA h)
theorem qaw (c:X.calm=iu):uj X (.builtin "sorted") (λxs H Q=>∃ a ks,xs=[.ref a]/\H a=ij (qgV KpS X.prog X.w a ks)/\ks.length < 64/\∀ p,H p=im->Q (.ref p) (upd H p (.lst ((jY ks).map V.str)))):=by
 intro pins s σ H xs us Q I r h;obtain ⟨a,ks,rfl,g,j,q⟩:=h;obtain ⟨u,rfl,B⟩:=yM r;cases B;have S:SetK KpS X.prog X.w s.heap a ks:=(I.hok a _ g).1;refine Zv (I.ok.hd c) S j λh1 h' b tk vs e ss k1 k2 hp st pm so=>?_;rw [VO pm so] at st;have d:Inv X pins σ H { s with heap:=h1,drawn:=b,toks:=tk }:=qlC I k1;have z:(jY ks).length<=sizeLine:=by
  rw [(qM ks).length_eq,iM]
  lia
 refine ⟨.ref h1.objs.size,_,d.laid (t':=tk) (o:=.lst ((jY ks).map V.str)) k2 (aA _) ⟨by rw [ay]; exact z,vs.toList,e,gA st,by simpa [mh] using hp⟩,rfl,q _ (d.hok.fresh (aA _))⟩
theorem qfY [DecidableEq κ] {T:KP κ}:uj X (.builtin "len") (λxs H Q=>∃ a ks,xs=[.ref a]/\H a=ij (qgV T X.prog X.w a ks)/\Q (.int ks.length) H):=by intro pins s σ H xs us Q I r h;obtain ⟨a,ks,rfl,g,q⟩:=h;obtain ⟨u,rfl,B⟩:=yM r;cases B;obtain ⟨es,ep,t,l,d⟩:SetK T X.prog X.w s.heap a ks:=(I.hok a _ g).1;have b:=d.bd;refine call_len_set l ⟨rfl,rfl,rfl⟩ rfl d.fits (by unfold lJ at b; lia) ?_;exact ⟨.int ks.length,H,I.tok _,⟨_,by rw [d.size]⟩,q⟩
theorem Ur {m:Mo} {f:jl} {Q R:VK} (h:tE C own m f σ H Q) (i:∀ v H1,Q v H1->R v H1):tE C own m f σ H R:=by
 obtain ⟨F,ρ,r,po⟩:=h;refine ⟨F,ρ,r,?_⟩;cases q:f ρ with
 | ok p=>rw [q] at po;obtain ⟨d,ρ1⟩:=p;exact λv F1 H1 a b c=>i _ _ (po v F1 H1 a b c)
 | exc c ρ1=>rw [q] at po;exact po
 | bad=>rw [q] at po;exact po.elim
noncomputable def vQ (d:D):Out D:=match yn d with
 | some ss=>if ss.length < 64 then .ok (.lst ((jY (ss.foldl xa [])).map D.str)) else .bad
 | none=>.bad
noncomputable def gB (d:D):Out D:=match yn d with
 | some ss=>if ss.length < 4000 then .ok (.int (ss.foldl xa []).length) else .bad
 | none=>.bad
theorem JO:∀ {ss:List Str},(∀ x∈ss,x.length<=sizeLine)->IsL K F (ss.map V.str) (ss.map D.str)
 | [],_=>.nil
 | x::l,h=>.cons (.str (h x (ap ..))) (JO λy a=>h y (ae _ a))
theorem xJ {p p2 a:Pos} (r:C.K=X.K) (k:X.calm=iu) (hg:Gl X "sorted") (n:X.mg "sorted"=im) (v:iE "sorted"=ij (.builtin "sorted")) (i:Gl X "set") (g:X.mg "set"=im) (d:iE "set"=ij (.type "set")) (o:PE X e (tE C own ma fa))
  (j:iA [e] X.env=[(ir,eval e X.env)]:=by exact qT rfl) (c:iA [.Call (.Name "set" p2) [e] [] a] X.env=[(ir,eval (.Call (.Name "set" p2) [e] [] a) X.env)]:=by exact qT rfl) :
  PE X (.Call (.Name "sorted" p) [.Call (.Name "set" p2) [e] [] a] [] pos) (tE C own .fr (d1 vQ fa)):=by
 refine jN (wx (qaw k) hg n v (qY (ul (qeq KdS r k) i g d (qY o jT j) 'd' 'd' (by rw [j]; rfl) rfl) jT c) 'd' 'd' (by rw [c]; rfl) rfl) λσ H Q h=>?_;refine Ur (xE (ma:=ma) h) λx H1 ⟨B,F,dx,ex,A,tx,po⟩=>?_;cases ex;unfold vQ at po;cases es:yn dx with
 | none=>rw [es] at po;exact po.elim
 | some ss=>
  rw [es] at po;by_cases hl:ss.length < 64
  ·have po:PoV C .fr F H1 (if ss.length < 64 then .ok (.lst ((jY (ss.foldl xa [])).map D.str)) else .bad) Q:=po;rw [Aa hl,<-YO] at po;refine ⟨x,F,dx,ss,rfl,A,tx,es,by lia,λm q hq=>⟨q,_,rfl,qu,?_,λl f=>?_⟩⟩
   ·have:=xb ss [];rw [aX] at this
    lia
   ·obtain ⟨s1,s,f1⟩:=vy (u:=qgV KpS X.prog X.w q (ss.foldl xC [])) A hq;obtain ⟨s2,c2,f2⟩:=vy (u:=.lst ((jY (ss.foldl xC [])).map V.str)) s1 f;have t:H1 l=none:=by
     by_cases z:l=q;·rw [z] at f;rw [qu] at f;cases f
     ·rwa [qB z] at f
    refine po _ _ _ s2 (s.trans' c2) ⟨l,rfl,t,f2,_,qu,JO λy b=>m y ?_⟩;rw [YO] at b;rcases VQ ss [] ((qM _).mem_iff.mp b) with z | z;·cases z
    ·exact z
  ·have po:PoV C .fr F H1 (if ss.length < 64 then .ok (.lst ((jY (ss.foldl xa [])).map D.str)) else .bad) Q:=po;rw [Ab hl] at po;exact po.elim
noncomputable def qjp [DecidableEq κ] {T:KP κ} (U:KD T) (add:List κ->κ->List κ) (d:D):Out D:=match U.sqd d with
 | some ss=>if ss.length < 4000 then .ok (.int (ss.foldl add []).length) else .bad
 | none=>.bad
theorem Zx [DecidableEq κ] {T:KP κ} (U:KD T) {p p2 a:Pos} (n:C.K=X.K) (f:X.calm=iu) (hg:Gl X "len") (m:X.mg "len"=im) (v:iE "len"=ij (.builtin "len")) (i:Gl X "set") (g:X.mg "set"=im) (d:iE "set"=ij (.type "set")) (j:PE X e (tE C own ma fa))
  (b:iA [e] X.env=[(ir,eval e X.env)]:=by exact qT rfl) (c:iA [.Call (.Name "set" p2) [e] [] a] X.env=[(ir,eval (.Call (.Name "set" p2) [e] [] a) X.env)]:=by exact qT rfl) :
  PE X (.Call (.Name "len" p) [.Call (.Name "set" p2) [e] [] a] [] pos) (tE C own .sh (d1 (qjp U xC) fa)):=by
 refine jN (wx (qfY (T:=T)) hg m v (qY (ul (qeq U n f) i g d (qY j jT b) 'd' 'd' (by rw [b]; rfl) rfl) jT c) 'd' 'd' (by rw [c]; rfl) rfl) λσ H Q h=>?_;refine Ur (xE (ma:=ma) h) λx H1 ⟨l,F,dx,ex,A,tx,po⟩=>?_;cases ex;unfold qjp at po;cases es:U.sqd dx with
 | none=>rw [es] at po;exact po.elim
 | some ss=>
  rw [es] at po;have po:PoV C .sh F H1 (if ss.length < 4000 then .ok (.int (ss.foldl xC []).length) else .bad) Q:=po;by_cases hl:ss.length < 4000;·rw [Aa hl] at po;refine ⟨x,F,dx,ss,rfl,A,tx,es,hl,λD q hq=>⟨q,_,rfl,qu,?_⟩⟩;obtain ⟨s1,k,f1⟩:=vy (u:=qgV T X.prog X.w q (ss.foldl xC [])) A hq;exact po _ _ _ s1 k (.int _)
  ·rw [Ab hl] at po;exact po.elim
theorem qax {p p2 a:Pos} (n:C.K=X.K) (f:X.calm=iu) (hg:Gl X "len") (m:X.mg "len"=im) (v:iE "len"=ij (.builtin "len")) (i:Gl X "set") (g:X.mg "set"=im) (h:iE "set"=ij (.type "set")) (j:PE X e (tE C own ma fa))
  (b:iA [e] X.env=[(ir,eval e X.env)]:=by exact qT rfl) (c:iA [.Call (.Name "set" p2) [e] [] a] X.env=[(ir,eval (.Call (.Name "set" p2) [e] [] a) X.env)]:=by exact qT rfl) :
  PE X (.Call (.Name "len" p) [.Call (.Name "set" p2) [e] [] a] [] pos) (tE C own .sh (d1 gB fa)):=by
 rw [show gB=qjp KdS xC by rw [YO];funext d;have q:KdS.sqd d=yn d:=rfl;unfold gB qjp;rw [q];cases yn d <;> rfl];exact Zx KdS n f hg m v i g h j b c
end
variable {β:Type}
@[simp] theorem ku {a:α} {k:α->Out β}:(Out.ok a).bind k=k a:=rfl
@[simp] theorem qkY {c:Str} {o:Sl} {k:α->Out β}:(Out.exc c o:Out α).bind k=.exc c o:=rfl
@[simp] theorem qkZ {k:α->Out β}:(Out.bad:Out α).bind k=.bad:=rfl
@[simp] theorem qkd {a:α}:(Out.ok a).plain=.ok a:=rfl
@[simp] theorem qk0:(Out.bad:Out α).plain=.bad:=rfl
variable {c:Prop}
@[simp] theorem qk1 [Decidable c] {a b:Out α} {k:α->Out β}:(if c then a else b).bind k=if c then a.bind k else b.bind k:=by split <;> rfl
@[simp] theorem qk2 [Decidable c] {a b:Out α}:(if c then a else b).plain=if c then a.plain else b.plain:=by split <;> rfl
noncomputable def qdn (d:D) (A B:Out α):Out α:=match d with
 | .bl b=>if b=iu then A else B
 | _=>.bad
@[simp] theorem qjq {A B:Out α}:qdn (.bl b) A B=if b=iu then A else B:=rfl
noncomputable def qk3 (p:D×Sl):Out (Bool×Sl):=match p.1 with
 | .bl b=>.ok (b,p.2)
 | _=>.bad
variable {ρ:Sl}
@[simp] theorem qke:qk3 (.bl b,ρ)=.ok (b,ρ):=rfl
noncomputable def KZ (ms:List PM):Out (Fl×Sl)->Out (D×List D)
 | .ok (.nx,ρ)=>.ok (.non,kb ρ 0 ms)
 | .ok (.rt d,ρ)=>.ok (d,kb ρ 0 ms)
 | .ok _=>.bad
 | .exc c ρ=>.exc c ((kb ρ 0 ms).map ij)
 | .bad=>.bad
variable {ms:List PM}
theorem qr {f:qU}:jV N ms f ds=KZ ms (f (qt N ds)):=by unfold jV KZ;rfl
@[simp] theorem qk4:KZ ms (.ok (.rt d,ρ))=.ok (d,kb ρ 0 ms):=rfl
@[simp] theorem qk5:KZ ms (.ok (.nx,ρ))=.ok (.non,kb ρ 0 ms):=rfl
@[simp] theorem qkf {c:Str}:KZ ms (.exc c ρ)=.exc c ((kb ρ 0 ms).map ij):=rfl
@[simp] theorem qkg [Decidable c] {a b:Out (Fl×Sl)}:KZ ms (if c then a else b)=if c then KZ ms a else KZ ms b:=by split <;> rfl
noncomputable def Zy (as:List AK) (ρ:Sl):Out (D×List D)->WM
 | .ok q=>.ok (q.1,zD as q.2 ρ)
 | .exc c o=>.exc c (zD as (o.map (·.getD .non)) ρ)
 | .bad=>.bad
variable {as:List AK}
@[simp] theorem qjr {q:D×List D}:Zy as ρ (.ok q)=.ok (q.1,zD as q.2 ρ):=rfl
@[simp] theorem qib {c:Str} {o:Sl}:Zy as ρ (.exc c o)=.exc c (zD as (o.map (·.getD .non)) ρ):=rfl
@[simp] theorem qic [Decidable c] {a b:Out (D×List D)}:Zy as ρ (if c then a else b)=if c then Zy as ρ a else Zy as ρ b:=by split <;> rfl
variable {ρ:Sl}
@[simp] theorem qay:qc i ρ=match ρ[i]? with | some (ij d)=>.ok (d,ρ) | _=>.bad:=rfl
@[simp] theorem qlD:dC d ρ=.ok (d,ρ):=rfl
variable {gg:D->Sl->Out Sl}
section
variable {g g':D->D->Out D} {g1:D->Out D} {fa fb fc f:jl} {ft fu:yi} {fr:ww} {fs ft1:qU} {fi:ww} {G:jK}
@[simp] theorem qdo:d1 g1 fa ρ=(fa ρ).bind λp=>(g1 p.1).plain.bind λd=>.ok (d,p.2):=rfl
@[simp] theorem qkh:d2 g fa fb ρ=(fa ρ).bind λp=>(fb p.2).bind λq=>(g p.1 q.1).plain.bind λd=>.ok (d,q.2):=rfl
@[simp] theorem qki:uh f ρ=(f ρ).bind λp=>(Ga p.1).bind λb=>.ok (b,p.2):=rfl
@[simp] theorem qjs:qF f ρ=(f ρ).bind qk3:=rfl
@[simp] theorem qkj:yw ft ρ=(ft ρ).bind λp=>.ok (!p.1,p.2):=rfl
@[simp] theorem qjt:qkb f ρ=(qF f ρ).bind λp=>.ok (.bl (!p.1),p.2):=rfl
@[simp] theorem qkk:Ze ft fu ρ=(ft ρ).bind λp=>if p.1=iu then fu p.2 else .ok (ir,p.2):=rfl
@[simp] theorem qk6:dOr ft fu ρ=(ft ρ).bind λp=>if p.1=iu then .ok (iu,p.2) else fu p.2:=rfl
@[simp] theorem qju:Qu fa fb ρ=(fa ρ).bind λp=>qdn p.1 (fb p.2) (.ok (.bl ir,p.2)):=by
 unfold Qu;cases fa ρ with
 | ok p=>
  obtain ⟨d,r⟩:=p;cases d <;> try rfl
  rename_i b;cases b <;> rfl
 | exc c o=>rfl
 | bad=>rfl
@[simp] theorem qkl:qkT fa fb ρ=(fa ρ).bind λp=>qdn p.1 (.ok (.bl iu,p.2)) (fb p.2):=by
 unfold qkT;cases fa ρ with
 | ok p=>
  obtain ⟨d,r⟩:=p;cases d <;> try rfl
  rename_i b;cases b <;> rfl
 | exc c o=>rfl
 | bad=>rfl
@[simp] theorem qk7:dIf ft fa fb ρ=(ft ρ).bind λp=>if p.1=iu then fa p.2 else fb p.2:=rfl
@[simp] theorem qid:wn g g' fa fb fc ρ=(fa ρ).bind λp=>(fb p.2).bind λq=>(g p.1 q.1).plain.bind λz=>qdn z ((fc q.2).bind λr=>(g' q.1 r.1).plain.bind λd=>.ok (d,r.2)) (.ok (.bl ir,q.2)):=by
 unfold wn;congr 1;funext p;congr 1;funext q;congr 1;funext z;cases z <;> try rfl
 rename_i b;cases b <;> rfl
@[simp] theorem qfZ:qw ρ=.ok ([],ρ):=rfl
@[simp] theorem qdp:qb fa fr ρ=(fa ρ).bind λp=>(fr p.2).bind λq=>.ok (p.1::q.1,q.2):=rfl
@[simp] theorem qdq:jW fr ρ=(fr ρ).bind λq=>.ok (D.non::q.1,q.2):=rfl
@[simp] theorem qkm:vM fr ρ=(fr ρ).bind λp=>if p.1.length<=sizeLine then .ok (.tup p.1,p.2) else .bad:=rfl
@[simp] theorem qkn:wo fr ρ=(fr ρ).bind λp=>if p.1.length<=sizeLine then .ok (.lst p.1,p.2) else .bad:=rfl
@[simp] theorem qjv:qO ρ=.ok (.nx,ρ):=rfl
@[simp] theorem gD:qG fs ft1 ρ=(fs ρ).bind λp=>match p.1 with | .nx=>ft1 p.2 | _=>.ok p:=by
 show _=_;unfold qG;cases fs ρ with
 | ok p=>obtain ⟨l,r⟩:=p; cases l <;> rfl
 | exc c o=>rfl
 | bad=>rfl
@[simp] theorem qie:sIf ft fs ft1 ρ=(ft ρ).bind λp=>if p.1=iu then fs p.2 else ft1 p.2:=rfl
@[simp] theorem qjw:kP f ρ=(f ρ).bind λp=>.ok (.nx,p.2):=rfl
@[simp] theorem Us:jf f ρ=(f ρ).bind λp=>.ok (.rt p.1,p.2):=rfl
@[simp] theorem gE:jp i f ρ=(f ρ).bind λp=>if i < p.2.length then .ok (.nx,p.2.set i (ij p.1)) else .bad:=rfl
@[simp] theorem qdr:qo as G fr ρ=(fr ρ).bind λp=>match kX as p.1 p.2 with | some ds=>Zy as p.2 (G ds) | none=>.bad:=rfl
@[simp] theorem qko:qlz f ρ=(f ρ).bind λp=>(xF p.1).bind λds=>.ok (ds,p.2):=rfl
@[simp] theorem qkp:jR f ρ=(f ρ).bind λp=>(jM p.1).bind λds=>.ok (ds,p.2):=rfl
@[simp] theorem qk8:gNm i d ρ=if i < ρ.length then .ok (ρ.set i (ij d)) else .bad:=rfl
@[simp] theorem kh:yL fi gg fs ρ=(fi ρ).bind λp=>kU gg fs p.1 p.2:=rfl
@[simp] theorem qkq:qji f gg ρ=(f ρ).bind λp=>match gg p.1 p.2 with | .ok ρ'=>.ok (.nx,ρ') | _=>.bad:=rfl
@[simp] theorem qkr {gg:List D->D->Out (List D)}:JF i gg f ρ=if yj ρ[i]?=iu then (f ρ).bind λp=>(match p.2[i]? with | some (ij (.lst xs))=>(match gg xs p.1 with | .ok ys=>.ok (.non,p.2.set i (ij (.lst ys))) | _=>.bad) | _=>.bad) else .bad:=rfl
@[simp] theorem qk9:ftT ρ=.ok (iu,ρ):=rfl
end
end L2.D2
namespace L2.D2
open PySem PySem.Spec PyProof.Rows
def qkP (i j:Int):Prop:=(0<=j/\j<=64)/\-4611686018427387904 < i/\i < 4611686018427387904
instance:∀ i j,Decidable (qkP i j):=λi j=>inferInstanceAs (Decidable (_/\_))
noncomputable def qif (ca:Str->Addr):List Str->ww
 | []=>qw
 | x::l=>qb (dC (.raw (.ref (ca x)))) (qif ca l)
theorem qaz (ca:Str->Addr) (ρ:Sl):∀ l:List Str,qif ca l ρ=.ok (l.map λx=>D.raw (.ref (ca x)),ρ)
 | []=>rfl
 | x::l=>by unfold qif qb dC;rw [Out.og,qaz ca ρ l];rfl
variable {α:Type}
theorem qf0 {β:Type} (f:α->β) (xs:List α) (i:Int):atI (xs.map f) i=(atI xs i).map f:=by
 unfold atI ixN;rw [ay];split;·split <;> simp
 ·split <;> simp
noncomputable def zu (as:List AK) (fi:jl) (gs:List (jK)) (fr:ww):jl:=λρ=>(fi ρ).bind λp=>match p.1 with
 | .int i=>match atI gs i with
  | some G=>qo as G fr p.2
  | none=>.bad
 | _=>.bad
def DsOk (P:iF) (w:iG) (K:Frag) (mg:Str->Option iq) (base:Heap) (cv:Str->iq) (j:Nat) (ms:List PM) (mr:Mo):List Str->List (jK)->Prop
 | [],[]=>True
 | x::l,G::gs=>(∃ ps,DefOk P w K mg base cv j x ps ms mr G)/\DsOk P w K mg base cv j ms mr l gs
 | _,_=>False
variable {P:iF} {w:iG} {K:Frag} {base:Heap} {cv:Str->iq} {j:Nat} {ms:List PM} {mr:Mo}
theorem DsOk.len {mg:Str->Option iq}:∀ {l:List Str} {gs:List (jK)},DsOk P w K mg base cv j ms mr l gs->l.length=gs.length
 | [],[],_=>rfl
 | _::_,_::_,h=>congrArg (·+1) h.2.len
 | [],_::_,h=>h.elim
 | _::_,[],h=>h.elim
theorem DsOk.get {mg:Str->Option iq}:∀ {l:List Str} {gs:List (jK)},DsOk P w K mg base cv j ms mr l gs->∀ (n:Nat) (G:jK),gs[n]?=ij G->∃ x ps,l[n]?=ij x/\DefOk P w K mg base cv j x ps ms mr G
 | [],[],_,n,G,e=>by simp at e
 | x::_,_::_,h,0,G,e=>by simp at e;subst e;obtain ⟨ps,q⟩:=h.1;exact ⟨x,ps,rfl,q⟩
 | _::_,_::_,h,n+1,G,e=>h.2.get n G (by simpa using e)
 | [],_::_,h,_,_,_=>h.elim
 | _::_,[],h,_,_,_=>h.elim
theorem qig {xs:List α} {i:Int} {d:α} (h:atI xs i=ij d):∃ n:Nat,xs[n]?=ij d/\∀ {β:Type} (ys:List β),ys.length=xs.length->atI ys i=ys[n]?:=by
 unfold atI at h;cases q:ixN xs.length i with
 | none=>rw [q] at h; cases h
 | some n=>rw [q] at h;refine ⟨n,h,λys hl=>?_⟩;unfold atI;rw [hl,q];rfl
variable {X:Cx} {C:Ct} {own:List Nat} {e:Expr} {pos:Pos}
section
variable {as:List AK} {fr:ww} {es:List Expr} {x:Str} {p:Pos} {k:Nat} {fi:jl} {ca:Str->Addr} {ns:List Str} {gs:List (jK)} {v sl:Expr}
theorem qds {a:Addr} (c:X.mg x=ij (.ref a)) (hg:Gl X x) (hd:Dbg x:=by decide):PE X (.Name x pos) (tE C own .sh (dC (.raw (.ref a)))):=GD (v:=.ref a) hg c rfl (λ_=>.raw _) hd
theorem YS {env:Env} {args:List Expr} {M:Model} {A:iJ} {E:iq->iw->Prop} {s:iw} {Q:iq->iw->Prop}
  (h:iB M A (eval (.Subscript v sl p) env) (λf d=>iB M A (callWith pos f [] (iS pos (iA args env)) (lq pos (iZ [] env))) Q E d) E s) :
  iB M A (eval (.Call (.Subscript v sl p) args [] pos) env) Q E s:=by
 have e:eval (.Call (.Subscript v sl p) args [] pos) env=(do
  callWith pos (<-eval (.Subscript v sl p) env) [] (iS pos (iA args env)) (lq pos (iZ [] env))):=rfl
 rw [e];exact ip h
theorem qaA (S:DsOk X.prog X.w X.K X.mg X.base cv j ms mr ns gs) (Y:∀ x∈ns,X.mg x=ij (.ref (ca x))) (V:ns.length<=sizeLine) (hr:Room k X.A) (hj:j<=k) (hx:vK (CXk X.prog X.w) X C.E)
  (N:PE X (.Subscript v sl p) (tE C own .sh (d2 ixD (wo (qif ca ns)) fi))) (ha:PA X (e::es) (tAr C own as fr)) (J:C.cv=cv:=by rfl) (hK:C.K=X.K:=by rfl) (t:ms=as.map Qx:=by rfl) (W:∀ i∈je as,i∈own:=by decide) (nd:(je as).Nodup:=by decide) (B:frA as<=1:=by decide) (u:∀ i∈C.ox,i∈own:=by exact kZ rfl)
  (he:iA (e::es) X.env=(ir,eval e X.env)::iA es X.env:=by exact js rfl) (o:(iS pos (iA es X.env)).any (·.1)=false:=by exact wA rfl) :
  PE X (.Call (.Subscript v sl p) (e::es) [] pos) (tE C own mr (zu as fi gs fr)):=by
 subst t J;refine ⟨?_⟩;intro pins s σ H Q I h;obtain ⟨F,ρ,M,h⟩:=h;have O:wo (qif ca ns) ρ=.ok (.lst (ns.map λx=>.raw (.ref (ca x))),ρ):=by unfold wo;rw [qaz,Out.og,Aa (by rw [ay]; exact V)]
 unfold zu at h;cases q:fi ρ with
 | bad=>rw [q] at h; exact h.elim
 | exc c ρ1=>rw [q] at h;refine YS (thn (N pins s σ H (λ_ _=>False) I ⟨F,ρ,M,?_⟩) λ_ _ ⟨_,_,_,_,z⟩=>z.elim);unfold d2;rw [O,Out.og];show Po C own .sh σ F H ((fi ρ).bind _) _;rw [q];exact h
 | ok U=>
  obtain ⟨d,ρ1⟩:=U;rw [q,Out.og] at h;cases d <;> try exact h.elim
  rename_i i;cases l:atI gs i with
  | none=>simp only [l] at h; exact h.elim
  | some G=>
   simp only [l] at h;obtain ⟨n,h1,h2⟩:=qig l;obtain ⟨x,ps,a,f,fd,FF,g,Z,hb⟩:=S.get n G h1;have m:=Y x (aP a);obtain rfl:f=ca x:=by rw [m] at g;cases g;rfl
   have L:atI (ns.map λx=>(D.raw (.ref (ca x)))) i=ij (.raw (.ref (ca x))):=by rw [qf0,h2 ns S.len,a];rfl
   refine YS (thn (N pins s σ H (λy H1=>y=.ref (ca x)/\tE C own mr (qo as G fr) σ H1 Q) I ⟨F,ρ,M,?_⟩) λw s1 ⟨y,H1,R,r1,⟨ey,h3⟩⟩=>?_);·unfold d2;rw [O,Out.og];show Po C own .sh σ F H ((fi ρ).bind _) _;rw [q,Out.og];show Po C own .sh σ F H ((ixD (.lst (ns.map λx=>.raw (.ref (ca x)))) (.int i)).plain.bind _) _;unfold ixD;simp only [L];intro y F' H' b c' mo;refine ⟨?_,F',ρ1,b,Po.shift h c'⟩;have mo:Is C.K F' y (.raw (.ref (ca x))):=mo;cases mo;rfl
   ·subst ey;cases r1;have h4:=Ug u W nd B h3;refine fq (h₀:=X.base) R.ok.mod.kin Z (thn (ha pos pins s1 σ H1 _ R h4) λus s2 ⟨vs,H2,P,r,T⟩=>⟨P.kIn,?_⟩) he o;exact qef (FF.mono hj) hr hb .nil hx P r (by rw [<-hK]; exact T)
end
theorem YT {xs:List V} {us:List iq} (r:Vals xs us):∀ n:Nat,Vals (aJ n xs).flatten (aJ n us).flatten
 | 0=>.nil
 | n+1=>by rw [c6,c6,dD,dD];exact r.append (YT r n)
variable {F:Hp}
theorem qaB {vs:List V} {ds:List D} (r:IsL K F vs ds):∀ n:Nat,IsL K F (aJ n vs).flatten (aJ n ds).flatten
 | 0=>.nil
 | n+1=>by rw [c6,c6,dD,dD];exact r.append (qaB r n)
theorem qaC (l:List α):∀ n:Nat,(aJ n l).flatten.length=l.length * n
 | 0=>by simp
 | n+1=>by rw [c6,dD,af,qaC l n,Nat.mul_succ,Nat.add_comm]
noncomputable def qer:D->D->Out D
 | .lst ds,.int n=>if (0<=n/\n<=100000)/\ds.length * n.toNat<=1000000 then .ok (.lst (aJ n.toNat ds).flatten) else .bad
 | _,_=>.bad
section
theorem qaD (q:C.K=X.K):OpD X C .fr (iY .Mult) qer:=by
 intro pins s σ H x y v u Q I m j h;obtain ⟨F,dx,B,A,tx,ty,po⟩:=h;cases dx <;> try exact po.elim
 cases B <;> try exact po.elim
 rename_i ds n;unfold qer at po;by_cases z:(0<=n/\n<=100000)/\ds.length * n.toNat<=1000000
 ·simp only [Aa z] at po;obtain ⟨a,xs,rfl,p,i⟩:=tx.lst A;obtain rfl:=ty.int;cases m;obtain ⟨t,rfl⟩:=j;rw [q] at p;obtain ⟨its,r,pl,_⟩:=I.list p;have c:its.length=ds.length:=by rw [<-r.length,i.length]
  obtain ⟨⟨cls,d,data,sl⟩,k,l,g,hd,f⟩:=pl;simp only at g hd f;subst g f;have hq:H s.heap.objs.size=none:=I.hok.fresh (aA _);obtain ⟨s2,c2,f2⟩:=vy (u:=.lst (aJ n.toNat xs).flatten) A hq;have w:(aJ n.toNat xs).flatten.length<=sizeLine:=by rw [qaC,i.length,iM]; lia
  refine wpAny_binaryOp_repeat_ref (T := "list") (U := "int") 'd' ⟨_,l,rfl⟩ (λs'=>typeIs_int s' n t) noFill_list_mul PySem.F.fills_int_mul PySem.F.slot_int_rmul repeat_list PySem.F.slot_int_index.lookup
   (lr PySem.F.slot_int_rmul (typeIs_int s n t) PySem.F.entry_int_rmul (PySem.F.args_int_rmul_2 _ _) (lm_int_rmul_list_any n t a its.toArray k d sl)
    ⟨l,rfl,⟨_,l,rfl⟩,lr PySem.F.slot_list_mul ⟨_,l,rfl⟩ PySem.F.entry_list_mul (PySem.F.args_list_mul_2 _ _)
     (lm_list_mul_any a its.toArray k d sl n t (by simp [Builtin.List.listFitsIndex]; lia) (by rw [aq,c]; lia) (by simp [cT,sizeLine]; rw [c]; lia))
     ⟨l,?_⟩⟩)
  refine ⟨.ref s.heap.objs.size,_,I.laid (t':=s.toks) (o:=.lst (aJ n.toNat xs).flatten) (λb o e=>aa _ e) (aA _) ⟨w,(aJ n.toNat its).flatten,0,YT r _,?_⟩,rfl,po _ _ _ s2 c2 ⟨_,rfl,hq,f2,_,qu,qaB i _⟩⟩;rw [listMul_foldl_if];exact ai _ rfl
 ·simp only [Ab z] at po;exact po.elim
end
def qih (i j:Int):Prop:=(-(2 ^ 62)<=i/\i < 2 ^ 62)/\-(2 ^ 62)<=j/\j < 2 ^ 62
instance:∀ i j,Decidable (qih i j):=λi j=>inferInstanceAs (Decidable (_/\_))
variable {lo:Int}
section
variable {a b tg:Expr} {fa fb:jl} {ma mb:Mo}
theorem qaE:∀ {xs:List V} {us:List iq},xs.length=us.length->(∀ (j:Nat) (x:V) (u:iq),xs[j]?=ij x->us[j]?=ij u->RelV x u)->Vals xs us
 | [],[],_,_=>.nil
 | x::xs,u::us,hl,h=>.cons (h 0 x u rfl rfl) (qaE (Nat.succ.inj hl) λj y w a b=>h (j+1) y w (by simpa using a) (by simpa using b))
 | [],_::_,hl,_=>nomatch hl
 | _::_,[],hl,_=>nomatch hl
noncomputable def qjx (p:Addr) (lo hi:Int):HO:=.ext λh=>∃ t u v,IsRange h p lo hi 1 t u v
theorem qf1 {H:Hp} {h:Heap} {p:Addr} {hi:Int} {t u v:Tok} (x:IsRange h p lo hi 1 t u v):ObjOk P w H h p (qjx p lo hi):=
 ⟨⟨t,u,v,x⟩,⟨_,x⟩,λ_ _ ⟨t,u,v,x⟩ k=>⟨t,u,v,k _ x⟩⟩
theorem qaF:uj X (.type "range") (λxs H Q=>∃ j:Int,xs=[.int j]/\∀ p,H p=im->Q (.ref p) (upd H p (qjx p 0 j))):=by intro pins s σ H xs us Q I r h;obtain ⟨j,rfl,q⟩:=h;obtain ⟨u,rfl,B⟩:=yM r;obtain ⟨t,rfl⟩:=B;exact call_range_1 ⟨.ref s.heap.objs.size,_,I.laid (t':=s.toks+1+1) (λb o e=>aa _ e) (aA _) (qf1 (IsRange.new ..)),rfl,q _ (I.hok.fresh (aA _))⟩
theorem qdt (d:X.calm=iu):uj X (.type "list") (λxs H Q=>∃ r lo hi,xs=[.ref r]/\H r=ij (qjx r lo hi)/\(qih lo hi/\hi - lo<=1000000)/\∀ p,H p=im->Q (.ref p) (upd H p (.lst ((aO (hi - lo).toNat).map λk=>V.int (lo+(k:Nat)))))):=by
 intro pins s σ H xs us Q I r h;obtain ⟨a,lo,hi,rfl,g,z,q⟩:=h;obtain ⟨u,rfl,B⟩:=yM r;cases B;obtain ⟨t,u,v,hr⟩:=(I.hok a _ g).1;have i:Builtin.Range.rangeSize lo hi 1=(((hi - lo).toNat:Nat):Int):=by rw [rangeSize_one]; split <;> lia
 refine call_list_range (n:=(hi - lo).toNat) (I.ok.hd d) hr (small_one z.1.1.1 z.1.1.2 z.1.2.1 z.1.2.2) i 'b' λh' tk acc c k hp b=>?_;refine ⟨.ref s.heap.objs.size,_,I.laid (t':=tk) (o:=.lst ((aO (hi - lo).toNat).map λk=>V.int (lo+(k:Nat)))) k (aA _) ⟨by rw [ay,cA,iM]; lia,acc.toList,c,?_,by simpa using hp⟩,rfl,q _ (I.hok.fresh (aA _))⟩;refine qaE (by rw [ay,cA,bR,b.1]) λj x w ex e=>?_;rw [aH] at ex;obtain ⟨k,f,rfl⟩:=aY.mp ex;obtain ⟨G,rfl⟩:=aB.mp f;obtain ⟨t,rfl⟩:=b.2 j w (by simpa using e);exact ⟨t,by simp⟩
noncomputable def xc:D->Out D
 | .int j=>if qih 0 j/\j - 0<=1000000 then .ok (.lst (zr 0 (j - 0).toNat)) else .bad
 | _=>.bad
theorem qaG:∀ l:List Nat,IsL K F (l.map λk=>V.int (lo+(k:Nat))) (l.map λk=>D.int (lo+(k:Nat)))
 | []=>.nil
 | k::l=>.cons (.int _) (qaG l)
theorem Zz {p p2 a:Pos} (o:X.calm=iu) (hg:Gl X "list") (n:X.mg "list"=im) (v:iE "list"=ij (.type "list")) (i:Gl X "range") (g:X.mg "range"=im) (d:iE "range"=ij (.type "range")) (r:PE X e (tE C own ma fa))
  (m:iA [e] X.env=[(ir,eval e X.env)]:=by exact qT rfl) (c:iA [.Call (.Name "range" p2) [e] [] a] X.env=[(ir,eval (.Call (.Name "range" p2) [e] [] a) X.env)]:=by exact qT rfl) :
  PE X (.Call (.Name "list" p) [.Call (.Name "range" p2) [e] [] a] [] pos) (tE C own .fr (d1 xc fa)):=by
 refine jN (ul (qdt o) hg n v (qY (ul qaF i g d (qY r jT m) 'd' 'd' (by rw [m]; rfl) rfl) jT c) 'd' 'd' (by rw [c]; rfl) rfl) λσ H Q h=>?_;refine Ur (xE (ma:=ma) h) λx H1 ⟨w,F,dx,ex,A,tx,po⟩=>?_;cases ex;cases dx <;> try exact po.elim
 rename_i j;unfold xc at po;by_cases b:qih 0 j/\j - 0<=1000000
 ·simp only [Aa b] at po;obtain rfl:=tx.int;refine ⟨j,rfl,λq hq=>⟨q,0,j,rfl,qu,b,λl f=>?_⟩⟩;obtain ⟨s1,s,f1⟩:=vy (u:=qjx q 0 j) A hq;obtain ⟨s2,c2,f2⟩:=vy (u:=.lst ((aO (j - 0).toNat).map λk=>V.int (0+(k:Nat)))) s1 f;have t:H1 l=none:=by
   by_cases z:l=q;·rw [z] at f;rw [qu] at f;cases f
   ·rwa [qB z] at f
  exact po _ _ _ s2 (s.trans' c2) ⟨l,rfl,t,f2,_,qu,qaG _⟩
 ·simp only [Ab b] at po;exact po.elim
end
theorem qaH:iE "enumerate"=ij (.type "enumerate"):=by decide +kernel
noncomputable def JP (xs:List D):List D:=(xs.zipIdx).map λp=>.tup [.int (p.2:Nat),p.1]
noncomputable def ZA (f:jl):ww:=λρ=>(f ρ).bind λp=>match p.1 with
 | .lst xs=>.ok (JP xs,p.2)
 | _=>.bad
mutual
def qii:Nat->Expr->Option D
 | 0,_=>im
 | n+1,e=>match e with
  | .Constant c _ _=>match c with
   | .none=>ij .non
   | .bool b=>ij (.bl b)
   | .int i=>ij (.int i)
   | .str x=>if x.length<=sizeLine then ij (.str x) else im
   | _=>im
  | .UnaryOp .USub (.Constant (.int i) _ _) _=>ij (.int (-i))
  | .List es _=>(qgW n es).bind λds=>if ds.length<=sizeLine then ij (.lst ds) else im
  | .Tuple es _ _=>(qgW n es).bind λds=>if ds.length<=sizeLine then ij (.tup ds) else im
  | _=>im
def qgW:Nat->List Expr->Option (List D)
 | _,[]=>ij []
 | 0,_::_=>im
 | n+1,e::es=>(qii n e).bind λd=>(qgW n es).bind λds=>ij (d::ds)
end
theorem YU {α:Type}:∀ l:List α,((l.map λ_=>AK.vl).all λa=>decide (a=.vl))=iu
 | []=>rfl
 | _::l=>by rw [aD,g0,YU l]; rfl
theorem qaI {n:Nat} {e:Expr} {d:D} (h:qii n e=ij d):WZ e=true:=by
 cases n with
 | zero=>cases h
 | succ n=>cases e <;> first | rfl | (simp [qii] at h)
section
variable {X:Cx} {C:Ct} {own:List Nat}
mutual
theorem qij:∀ (n:Nat) {e:Expr} {d:D},qii n e=ij d->PE X e (tE C own .sh (dC d))
 | 0,_,_,h=>by cases h
 | n+1,e,d,h=>by
  unfold qii at h;split at h
  ·split at h;·cases h; exact vw
   ·cases h; exact vt
   ·cases h; exact ql
   ·split at h;·rename_i z;cases h;exact kB z
    ·cases h
   ·cases h
  ·cases h;exact jN (Ua gi ql) λσ H Q h=>h
  ·obtain ⟨ds,h1,h2⟩:=aU.mp h;split at h2
   ·rename_i z;cases h2;have i:wo (λρ=>.ok (ds,ρ))=dC (.lst ds):=by funext ρ;unfold wo dC;rw [Out.og,Aa z]
    rw [<-i];exact yh (jz (JQ n h1) (YU _)) 'd'
   ·cases h2
  ·obtain ⟨ds,h1,h2⟩:=aU.mp h;split at h2
   ·rename_i z;cases h2;have i:vM (λρ=>.ok (ds,ρ))=dC (.tup ds):=by funext ρ;unfold vM dC;rw [Out.og,Aa z]
    rw [<-i];exact jU (JQ n h1) (YU _)
   ·cases h2
  ·cases h
theorem JQ:∀ (n:Nat) {es:List Expr} {ds:List D},qgW n es=ij ds->PA X es (tAr C own (es.map λ_=>.vl) λρ=>.ok (ds,ρ))
 | 0,[],ds,h=>by cases h;exact qd
 | _+1,[],ds,h=>by cases h;exact qd
 | 0,_::_,ds,h=>by cases h
 | n+1,e::es,ds,h=>by unfold qgW at h;obtain ⟨d,h1,h⟩:=aU.mp h;obtain ⟨f,h2,h⟩:=aU.mp h;cases h;have i:qb (dC d) (λρ=>.ok (f,ρ))=λρ=>.ok (d::f,ρ):=rfl;rw [<-i];exact qa (qij n h1) (JQ n h2) 'd' (js (qaI h1))
end
theorem qaJ {es:List Expr} {ds:List D} {pos:Pos} (n:Nat) (h:qgW n es=ij ds):PE X (.List es pos) (tE C own .fr (wo λρ=>.ok (ds,ρ))):=jz (JQ n h) (YU _)
end
noncomputable def txI (i:Int):Str:=toString i
def CTx (i:Int):Prop:=i.natAbs.log2 < 1920/\(txI i).length<=sizeLine
instance:∀ i,Decidable (CTx i):=λi=>inferInstanceAs (Decidable (_/\_))
end L2.D2
namespace PySem
open Builtin Builtin.Str
end PySem
namespace L2.D2
open PySem PySem.Spec PyProof.Rows
def qlE (x y:Str):Prop:=(y.length == 0)=ir/\(Txt.split x y).length<=sizeLine/\∀ z∈Txt.split x y,z.length<=sizeLine
instance:∀ x y,Decidable (qlE x y):=λx y=>inferInstanceAs (Decidable (_/\_))
inductive IntsAre:List iq->List Int->Prop
 | nil:IntsAre [] []
 | cons (y:Int) (t:Tok) {vs:List iq} {ys:List Int} (h:IntsAre vs ys):IntsAre (hZ y t::vs) (y::ys)
variable {X:Cx} {C:Ct} {own:List Nat} {pos:Pos} {i:Nat} {x:Str}
section
theorem vr (h:X.N[i]?=ij x:=by rfl) (c:Vis X.env.scope x:=by first | exact bE rfl | exact db (bE rfl) | exact db (db rfl)) (l:i∉own:=by decide) (hd:Dbg x:=by decide) (d:Cdk x:=by decide):PE X (.Name x pos) (tE C own .sh (qc i)):=qhC h c l hd d
end
noncomputable def YV (n:Nat) (fw fx:jl):qU:=λρ=>(fw ρ).bind λp=>(fx p.2).bind λq=>match (q.2[n]?:Option (Option D)),q.1 with
 | some (ij (.lst ds)),.int k=>(match ixN ds.length k with | some j=>.ok (.nx,q.2.set n (ij (.lst (ds.set j p.1)))) | none=>.bad)
 | _,_=>.bad
variable {K:Frag}
theorem qlF {cv:Str->iq} {ca:Str->Addr} {n:Str} (v:cv n=.ref (ca n)) (s:bM K (.ref (ca n)) (.ref (ca n))=ij iu):∀ c Cc,Gc ca [n] c=ij Cc->cv c=.ref Cc/\bM K (.ref Cc) (.ref (ca n))=ij true:=λc Cc h=>by
 unfold Gc at h;split at h
 ·rename_i z;cases h;have z:c=n:=by simpa using z
  subst z;exact ⟨v,s⟩
 ·cases h
variable {n:Nat} {m mx:Mo} {apos cpos:Pos}
section
variable {mo mw:Mo} {e o w ix:Expr} {fe fo fw fx:jl} {p1 p2 p3:Pos}
theorem qaK (E:X.N[n]?=ij x) (D:Vis X.env.scope x) (l:n∈own) (B:PE X w (tE C own mw fw)) (hx:PE X ix (tE C own mx fx)) (e:mw≠.any:=by decide)
  (hd:Dbg x:=by decide) (o:Cdk x:=by decide)
  (g:∀ v,assign (.Subscript (.Name x p1) ix p2) X.env v=(do
   let ov <-holding [v] (eval (.Name x p1) X.env)
   let i <-holding [v,ov] (eval ix X.env)
   standAt p2
   holding [v,ov,i] (setItem ov i v)
   release [v,ov,i] []):=by intro _; rfl)
  (s:swapsWithSole [.Subscript (.Name x p1) ix p2] w p3.line X.env=pure false:=by rfl) (G:swappedStores [.Subscript (.Name x p1) ix p2] w X.env=pure none:=by rfl)
  (p:(i6 [.Subscript (.Name x p1) ix p2] X.env).map (·.2)=[assign (.Subscript (.Name x p1) ix p2) X.env]:=by rfl) :
  PS X (.Assign [.Subscript (.Name x p1) ix p2] w p3) (tSt C own own (YV n fw fx)):=by
 refine Qv (qec (yh B e) (qhe (yl E D hd o) hx qcy g) s G p) λT σ H ⟨F,ρ,A,h⟩=>⟨F,ρ,A,PoS.bindE h λv F1 H1 d ρ1 b R c h1=>?_⟩
 have c:Is C.K F1 v d:=c;obtain ⟨L,hd0⟩:=b.opn n l;obtain ⟨a,e1,Q,P⟩:=b.ow n L l hd0;refine ⟨_,e1,F1,ρ1,b,PoS.bindE h1 λi O H2 J ρ2 r c2 m h2=>?_⟩;obtain ⟨d2,hd2⟩:=r.opn n l;obtain ⟨S,y,I,o2⟩:=r.ow n d2 l hd2;rw [e1] at y;cases y;simp only [hd2] at h2;cases d2 with
 | lst ds=>
  cases J with
  | int k=>
   have f:=m.top.int;subst f;obtain ⟨xs,ex,t⟩:=o2;cases q:ixN ds.length k with
   | none=>simp only [q] at h2; exact h2.elim
   | some j=>simp only [q] at h2;obtain ⟨r3,M⟩:=r.write (u:=.lst (xs.set j v)) (d:=.lst (ds.set j d)) l e1 ⟨_,qu,t.set (c.mono c2.grow) j⟩;exact ⟨a,xs,k,j,rfl,rfl,ex,by rw [t.length]; exact q,h2 σ O _ ⟨r3,M,λ_ z=>.inl z,λ_ _=>rfl⟩⟩
  | _=>exact h2.elim
 | _=>exact h2.elim
end
section
variable {mb:Mo} {b ix:Expr} {fb:jl} {px:Pos}
noncomputable def d2O (i:Nat) (g:D->D->Out D) (fb:jl):jl:=λρ=>(fb ρ).bind λq=>match (q.2[i]?:Option (Option D)) with
 | some (ij d)=>(g d q.1).plain.bind λr=>.ok (r,q.2)
 | _=>.bad
theorem qf2 {g:D->D->Out D} {σ:St} {H:Hp} {Q:VK} (l:i∈own) (h:tE C own m (d2O i g fb) σ H Q):qkL i σ H λx H1=>tE C own mb fb σ H1 λy H2=>∃ F dx f,Same F H2/\TopIs C.K F H2 x dx/\TopIs C.K F H2 y f/\PoV C m F H2 (g dx f) Q:=by obtain ⟨F,ρ,p,h⟩:=h;obtain ⟨w,hd0⟩:=p.opn i l;obtain ⟨a,e1,k,o⟩:=p.ow i w l hd0;refine ⟨_,e1,F,ρ,p,Po.bind h λv F1 H1 d ρ1 r n c h1=>?_⟩;obtain ⟨d1,b⟩:=r.opn i l;obtain ⟨t,e,j,o1⟩:=r.ow i d1 l b;rw [e1] at e;cases e;simp only [b] at h1;exact ⟨F1,d1,d,r.sub,.inr ⟨a,rfl,o1⟩,c.top,PoV.of r h1⟩
theorem VR (o:C.K=X.K) (t:X.A.units+64 < iW) (n:X.N[i]?=ij x) (g:Vis X.env.scope x) (l:i∈own) (m:PE X b (tE C own mb fb)) (j:Jw b)
  (hd:Dbg x:=by decide) (e:Cdk x:=by decide):PE X (.Subscript (.Name x px) b pos) (tE C own .sh (d2O i ixD fb)):=by
 refine jN (qhr (qeh 'b') (yl n g hd e) m j) λσ H Q h=>?_;obtain ⟨v,e1,F,ρ,f,h⟩:=qf2 (mb:=mb) l h;refine ⟨v,e1,F,ρ,f,?_⟩;cases d:fb ρ with
 | ok p=>rw [d] at h;obtain ⟨d',k⟩:=p;intro w u q r J a;obtain ⟨M,dx,y,s,tx,ty,po⟩:=h w u q r J a;exact qei (σ:=σ) o s tx ty po
 | exc c=>rw [d] at h; exact h
 | bad=>rw [d] at h; exact h.elim
end
noncomputable def yA (n:Nat) (fw fx:jl):qU:=λρ=>(fw ρ).bind λp=>(fx p.2).bind λq=>match (q.2[n]?:Option (Option D)) with
 | some (ij (.dct kvs))=>(match zd q.1 with
  | some k=>if kvs.length < sizeLine then .ok (.nx,q.2.set n (ij (.dct (zI kvs k p.1)))) else .bad
  | none=>.bad)
 | _=>.bad
section
variable {w ix:Expr} {fw fx:jl} {mw:Mo} {p1 p2 p3:Pos}
theorem xf (O:X.A.units+64 < iW) (B:X.N[n]?=ij x) (t:Vis X.env.scope x) (l:n∈own) (s:PE X w (tE C own mw fw)) (hx:PE X ix (tE C own mx fx)) (f:mw≠.any:=by decide)
  (hd:Dbg x:=by decide) (i:Cdk x:=by decide) (y:lm w (ij (.Subscript (.Name x p1) ix p2)) p3.line X.env=pure false:=by rfl) :
  PS X (.Assign [.Subscript (.Name x p1) ix p2] w p3) (tSt C own own (yA n fw fx)):=by
 refine Qv (qfm 'b' (yl B t hd i) hx (yh s f) y) λT σ H ⟨F,ρ,p,h⟩=>⟨F,ρ,p,PoS.bindE h λv F1 H1 d ρ1 b Q c h1=>?_⟩
 have c:Is C.K F1 v d:=c;obtain ⟨D,hd0⟩:=b.opn n l;obtain ⟨a,e1,P,L⟩:=b.ow n D l hd0;refine ⟨_,e1,F1,ρ1,b,PoS.bindE h1 λM G H2 J ρ2 r c2 m h2=>?_⟩;obtain ⟨d2,hd2⟩:=r.opn n l;obtain ⟨R,o,I,o2⟩:=r.ow n d2 l hd2;rw [e1] at o;cases o;simp only [hd2] at h2;cases d2 with
 | dct kvs=>
  cases q:zd J with
  | none=>simp only [q] at h2; exact h2.elim
  | some k=>
   simp only [q] at h2;have g:=qh4 m.top q;subst g;obtain ⟨kv,ex,j⟩:=o2;by_cases e:kvs.length < sizeLine;·simp only [Aa e] at h2;obtain ⟨r3,E⟩:=r.write (u:=.dK (zo kv k v)) (d:=.dct (zI kvs k d)) l e1 ⟨_,qu,j.put (c.mono c2.grow)⟩;exact ⟨a,_,rfl,DPut.k ex (by rw [j.length]; exact e),h2 σ G _ ⟨r3,E,λ_ z=>.inl z,λ_ _=>rfl⟩⟩
   ·simp only [Ab e] at h2; exact h2.elim
 | _=>exact h2.elim
end
noncomputable def qaL (i:Nat):jl:=λρ=>match (ρ[i]?:Option (Option D)) with
 | some (ij (.lst (d::es)))=>.ok (d,ρ.set i (ij (.lst es)))
 | _=>.bad
section
variable {px:Pos}
theorem qf3:MtR X "list.pop" (λx vs H Q=>∃ l v xs,x=.ref l/\vs=[.int 0]/\H l=ij (.lst (v::xs))/\Q v (upd H l (.lst xs))):=by intro pins s σ H x vs v us Q I d r h;obtain ⟨l,y,xs,rfl,rfl,b,q⟩:=h;exact qcA pins s σ H _ _ v us Q I d r ⟨l,_,0,0,y,rfl,rfl,b,by decide,by decide,by simp [seqIndex?],rfl,q⟩
theorem qf4 {j:Nat} {p:Pos} (m:X.N[i]?=ij x) (k:Vis X.env.scope x) (o:i∈own) (hd:Dbg x:=by decide) (c:Cdk x:=by decide)
  (b:i7 (.Name x px) "pop" X.env (eval (.Name x px) X.env)=eval (.Name x px) X.env:=by rfl) (e:(apos.endLine == cpos.line)=true:=by rfl)
  (w:((iS cpos (iA [.Constant (.int 0) j p] X.env)).all (λx=>!x.1)&&(lq cpos (iZ [] X.env)).all (λx=>x.1.isSome)
   && decide ([g7 (.int 0) j p].length+([]:List i5).length+(if ([]:List i5).isEmpty then 0 else 1) < 30))=true:=by exact wC rfl)
  (s:iA [.Constant (.int 0) j p] X.env=[(ir,eval (.Constant (.int 0) j p) X.env)]:=by exact qT rfl) :
  PE X (.Call (.Attribute (.Name x px) "pop" apos) [.Constant (.int 0) j p] [] cpos) (tE C own .sh (qaL i)):=by
 refine jN (XZ cz PySem.F.slot_list_pop PySem.F.type_list_pop qf3 (yl m k hd c) (qY qeb jT s) b w e s rfl) λσ H Q ⟨F,ρ,r,h⟩=>?_;obtain ⟨f,hd0⟩:=r.opn i o;obtain ⟨a,e1,n,g⟩:=r.ow i f o hd0;unfold qaL at h;simp only [hd0] at h;cases f with
 | lst es=>
  cases es with
  | nil=>exact h.elim
  | cons d es=>
   obtain ⟨xs,ex,l⟩:=g;cases l with
   | cons v l=>refine ⟨_,e1,.inl ⟨rfl,_,.inl (.inl ex)⟩,?_⟩;obtain ⟨r2,J⟩:=r.write (u:=.lst _) (d:=.lst es) o e1 ⟨_,qu,l⟩;exact ⟨a,_,_,rfl,rfl,ex,h _ F _ r2 J v⟩
 | _=>exact h.elim
end
noncomputable def qjy (kvs:List (Key×D)) (k:Key) (d:D):D:=match kvs.find? λkv=>decide (kv.1=k) with
 | some kv=>kv.2
 | none=>d
noncomputable def qdu (fo fe ff:jl):jl:=λρ=>(fo ρ).bind λp=>if (match p.1 with | .dct _=>iu | _=>ir)=iu then (fe p.2).bind λq=>(ff q.2).bind λr=>(match p.1 with
 | .dct kvs=>(match zd q.1 with
  | some k=>.ok (qjy kvs k r.1,r.2)
  | none=>.bad)
 | _=>.bad) else .bad
theorem IsK.miss {F:Hp} {k:Key}:∀ {vs:List (Key×V)} {ds:List (Key×D)},IsK K F vs ds->(ds.find? λkv=>decide (kv.1=k))=im->WV vs k=im
 | _,_,.nil,e=>rfl
 | _,_,.cons (k:=k') (vs:=vs) h t,e=>by
  by_cases q:k'=k;·rw [bN (by simp [q])] at e;cases e
  ·rw [bD (by simp [q])] at e;rw [yO q];exact IsK.miss t e
section
variable {o e f:Expr} {fo fe ff:jl} {me mf:Mo}
theorem qf5 (Z:X.A.units+64 < iW) (P:PE X o (tE C own .sh fo)) (T:PE X e (tE C own me fe)) (S:PE X f (tE C own mf ff)) (D:mf≠.any:=by decide) (R:me≠.any:=by decide)
  (j:i7 o "get" X.env (eval o X.env)=eval o X.env:=by rfl)
  (n:((iS cpos (iA [e,f] X.env)).all (λx=>!x.1)&&(lq cpos (iZ [] X.env)).all (λx=>x.1.isSome)
   && decide (([e,f]:List Expr).length+([]:List i5).length+(if ([]:List i5).isEmpty then 0 else 1) < 30))=true:=by exact wC rfl)
  (i:(apos.endLine == cpos.line)=true:=by rfl) (B:iS cpos (iA [e,f] X.env)=[(ir,eval e X.env),(ir,eval f X.env)]:=by rfl) :
  PE X (.Call (.Attribute o "get" apos) [e,f] [] cpos) (tE C own .sh (qdu fo fe ff)):=by
 refine jN (qcF 'b' P T (yh S D) ⟨j,n,i,B⟩) λσ H Q ⟨F,ρ,M,h⟩=>?_;refine ⟨F,ρ,M,Po.bind h λv F1 H1 d ρ1 r c1 b h1=>?_⟩;have b:Is C.K F1 v d:=b;cases d with
 | dct kvs=>
  simp only [if_true] at h1;cases b with
  | dct G N=>
   rename_i a kv;refine ⟨a,rfl,.inl ⟨kv,.inl (r.sub _ _ G)⟩,F1,ρ1,r,Po.bind h1 λy Y H2 W ρ2 s c2 t h2=>?_⟩;refine ⟨Y,ρ2,s,Po.bind h2 λz u I V L c J m g=>?_⟩;have m:Is C.K u z V:=m;cases q:zd W with
   | none=>simp only [q] at g; exact g.elim
   | some k=>
    simp only [q] at g;have O:=qh4 t.top q;subst O;have E:u a=ij (.dK kv):=J.grow _ _ (c2.grow _ _ G);have l:IsK C.K u kv kvs:=(N.mono c2.grow).mono J.grow;refine ⟨WV kv k,.inl ⟨kv,k,.inl (c.sub _ _ E),rfl,rfl⟩,?_⟩;unfold qjy at g;cases p:kvs.find? λkv=>decide (kv.1=k) with
    | none=>simp only [p] at g;rw [l.miss p];exact g z u I c .refl m
    | some kd=>simp only [p] at g;obtain ⟨w,e1,U⟩:=l.find p;rw [e1];exact g w u I c .refl U
 | _=>exact h1.elim
end
end L2.D2
namespace L2.D2
open PySem PySem.Spec PyProof.Rows PySem.W
section
variable {prog:iF} {w:iG} {A:iJ} {E:iq->iw->Prop} {s:iw} {T:String} {r d:Addr} {n:Nat} {P:Nat->iq->Prop} {OK:Heap->Prop}
theorem qaM {Q:List iq->iw->Prop} (K:KdlSrc prog w T r d n P OK) (c:A.handled=im) (hok:OK s.heap) (hn:n<=sizeLine)
  (f:∀ h' tk acc,(∀ b o,s.heap.get? b=ij o->h'.get? b=ij o)->mJ P acc n->Q acc.toList { s with heap:=h',toks:=tk }):iB 'e' A (collect (.ref r)) Q E s:=by
 unfold collect;refine ip (wpAny_runValue (iQ F.entry_proto_collect ?_));rw [bz F.plain_proto_collect _];show iB _ A.in1 (newList [] >>= λl=>again (.builtin "list.__iadd__" ⟨[l,.ref r],[]⟩)) _ _ s;refine ip (iH ?_);refine iy ⟨k7 F.plain_list_iadd _,iQ F.entry_list_iadd ?_⟩;rw [bz F.plain_list_iadd _];have t:=K.there _ hok;have S:(s.heap.push { cls:=.type "list",data:=.seq ([]:List iq).toArray }).get? s.heap.objs.size=ij { cls:=.type "list",data:=.seq ([]:List iq).toArray }:=ai _ rfl;show iB _ A.in1 (bp 'm' (.ref r) 'm') _ _ _;refine kdl_extend (R:=λr s'=>match r with
  | .ok (.ret v)=>iB 'e' A (match v with
   | .ref a=>do
    let o <-load a
    match o.data with
     | .seq xs _=>pure xs.toList
     | _=>unsupported "internal:collect"
   | _=>unsupported "internal:collect") Q E s'
  | .ok _=>False
  | .error e=>E e s') (s:={ s with heap:=s.heap.push { cls:=.type "list",data:=.seq ([]:List iq).toArray } }) K c (K.keep _ _ hok λb _ o e=>aa _ e) _ (cx t.1) (cx t.2) _ 0 S (λh' tk L U k B h=>?_) hn
 show iB _ A (load s.heap.objs.size >>= _) _ _ _;refine ip (wpAny_load B ?_);exact iy (f h' tk L (λb o e=>k b o (aC (aw e)) (aa _ e)) h)
theorem qaN:∀ (ss:List Str) (us:List iq),us.length=ss.length->(∀ (j:Nat) (v:iq),us[j]?=ij v->∃ x t,ss[j]?=ij x/\v=f9 x t)->mE us ss
 | [],[],_,_=>.nil
 | [],_::_,h,_=>by cases h
 | _::_,[],h,_=>by cases h
 | x::ss,u::us,h,k=>by obtain ⟨n,t,e1,i⟩:=k 0 u rfl;cases e1;rw [i];refine .cons _ t (qaN ss us (by simpa using h) λj v e=>?_);simpa using k (j+1) v (by simpa using e)
theorem qdv {ss:List Str} {Q:iq->iw->Prop} (K:KdlSrc prog w T r d n P OK) (i:A.handled=im) (hok:OK s.heap) (h:∀ acc:Array iq,mJ P acc n->mE acc.toList ss) (j:ss.length < 64) (hn:n<=sizeLine)
  (p:∀ (h1 h':Heap) tk vs e f,(∀ b o,s.heap.get? b=ij o->h1.get? b=ij o)->(∀ b o,h1.get? b=ij o->h'.get? b=ij o)->h'.get? h1.objs.size=ij (mh "list" vs e)->mE vs.toList f->f.Perm ss->sortedS f=iu->Q (.ref h1.objs.size) { s with heap:=h',toks:=tk }) :
  iB 'e' A (call (.builtin "sorted") [.ref r]) Q E s:=by
 refine Calls.call_function_entry kind_sorted plain_sorted entry_sorted (args_sorted1 _) ?_; unfold Builtin.«sorted»;refine ip (m:=checkCount "sorted" 1 1 _) (iy ?_);refine ip (qaM (A:=A.in1) K (show A.in1.handled=im from i) hok hn λh1 tk acc k1 hi=>?_);have c:=h acc hi;have hl:acc.toList.length < 64:=by rw [c.length]; exact j
 refine ip (wpAny_newList ?_ (by rw [iM]; lia));have Z:(h1.push (mh "list" acc.toList.toArray 0)).get? h1.objs.size=ij (mh "list" acc.toList.toArray 0):=ai _ rfl;refine ip (iP (iL slot_list_sort (s:={ s with heap:=h1.push (mh "list" acc.toList.toArray 0),toks:=tk }) ⟨_,Z,rfl⟩ entry_list_sort (list_sort_treeK strKind_oneLt Z c.keysOf (λv₁ k rest e=>keyKind_strs (by rw [<-e]; exact c)) hl λg x v=>⟨_,rfl,?_⟩) (args_list_sort _)));obtain ⟨f,u,t,q⟩:=sorted_out_str c x v;obtain ⟨e,l⟩:=sortedHeap_at (out:=(arrOf g).map (·.2)) Z;refine iy ⟨_,rfl,p h1 _ tk _ e f k1 (λb o J=>?_) l u t q⟩;have a:=aw J;rw [sortedHeap_old (aC a) (by rw [bL]; exact dA a)];exact aa _ J
end
variable {α:Type}
noncomputable def Ut:List (Key×α)->Option (List Str)
 | []=>ij []
 | (.inr x,_)::l=>(Ut l).map (x::·)
 | (.inl _,_)::_=>im
theorem YW:∀ {l:List (Key×α)} {ss:List Str},Ut l=ij ss->l.map (·.1)=ss.map bC
 | [],ss,h=>by cases h; rfl
 | (.inr x,_)::l,ss,h=>by obtain ⟨f,e,rfl⟩:=aY.mp (show (Ut l).map (x::·)=ij ss from h);rw [aD,aD,YW e]
 | (.inl _,_)::_,ss,h=>by cases h
theorem IsK.keys {K:Frag} {F:Hp}:∀ {kv:List (Key×V)} {ks:List (Key×D)},IsK K F kv ks->kv.map (·.1)=ks.map (·.1)
 | _,_,.nil=>rfl
 | _,_,.cons h t=>by rw [aD,aD,IsK.keys t]
theorem KV.keys:∀ {kv:List (Key×V)} {vs:List (Key×iq)},KV kv vs->kv.map (·.1)=vs.map (·.1)
 | _,_,.nil=>rfl
 | _,_,.cons h t=>by rw [aD,aD,h.1,KV.keys t]
noncomputable def kw:D->Out D
 | .dct kvs=>(match Ut kvs with
  | some ss=>if ss.length < 64/\(ss.all λy=>decide (y.length<=sizeLine))=iu then .ok (.lst ((jY ss).map D.str)) else .bad
  | none=>.bad)
 | _=>.bad
section
variable {X:Cx} {C:Ct} {own:List Nat} {e:Expr} {fa:jl} {ma:Mo} {pos:Pos}
theorem Ja (E:X.calm=iu):Qw X C .fr (.builtin "sorted") kw:=by
 intro pins s σ H xs us Q I r h;obtain ⟨x,F,dx,rfl,A,tx,po⟩:=h;obtain ⟨u,rfl,B⟩:=yM r;cases dx with
 | dct kvs=>
  obtain ⟨a,kv,rfl,G,p⟩:=tx.dct A;cases B;cases q:Ut kvs with
  | none=>simp only [kw,q] at po; exact po.elim
  | some ss=>
   simp only [kw,q] at po;by_cases hl:ss.length < 64/\(ss.all λy=>decide (y.length<=sizeLine))=iu
   ·rw [Aa hl] at po;obtain ⟨f,b,vs,rel,dd⟩:=(show ObjOk X.prog X.w H s.heap a (.dK kv) from I.hok a _ G)
    obtain ⟨ep,L⟩:=dd.dictAt;have g:vs.map (·.1)=ss.map bC:=by rw [<-KV.keys rel,p.keys,YW q]
    have n:vs.length=ss.length:=by have:=congrArg fB g; simpa using this
    refine qdv (kdl_dict (kvs:=vs) (ep:=ep) b) (I.ok.hd E) L (λacc hi=>qaN _ _ (by rw [bR,hi.1,n]) λj v e=>?_) hl.1 (by rw [n,iM]; lia) λh1 h' tk us e m k1 k2 hp st pm so=>?_
    ·obtain ⟨k,x,e1,K⟩:=hi.2 j v (by rw [<-bS]; exact e);have D:(vs.map (·.1))[j]?=ij k:=by rw [aH,e1]; rfl
     rw [g,aH] at D;obtain ⟨y,J,rfl⟩:=aY.mp D;rcases ju (show zU (bC y) v=iu from K) with ⟨i,t,d,_⟩ | ⟨z,t,d,rfl⟩
     ·cases d
     ·cases d;exact ⟨_,t,J,rfl⟩
    ·rw [VO pm so] at st;have l:Inv X pins σ H { s with heap:=h1,toks:=tk }:=I.kept (t':=tk) k1;have f:(jY ss).length<=sizeLine:=by
      rw [(qM _).length_eq,iM]
      lia
     have hq:H h1.objs.size=none:=l.hok.fresh (aA _);obtain ⟨s2,c2,f2⟩:=vy (u:=.lst ((jY ss).map V.str)) A hq;exact ⟨.ref h1.objs.size,_,l.laid (t':=tk) (o:=.lst ((jY ss).map V.str)) k2 (aA _) ⟨by rw [ay]; exact f,us.toList,e,gA st,by simpa [mh] using hp⟩,rfl,po _ _ _ s2 c2 ⟨_,rfl,hq,f2,_,qu,JO λy c=>by have:=(qM _).mem_iff.mp c;exact Ae (aQ.mp hl.2 y this)⟩⟩
   ·rw [Ab hl] at po; exact po.elim
 | _=>exact po.elim
end
end L2.D2
namespace PySem.F
theorem nolen_lri:l9 (.type "list_reverseiterator") "__len__"=pure none:=by rw [ll,iX]; kernel_rfl
theorem hint_lri:l9 (.type "list_reverseiterator") "__length_hint__"=pure (ij (.builtin "list_reverseiterator.__length_hint__")):=by rw [ll,iX]; kernel_rfl
end PySem.F
namespace L2.D2
open PySem PySem.Spec PyProof.Rows PySem.W
section
variable {prog:iF} {w:iG} {A:iJ} {E:iq->iw->Prop} {s:iw} {I l:Addr} {items:Array iq}
theorem ZB {R:mG->iw->Prop} (n:A.handled=im) (d:l≠I) (hit:s.heap.IsRevIter I l ((items.size:Int) - 1)) (hl:s.heap.IsList l items) (S:Addr) (a:S≠I) (j:S≠l) (res:iq) (c:Nat) (q:s.heap.get? S=ij { cls:=.type "list",data:=.seq #[] c })
  (t:∀ h' tk L U,(∀ b o,b≠S->b≠I->s.heap.get? b=ij o->h'.get? b=ij o)->h'.get? S=ij { cls:=.type "list",dict:=im,data:=.seq L U,slots:=#[] }->mJ (λi v=>items[items.size - 1 - i]?=ij v) L items.size->R (.ok (.ret res)) { s with heap:=h',toks:=tk }) (hn:items.size<=sizeLine) :
  iB 'e' A.in1 (bp (.ref S) (.ref I) res)
   (λfin s'=>match fin with | .done f=>R (.ok f) s' | .again U=>U.quiet=iu/\lg 'e' A U R s') (λe s'=>R (.error e) s') s:=by
 have W:=Walks.listRev (prog:=prog) (w:=w) (A:=A.in1) n I l d items;have k:S∉[I,l]:=by simp only [ac,aN,or_false,not_or]; exact ⟨a,j⟩
 have st:0<=items.size/\s.heap.IsRevIter I l ((items.size:Int) - 1 - ((0:Nat):Int))/\s.heap.IsList l items:=⟨bH _,by simpa using hit,hl⟩
 unfold bp;refine ip (li hit.typeIs ?_);have h1:cW (.ref S) (.ref I)=false:=by simp [cW,a]
 rw [Ab (by rw [h1]; decide)];refine ip (W.self 0 _ _ _ st ?_);refine ip (iP ?_);unfold Builtin.List.listLengthHint;refine ip (wpAny_specialOf hit.typeIs F.nolen_lri ?_);show iB _ A.in1 (specialOf (bA I) (aL "__length_hint__") >>= _) _ _ _;refine ip (wpAny_specialOf hit.typeIs F.hint_lri ?_);generalize E:("list_reverseiterator.__length_hint__":String)=id0
 wp_delta
 rw [show splitId id0=ij ("list_reverseiterator", "__length_hint__") from by subst E; decide +kernel];subst E;refine ip (i9 (b:=iu) hit.typeIs (by rw [lv]; kernel_rfl) ?_);refine iy ?_;rw [Ab 'd'];refine iy ⟨k7 F.plain_extend_loop _,codeAny_extend_loopS W.toS hn S k res items.size 0 _ #[] c rfl (bH _) st q (ItemsOf.nil _) λs' L U m B r=>?_⟩;rw [Moved.eq_with m];refine t s'.heap s'.toks L U (λb o p g e=>m.heap b o (λh=>?_) e) B r;rcases ac.mp h with u | h;·exact p u
 ·exact g (au.mp h)
theorem qdw {Q:iq->iw->Prop} (n:A.handled=im) (g:l≠I) (hit:s.heap.IsRevIter I l ((items.size:Int) - 1)) (hl:s.heap.IsList l items) (hn:items.size<=sizeLine)
  (p:∀ h' tk L U,(∀ b o,b≠I->s.heap.get? b=ij o->h'.get? b=ij o)->h'.get? s.heap.objs.size=ij { cls:=.type "list",dict:=im,data:=.seq L U,slots:=#[] }->mJ (λi v=>items[items.size - 1 - i]?=ij v) L items.size->Q 'm' { s with heap:=h',toks:=tk }) :
  iB 'e' A (call (.type "list") [.ref I]) Q E s:=by
 refine callType_codes (Q₁:=λobj d=>obj=.ref s.heap.objs.size/\d={ s with heap:=s.heap.push { cls:=.type "list",data:=.seq #[] } }) PySem.F.called_list (PySem.F.typeCall_list_1 _) PySem.F.entry_list_init
  (code_list_new _ ⟨rfl,rfl⟩) λobj d h₁=>?_
 obtain ⟨rfl,rfl⟩:=h₁;have S:(s.heap.push { cls:=.type "list",data:=.seq #[] }).get? s.heap.objs.size=ij { cls:=.type "list",data:=.seq #[] }:=ai _ rfl;obtain ⟨q,f,_⟩:=id hit;obtain ⟨ol,c,_⟩:=id hl;have a:s.heap.objs.size≠I:=cx (aw f);have j:s.heap.objs.size≠l:=cx (aw c);refine ⟨⟨_,S,rfl⟩,PySem.F.args_list_init_2 _ _,?_⟩;show iB _ _ (do let old <-Builtin.List.listItems 'm'; Builtin.List.listUpdate 'm' (λ_=>#[]); letGo old.toList.reverse; bp 'm' (.ref I) .none) _ _ _;refine ip ?_;unfold Builtin.List.listItems;refine ip (iN S rfl (iy ?_));show iB _ _ (updateSeq s.heap.objs.size (λ_=>#[]) >>= λ_=>letGo (#[]:Array iq).toList.reverse >>= λ_=>bp 'm' (.ref I) .none) _ _ _;refine ip (wpAny_updateSeq S rfl ?_);have h:=bf (cS (λ_=>(#[]:Array iq))) S rfl;have oth:∀ b o,b≠s.heap.objs.size->s.heap.get? b=ij o->((s.heap.push { cls:=.type "list",data:=.seq #[] }).update s.heap.objs.size (cS (λ_=>(#[]:Array iq)))).get? b=ij o:=
  λb o k e=>(cG _ _ (bo k)).trans (aa _ e)
 refine ip (mq ?_);refine ZB (A:=A.in1) n g (hit.at λo e=>oth I o a.symm e) (hl.at λo e=>oth l o j.symm e) _ a j .none _ h (λh' tk L U m B r=>?_) hn;exact ⟨rfl,p h' tk L U (λb o k e=>m b o (aC (aw e)) k (oth b o (aC (aw e)) e)) B r⟩
end
noncomputable def xg:D->Out D
 | .lst xs=>.ok (.lst xs.reverse)
 | _=>.bad
theorem qdx {vs:List V} {its:List iq} {acc:Array iq} (r:Vals vs its) (h:mJ (λi v=>its.toArray[its.toArray.size - 1 - i]?=ij v) acc its.toArray.size):Vals vs.reverse acc.toList:=by
 have e:acc.toList=its.reverse:=by
  apply ei;intro j;have s:acc.size=its.length:=by simpa using h.1
  by_cases G:j < its.length;·have c:acc.toList[j]?=ij (acc.toList[j]'(by rw [bR]; lia)):=aE _;have h2:=h.2 j _ (by rw [<-bS]; exact c);rw [c,List.getElem?_reverse G,<-h2];simp
  ·rw [cq (by rw [bR]; lia),cq (by rw [List.length_reverse]; lia)]
 rw [e];exact r.reverse
theorem qaO {K:Frag} {F:Hp}:∀ {vs:List V} {ds:List D},IsL K F vs ds->IsL K F vs.reverse ds.reverse
 | _,_,.nil=>.nil
 | _,_,.cons h t=>by rw [dw,dw];exact (qaO t).append (.cons h .nil)
section
variable {X:Cx} {C:Ct} {own:List Nat} {e:Expr} {fa:jl} {ma:Mo} {pos:Pos}
theorem ZC {p p2 d:Pos} (U:C.K=X.K) (S:X.calm=iu) (hg:Gl X "list") (R:X.mg "list"=im) (M:iE "list"=ij (.type "list")) (y:Gl X "reversed") (w:X.mg "reversed"=im) (l:iE "reversed"=ij (.type "reversed")) (T:PE X e (tE C own ma fa))
  (G:iA [e] X.env=[(ir,eval e X.env)]:=by exact qT rfl) (f:iA [.Call (.Name "reversed" p2) [e] [] d] X.env=[(ir,eval (.Call (.Name "reversed" p2) [e] [] d) X.env)]:=by exact qT rfl) :
  PE X (.Call (.Name "list" p) [.Call (.Name "reversed" p2) [e] [] d] [] pos) (tE C own .fr (d1 xg fa)):=by
 refine ⟨?_⟩;intro pins s σ H Q I h;refine j4 (xX I hg R M ?_ 'd' 'd');refine bJ ?_ (by rw [f]; rfl) rfl;rw [f];show iB _ _ (spliced ((ir,eval (.Call (.Name "reversed" p2) [e] [] d) X.env)::[])) _ _ s;refine dR ?_;refine j4 (xX I y w l ?_ 'd' 'd');refine bJ (thn ((qY T jT G) d pins s σ H _ I (xE (ma:=ma) h)) λus s1 ⟨vs,H1,A,r1,L⟩=>?_) (by rw [G]; rfl) rfl;obtain ⟨x,F,dx,rfl,B,tx,po⟩:=L;obtain ⟨u,rfl,J⟩:=yM r1;cases dx with
 | lst ds=>
  obtain ⟨a,vs,rfl,hq,t⟩:=tx.lst B;rw [U] at hq;cases J;obtain ⟨its,D,j,E⟩:=A.list hq;have pl:s1.heap.IsList a its.toArray:=by obtain ⟨o,n,P,O,_,z⟩:=j;exact ⟨o,P,O,n,z⟩
  refine call_reversed_list pl ?_;refine fA ?_;have N:=ai (h:=s1.heap) (o:=revObj a ((its.toArray.size:Int) - 1)) ;have i:(s1.heap.push (revObj a ((its.toArray.size:Int) - 1))).IsList a its.toArray:=pl.at λo r=>aa _ r;obtain ⟨oa,q,_⟩:=id pl;have v:a≠s1.heap.objs.size:=aC (aw q);refine qdw (s:={ s1 with heap:=s1.heap.push (revObj a ((its.toArray.size:Int) - 1)) }) (I.ok.hd S) v ⟨_,ai _ rfl,rfl,rfl⟩ i (by rw [aq,<-D.length]; exact E) λh' tk acc c kp hp hi=>?_;have k:∀ b o,s1.heap.get? b=ij o->h'.get? b=ij o:=λb o r=>kp b o (aC (aw r)) (aa _ r);have hsz:(s1.heap.push (revObj a ((its.toArray.size:Int) - 1))).objs.size=s1.heap.objs.size+1:=bL ..;have m:H1 (s1.heap.objs.size+1)=none:=A.hok.fresh (fC _);obtain ⟨s2,c2,f2⟩:=vy (u:=.lst vs.reverse) B m;have hp:h'.get? (s1.heap.objs.size+1)=ij { cls:=.type "list",dict:=im,data:=.seq acc c,slots:=#[] }:=by rw [<-hsz]; exact hp
  have g:EP X pins σ Q (.ref (s1.heap.objs.size+1)) { s1 with heap:=h',toks:=tk }:=
   ⟨.ref (s1.heap.objs.size+1),_,A.laid (t':=tk) (o:=.lst vs.reverse) k (fC _) ⟨by rw [List.length_reverse]; exact E,acc.toList,c,qdx D hi,by simpa using hp⟩,rfl,po _ _ _ s2 c2 ⟨_,rfl,m,f2,_,qu,qaO t⟩⟩
  rw [<-hsz] at g;exact g
 | _=>exact po.elim
end
end L2.D2
namespace L2.D2
open PySem PySem.Spec PyProof.Rows
noncomputable def VS:D->Out D
 | .lst ds=>match ur ds with
  | some ps=>.ok (.dct (ps.foldl (λl p=>zI l p.1 p.2) []))
  | none=>.bad
 | _=>.bad
section
variable {X:Cx} {C:Ct} {pins:Pns} {σ:St} {F H:Hp} {s:iw}
theorem YX (n:C.K=X.K) (d:X.calm=iu):Qw X C .fr (.type "dict") VS:=by
 intro pins s σ H xs us Q I r h;obtain ⟨x,F,dx,rfl,A,tx,po⟩:=h;cases dx <;> try exact po.elim
 exact YM n d pins s σ H _ us Q I r ⟨x,F,_,rfl,A,tx,po⟩
end
open PySem.SeqAt
open AutoSeq1 (wpAny_loadPart')
open MeetsSeq MeetsSeq2 MeetsSeq3
end L2.D2
namespace L2.D2
open PySem PySem.Spec PyProof.Rows
open PySem.SeqAt
end L2.D2
namespace L2.D2
open PySem PySem.Spec PyProof.Rows
open AutoSeq1 (wpAny_loadPart')
theorem qaP (l:Addr) (items:Array iq) (n:Nat) (dct:Option Addr) (sl:Array (Option iq)):Meets (Builtin.«enumerate.__new__» ⟨[.type "enumerate",.ref l],[]⟩) (λ_ R s=>s.heap.get? l=ij { cls:=.type "tuple",dict:=dct,data:=.seq items n,slots:=sl } /\
   R (.ok (.ret (.ref (s.heap.push { cls:=.type "tuple_iterator",data:=.fields #[.ref l,.int 0 0] }).objs.size)))
    { s with heap:=(s.heap.push { cls:=.type "tuple_iterator",data:=.fields #[.ref l,.int 0 0] }).push { cls:=.type "enumerate",data:=.fields #[.none,.bool ir,.ref s.heap.objs.size,iT 0,.none,.none] } }):=
 .of_wp λprog w A R s h=>by
  obtain ⟨hp,g,d,tk,os⟩:=s; obtain ⟨hl,h⟩:=h;have b:=sub_enumerate;have a:Heap.IsTuple (ia ⟨hp,g,d,tk,os⟩) l items:=⟨_,hl,rfl,n,rfl⟩
  wp_walk using lP hl
  refine wpAny_stack_any λst=>iy ?_;split
  ·rename_i c _ _ _ _ _;cases (c == fj "enumerate")
   ·wp_walk using lP hl,lj a
    exact ⟨_,rfl,h⟩
   ·wp_walk using lP hl,lj a
    exact ⟨_,rfl,h⟩
  ·wp_walk using lP hl,lj a
   exact ⟨_,rfl,h⟩
variable {s:iw} {l:Addr} {items:Array iq}
theorem yk {prog:iF} {w:iG} {A:iJ} {E:iq->iw->Prop} {Q:iq->iw->Prop} (a:s.heap.IsTuple l items)
  (h:∀ h',IsEnum h' (s.heap.objs.size+1) s.heap.objs.size 0 .none->h'.IsTupleIter s.heap.objs.size l 0->h'.objs.size=s.heap.objs.size+2 ->(∀ b o,s.heap.get? b=ij o->h'.get? b=ij o)->Q (.ref (s.heap.objs.size+1)) { s with heap:=h' }) :
  iB 'e' A (call (.type "enumerate") [.ref l]) Q E s:=by
 obtain ⟨⟨c,dct,t,sl⟩,hl,d,n,hd⟩:=a;replace d:c=.type "tuple":=d;replace hd:t=.seq items n:=hd;subst d hd;refine callType_new F.called_enumerate 'd' (F.typeCall_enumerate_1 _) (F.newCall_enumerate_1 _) (λobj=>F.args_object_init_2 obj _) F.entry_enumerate_new (qaP l items n dct sl) ⟨hl,?_⟩;have z:(s.heap.push { cls:=.type "tuple_iterator",data:=.fields #[.ref l,.int 0 0] }).objs.size=s.heap.objs.size+1:=bL ..;show _/\_;rw [z];have i:IsEnum ((s.heap.push { cls:=.type "tuple_iterator",data:=.fields #[.ref l,.int 0 0] }).push { cls:=.type "enumerate",data:=.fields #[.none,.bool ir,.ref s.heap.objs.size,iT 0,.none,.none] }) (s.heap.objs.size+1) s.heap.objs.size 0 .none:=by have:=ai (s.heap.push { cls:=.type "tuple_iterator",data:=.fields #[.ref l,.int 0 0] }) (o:={ cls:=.type "enumerate",data:=.fields #[.none,.bool ir,.ref s.heap.objs.size,iT 0,.none,.none] }) rfl;rw [z] at this; exact this
 exact ⟨⟨_,i,rfl⟩,h _ i ⟨_,aa _ (ai _ rfl),rfl,rfl⟩ (by rw [bL,z]) λb o x=>aa _ (aa _ x)⟩
theorem ZD {prog:iF} {w:iG} {A:iJ} {E:iq->iw->Prop} {k:SK} {Q:iq->iw->Prop} (L:SeqK s.heap l k items)
  (h:∀ h',IsEnum h' (s.heap.objs.size+1) s.heap.objs.size 0 .none->ItK h' s.heap.objs.size l k 0->(∀ b o,s.heap.get? b=ij o->h'.get? b=ij o)->Q (.ref (s.heap.objs.size+1)) { s with heap:=h' }) :
  iB 'e' A (call (.type "enumerate") [.ref l]) Q E s:=by
 cases k with
 | l=>exact call_enumerate_list L λh' a b _ c=>h h' a b c
 | t=>exact yk L λh' a b _ c=>h h' a b c
variable {K:Frag} {a:Addr} {xs:List V}
theorem YY {H H':Hp} (e:Same H H'):∀ {k:SK},SqK K H a k xs->SqK K H' a k xs
 | .l,p=>e.seq p
 | .t,p=>jg e p
noncomputable def qjz (k:SK) (K:Frag) (a:Addr) (xs:List V):It:=
 ⟨λi H=>i < xs.length/\SqK K H a k xs,λi H v H'=>∃ x p,xs[i]?=ij x/\H p=im/\v=.ref p/\H'=upd H p (.tup [.int (i:Nat),x]),λi H=>xs.length<=i/\SqK K H a k xs⟩
theorem ZE {P:iF} {w:iG} {K:Frag} {k:SK} {G:List Expr} {y} {pos:Pos} (b a:Nat) (xs:List V) (h1:a < b):Turn P w K (.Tuple G y pos) (qjz k K a xs) [b+1,b] (b+1) (λi h=>(∃ old,IsEnum h (b+1) b i old)/\ItK h b a k i/\i<=xs.length) where
 mem:=by simp
 obj:=λi h st c d=>by
  obtain ⟨⟨old,g⟩,hit,S⟩:=st;obtain ⟨o,t,l,hd⟩:=hit.obj;simp only [ac,aN,or_false] at d;rcases d with rfl | rfl;·exact ⟨_,g,λv z=>by cases z⟩
  ·exact ⟨o,t,λv z=>by rw [hd] at z; cases z⟩
 keep:=λi h h' st k=>by obtain ⟨⟨old,g⟩,hit,S⟩:=st;obtain ⟨o,t,l,hd⟩:=hit.obj;exact ⟨⟨old,k _ 'g' _ g⟩,.of ⟨o,k _ 'g' _ t,l,hd⟩,S⟩
 item:=by
  intro X M D N d i pins s σ H E I u st hg;subst M D N;obtain ⟨⟨old,g⟩,hit,S⟩:=st;obtain ⟨hl,q⟩:=hg;obtain ⟨its,F,n,r,e0,R,_,Q,_⟩:=VC I q;have pl:=SeqK.of e0 Q R;have hi:i < its.length:=by rw [<-r.length]; exact hl
  have hx:its.toArray[i]?=ij its[i]:=by simp [hi]
  have J:a≠b:=aC h1;refine wpAny_pyNext_enum_itemD (QY (A:=X.A.in1) (I.ok.hd d) k b a J its.toArray) g ⟨hit,pl⟩ (by simpa using hi) (Nat.succ_ne_self b) (by
   intro z;simp only [ac,aN,or_false] at z;have h1:@LT.lt Nat _ a b:=h1;rcases z with z | z
   ·have z:@Eq Nat _ _:=z
    lia
   ·have z:@Eq Nat _ _:=z
    lia) λy h' tk f eo C Y hz kp=>?_
  have O:y=its[i]:=by have f:its.toArray[i]?=ij y:=f;rw [hx] at f;exact (aI.inj f).symm
  subst O;refine ⟨_,rfl,wpAny_letOwnedTupleGo_enum eo λhq e2 p=>?_⟩;obtain ⟨x,ex,Z⟩:=gu r (aE hi);have hT:H s.heap.objs.size=none:=I.hok.fresh (aA _);have B:b+1 < s.heap.objs.size:=aw g;have T:∀ c∈[b+1,b],c≠s.heap.objs.size:=λc d=>by
   simp only [ac,aN,or_false] at d;have lt':b+1 < s.heap.objs.size:=B;generalize s.heap.objs.size=m at lt';intro z
   lia
  have I1:Inv X pins σ (upd H s.heap.objs.size (.tup [.int (i:Nat),x])) { s with heap:=s.heap.push { cls:=.type "tuple",data:=.seq #[.int i tk,its[i]] } }:=
   I.laid (t':=s.toks) (λ_ _ e=>aa _ e) (aA _) ⟨⟨by simp only [ao,aX]; rw [iM]; decide,_,ai _ rfl,rfl⟩,[.int i tk,its[i]],.cons ⟨_,rfl⟩ (.cons Z .nil),⟨_,ai _ rfl,rfl,_,rfl⟩⟩
  have I2:Inv X pins σ (upd H s.heap.objs.size (.tup [.int (i:Nat),x])) { s with heap:=hq,toks:=tk+1 }:=by
   refine JL (s:={ s with heap:=s.heap.push { cls:=.type "tuple",data:=.seq #[.int i tk,its[i]] } }) (ch:=[b+1,b]) I1 (λc o j e=>?_) λc d=>⟨by rw [qB (T c d)]; exact (u c d).1,(u c d).2⟩
   simp only [ac,aN,or_false,not_or] at j;rw [p.2 c j.1];by_cases U:c=s.heap.objs.size;·subst U;have W:(s.heap.push ({ cls:=.type "tuple",data:=.seq #[.int i tk,its[i]] }:Obj)).get? s.heap.objs.size=ij { cls:=.type "tuple",data:=.seq #[.int i tk,its[i]] }:=ai _ rfl;rw [show (s.heap.push ({ cls:=.type "tuple",data:=.seq #[.int i tk,its[i]] }:Obj)).get? s.heap.objs.size=ij o from e] at W;rw [W];exact Y
   ·have e4:s.heap.get? c=ij o:=by have:=e;rwa [show (s.heap.push ({ cls:=.type "tuple",data:=.seq #[.int i tk,its[i]] }:Obj)).get? c=s.heap.get? c from Heap.get?_push_ne _ _ _ U] at this
    exact kp c o j.1 j.2 e4
  refine ⟨.ref s.heap.objs.size,_,I2,rfl,⟨x,_,ex,hT,rfl,rfl⟩,⟨⟨_,by simpa using e2⟩,?_,hl⟩,λc d=>by rw [qB (T c d)]; exact (u c d).1⟩;obtain ⟨o,t,l,hd⟩:=C.1.obj;exact .of ⟨o,(p.2 _ (Nat.succ_ne_self b).symm).trans t,l,hd⟩
 done:=by
  intro X M D N d i pins s σ H E I u st hg;subst M D N;obtain ⟨⟨old,g⟩,hit,S⟩:=st;obtain ⟨hl,q⟩:=hg;obtain ⟨its,F,n,r,e0,R,_,Q,_⟩:=VC I q;have pl:=SeqK.of e0 Q R;have L:i=its.toArray.size:=by rw [aq,<-r.length];exact fV S hl
  subst L;refine wpAny_pyNext_enum_endD (QY (A:=X.A.in1) (I.ok.hd d) k b a (aC h1) its.toArray) g ⟨hit,pl⟩ λh' ex=>⟨rfl,JL (t':=s.toks) (ch:=[b+1,b]) I (λc o j e=>?_) u⟩
  simp only [ac,aN,or_false,not_or] at j;exact ex c o j.2 e
 self:=λ_ _ _ _ _ st h=>wpAny_pyIter_enum st.1.choose_spec h
theorem qf6 {k:SK} {F:Hp} {ds:List D} (p:SqK K F a k xs) (t:IsL K F xs ds):ItIs K F (qjz k K a xs) (JP ds) where
 go:=λi H hi s=>by unfold JP at hi;rw [ay,List.length_zipIdx] at hi;exact ⟨by rw [t.length]; exact hi,YY s p⟩
 yld:=λi Fi H v H' d e s1 s2 y=>by
  obtain ⟨x,q,hx,hn,rfl,rfl⟩:=y;obtain ⟨d1,e1,i1⟩:=t.get hx;have o:d=.tup [.int (i:Nat),d1]:=by unfold JP at e;rw [aH,List.getElem?_zipIdx,e1] at e;simpa using e.symm
  subst o;obtain ⟨g1,Z⟩:=wF (u:=.tup [.int (i:Nat),x]) s2 hn;exact ⟨_,Z,g1,.tup (.of qu) (.cons (.int _) (.cons ((i1.mono s1).mono Z.grow) .nil))⟩
 stop:=λi H hi s=>by unfold JP at hi;rw [ay,List.length_zipIdx] at hi;exact ⟨by rw [t.length]; exact hi,YY s p⟩
section
variable {X:Cx} {C:Ct} {own:List Nat} {a:Expr} {fa:jl} {ma:Mo} {pos:Pos}
theorem qdy {k:SK} {ta:TA} {p tpos:Pos} {G:List Expr} {x1} (hg:Gl X "enumerate") (m:X.mg "enumerate"=im) (j:PA X [a] ta) (g:iA [a] X.env=[(ir,eval a X.env)]):PI X (.Tuple G x1 tpos) (.Call (.Name "enumerate" p) [a] [] pos) (λσ H R=>ta σ H λvs H1=>∃ c xs,vs=[.ref c]/\SqK X.K H1 c k xs/\R (qjz k X.K c xs) H1):=by
 refine ⟨?_⟩;intro pins s σ H R I h;refine Call_ (xX I hg m qaH (bJ (thn (j pos pins s σ H _ I h) λus s1 ⟨vs,H1,d,r1,f⟩=>?_) g rfl));obtain ⟨c,xs,rfl,w,q⟩:=f;obtain ⟨u,rfl,e1⟩:=yM r1;cases e1;obtain ⟨its,W,n,v,e0,O,_,l,_⟩:=VC d w;have pl:=SeqK.of e0 l O;have t:c < s1.heap.objs.size:=pl.lt;refine ZD pl λh' i hit kp=>?_;refine wpAny_pyIter_enum i ?_;refine ⟨s1.heap.objs.size+1,_,_,qjz k X.K c xs,H1,rfl,d.kept (t':=s1.toks) kp,ZE s1.heap.objs.size c xs t,⟨⟨_,i⟩,hit,bH _⟩,λb e=>?_,q⟩;have S:s1.heap.objs.size<=b:=by
  simp only [ac,aN,or_false] at e;rcases e with rfl | rfl;·exact dG _ _
  ·exact aA _
 exact d.fpOk S (d.hok.fresh S)
theorem YZ {p tpos:Pos} {G:List Expr} {x1} (n:C.K=X.K) (hg:Gl X "enumerate") (m:X.mg "enumerate"=im) (g:PE X a (tE C own ma fa)) (h1:ma≠.any:=by decide) (s:iA [a] X.env=[(ir,eval a X.env)]:=by exact qT rfl):PI X (.Tuple G x1 tpos) (.Call (.Name "enumerate" p) [a] [] pos) (tIt C own (ZA fa)):=by
 refine qcR (qdy (k:=.l) hg m (qY (yh g h1) jT s) s) λσ H R ⟨F,ρ,b,h⟩=>⟨F,ρ,b,PoI.bindV h λv F1 H1 d ρ1 r e c h1=>?_⟩
 have c:Is C.K F1 v d:=c;cases c with
 | lst p t=>exact ⟨_,_,rfl,by rw [<-n]; exact r.sub.seq p,by rw [<-n]; exact h1 _ F1 H1 r e (qf6 (k:=.l) p t)⟩
 | _=>exact h1.elim
end
end L2.D2
namespace L2.D2
open PySem PySem.Spec PyProof.Rows
end L2.D2
namespace L2.D2
open PySem PySem.Spec PyProof.Rows PySem.W
end L2.D2
namespace L2.D2
open PySem PySem.Spec PyProof.Rows
theorem fsc {N P:List Str} {sc:lz} (a:sc.kind=.function:=by rfl) (b:sc.isCoroutine=false:=by rfl) (c:sc.isGenerator=false:=by rfl) (d:N.Nodup:=by decide +kernel) (e:N.take P.length=P:=by rfl) (f:∀ x∈P,sc.names.lookup x=ij .local\/sc.names.lookup x=ij .cell:=by decide +kernel) (g:∀ y∈sc.names,y.2≠.free:=by decide +kernel):FnScope N P sc:=⟨a,b,c,d,e,f,g⟩
end L2.D2
namespace L2.D2
open PySem PySem.Spec PyProof.Rows PySem.W
section
variable {prog:iF} {w:iG} {A:iJ} {E:iq->iw->Prop} {s:iw}
variable {z TI TO i1 i2:Addr} {fp1 fp2:List Addr} {n1 n2 i:Nat} {P1 P2:Nat->iq->Prop} {S1 S2:Nat->Heap->Prop} {a b:iq}
end
end L2.D2
namespace L2.D2
open PySem PySem.Spec PyProof.Rows
variable {X:Cx} {C:Ct} {own:List Nat} {mr:Mo} {x:Str} {pos':Pos} {ms:List PM} {ps:List Str} {cv:Str->iq} {i:Nat}
section
variable {own':List Nat} {as:List AK} {G:jK} {fr:ww} {m ma mb:Mo} {a b e:Expr} {es:List Expr} {p pos px:Pos} {k j:Nat} {fe f fa fb:jl}
theorem cN (F:DefOk X.prog X.w X.K X.mg X.base cv j x ps ms mr G) (g:PA X (e::es) (tAr C own as fr)) (hr:Room k X.A:=by assumption) (h:j<=k:=by decide) (hx:vK (CXk X.prog X.w) X C.E:=by exact qj7) (hg:Gl X x:=by rfl) (v:C.cv=cv:=by rfl) (n:C.K=X.K:=by rfl) (s:ms=as.map Qx:=by rfl) (c:∀ i∈je as,i∈own:=by decide) (nd:(je as).Nodup:=by decide) (f:frA as<=1:=by decide) (o:∀ i∈C.ox,i∈own:=by exact kZ rfl)
  (b:Dbg x:=by decide) (a:iA (e::es) X.env=(ir,eval e X.env)::iA es X.env:=by exact js rfl) (l:(iS pos (iA es X.env)).any (·.1)=false:=by exact wA rfl):PE X (.Call (.Name x p) (e::es) [] pos) (tE C own mr (qo as G fr)):=
 jq F hr h hx hg g v n s c nd f o b a l
theorem sl {x:Str} {px:Pos} (g:PA X es (tAr C own as fr)) (a:X.N[i]?=ij x:=by rfl) (c:Vis X.env.scope x:=by exact bE rfl) (l:i∈own:=by decide) (h:iA (.Name x px::es) X.env=(ir,eval (.Name x px) X.env)::iA es X.env:=by rfl)
  (hd:Dbg x:=by decide) (d:Cdk x:=by decide):PA X (.Name x px::es) (tAr C own (.sl i::as) (jW fr)):=km a c l g h hd d
theorem vO {x:Str} (h:X.N[i]?=ij x:=by rfl) (c:Vis X.env.scope x:=by exact bE rfl) (l:i∈own:=by decide) (hd:Dbg x:=by decide) (d:Cdk x:=by decide):PE X (.Name x pos) (tE C own .any (qc i)):=qfp h c l hd d
theorem se {x:Str} {pos':Pos} (a:PE X e (tE C own m fe)) (b:decide X.N.Nodup=true:=by kernel_rfl) (hi:X.N[i]?=ij x:=by rfl) (hx:Loc X.env.scope x:=by first | exact bE rfl | exact db rfl) (h:m≠.any:=by decide) (o:i∉C.io:=by exact yP rfl) (c:lm e (ij (.Name x pos')) pos.line X.env=pure false:=by rfl)
  (f:X.fn x=iu\/X.env.scope.names.lookup x=ij .local:=by first | exact .inl rfl | exact .inr rfl):PS X (.Assign [.Name x pos'] e pos) (tSt C own (wa own [i]) (jp i fe)):=qfw (Ae b) hi hx a h o c f
theorem sO {x:Str} {pos':Pos} (a:PE X e (tE C own .fr fe)) (b:decide X.N.Nodup=true:=by kernel_rfl) (hi:X.N[i]?=ij x:=by rfl) (hx:Loc X.env.scope x:=by first | exact bE rfl | exact db rfl) (o:i∉C.io:=by exact yP rfl) (c:lm e (ij (.Name x pos')) pos.line X.env=pure false:=by rfl)
  (h:X.fn x=iu\/X.env.scope.names.lookup x=ij .local:=by first | exact .inl rfl | exact .inr rfl):PS X (.Assign [.Name x pos'] e pos) (tSt C own (i::wa own [i]) (jp i fe)):=qcM (Ae b) hi hx a o c h
theorem gn {x:Str} (a:decide X.N.Nodup=true:=by kernel_rfl) (hi:X.N[i]?=ij x:=by rfl) (hx:Loc X.env.scope x:=by first | exact bE rfl | exact db rfl) (l:i∉own:=by decide) (o:i∉C.io:=by exact yP rfl) (h:X.fn x=iu\/X.env.scope.names.lookup x=ij .local:=by first | exact .inl rfl | exact .inr rfl):PG X (.Name x pos) (tGd C own (gNm i)):=Yz (Ae a) hi hx l o h
theorem ix (g:PE X a (tE C own ma fa)) (d:PE X b (tE C own mb fb)) (hr:Room k X.A:=by assumption) (c:Jw b:=by exact λ_ _=>rfl) (n:C.K=X.K:=by rfl) (f:ma≠.any:=by decide):PE X (.Subscript a b pos) (tE C own .sh (d2 ixD fa fb)):=qj6 n hr.units g d c f
theorem tv (h:PE X e (tE C own m f)) (n:C.K=X.K:=by rfl) (i:∀ whole,isTrue e X.env whole=(do let v <-whole; standAt e.pos; holding [v] (truthy v)):=by exact λ_=>rfl):PT X e (tT C own (uh f)):=qft n h i
end
noncomputable def tgN:Expr->List Str
 | .Name x _=>[x]
 | .Tuple es _ _=>es.flatMap λe=>match e with
  | .Name x _=>[x]
  | _=>[]
 | _=>[]
noncomputable def cNm (tg:Expr) (N:List Str) (cap:List Nat):List Str:=tgN tg++cap.map λk=>N.getD k Str.empty
section
variable {elt iter tg:Expr} {ifs:List Expr} {scope:lz} {pos spos:Pos} {fi:ww} {g:D->Sl->Out Sl} {ft:yi} {fe:jl} {me:Mo} {nt:Nat} {cap:List Nat}
theorem gC (a:decide X.N.Nodup=true:=by kernel_rfl) (hi:X.N[i]?=ij x:=by rfl) (hx:Loc X.env.scope x:=by first | exact bE rfl | exact db rfl) (l:i∉own:=by decide) (o:i∉C.io:=by exact yP rfl) (h:X.fn x=iu\/X.env.scope.names.lookup x=ij .local:=by first | exact .inl rfl | exact .inr rfl):PG X (.Name x pos) (tGd C own (gNm i)):=Yz (Ae a) hi hx l o h
theorem cmp (hi:PI X tg iter (tIt C own fi)) (i:∀ fp L s' H',PE (jA X scope (cNm tg X.N cap) fp L s' H') elt (tE (ctC C nt cap.length) (uf own nt cap) me fe)) (hg:∀ fp L s' H',PG (jA X scope (cNm tg X.N cap) fp L s' H') tg (tGd (ctC C nt cap.length) (uf own nt cap) g):=by exact λ_ _ _ _=>gC) (ht:∀ fp L s' H',PTs (jA X scope (cNm tg X.N cap) fp L s' H') ifs (tT (ctC C nt cap.length) (uf own nt cap) ft):=by exact λ_ _ _ _=>YA)
  (P:X.calm=true:=by rfl) (bs:scB X.env.scope.names scope=true:=by kernel_rfl) (b:qjl X.env.scope.names X.N scope (cNm tg X.N cap) nt cap=true:=by kernel_rfl) (j:me≠.any:=by decide) (c:∀ x,k4 iter X.env x=pure x:=by intro _; rfl) :
  PE X (.ListComp elt [⟨tg,iter,ifs,0⟩] scope pos) (tE C own .fr (jk own nt cap fi g ft fe)):=qfF P (qhV rfl bs) (qem rfl rfl b) hi hg ht i j c
theorem qik {i:Nat} {x:Str} (hi:PI X tg iter (tIt C own fi)) (h:∀ fp L s' H',PE (jA X scope (cNm tg X.N cap) fp L s' H') elt (tE (ctC C nt cap.length) (uf own nt cap) me fe)) (hg:∀ fp L s' H',PG (jA X scope (cNm tg X.N cap) fp L s' H') tg (tGd (ctC C nt cap.length) (uf own nt cap) g):=by exact λ_ _ _ _=>gC) (ht:∀ fp L s' H',PTs (jA X scope (cNm tg X.N cap) fp L s' H') ifs (tT (ctC C nt cap.length) (uf own nt cap) ft):=by exact λ_ _ _ _=>YA)
  (a:decide X.N.Nodup=true:=by kernel_rfl) (V:X.N[i]?=ij x:=by rfl) (hx:Loc X.env.scope x:=by first | exact bE rfl | exact db rfl) (P:X.calm=true:=by rfl) (bs:scB X.env.scope.names scope=true:=by kernel_rfl) (b:qjl X.env.scope.names X.N scope (cNm tg X.N cap) nt cap=true:=by kernel_rfl) (j:me≠.any:=by decide) (o:i∉C.io:=by exact yP rfl)
  (G:lm (.ListComp elt [⟨tg,iter,ifs,0⟩] scope pos) (ij (.Name x pos')) spos.line X.env=pure true:=by rfl) (c:∀ x,k4 iter X.env x=pure x:=by intro _; rfl) (Y:X.fn x=iu\/X.env.scope.names.lookup x=ij .local:=by first | exact .inl rfl | exact .inr rfl) :
  PS X (.Assign [.Name x pos'] (.ListComp elt [⟨tg,iter,ifs,0⟩] scope pos) spos) (tSt C own (i::wa own [i]) (jp i (jk own nt cap fi g ft fe))):=qcV (Ae a) V hx P (qhV rfl bs) (qem rfl rfl b) hi hg ht h j o G c Y
end
section
variable {P:iF} {w:iG} {K:Frag} {mg:Str->Option iq} {base:Heap} {st:Stmt} {N:List Str} {k:Nat} {fb:qU}
theorem dW (own':List Nat) (T:kq K mg x st ps)
  (a:∀ (cdv:iq) (f:Addr) (A:iJ) (outer:List Env) (s:iw) (H:Hp) (E:XK),Room k (A.deeper (lf x (qR st) s.heap.objs.size f cdv)) ->PSs (cxk P w K mg base N x (qR st) f cdv A outer s H E) (kG st) (tSt (qfA K cv E ms mr) (kl 0 ms) own' fb))
  (S:FnScope N ps (qR st):=by exact fsc) (hl:ms.length=ps.length:=by rfl) (g:∀ i∈WO 0 ms,i∈own':=by exact kZ rfl) (r:mr=.sh\/∀ ds ρ,(fb (qt N ds))≠.ok (.nx,ρ):=by exact .inl rfl):DefOk P w K mg base cv (k+1) x ps ms mr (jV N ms fb):=qhU T S a hl g r
end
end L2.D2
namespace L2.D2
open PySem
end L2.D2
namespace L2.D2
open PySem PySem.SetTable
end L2.D2
namespace L2.D2
open PySem PySem.Spec PyProof.Rows
def qlG (x y:Str):Prop:=(y.length == 0)=ir/\(hJ x y).1.length<=sizeLine/\(hJ x y).2.1.length<=sizeLine/\(hJ x y).2.2.length<=sizeLine
instance:∀ x y,Decidable (qlG x y):=λx y=>inferInstanceAs (Decidable (_/\_))
noncomputable def VT (fk fv:jl):jl:=λρ=>(fk ρ).bind λp=>(fv p.2).bind λq=>match zd p.1 with
 | some k=>.ok (.dct [(k,q.1)],q.2)
 | none=>.bad
section
variable {X:Cx} {C:Ct} {own:List Nat} {kx vx e:Expr} {fk fv fe:jl} {mk mv m:Mo} {pos:Pos}
theorem Rep.upO {K:Frag} {F H:Hp} {σ:St} {ρ:Sl} {p:Addr} {u:HO} (r:Rep K own F H σ ρ) (C:F p=im) (l:¬OA own σ p):Rep K own F (upd H p u) σ ρ where
 sub:=λb o e=>by
  by_cases z:b=p;·rw [z,C] at e; cases e
  ·unfold upd; rw [Ab z]; exact r.sub b o e
 len:=r.len
 val:=r.val
 ow:=λi d hi e=>by obtain ⟨a,h1,h2,g⟩:=r.ow i d hi e;have h:a≠p:=λz=>l ⟨i,hi,by rw [<-z]; exact h1⟩;exact ⟨a,h1,h2,g.grow (λ_ _ e=>e) λo e=>by unfold upd; rw [Ab h]; exact e⟩
 opn:=r.opn
 dis:=r.dis
theorem qdz (E:PE X kx (tE C own mk fk)) (x:PE X vx (tE C own mv fv)) (y:mv≠.any:=by decide):PE X (.Dict [ij kx] [vx] pos) (tE C own .fr (VT fk fv)):=by
 refine jN (qfo (qcE E (yh x y) qfn) rfl rfl 'g' 'g') λσ H Q ⟨F,ρ,B,h⟩ p hp=>?_;obtain ⟨i,O,I⟩:=Yv (u:=.dK []) B hp;have O:Chg (OA own σ) F H F (upd H p (.dK [])):=O.ofNo;have n:¬OA own σ p:=λz=>(B.OA_there z).1 hp;refine ⟨F,ρ,i,?_⟩;unfold VT at h;have fresh:∀ {F1 H1 a H2:Hp},Chg (OA own σ) F1 H1 a H2->F1 p=im->H1 p≠im->a p=none:=λ{F1 H1 a H2} c e1 K=>by
  cases q:a p with
  | none=>rfl
  | some o=>
   rcases c.new p (by rw [q]; simp) with z | z | z;·exact absurd e1 z
   ·exact absurd z K
   ·exact absurd z n
 cases m:fk ρ with
 | exc c o=>rw [m] at h; exact λF' H' A io U=>h F' H' A io (O.trans' U)
 | bad=>rw [m] at h; exact h.elim
 | ok D=>
  obtain ⟨d,ρ1⟩:=D;rw [m,Out.og] at h;intro v F1 H1 g f w;have p1:H1 p=ij (.dK []):=f.keep p _ qu n;have f1:=fresh f I (by rw [qu]; simp);refine ⟨F1,ρ1,g,?_⟩;cases l:fv ρ1 with
  | exc c o=>simp only [l] at h; exact λF' H' A io U=>h F' H' A io ((O.trans' f).trans' U)
  | bad=>simp only [l] at h; exact h.elim
  | ok s=>
   obtain ⟨e,ρ2⟩:=s;simp only [l,Out.og] at h;intro u a H2 r c2 t;have p2:H2 p=ij (.dK []):=c2.keep p _ p1 n;have f2:=fresh c2 f1 (by rw [p1]; simp);cases j:zd d with
   | none=>simp only [j] at h; exact h.elim
   | some k=>
    simp only [j] at h;have x:=qh4 w.top j;subst x;have L:Chg (OA own σ) F H a (upd H2 p (.dK [(k,u)])):=by
     have c:=(O.trans' f).trans' c2;refine ⟨λb o J nb=>?_,λb J=>?_,c.grow,c.new⟩
     ·have G:b≠p:=λz=>by rw [z,hp] at J; cases J
      unfold upd;rw [Ab G];exact c.keep b o J nb
     ·unfold upd;split;·simp
      ·exact c.stay b J
    exact ⟨p2,[(k,u)],rfl,by simp,h (.ref p) a _ (r.upO f2 n) L ⟨p,rfl,hp,f2,[(k,u)],qu,.cons t .nil⟩⟩
noncomputable def gF (kvs more:List (Key×D)):List (Key×D):=more.foldl (λacc kv=>zI acc kv.1 kv.2) kvs
theorem IsK.merge {K:Frag} {F:Hp}:∀ (mo:List (Key×V)) {more:List (Key×D)} {kv:List (Key×V)} {kvs:List (Key×D)},IsK K F mo more->IsK K F kv kvs->IsK K F (za kv mo) (gF kvs more)
 | [],_,_,_,a,h=>by cases a; exact h
 | (k,v)::mo,_,_,_,a,h=>by
  cases a with
  | cons b t=>have:=IsK.merge mo t (h.put (k:=k) b);exact this
noncomputable def qil (i:Nat) (fe:jl):jl:=λρ=>match (ρ[i]?:Option (Option D)) with
 | some (ij (.dct _))=>(fe ρ).bind λp=>match (p.2[i]?:Option (Option D)),p.1 with
  | some (ij (.dct kvs)),.dct more=>if kvs.length+more.length<=sizeLine then .ok (.non,p.2.set i (ij (.dct (gF kvs more)))) else .bad
  | _,_=>.bad
 | _=>.bad
theorem qf7:MtR X "dict.update" (λx vs H Q=>∃ a b kvs more,x=.ref a/\vs=[.ref b]/\a≠b/\H a=ij (.dK kvs)/\H b=ij (.dK more)/\kvs.length+more.length<=sizeLine/\Q .non (upd H a (.dK (za kvs more)))):=by
 intro pins s σ H x vs v us Q I r f h;obtain ⟨a,b,kvs,more,rfl,rfl,e,g,j,z,q⟩:=h;obtain rfl:v=bA a:=r;obtain ⟨u,rfl,B⟩:=f.one;obtain rfl:u=bA b:=B;obtain ⟨z1,hd,d,r1,d1⟩:=qcC I.hok g;obtain ⟨z2,hd2,c,r2,d2⟩:=qcC I.hok j;refine call_meetsIn PySem.F.slot_dict_update d1.typeIs PySem.F.entry_dict_update (PySem.F.args_dict_update_2 _ _) (meets_dict_update (qZ X.prog X.w) a b e hd2) ⟨d,c,d1,d2,by rw [<-r1.length,<-r2.length]; exact z,λh' e1 k A=>?_⟩;have i:∃ q,h'.get? a=ij q:=let ⟨q,_,_,hq,_⟩:=e1; ⟨q,hq⟩
 exact ⟨.non,_,Jy (t':=s.toks) I (by rw [g]; exact cU) A i (Yn (bY (wz more kvs) z) hd (r2.merge r1) e1),rfl,q⟩
theorem qim {i:Nat} {x:Str} {px apos cpos:Pos} (A:PE X e (tE C own .sh fe)) (B:X.N[i]?=ij x:=by rfl) (y:Vis X.env.scope x:=by exact bE rfl) (l:i∈own:=by decide)
  (hd:Dbg x:=by decide) (m:Cdk x:=by decide)
  (f:i7 (.Name x px) "update" X.env (eval (.Name x px) X.env)=eval (.Name x px) X.env:=by rfl)
  (w:((iS cpos (iA [e] X.env)).all (λx=>!x.1)&&(lq cpos (iZ [] X.env)).all (λx=>x.1.isSome)
   && decide ([e].length+([]:List i5).length+(if ([]:List i5).isEmpty then 0 else 1) < 30))=true:=by exact wC rfl)
  (b:(apos.endLine == cpos.line)=true:=by rfl) (s:iA [e] X.env=[(ir,eval e X.env)]:=by exact qT rfl) :
  PE X (.Call (.Attribute (.Name x px) "update" apos) [e] [] cpos) (tE C own .sh (qil i fe)):=by
 refine jN (XZ PySem.F.plainAttrs_dict PySem.F.slot_dict_update PySem.F.type_dict_update qf7 (yl B y hd m) (qY A jT s) f w b s rfl) λσ H Q ⟨F,ρ,p,h⟩=>?_;obtain ⟨t,hd0⟩:=p.opn i l;obtain ⟨a,h1,h2,E⟩:=p.ow i t l hd0;unfold qil at h;simp only [hd0] at h;cases t with
 | dct o=>
  obtain ⟨k,G,_⟩:=E;refine ⟨.ref a,h1,.inr (.inr (.inl ⟨rfl,.inl ⟨k,G⟩⟩)),F,ρ,p,Po.bind h λv F1 H1 d ρ1 r L c po=>?_⟩;have c:Is C.K F1 v d:=c;obtain ⟨d1,D⟩:=r.opn i l;obtain ⟨M,e1,I,o1⟩:=r.ow i d1 l D;rw [h1] at e1;cases e1;simp only [D] at po;cases d1 with
  | dct kvs=>
   cases d with
   | dct more=>
    have po:Po C own .sh σ F1 H1 (if kvs.length+more.length<=sizeLine then .ok (.non,ρ1.set i (ij (.dct (gF kvs more)))) else .bad) Q:=po;by_cases j:kvs.length+more.length<=sizeLine
    ·rw [Aa j] at po;obtain ⟨kv,ex,q⟩:=o1;cases c with
     | dct n g=>obtain ⟨r3,J⟩:=r.write (u:=.dK (za kv _)) (d:=.dct (gF kvs more)) l h1 ⟨_,qu,IsK.merge _ g q⟩;exact ⟨a,_,kv,_,rfl,rfl,(λz=>by rw [<-z,I] at n; cases n),ex,r.sub _ _ n,by rw [q.length,g.length]; exact j,po .non F1 _ r3 J .non⟩
    ·rw [Ab j] at po; exact po.elim
   | _=>exact po.elim
  | _=>exact po.elim
 | _=>exact h.elim
end
end L2.D2
set_option maxHeartbeats 4000000
namespace Kx
open PySem PySem.Spec PyProof.Rows L2 L2.D2
noncomputable def top (i:Nat):Stmt:=PySem.Challenge.pw_lookwords_k03_whole_telling.main.body.getD i (.Pass ⟨0,0,0,0⟩)
noncomputable def CS:List Str:=["NoWords", "NoLook", "NoNumbers", "NoRoom", "NoWord", "NoWorths", "Never", "Full", "Known"]
noncomputable def FS:List Str:=["bar", "is_bar", "is_telling", "worths"]
structure Zt (K:Frag) (mg:Str->Option iq) (cv:Str->iq) (ca:Str->Addr):Prop where
 xs:Xs K cv ca CS "WordError"
 mref:∀ c∈CS,mg c=ij (.ref (ca c))
 xin:∀ c∈CS,dO K (ca c) bmV "ValueError.__new__"=iu
 fref:∀ x∈FS,mg x=ij (.ref (ca x))
 m_WordError:mg "WordError"=ij (cv "WordError")
 z_ValueError:mg "ValueError"=im
 z_all:mg "all"=im
 z_bool:mg "bool"=im
 z_dict:mg "dict"=im
 z_enumerate:mg "enumerate"=im
 z_int:mg "int"=im
 z_isinstance:mg "isinstance"=im
 z_len:mg "len"=im
 z_list:mg "list"=im
 z_max:mg "max"=im
 z_min:mg "min"=im
 z_range:mg "range"=im
 z_reversed:mg "reversed"=im
 z_set:mg "set"=im
 z_sorted:mg "sorted"=im
 z_str:mg "str"=im
 z_tuple:mg "tuple"=im
 z_zip:mg "zip"=im
 c_LEAST_PLACE:∃ t,mg "LEAST_PLACE"=ij (.int (-3) t)
 c_MOST_LETTERS:∃ t,mg "MOST_LETTERS"=ij (.int 6 t)
 c_MOST_PLACE:∃ t,mg "MOST_PLACE"=ij (.int 2 t)
 c_MOST_ROOM:∃ t,mg "MOST_ROOM"=ij (.int 99 t)
 c_MOST_WALK:∃ t,mg "MOST_WALK"=ij (.int 40 t)
 c_MOST_WORDS:∃ t,mg "MOST_WORDS"=ij (.int 6 t)
 s_NoWorths:bM K (.ref (ca "NoWorths")) (.ref (ca "NoWorths"))=ij iu
theorem JR:iE "ValueError"=ij (.type "ValueError"):=by decide +kernel
theorem gG:iE "all"=ij (.builtin "all"):=by decide +kernel
theorem qf8:iE "bool"=ij (.type "bool"):=by decide +kernel
theorem Uu:iE "dict"=ij (.type "dict"):=by decide +kernel
theorem qin:iE "int"=ij (.type "int"):=by decide +kernel
theorem qx:iE "isinstance"=ij (.builtin "isinstance"):=by decide +kernel
theorem jH:iE "len"=ij (.builtin "len"):=by decide +kernel
theorem gH:iE "list"=ij (.type "list"):=by decide +kernel
theorem qio:iE "max"=ij (.builtin "max"):=by decide +kernel
theorem qip:iE "min"=ij (.builtin "min"):=by decide +kernel
theorem qdA:iE "range"=ij (.type "range"):=by decide +kernel
theorem Uv:iE "reversed"=ij (.type "reversed"):=by decide +kernel
theorem Xa:iE "set"=ij (.type "set"):=by decide +kernel
theorem uw:iE "sorted"=ij (.builtin "sorted"):=by decide +kernel
theorem qes:iE "str"=ij (.type "str"):=by decide +kernel
theorem ky:iE "tuple"=ij (.type "tuple"):=by decide +kernel
variable {ca:Str->Addr}
theorem rz {X:Cx} {C:Ct} {own own':List Nat} {as:List AK} {e:Expr} {es:List Expr} {fr:ww} {np cpos pos:Pos} (Z:Zt X.K X.mg C.cv ca) (c:Str) (g:PA X (e::es) (tAr C own as fr)) (h:c∈CS:=by decide +kernel) (b:X.ex=[]:=by rfl) (ht:YB X C:=by exact qh1 rfl) (P:X.calm=true:=by rfl) (hg:Gl X c:=by rfl) (hsz:as.length<=1000:=by decide) (o:∀ i∈C.ox,i∈own:=by exact kZ rfl) (hd:Dbg c:=by decide)
  (a:iA (e::es) X.env=(ir,eval e X.env)::iA es X.env:=by exact js rfl) (l:(iS cpos (iA es X.env)).any (·.1)=false:=by rfl):PS X (.Raise (ij (.Call (.Name c np) (e::es) [] cpos)) im pos) (tSt C own own' (kg c fr)):=
 qad b ht P hg (Z.mref c h) (Z.xs.val c h) (Z.xin c h) g hsz o hd a l
instance {α:Type}:Inhabited (Out α):=⟨.bad⟩
structure Ev where
 P:iF
 w:iG
 K:Frag
 mg:Str->Option iq
 base:Heap
 cv:Str->iq
abbrev qH (e0:Ev):=DefOk e0.P e0.w e0.K e0.mg e0.base e0.cv
abbrev qks (e0:Ev):=qj9 e0.P e0.w e0.K e0.mg e0.base e0.cv
abbrev kS (e0:Ev):=kq e0.K e0.mg
abbrev ZtE (e0:Ev) (ca:Str->Addr):=Zt e0.K e0.mg e0.cv ca
section
variable {e0:Ev}
abbrev ux:Stmt:=top 18
abbrev VU:List Str:=["thing", "least", "most"]
noncomputable def uy:qU:=(qG (sIf (dOr (yw (uh (d1 (wI "int") (qc 0)))) (uh (d1 (wI "bool") (qc 0)))) (jf (dC (.bl ir))) qO)
  (jf (wn leD leD (qc 1) (qc 0) (qc 2))))
noncomputable abbrev qS:jK:=jV VU [.val,.val,.val] (uy)
abbrev jS (e0:Ev):=qH e0 1 "is_between" ["thing", "least", "most"] [.val,.val,.val] .sh (qS)
theorem JS (Z:ZtE e0 ca) (T:kS e0 "is_between" ux ["thing", "least", "most"]):jS e0:=
 dW [] T λcdv f A outer s H E hr=>(qe (qN (PW.pt (va (ja (tv (wq rfl rfl Z.z_isinstance qx rfl Z.z_int qin vr))) (jv (tv (wq rfl rfl Z.z_isinstance qx rfl Z.z_bool qf8 vr))))) (qf (qm vt)) qC)
  (qf (qm (Yu zp zp vr vr vr))))
abbrev uz:Stmt:=top 29
abbrev VW:List Str:=["thing"]
noncomputable def vR:qU:=(sIf (yw (uh (qo [.vl,.vl,.vl] qS (qb (qc 0) (qb 'f' (qb (dC (.int 99)) qw)))))) (kg "NoRoom" (qb (dC (.str "a room is a whole number from 1 to 99")) qw)) qO)
noncomputable abbrev jB:jK:=jV VW [.val] (vR)
abbrev wJ (e0:Ev):=qH e0 2 "check_room" ["thing"] [.val] .sh (jB)
theorem JT (Z:ZtE e0 ca) (T:kS e0 "check_room" uz ["thing"]) (o:jS e0):wJ e0:=
 dW [] T λcdv f A outer s H E hr=>(qf (qN (ja (tv (cN o (qa vr (qa ql (qa (uZ Z.c_MOST_ROOM rfl) qd)))))) (qf (rz Z "NoRoom" (qa kB qd))) qC))
abbrev yB:Stmt:=top 19
abbrev Uw:List Str:=["thing"]
noncomputable def wK:qU:=(jf (Qu (d1 (wI "str") (qc 0)) (Qu (d2 eqD (d1 wb (qc 0)) 'f') (wn leD leD (dC (.str "a")) (qc 0) (dC (.str "z"))))))
noncomputable abbrev kK:jK:=jV Uw [.val] (wK)
abbrev vS (e0:Ev):=qH e0 1 "is_letter" ["thing"] [.val] .sh (kK)
theorem VX (Z:ZtE e0 ca) (T:kS e0 "is_letter" yB ["thing"]):vS e0:=
 dW [] T λcdv f A outer s H E hr=>(qf (qm (gb (wq rfl rfl Z.z_isinstance qx rfl Z.z_str qes vr) (gb (vp (wm rfl hr.units) 'l' ql) (QO (Yu zp zp kB vr kB))))))
abbrev xK:Stmt:=top 23
abbrev ZF:List Str:=["thing", "room"]
noncomputable def vn:qU:=(qG (sIf (dOr (yw (uh (d1 (wI "tuple") (qc 0)))) (qF (d2 neD (d1 wb (qc 0)) (dC (.int 2))))) (jf (dC (.bl ir))) qO)
  (jf (Qu (qo [.vl] kK (qb (d2 ixD (qc 0) 'i') qw)) (qo [.vl,.vl,.vl] qS (qb (d2 ixD (qc 0) 'f') (qb 'i' (qb (d2 yv (qc 1) 'f') qw)))))))
noncomputable abbrev ya:jK:=jV ZF [.val,.val] (vn)
abbrev gI (e0:Ev):=qH e0 2 "is_worth" ["thing", "room"] [.val,.val] .sh (ya)
theorem Ux (Z:ZtE e0 ca) (T:kS e0 "is_worth" xK ["thing", "room"]) (h:jS e0) (o:vS e0):gI e0:=
 dW [] T λcdv f A outer s H E hr=>(qe (qN (PW.pt (va (ja (tv (wq rfl rfl Z.z_isinstance qx rfl Z.z_tuple ky vr))) (jv (qD (yQ rfl hr.units) 'l' ql)))) (qf (qm vt)) qC)
  (qf (qm (gb (cN o (qa (ix vr ql) qd)) (QO (cN h (qa (ix vr ql) (qa ql (qa (qI vL vr ql) qd)))))))))
abbrev yC:Stmt:=top 24
abbrev Uy:List Str:=["thing", "room", "letters"]
noncomputable def yD:qU:=(qG (sIf (dOr (yw (uh (d1 (wI "tuple") (qc 0)))) (yw (uh (d1 Gb (jk [] 1 [1] (jR (qc 0)) (gNm 0) ftT (qo [.vl,.vl] ya (qb (qc 0) (qb (qc 1) qw)))))))) (jf (dC (.bl ir))) qO)
  (qG (jp 2 (jk [] 1 [] (jR (qc 0)) (gNm 0) ftT (d2 ixD (qc 0) 'i')))
  (jf (d2 eqD (qc 2) (d1 vQ (qc 2))))))
noncomputable abbrev kL:jK:=jV Uy [.val,.val] (yD)
abbrev zf (e0:Ev):=qH e0 3 "is_worths" ["thing", "room"] [.val,.val] .sh (kL)
theorem VY (Z:ZtE e0 ca) (T:kS e0 "is_worths" yC ["thing", "room"]) (O:gI e0):zf e0:=
 dW [] T λcdv f A outer s H E hr=>(qe (qN (PW.pt (va (ja (tv (wq rfl rfl Z.z_isinstance qx rfl Z.z_tuple ky vr))) (jv (ja (tv (qE (gj rfl rfl) rfl Z.z_all gG (cmp (qW rfl vr) (λ_ _ _ _=>(jq O hr 'd' uq rfl 'j'))))))))) (qf (qm vt)) qC)
  (qe (qik (qW rfl vr) (λ_ _ _ _=>(ix vr ql)))
  (vf [2] (qf (qm (vp (wm rfl hr.units) vr (xJ rfl rfl rfl Z.z_sorted uw rfl Z.z_set Xa vr)))))))
abbrev wc:Stmt:=top 30
abbrev QC:List Str:=["thing", "room"]
noncomputable def yo:qU:=(sIf (yw (uh (qo [.vl,.vl] kL (qb (qc 0) (qb (qc 1) qw))))) (kg "NoWorths" (qb (dC (.str "worths are a rising tuple of unlike letters, each with a number within the room")) qw)) qO)
noncomputable abbrev we:jK:=jV QC [.val,.val] (yo)
abbrev uA (e0:Ev):=qH e0 4 "check_worths" ["thing", "room"] [.val,.val] .sh (we)
theorem gJ (Z:ZtE e0 ca) (T:kS e0 "check_worths" wc ["thing", "room"]) (o:zf e0):uA e0:=
 dW [] T λcdv f A outer s H E hr=>(qf (qN (ja (tv (cN o 'j'))) (qf (rz Z "NoWorths" (qa kB qd))) qC))
abbrev gK:Stmt:=top 20
abbrev qaQ:List Str:=["thing"]
noncomputable def VZ:qU:=(qG (sIf (dOr (yw (uh (d1 (wI "str") (qc 0)))) (yw (qF (wn leD leD 'f' (d1 wb (qc 0)) (dC (.int 6)))))) (jf (dC (.bl ir))) qO)
  (jf (d1 Gb (jk [] 1 [] (jR (qc 0)) (gNm 0) ftT (qo [.vl] kK (qb (qc 0) qw))))))
noncomputable abbrev xh:jK:=jV qaQ [.val] (VZ)
abbrev Jb (e0:Ev):=qH e0 2 "is_word" ["thing"] [.val] .sh (xh)
theorem ZG (Z:ZtE e0 ca) (T:kS e0 "is_word" gK ["thing"]) (o:vS e0):Jb e0:=
 dW [] T λcdv f A outer s H E hr=>(qe (qN (PW.pt (va (ja (tv (wq rfl rfl Z.z_isinstance qx rfl Z.z_str qes vr))) (jv (ja (yR zp zp ql 'l' (uZ Z.c_MOST_LETTERS rfl)))))) (qf (qm vt)) qC)
  (qf (qm (qE (gj rfl rfl) rfl Z.z_all gG (cmp (qW rfl vr) (λ_ _ _ _=>(jq o hr 'd' uq rfl (qa vr qd))))))))
abbrev xL:Stmt:=top 21
abbrev ZH:List Str:=["thing"]
noncomputable def Jc:qU:=(qG (sIf (dOr (yw (uh (d1 (wI "tuple") (qc 0)))) (yw (qF (wn leD leD 'f' (d1 wb (qc 0)) (dC (.int 6)))))) (jf (dC (.bl ir))) qO)
  (jf (Qu (d1 Gb (jk [] 1 [] (jR (qc 0)) (gNm 0) ftT (qo [.vl] xh (qb (qc 0) qw)))) (d2 eqD (d1 gB (qc 0)) (d1 wb (qc 0))))))
noncomputable abbrev xM:jK:=jV ZH [.val] (Jc)
abbrev gL (e0:Ev):=qH e0 3 "is_words" ["thing"] [.val] .sh (xM)
theorem Uz (Z:ZtE e0 ca) (T:kS e0 "is_words" xL ["thing"]) (O:Jb e0):gL e0:=
 dW [] T λcdv f A outer s H E hr=>(qe (qN (PW.pt (va (ja (tv (wq rfl rfl Z.z_isinstance qx rfl Z.z_tuple ky vr))) (jv (ja (yR zp zp ql 'l' (uZ Z.c_MOST_WORDS rfl)))))) (qf (qm vt)) qC)
  (qf (qm (gb (qE (gj rfl rfl) rfl Z.z_all gG (cmp (qW rfl vr) (λ_ _ _ _=>(jq O hr 'd' uq rfl (qa vr qd))))) (QO (vp (wm rfl hr.units) (qax rfl rfl rfl Z.z_len jH rfl Z.z_set Xa vr) 'l'))))))
abbrev wL:Stmt:=top 27
abbrev JU:List Str:=["thing"]
noncomputable def xi:qU:=(sIf (yw (uh (qo [.vl] xM (qb (qc 0) qw)))) (kg "NoWords" (qb (dC (.str "words are a tuple of 1 to 6 unlike words of 1 to 6 letters from a to z")) qw)) qO)
noncomputable abbrev wM:jK:=jV JU [.val] (xi)
abbrev yp (e0:Ev):=qH e0 4 "check_words" ["thing"] [.val] .sh (wM)
theorem QD (Z:ZtE e0 ca) (T:kS e0 "check_words" wL ["thing"]) (O:gL e0):yp e0:=
 dW [] T λcdv f A outer s H E hr=>(qf (qN (ja (tv (cN O (qa vr qd)))) (qf (rz Z "NoWords" (qa kB qd))) qC))
abbrev gM:Stmt:=top 22
abbrev qaR:List Str:=["thing"]
noncomputable def Wa:qU:=(qG (sIf (dOr (yw (uh (d1 (wI "tuple") (qc 0)))) (qF (d2 neD (d1 wb (qc 0)) (dC (.int 2))))) (jf (dC (.bl ir))) qO)
  (jf (d1 Gb (jk [] 1 [] (jR (qc 0)) (gNm 0) ftT (qo [.vl,.vl,.vl] qS (qb (qc 0) (qb (dC (.int (-3))) (qb (dC (.int 2)) qw))))))))
noncomputable abbrev gN:jK:=jV qaR [.val] (Wa)
abbrev Jd (e0:Ev):=qH e0 2 "is_look" ["thing"] [.val] .sh (gN)
theorem ZI (Z:ZtE e0 ca) (T:kS e0 "is_look" gM ["thing"]) (o:jS e0):Jd e0:=
 dW [] T λcdv f A outer s H E hr=>(qe (qN (PW.pt (va (ja (tv (wq rfl rfl Z.z_isinstance qx rfl Z.z_tuple ky vr))) (jv (qD (yQ rfl hr.units) 'l' ql)))) (qf (qm vt)) qC)
  (qf (qm (qE (gj rfl rfl) rfl Z.z_all gG (cmp (qW rfl vr) (λ_ _ _ _=>(jq o hr 'd' uq rfl (qa vr (qa (uZ Z.c_LEAST_PLACE rfl) (qa (uZ Z.c_MOST_PLACE rfl) qd))))))))))
abbrev uB:Stmt:=top 28
abbrev Wb:List Str:=["thing"]
noncomputable def zg:qU:=(sIf (yw (uh (qo [.vl] gN (qb (qc 0) qw)))) (kg "NoLook" (qb (dC (.str "a look is a tuple of two places from -3 to 2")) qw)) qO)
noncomputable abbrev uC:jK:=jV Wb [.val] (zg)
abbrev xj (e0:Ev):=qH e0 3 "check_look" ["thing"] [.val] .sh (uC)
theorem JV (Z:ZtE e0 ca) (T:kS e0 "check_look" uB ["thing"]) (O:Jd e0):xj e0:=
 dW [] T λcdv f A outer s H E hr=>(qf (qN (ja (tv (cN O (qa vr qd)))) (qf (rz Z "NoLook" (qa kB qd))) qC))
abbrev yE:Stmt:=top 33
abbrev UA:List Str:=["word", "place", "at"]
noncomputable def yF:qU:=(qG (jp 2 (dIf (qF (d2 geD (qc 1) 'i')) (qc 1) (d2 jZ (d1 wb (qc 0)) (qc 1))))
  (jf (d2 ixD (qc 0) (d2 qjm 'i' (d2 qjn (qc 2) (d2 yv (d1 wb (qc 0)) 'f'))))))
noncomputable abbrev vE:jK:=jV UA [.val,.val] (yF)
abbrev zh (e0:Ev):=qH e0 1 "letter_at" ["word", "place"] [.val,.val] .sh (vE)
theorem Wc (Z:ZtE e0 ca) (T:kS e0 "letter_at" yE ["word", "place"]):zh e0:=
 dW [] T λcdv f A outer s H E hr=>(qe (se (Zf (qD qfu vr ql) vr (qI (jn rfl) 'l' vr)))
  (qf (qm (ix vr (Vy (qhW rfl) rfl Z.z_max qio ql (Vy (qhX rfl) rfl Z.z_min qip vr (qI vL 'l' ql)))))))
abbrev UB:Stmt:=top 34
abbrev qf9:List Str:=["words", "look"]
noncomputable def qaS:qU:=(qG (kP (qo [.vl] wM (qb (qc 0) qw)))
  (qG (kP (qo [.vl] uC (qb (qc 1) qw)))
  (jf (jk [] 1 [1] (jR (qc 0)) (gNm 0) ftT (vM (qb (qo [.vl,.vl] vE (qb (qc 0) (qb (d2 ixD (qc 1) 'i') qw))) (qb (qo [.vl,.vl] vE (qb (qc 0) (qb (d2 ixD (qc 1) 'f') qw))) qw)))))))
noncomputable abbrev uD:jK:=jV qf9 [.val,.val] (qaS)
abbrev zJ (e0:Ev):=qH e0 5 "pairs" ["words", "look"] [.val,.val] .sh (uD)
theorem qdB (Z:ZtE e0 ca) (T:kS e0 "pairs" UB ["words", "look"]) (a:yp e0) (b:xj e0) (o:zh e0):zJ e0:=
 dW [] T λcdv f A outer s H E hr=>(qe (jt (cN a (qa vr qd)))
  (qe (jt (cN b (qa vr qd)))
  (qf (qm (cmp (qW rfl vr) (λ_ _ _ _=>(jU (qa (jq o hr 'd' uq rfl (qa vr (qa (ix vr ql) qd))) (qa (jq o hr 'd' uq rfl (qa vr (qa (ix vr ql) qd))) qd)))))))))
abbrev uE:Stmt:=top 35
abbrev We:List Str:=["seen"]
noncomputable def zi:qU:=(jf (d1 vQ (d2 jZ (jk [] 1 [] (jR (qc 0)) (gNm 0) ftT (d2 ixD (qc 0) 'i')) (jk [] 1 [] (jR (qc 0)) (gNm 0) ftT (d2 ixD (qc 0) 'f')))))
noncomputable abbrev jP:jK:=jV We [.val] (zi)
abbrev wN (e0:Ev):=qH e0 1 "letters_of" ["seen"] [.val] .sh (jP)
theorem JW (Z:ZtE e0 ca) (T:kS e0 "letters_of" uE ["seen"]):wN e0:=
 dW [] T λcdv f A outer s H E hr=>(qf (qm (xJ rfl rfl rfl Z.z_sorted uw rfl Z.z_set Xa (qI (jn rfl) (cmp (qW rfl vr) (λ_ _ _ _=>(ix vr ql))) (cmp (qW rfl vr) (λ_ _ _ _=>(ix vr ql)))))))
abbrev JX:Stmt:=top 36
abbrev qdC:List Str:=["total", "room"]
noncomputable def Xb:qU:=(jf (dIf (qF (d2 geD (qc 0) (qc 1))) (d2 yv (qc 0) (qc 1)) (qc 0)))
noncomputable abbrev zK:jK:=jV qdC [.val,.val] (Xb)
abbrev Wf (e0:Ev):=qH e0 1 "within" ["total", "room"] [.val,.val] .sh (zK)
theorem qaT (Z:ZtE e0 ca) (T:kS e0 "within" JX ["total", "room"]):Wf e0:=
 dW [] T λcdv f A outer s H E hr=>(qf (qm (Zf (qD qfu vr vr) (qI vL vr vr) vr)))
abbrev uF:Stmt:=top 25
abbrev zj:List Str:=["thing", "count", "room"]
noncomputable def vU:qU:=(qG (sIf (dOr (yw (uh (d1 (wI "tuple") (qc 0)))) (qF (d2 neD (d1 wb (qc 0)) (qc 1)))) (jf (dC (.bl ir))) qO)
  (jf (d1 Gb (jk [] 1 [2] (jR (qc 0)) (gNm 0) ftT (qo [.vl,.vl,.vl] qS (qb (qc 0) (qb 'i' (qb (d2 yv (qc 1) 'f') qw))))))))
noncomputable abbrev jC:jK:=jV zj [.val,.val,.val] (vU)
abbrev xl (e0:Ev):=qH e0 2 "is_numbers" ["thing", "count", "room"] [.val,.val,.val] .sh (jC)
theorem JY (Z:ZtE e0 ca) (T:kS e0 "is_numbers" uF ["thing", "count", "room"]) (o:jS e0):xl e0:=
 dW [] T λcdv f A outer s H E hr=>(qe (qN (PW.pt (va (ja (tv (wq rfl rfl Z.z_isinstance qx rfl Z.z_tuple ky vr))) (jv (qD (yQ rfl hr.units) 'l' vr)))) (qf (qm vt)) qC)
  (qf (qm (qE (gj rfl rfl) rfl Z.z_all gG (cmp (qW rfl vr) (λ_ _ _ _=>(jq o hr 'd' uq rfl (qa vr (qa ql (qa (qI vL vr ql) qd))))))))))
abbrev vF:Stmt:=top 31
abbrev gO:List Str:=["thing", "count", "room"]
noncomputable def vG:qU:=(sIf (yw (uh (qo [.vl,.vl,.vl] jC (qb (qc 0) (qb (qc 1) (qb (qc 2) qw)))))) (kg "NoNumbers" (qb (dC (.str "numbers are a tuple of a number within the room for each word")) qw)) qO)
noncomputable abbrev jQ:jK:=jV gO [.val,.val,.val] (vG)
abbrev ue (e0:Ev):=qH e0 3 "check_numbers" ["thing", "count", "room"] [.val,.val,.val] .sh (jQ)
theorem zv (Z:ZtE e0 ca) (T:kS e0 "check_numbers" vF ["thing", "count", "room"]) (o:xl e0):ue e0:=
 dW [] T λcdv f A outer s H E hr=>(qf (qN (ja (tv (cN o (qa vr 'j')))) (qf (rz Z "NoNumbers" (qa kB qd))) qC))
abbrev uG:Stmt:=top 39
abbrev Wg:List Str:=["words", "look", "room", "numbers", "seen"]
noncomputable def vV:qU:=(qG (jp 4 (qo [.vl,.vl] uD (qb (qc 0) (qb (qc 1) qw))))
  (qG (kP (qo [.vl] jB (qb (qc 2) qw)))
  (qG (kP (qo [.vl,.vl,.vl] jQ (qb (qc 3) (qb (d1 wb (qc 0)) (qb (qc 2) qw)))))
  (jf (qc 4)))))
noncomputable abbrev jj:jK:=jV Wg [.val,.val,.val,.val] (vV)
abbrev vh (e0:Ev):=qH e0 6 "told_pairs" ["words", "look", "room", "numbers"] [.val,.val,.val,.val] .sh (jj)
theorem JZ (Z:ZtE e0 ca) (T:kS e0 "told_pairs" uG ["words", "look", "room", "numbers"]) (F:wJ e0) (o:ue e0) (M:zJ e0):vh e0:=
 dW [] T λcdv f A outer s H E hr=>(qe (se (cN M 'j'))
  (qe (jt (cN F (qa vr qd)))
  (qe (jt (cN o (qa vr (qa 'l' (qa vr qd)))))
  (qf (qm vr)))))
abbrev Ka:Stmt:=top 43
abbrev qdD:List Str:=["walk"]
noncomputable def Kb:qU:=(jf (d2 eqD (d2 wE (d1 wb (qc 0)) (dC (.int 2))) 'f'))
noncomputable abbrev wO:jK:=jV qdD [.val] (Kb)
abbrev xm (e0:Ev):=qH e0 1 "is_odd" ["walk"] [.val] .sh (wO)
theorem qaU (Z:ZtE e0 ca) (T:kS e0 "is_odd" Ka ["walk"]):xm e0:=
 dW [] T λcdv f A outer s H E hr=>(qf (qm (vp (wm rfl hr.units) (qI kj 'l' ql) ql)))
abbrev xN:Stmt:=top 42
abbrev Je:List Str:=["walk", "numbers", "start", "total", "at"]
noncomputable def Jf:qU:=(qG (jp 3 (qc 2))
  (qG (yL (jR (qc 0)) (gNm 4)
  (jp 3 (d2 yv (d2 ixD (qc 1) (qc 4)) (qc 3))))
  (jf (qc 3))))
noncomputable abbrev vo:jK:=jV Je [.val,.val,.val] (Jf)
abbrev wP (e0:Ev):=qH e0 1 "comes_to" ["walk", "numbers", "start"] [.val,.val,.val] .sh (vo)
theorem UC (Z:ZtE e0 ca) (T:kS e0 "comes_to" xN ["walk", "numbers", "start"]):wP e0:=
 dW [] T λcdv f A outer s H E hr=>(qe (se vr)
  (qe (jO aM rfl (qW rfl vr) gn
  (qf (se (qI vL (ix vr vr) vr))))
  (qf (qm vr))))
abbrev qaV:Stmt:=top 44
abbrev qiq:List Str:=["walk", "room", "numbers", "total"]
noncomputable def qaW:qU:=(qG (jp 3 (qo [.vl,.vl,.vl] vo (qb (qc 0) (qb (qc 2) (qb 'i' qw)))))
  (qG (sIf (uh (qo [.vl] wO (qb (qc 0) qw))) (jf (Qu (d2 eqD (d2 wE (qc 1) (dC (.int 2))) 'i') (d2 eqD (d2 wE (qc 3) (dC (.int 2))) 'f'))) qO)
  (jf (d2 neD (d2 wE (qc 3) (qc 1)) 'i'))))
noncomputable abbrev Wh:jK:=jV qiq [.val,.val,.val] (qaW)
abbrev UD (e0:Ev):=qH e0 2 "bars" ["walk", "room", "numbers"] [.val,.val,.val] .sh (Wh)
theorem qga (Z:ZtE e0 ca) (T:kS e0 "bars" qaV ["walk", "room", "numbers"]) (o:wP e0) (D:xm e0):UD e0:=
 dW [] T λcdv f A outer s H E hr=>(qe (se (cN o (qa vr (qa vr (qa ql qd)))))
  (qe (qN (tv (cN D (qa vr qd))) (qf (qm (gb (vp (wm rfl hr.units) (qI kj vr ql) ql) (QO (vp (wm rfl hr.units) (qI kj vr ql) ql))))) qC)
  (qf (qm (vp (yQ rfl hr.units) (qI kj vr vr) ql)))))
abbrev wf:Stmt:=top 40
abbrev QE:List Str:=["pair", "letter"]
noncomputable def yq:qU:=(jf (dIf (qF (d2 eqD (qc 1) (d2 ixD (qc 0) 'i'))) (d2 ixD (qc 0) 'f') (d2 ixD (qc 0) 'i')))
noncomputable abbrev jI:jK:=jV QE [.val,.val] (yq)
abbrev vH (e0:Ev):=qH e0 1 "other_letter" ["pair", "letter"] [.val,.val] .sh (jI)
theorem gP (Z:ZtE e0 ca) (T:kS e0 "other_letter" wf ["pair", "letter"]):vH e0:=
 dW [] T λcdv f A outer s H E hr=>(qf (qm (Zf (qD (wm rfl hr.units) vr (ix vr ql)) (ix vr ql) (ix vr ql))))
abbrev Kc:Stmt:=top 45
abbrev Xc:List Str:=["seen", "root", "ways", "waiting", "letter", "at", "pair", "reached"]
noncomputable def Xd:qU:=(qG (yA 2 (vM (qb (qc 1) (qb (wo qw) qw))) (qc 1))
  (qG (jp 3 (wo (qb (qc 1) qw)))
  (kC (qF (d2 gtD (d1 wb (qc 3)) 'i'))
  (qG (jp 4 (qaL 3))
  (yL (ZA (qc 0)) (jG 2 (qA (gNm 5) (qA (gNm 6) jF)))
  (qG (jp 7 (qo [.vl,.vl] jI (qb (qc 6) (qb (qc 4) qw))))
  (sIf (Ze (qF (d2 inA (qc 4) (qc 6))) (qF (d2 ui (qc 7) (qc 2)))) (qG (yA 2 (vM (qb (qc 1) (qb (d2 jZ (d2 ixD (d2O 2 ixD (qc 4)) 'f') (wo (qb (qc 5) qw))) qw))) (qc 7))
  (kP (JF 3 Qy (qc 7)))) qO)))) 20)))
noncomputable abbrev zL:jK:=jV Xc [.val,.val,.io] (Xd)
abbrev Wi (e0:Ev):=qH e0 2 "spread" ["seen", "root", "ways"] [.val,.val,.io] .sh (zL)
theorem qaX (Z:ZtE e0 ca) (T:kS e0 "spread" Kc ["seen", "root", "ways"]) (o:vH e0):Wi e0:=
 dW [3,2] T λcdv f A outer s H E hr=>(qe (xf (n:=2) hr.units rfl (bE rfl) 'd' (jU (qa vr (qa (jz qd) qd))) vr)
  (qe (sO (jz (qa vr qd)))
  (qf (GX 20 aM (qD qj5 (qE (jJ rfl) rfl Z.z_len jH vO) ql)
  (qe (se (qf4 (i:=3) rfl (bE rfl) 'd'))
  (qf (jO aM rfl (YZ rfl rfl Z.z_enumerate vr) (kY rfl rfl (qJ gn (qJ gn kf)))
  (qe (se (cN o 'j'))
  (qf (qN (PW.pt (zZ (qD (VD rfl hr.units) vr vr) (jv (qD (kr rfl hr.units) vr vO)))) (qe (xf (n:=2) hr.units rfl (bE rfl) 'd' (jU (qa vr (qa (qI (jn rfl) (ix (VR (i:=2) rfl hr.units rfl (bE rfl) 'd' vr (λ_ _=>rfl)) ql) (jz (qa vr qd))) qd))) vr)
  (qf (jt (wp (i:=3) rfl rfl (bE rfl) 'd' vr)))) qC))))))))))
abbrev gQ:Stmt:=top 46
abbrev Wj:List Str:=["seen", "ways", "letter"]
noncomputable def Wl:qU:=(qG (jp 1 (dC (.dct [])))
  (qG (yL (jR (qo [.vl] jP (qb (qc 0) qw))) (gNm 2)
  (sIf (qF (d2 ui (qc 2) (qc 1))) (kP (qo [.vl,.vl,.sl 1] zL (qb (qc 0) (qb (qc 2) (jW qw))))) qO))
  (jf (qc 1))))
noncomputable abbrev wu:jK:=jV Wj [.val] (Wl)
abbrev yb (e0:Ev):=qH e0 3 "ways_of" ["seen"] [.val] .sh (wu)
theorem ZJ (Z:ZtE e0 ca) (T:kS e0 "ways_of" gQ ["seen"]) (o:wN e0) (O:Wi e0):yb e0:=
 dW [] T λcdv f A outer s H E hr=>(qe (sO Jz)
  (qe (jO aM rfl (qW rfl (cN o (qa vr qd))) gn
  (qf (qN (qD (kr rfl hr.units) vr vO) (qf (jt (cN O (qa vr (qa vr (sl qd)))))) qC)))
  (vf [1] (qf (qm vr)))))
abbrev uH:Stmt:=top 47
abbrev zk:List Str:=["seen", "ways", "found", "at", "pair", "back"]
noncomputable def zl:qU:=(qG (jp 2 (wo qw))
  (qG (yL (ZA (qc 0)) (jG 2 (qA (gNm 3) (qA (gNm 4) jF)))
  (qG (jp 5 (d1 xg (d2 ixD (d2 ixD (qc 1) (d2 ixD (qc 4) 'f')) 'f')))
  (kP (JF 2 Qy (vM (qb (d2 ixD (d2 ixD (qc 1) (d2 ixD (qc 4) 'i')) 'i') (qb (d2 jZ (d2 jZ (d2 ixD (d2 ixD (qc 1) (d2 ixD (qc 4) 'i')) 'f') (wo (qb (qc 3) qw))) (qc 5)) qw)))))))
  (jf (qc 2))))
noncomputable abbrev vW:jK:=jV zk [.val,.val] (zl)
abbrev wQ (e0:Ev):=qH e0 1 "circles_of" ["seen", "ways"] [.val,.val] .sh (vW)
theorem Ke (Z:ZtE e0 ca) (T:kS e0 "circles_of" uH ["seen", "ways"]):wQ e0:=
 dW [] T λcdv f A outer s H E hr=>(qe (sO (jz qd))
  (qe (jO aM rfl (YZ rfl rfl Z.z_enumerate vr) (kY rfl rfl (qJ gn (qJ gn kf)))
  (qe (se (ZC rfl rfl rfl Z.z_list gH rfl Z.z_reversed Uv (ix (ix vr (ix vr ql)) ql)))
  (qf (jt (wp (i:=2) rfl rfl (bE rfl) 'd' (jU (qa (ix (ix vr (ix vr ql)) ql) (qa (qI (jn rfl) (qI (jn rfl) (ix (ix vr (ix vr ql)) ql) (jz (qa vr qd))) vr) qd))))))))
  (vf [2] (qf (qm vr)))))
abbrev yG:Stmt:=top 48
abbrev gR:List Str:=["circles", "first", "root", "walk"]
noncomputable def gS:qU:=(qG (jp 1 (dC (.dct [])))
  (qG (yL (jR (qc 0)) (jG 2 (qA (gNm 2) (qA (gNm 3) jF)))
  (sIf (Ze (uh (qo [.vl] wO (qb (qc 3) qw))) (qF (d2 ui (qc 2) (qc 1)))) (yA 1 (qc 3) (qc 2)) qO))
  (jf (qc 1))))
noncomputable abbrev wR:jK:=jV gR [.val] (gS)
abbrev uI (e0:Ev):=qH e0 2 "first_odd" ["circles"] [.val] .sh (wR)
theorem Wm (Z:ZtE e0 ca) (T:kS e0 "first_odd" yG ["circles"]) (D:xm e0):uI e0:=
 dW [] T λcdv f A outer s H E hr=>(qe (sO Jz)
  (qe (jO aM rfl (qW rfl vr) (kY rfl rfl (qJ gn (qJ gn kf)))
  (qf (qN (PW.pt (zZ (tv (cN D (qa vr qd))) (jv (qD (kr rfl hr.units) vr vO)))) (qf (xf (n:=1) hr.units rfl (bE rfl) 'd' vr vr)) qC)))
  (vf [1] (qf (qm vr)))))
abbrev Kf:Stmt:=top 49
abbrev Xe:List Str:=["seen", "room", "numbers", "circles", "first", "joined", "root", "walk"]
noncomputable def Xf:qU:=(qG (jp 3 (qo [.vl,.vl] vW (qb (qc 0) (qb (qo [.vl] wu (qb (qc 0) qw)) qw))))
  (qG (jp 4 (qo [.vl] wR (qb (qc 3) qw)))
  (qG (jp 5 (jk [] 2 [4] (jR (qc 3)) (jG 2 (qA (gNm 0) (qA (gNm 1) jF))) (uh (qo [.vl] wO (qb (qc 1) qw))) (vM (qb (qc 0) (qb (d2 jZ (d2 ixD (qc 2) (qc 0)) (qc 1)) qw)))))
  (qG (yL (jR (d2 jZ (qc 3) (qc 5))) (jG 2 (qA (gNm 6) (qA (gNm 7) jF)))
  (sIf (uh (qo [.vl,.vl,.vl] Wh (qb (qc 7) (qb (qc 1) (qb (qc 2) qw))))) (jf (vM (qb (qc 6) (qb (qc 7) qw)))) qO))
  (jf (dC .non))))))
noncomputable abbrev Kg:jK:=jV Xe [.val,.val,.val] (Xf)
abbrev Wn (e0:Ev):=qH e0 4 "bar_of" ["seen", "room", "numbers"] [.val,.val,.val] .sh (Kg)
theorem qaY (Z:ZtE e0 ca) (T:kS e0 "bar_of" Kf ["seen", "room", "numbers"]) (D:xm e0) (o:UD e0) (C:yb e0) (a:wQ e0) (K:uI e0):Wn e0:=
 dW [] T λcdv f A outer s H E hr=>(qe (se (cN a (qa vr (qa (cN C (qa vr qd)) qd))))
  (qe (se (cN K (qa vr qd)))
  (qe (qik (qW rfl vr) (λ_ _ _ _=>(jU (qa vr (qa (qI (jn rfl) (ix vr vr) vr) qd)))) (hg:=λ_ _ _ _=>(kY rfl rfl (qJ gC (qJ gC kf)))) (ht:=λ_ _ _ _=>(GY (tv (jq D hr 'd' uq rfl (qa vr qd))))))
  (qe (jO aM rfl (qW rfl (qI (jn rfl) vr vO)) (kY rfl rfl (qJ gn (qJ gn kf)))
  (qf (qN (tv (cN o (qa vr 'j'))) (qf (qm (jU 'j'))) qC)))
  (qf (qm vw))))))
abbrev qgb:Stmt:=top 50
abbrev qkt:List Str:=["words", "look", "room", "numbers"]
noncomputable def qgc:qU:=(jf (qo [.vl,.vl,.vl] Kg (qb (qo [.vl,.vl,.vl,.vl] jj (qb (qc 0) (qb (qc 1) (qb (qc 2) (qb (qc 3) qw))))) (qb (qc 2) (qb (qc 3) qw)))))
noncomputable abbrev gT:jK:=jV qkt [.val,.val,.val,.val] (qgc)
abbrev qaZ (e0:Ev):=qH e0 7 "bar" ["words", "look", "room", "numbers"] [.val,.val,.val,.val] .sh (gT)
theorem qir (Z:ZtE e0 ca) (T:kS e0 "bar" qgb ["words", "look", "room", "numbers"]) (o:vh e0) (O:Wn e0):qaZ e0:=
 dW [] T λcdv f A outer s H E hr=>(qf (qm (cN O (qa (cN o (qa vr (qa vr 'j'))) 'j'))))
abbrev qa0:Stmt:=top 51
abbrev qis:List Str:=["total", "room", "rest"]
noncomputable def qet:qU:=(qG (jp 2 (d2 wE (qc 0) (qc 1)))
  (jf (dIf (qF (d2 eqD (d2 wE (qc 2) (dC (.int 2))) 'i')) (d2 Zb (qc 2) (dC (.int 2))) (d2 Zb (d2 jZ (qc 2) (qc 1)) (dC (.int 2))))))
noncomputable abbrev qa1:jK:=jV qis [.val,.val] (qet)
abbrev qa2 (e0:Ev):=qH e0 1 "half" ["total", "room"] [.val,.val] .sh (qa1)
theorem qgd (Z:ZtE e0 ca) (T:kS e0 "half" qa0 ["total", "room"]):qa2 e0:=
 dW [] T λcdv f A outer s H E hr=>(qe (se (qI kj vr vr))
  (qf (qm (Zf (qD (wm rfl hr.units) (qI kj vr ql) ql) (qI Uc vr ql) (qI Uc (qI (jn rfl) vr vr) ql)))))
abbrev wS:Stmt:=top 52
abbrev Kh:List Str:=["walk", "room", "numbers", "worth"]
noncomputable def vi:qU:=(qG (sIf (qF (d2 eqD (d1 wb (qc 0)) 'i')) (jf (d1 xc (qc 1))) qO)
  (qG (jp 3 (qo [.vl,.vl] qa1 (qb (qo [.vl,.vl,.vl] vo (qb (qc 0) (qb (qc 2) (qb 'i' qw)))) (qb (qc 1) qw))))
  (jf (dIf (qF (d2 eqD (d2 wE (qc 1) (dC (.int 2))) 'i')) (wo (qb (qc 3) (qb (d2 jZ (qc 3) (d2 Zb (qc 1) (dC (.int 2)))) qw))) (wo (qb (qc 3) qw))))))
noncomputable abbrev vj:jK:=jV Kh [.val,.val,.val] (vi)
abbrev yr (e0:Ev):=qH e0 2 "root_worths" ["walk", "room", "numbers"] [.val,.val,.val] .sh (vj)
theorem QF (Z:ZtE e0 ca) (T:kS e0 "root_worths" wS ["walk", "room", "numbers"]) (o:wP e0) (O:qa2 e0):yr e0:=
 dW [] T λcdv f A outer s H E hr=>(qe (qN (qD (wm rfl hr.units) 'l' ql) (qf (qm (Zz rfl rfl Z.z_list gH rfl Z.z_range qdA vr))) qC)
  (qe (se (cN O (qa (cN o (qa vr (qa vr (qa ql qd)))) (qa vr qd))))
  (qf (qm (Zf (qD (wm rfl hr.units) (qI kj vr ql) ql) (jz (qa vr (qa (qI (jn rfl) vr (qI Uc vr ql)) qd))) (jz (qa vr qd)))))))
abbrev xO:Stmt:=top 53
abbrev Jg:List Str:=["seen", "room", "numbers", "ways", "first", "roots"]
noncomputable def Jh:qU:=(qG (jp 3 (qo [.vl] wu (qb (qc 0) qw)))
  (qG (jp 4 (qo [.vl] wR (qb (qo [.vl,.vl] vW (qb (qc 0) (qb (qc 3) qw))) qw)))
  (qG (jp 5 (jk [] 1 [3] (jR (d1 kw (qc 3))) (gNm 0) (qF (d2 eqD (d2 ixD (d2 ixD (qc 1) (qc 0)) 'i') (qc 0))) (qc 0)))
  (jf (jk [] 1 [1,2,4] (jR (qc 5)) (gNm 0) ftT (vM (qb (qc 0) (qb (qo [.vl,.vl,.vl] vj (qb (qdu (qc 3) (qc 0) (wo qw)) (qb (qc 1) (qb (qc 2) qw)))) qw))))))))
noncomputable abbrev yc:jK:=jV Jg [.val,.val,.val] (Jh)
abbrev gU (e0:Ev):=qH e0 4 "roots_of" ["seen", "room", "numbers"] [.val,.val,.val] .sh (yc)
theorem UE (Z:ZtE e0 ca) (T:kS e0 "roots_of" xO ["seen", "room", "numbers"]) (C:yb e0) (a:wQ e0) (K:uI e0) (o:yr e0):gU e0:=
 dW [] T λcdv f A outer s H E hr=>(qe (se (cN C (qa vr qd)))
  (qe (se (cN K (qa (cN a 'j') qd)))
  (qe (qik (qW rfl (qE (Ja rfl) rfl Z.z_sorted uw vr)) (λ_ _ _ _=>vr) (ht:=λ_ _ _ _=>(GY (qD (wm rfl hr.units) (ix (ix vr vr) ql) vr))))
  (vf [5] (qf (qm (cmp (qW rfl vr) (λ_ _ _ _=>(jU (qa vr (qa (jq o hr 'd' uq rfl (qa (qf5 hr.units vr vr (jz qd)) 'j')) qd)))))))))))
abbrev wT:Stmt:=top 54
abbrev xn:List Str:=["seen", "room", "numbers", "starts", "ways", "found", "letter", "start"]
noncomputable def xo:qU:=(qG (jp 4 (qo [.vl] wu (qb (qc 0) qw)))
  (qG (jp 5 (wo qw))
  (qG (yL (jR (d1 kw (qc 4))) (gNm 6)
  (qG (jp 7 (d2 ixD (qc 3) (d2 ixD (d2 ixD (qc 4) (qc 6)) 'i')))
  (kP (JF 5 Qy (vM (qb (qc 6) (qb (d2 wE (qo [.vl,.vl,.vl] vo (qb (d2 ixD (d2 ixD (qc 4) (qc 6)) 'f') (qb (qc 2) (qb (qc 7) qw)))) (qc 1)) qw)))))))
  (jf (d1 yY (qc 5))))))
noncomputable abbrev wU:jK:=jV xn [.val,.val,.val,.val] (xo)
abbrev yt (e0:Ev):=qH e0 4 "worths_from" ["seen", "room", "numbers", "starts"] [.val,.val,.val,.val] .sh (wU)
theorem QG (Z:ZtE e0 ca) (T:kS e0 "worths_from" wT ["seen", "room", "numbers", "starts"]) (o:wP e0) (C:yb e0):yt e0:=
 dW [] T λcdv f A outer s H E hr=>(qe (se (cN C (qa vr qd)))
  (qe (sO (jz qd))
  (qe (jO aM rfl (qW rfl (qE (Ja rfl) rfl Z.z_sorted uw vr)) gn
  (qe (se (ix vr (ix (ix vr vr) ql)))
  (qf (jt (wp (i:=5) rfl rfl (bE rfl) 'd' (jU (qa vr (qa (qI kj (cN o (qa (ix (ix vr vr) ql) 'j')) vr) qd))))))))
  (qf (qm (kQ (zH rfl) rfl Z.z_tuple ky vO))))))
abbrev Ki:Stmt:=top 55
abbrev qdE:List Str:=["words", "look", "room", "numbers", "seen", "starts"]
noncomputable def zM:qU:=(qG (sIf (qF (d2 Ue (qo [.vl,.vl,.vl,.vl] gT (qb (qc 0) (qb (qc 1) (qb (qc 2) (qb (qc 3) qw))))) (dC .non))) (kg "Never" (qb (dC (.str "no worths give the words these numbers")) qw)) qO)
  (qG (jp 4 (qo [.vl,.vl] uD (qb (qc 0) (qb (qc 1) qw))))
  (qG (jp 5 (d1 VS (jk [] 2 [] (jR (qo [.vl,.vl,.vl] yc (qb (qc 4) (qb (qc 2) (qb (qc 3) qw))))) (jG 2 (qA (gNm 0) (qA (gNm 1) jF))) ftT (vM (qb (qc 0) (qb (d2 ixD (qc 1) 'i') qw))))))
  (jf (qo [.vl,.vl,.vl,.vl] wU (qb (qc 4) (qb (qc 2) (qb (qc 3) (qb (qc 5) qw)))))))))
noncomputable abbrev wV:jK:=jV qdE [.val,.val,.val,.val] (zM)
abbrev Wo (e0:Ev):=qH e0 8 "worths" ["words", "look", "room", "numbers"] [.val,.val,.val,.val] .sh (wV)
theorem qa3 (Z:ZtE e0 ca) (T:kS e0 "worths" Ki ["words", "look", "room", "numbers"]) (M:zJ e0) (b:qaZ e0) (a:gU e0) (o:yt e0):Wo e0:=
 dW [] T λcdv f A outer s H E hr=>(qe (qN (qD GQ (cN b (qa vr (qa vr 'j'))) vw) (qf (rz Z "Never" (qa kB qd))) qC)
  (qe (se (cN M 'j'))
  (qe (se (kQ (YX rfl rfl) rfl Z.z_dict Uu (cmp (qW rfl (cN a (qa vr 'j'))) (λ_ _ _ _=>(jU (qa vr (qa (ix vr ql) qd)))) (hg:=λ_ _ _ _=>(kY rfl rfl (qJ gC (qJ gC kf)))))))
  (qf (qm (cN o (qa vr (qa vr 'j'))))))))
abbrev xP:Stmt:=top 37
abbrev ZK:List Str:=["words", "look", "room", "worths", "seen", "worth_of"]
noncomputable def xQ:qU:=(qG (jp 4 (qo [.vl,.vl] uD (qb (qc 0) (qb (qc 1) qw))))
  (qG (kP (qo [.vl] jB (qb (qc 2) qw)))
  (qG (kP (qo [.vl,.vl] we (qb (qc 3) (qb (qc 2) qw))))
  (qG (jp 5 (d1 qde (qc 3)))
  (qG (sIf (yw (uh (d1 Gb (jk [] 1 [5] (jR (qo [.vl] jP (qb (qc 4) qw))) (gNm 0) ftT (d2 inA (qc 0) (qc 1)))))) (kg "NoWorths" (qb (dC (.str "a letter that is seen has no worth")) qw)) qO)
  (jf (d1 yY (jk [] 1 [2,5] (jR (qc 4)) (gNm 0) ftT (qo [.vl,.vl] zK (qb (d2 jZ (d2 ixD (qc 2) (d2 ixD (qc 0) 'i')) (d2 ixD (qc 2) (d2 ixD (qc 0) 'f'))) (qb (qc 1) qw)))))))))))
noncomputable abbrev kM:jK:=jV ZK [.val,.val,.val,.val] (xQ)
abbrev yH (e0:Ev):=qH e0 6 "numbered" ["words", "look", "room", "worths"] [.val,.val,.val,.val] .sh (kM)
theorem UF (Z:ZtE e0 ca) (T:kS e0 "numbered" xP ["words", "look", "room", "worths"]) (F:wJ e0) (o:uA e0) (M:zJ e0) (a:wN e0) (O:Wf e0):yH e0:=
 dW [] T λcdv f A outer s H E hr=>(qe (se (cN M 'j'))
  (qe (jt (cN F (qa vr qd)))
  (qe (jt (cN o 'j'))
  (qe (se (kQ (qfP rfl rfl) rfl Z.z_dict Uu vr))
  (qe (qN (ja (tv (qE (gj rfl rfl) rfl Z.z_all gG (cmp (qW rfl (cN a (qa vr qd))) (λ_ _ _ _=>(vp (VD rfl hr.units) vr vr)))))) (qf (rz Z "NoWorths" (qa kB qd))) qC)
  (qf (qm (kQ (zH rfl) rfl Z.z_tuple ky (cmp (qW rfl vr) (λ_ _ _ _=>(jq O hr 'd' uq rfl (qa (qI (jn rfl) (ix vr (ix vr ql)) (ix vr (ix vr ql))) (qa vr qd)))))))))))))
abbrev uJ:Stmt:=top 56
abbrev Wp:List Str:=["words", "look", "room", "numbers", "thing", "given"]
noncomputable def uK (ca:Str->Addr):qU:=(qG (kP (qo [.vl,.vl,.vl,.vl] jj (qb (qc 0) (qb (qc 1) (qb (qc 2) (qb (qc 3) qw))))))
  (qG (WP 6 im (Gc ca ["NoWorths"]) (jp 5 (qo [.vl,.vl,.vl,.vl] kM (qb (qc 0) (qb (qc 1) (qb (qc 2) (qb (qc 4) qw)))))) (jf (dC (.bl ir))))
  (jf (d2 eqD (qc 5) (qc 3)))))
noncomputable abbrev jD (ca:Str->Addr):jK:=jV Wp [.val,.val,.val,.val,.val] (uK ca)
abbrev wW (ca:Str->Addr) (e0:Ev):=qH e0 7 "is_telling" ["words", "look", "room", "numbers", "thing"] [.val,.val,.val,.val,.val] .sh (jD ca)
theorem Kj (Z:ZtE e0 ca) (T:kS e0 "is_telling" uJ ["words", "look", "room", "numbers", "thing"]) (N:yH e0) (o:vh e0):wW ca e0:=
 dW [] T λcdv f A outer s H E hr=>(qe (jt (cN o (qa vr (qa vr 'j'))))
  (qe (qcW (own2:=[]) (n:=6) rfl rfl rfl rfl (Z.mref "NoWorths" 'a') (qlF (Z.xs.val "NoWorths" 'a') Z.s_NoWorths) rfl (λpn xe E hx=>(qf (se (jq N hr 'd' hx rfl (qa vr (qa vr 'j')))))) (λe=>(qf (qm vt))))
  (qf (qm (vp (wm rfl hr.units) vr vr)))))
abbrev gW:Stmt:=top 26
abbrev Wq:List Str:=["thing", "count"]
noncomputable def Wr:qU:=(qG (sIf (dOr (yw (uh (d1 (wI "list") (qc 0)))) (yw (qF (wn leD leD 'f' (d1 wb (qc 0)) (dC (.int 40)))))) (jf (dC (.bl ir))) qO)
  (jf (d1 Gb (jk [] 1 [1] (jR (qc 0)) (gNm 0) ftT (qo [.vl,.vl,.vl] qS (qb (qc 0) (qb 'i' (qb (d2 yv (qc 1) 'f') qw))))))))
noncomputable abbrev gX:jK:=jV Wq [.val,.val] (Wr)
abbrev Ji (e0:Ev):=qH e0 2 "is_walk" ["thing", "count"] [.val,.val] .sh (gX)
theorem ZL (Z:ZtE e0 ca) (T:kS e0 "is_walk" gW ["thing", "count"]) (o:jS e0):Ji e0:=
 dW [] T λcdv f A outer s H E hr=>(qe (qN (PW.pt (va (ja (tv (wq rfl rfl Z.z_isinstance qx rfl Z.z_list gH vr))) (jv (ja (yR zp zp ql 'l' (uZ Z.c_MOST_WALK rfl)))))) (qf (qm vt)) qC)
  (qf (qm (qE (gj rfl rfl) rfl Z.z_all gG (cmp (qW rfl vr) (λ_ _ _ _=>(jq o hr 'd' uq rfl (qa vr (qa ql (qa (qI vL vr ql) qd))))))))))
abbrev Kk:Stmt:=top 41
abbrev Xg:List Str:=["seen", "letter", "walk", "here", "at"]
noncomputable def Xh:qU:=(qG (jp 3 (qc 1))
  (qG (yL (jR (qc 2)) (gNm 4)
  (qG (sIf (qF (d2 ui (qc 3) (d2 ixD (qc 0) (qc 4)))) (jf (dC .non)) qO)
  (jp 3 (qo [.vl,.vl] jI (qb (d2 ixD (qc 0) (qc 4)) (qb (qc 3) qw))))))
  (jf (qc 3))))
noncomputable abbrev Kl:jK:=jV Xg [.val,.val,.val] (Xh)
abbrev Ws (e0:Ev):=qH e0 2 "end_of" ["seen", "letter", "walk"] [.val,.val,.val] .sh (Kl)
theorem qa4 (Z:ZtE e0 ca) (T:kS e0 "end_of" Kk ["seen", "letter", "walk"]) (o:vH e0):Ws e0:=
 dW [] T λcdv f A outer s H E hr=>(qe (se vr)
  (qe (jO aM rfl (qW rfl vr) gn
  (qe (qN (qD (kr rfl hr.units) vr (ix vr vr)) (qf (qm vw)) qC)
  (qf (se (cN o (qa (ix vr vr) (qa vr qd)))))))
  (qf (qm vr))))
abbrev Km:Stmt:=top 57
abbrev qdF:List Str:=["words", "look", "room", "numbers", "thing", "seen", "letter", "walk"]
noncomputable def Kn:qU:=(qG (jp 5 (qo [.vl,.vl,.vl,.vl] jj (qb (qc 0) (qb (qc 1) (qb (qc 2) (qb (qc 3) qw))))))
  (qG (sIf (dOr (yw (uh (d1 (wI "tuple") (qc 4)))) (qF (d2 neD (d1 wb (qc 4)) (dC (.int 2))))) (jf (dC (.bl ir))) qO)
  (qG (jp 6 (d2 ixD (qc 4) 'i'))
  (qG (jp 7 (d2 ixD (qc 4) 'f'))
  (qG (sIf (dOr (yw (uh (qo [.vl] kK (qb (qc 6) qw)))) (yw (uh (qo [.vl,.vl] gX (qb (qc 7) (qb (d1 wb (qc 5)) qw)))))) (jf (dC (.bl ir))) qO)
  (jf (Qu (d2 eqD (qo [.vl,.vl,.vl] Kl (qb (qc 5) (qb (qc 6) (qb (qc 7) qw)))) (qc 6)) (qo [.vl,.vl,.vl] Wh (qb (qc 7) (qb (qc 2) (qb (qc 3) qw)))))))))))
noncomputable abbrev vX:jK:=jV qdF [.val,.val,.val,.val,.val] (Kn)
abbrev gY (e0:Ev):=qH e0 7 "is_bar" ["words", "look", "room", "numbers", "thing"] [.val,.val,.val,.val,.val] .sh (vX)
theorem qa5 (Z:ZtE e0 ca) (T:kS e0 "is_bar" Km ["words", "look", "room", "numbers", "thing"]) (o:vS e0) (g:Ji e0) (m:vh e0) (O:Ws e0) (Y:UD e0):gY e0:=
 dW [] T λcdv f A outer s H E hr=>(qe (se (cN m (qa vr (qa vr 'j'))))
  (qe (qN (PW.pt (va (ja (tv (wq rfl rfl Z.z_isinstance qx rfl Z.z_tuple ky vr))) (jv (qD (yQ rfl hr.units) 'l' ql)))) (qf (qm vt)) qC)
  (qe (se (ix vr ql))
  (qe (se (ix vr ql))
  (qe (qN (PW.pt (va (ja (tv (cN o (qa vr qd)))) (jv (ja (tv (cN g (qa vr (qa 'l' qd)))))))) (qf (qm vt)) qC)
  (qf (qm (gb (vp (wm rfl hr.units) (cN O (qa vr 'j')) vr) (QO (cN Y (qa vr 'j')))))))))))
abbrev xR:Stmt:=top 59
abbrev ZM:List Str:=["_law_script", "_law_k"]
noncomputable def yd:qU:=(qG (sIf (qF (d2 ltD (qc 1) (d1 wb (qc 0)))) (jf (d2 ixD (qc 0) (qc 1))) qO)
  (qG (sIf (qF (d2 eqD (qc 0) (wo qw))) (jf 'i') qO)
  (jf (d2 jZ (d2 qeg (d2 ixD (qc 0) (d2 wE (qc 1) (d1 wb (qc 0)))) (dC (.int 31))) (qc 1)))))
noncomputable abbrev xS:jK:=jV ZM [.val,.val] (yd)
abbrev gZ (e0:Ev):=qH e0 1 "_law_cell_at" ["_law_script", "_law_k"] [.val,.val] .sh (xS)
theorem UG (Z:ZtE e0 ca) (T:kS e0 "_law_cell_at" xR ["_law_script", "_law_k"]):gZ e0:=
 dW [] T λcdv f A outer s H E hr=>(qe (qN (qD qhE vr 'l') (qf (qm (ix vr vr))) qC)
  (qe (qN (qD (wm rfl hr.units) vr (jz qd)) (qf (qm ql)) qC)
  (qf (qm (qI (jn rfl) (qI Vo (ix vr (qI kj vr 'l')) ql) vr)))))
abbrev Ko:Stmt:=top 60
abbrev qdG:List Str:=["_law_script", "_law_k", "_law_many", "_law_drawn"]
noncomputable def Xi:qU:=(qG (jp 3 (d2 wE (d2 qeg (d2 jZ (d2 jZ (qo [.vl,.vl] xS (qb (qc 0) (qb (qc 1) qw))) (d2 qeg (dC (.int 7919)) (qc 1))) 'f') (dC (.int 48271))) (dC (.int 2147483647))))
  (jf (d2 wE (d2 wE (d2 jZ (d2 jZ (d2 qeg (qc 3) (qc 3)) (d2 qeg (dC (.int 7)) (qc 3))) (qc 1)) (dC (.int 2147483629))) (qc 2))))
noncomputable abbrev Kp:jK:=jV qdG [.val,.val,.val] (Xi)
abbrev Wt (e0:Ev):=qH e0 2 "_law_mixed" ["_law_script", "_law_k", "_law_many"] [.val,.val,.val] .sh (Kp)
theorem qa6 (Z:ZtE e0 ca) (T:kS e0 "_law_mixed" Ko ["_law_script", "_law_k", "_law_many"]) (O:gZ e0):Wt e0:=
 dW [] T λcdv f A outer s H E hr=>(qe (se (qI kj (qI Vo (qI (jn rfl) (qI (jn rfl) (cN O 'j') (qI Vo ql vr)) ql) ql) ql))
  (qf (qm (qI kj (qI kj (qI (jn rfl) (qI (jn rfl) (qI Vo vr vr) (qI Vo ql vr)) vr) ql) vr))))
abbrev UH:Stmt:=top 61
abbrev qge:List Str:=["_law_script", "_law_town", "_law_many"]
noncomputable def qa7:qU:=(qG (kP (JF 1 Qy 'i'))
  (jf (qo [.vl,.vl,.vl] Kp (qb (qc 0) (qb (d1 wb (qc 1)) (qb (qc 2) qw))))))
noncomputable abbrev jE:jK:=jV qge [.val,.io,.val] (qa7)
abbrev ye (e0:Ev):=qH e0 3 "_law_draw" ["_law_script", "_law_town", "_law_many"] [.val,.io,.val] .sh (jE)
theorem qdH (Z:ZtE e0 ca) (T:kS e0 "_law_draw" UH ["_law_script", "_law_town", "_law_many"]) (O:Wt e0):ye e0:=
 dW [1] T λcdv f A outer s H E hr=>(qe (jt (wp (i:=1) rfl rfl (bE rfl) 'd' ql))
  (qf (qm (cN O (qa vr (qa (qE (jJ rfl) rfl Z.z_len jH vO) (qa vr qd)))))))
abbrev UI:Stmt:=top 62
abbrev qgf:List Str:=["_law_script", "_law_town", "_law_some"]
noncomputable def qa8:qU:=(jf (d2 ixD (qc 2) (qo [.vl,.sl 1,.vl] jE (qb (qc 0) (jW (qb (d1 wb (qc 2)) qw))))))
noncomputable abbrev uL:jK:=jV qgf [.val,.io,.val] (qa8)
abbrev zN (e0:Ev):=qH e0 4 "_law_pick" ["_law_script", "_law_town", "_law_some"] [.val,.io,.val] .sh (uL)
theorem qdI (Z:ZtE e0 ca) (T:kS e0 "_law_pick" UI ["_law_script", "_law_town", "_law_some"]) (o:ye e0):zN e0:=
 dW [1] T λcdv f A outer s H E hr=>(qf (qm (ix vr (cN o (qa vr (sl (qa 'l' qd)))))))
abbrev UJ:Stmt:=top 63
abbrev qgg:List Str:=["_law_script", "_law_town", "_law_few", "_law_word_here", "_law_k"]
noncomputable def qa9:qU:=(qG (jp 3 (dC (.str "")))
  (qG (yL (jo (d2 jZ 'f' (qo [.vl,.sl 1,.vl] jE (qb (qc 0) (jW (qb (qo [.vl,.sl 1,.vl] uL (qb (qc 0) (jW (qb (wo (qb (dC (.int 2)) (qb (dC (.int 3)) (qb (dC (.int 6)) qw)))) qw)))) qw)))))) (gNm 4)
  (jp 3 (d2 jZ (qc 3) (d2 ixD (dC (.str "abcdefghijklmnopqrstuvwxyz")) (qo [.vl,.sl 1,.vl] jE (qb (qc 0) (jW (qb (qc 2) qw))))))))
  (jf (qc 3))))
noncomputable abbrev Kq:jK:=jV qgg [.val,.io,.val] (qa9)
abbrev Xj (e0:Ev):=qH e0 5 "_law_word" ["_law_script", "_law_town", "_law_few"] [.val,.io,.val] .sh (Kq)
theorem qdJ (Z:ZtE e0 ca) (T:kS e0 "_law_word" UJ ["_law_script", "_law_town", "_law_few"]) (o:ye e0) (z:zN e0):Xj e0:=
 dW [1] T λcdv f A outer s H E hr=>(qe (se kB)
  (qe (jO aM rfl (kI rfl Z.z_range (qI (jn rfl) ql (cN o (qa vr (sl (qa (cN z (qa vr (sl (qa (jz (qa ql (qa ql (qa ql qd)))) qd)))) qd)))))) gn
  (qf (se (qI (jn rfl) vr (ix kB (cN o (qa vr (sl (qa vr qd)))))))))
  (qf (qm vr))))
abbrev Kr:Stmt:=top 64
abbrev qdK:List Str:=["_law_script", "_law_town", "_law_most", "_law_few", "_law_made", "_law_k", "_law_word_here"]
noncomputable def Xk:qU:=(qG (jp 3 (qo [.vl,.sl 1,.vl] uL (qb (qc 0) (jW (qb (wo (qb (dC (.int 2)) (qb (dC (.int 3)) (qb (dC (.int 4)) (qb (dC (.int 6)) (qb (dC (.int 26)) qw)))))) qw)))))
  (qG (jp 4 (wo qw))
  (qG (yL (jo (d2 jZ 'f' (qo [.vl,.sl 1,.vl] jE (qb (qc 0) (jW (qb (qc 2) qw)))))) (gNm 5)
  (qG (jp 6 (qo [.vl,.sl 1,.vl] Kq (qb (qc 0) (jW (qb (qc 3) qw)))))
  (sIf (qF (d2 ui (qc 6) (qc 4))) (kP (JF 4 Qy (qc 6))) qO)))
  (jf (d1 yY (qc 4))))))
noncomputable abbrev Ks:jK:=jV qdK [.val,.io,.val] (Xk)
abbrev Wu (e0:Ev):=qH e0 6 "_law_words" ["_law_script", "_law_town", "_law_most"] [.val,.io,.val] .sh (Ks)
theorem qba (Z:ZtE e0 ca) (T:kS e0 "_law_words" Kr ["_law_script", "_law_town", "_law_most"]) (o:ye e0) (z:zN e0) (O:Xj e0):Wu e0:=
 dW [1] T λcdv f A outer s H E hr=>(qe (se (cN z (qa vr (sl (qa (jz (qa ql (qa ql (qa ql (qa ql (qa ql qd)))))) qd)))))
  (qe (sO (jz qd))
  (qe (jO aM rfl (kI rfl Z.z_range (qI (jn rfl) ql (cN o (qa vr (sl (qa vr qd)))))) gn
  (qe (se (cN O (qa vr (sl (qa vr qd)))))
  (qf (qN (qD (kr rfl hr.units) vr vO) (qf (jt (wp (i:=4) rfl rfl (bE rfl) 'd' vr))) qC))))
  (qf (qm (kQ (zH rfl) rfl Z.z_tuple ky vO))))))
abbrev UK:Stmt:=top 65
abbrev qgh:List Str:=["_law_script", "_law_town"]
noncomputable def qbb:qU:=(jf (vM (qb (d2 yv (qo [.vl,.sl 1,.vl] jE (qb (qc 0) (jW (qb (dC (.int 6)) qw)))) (dC (.int 3))) (qb (d2 yv (qo [.vl,.sl 1,.vl] jE (qb (qc 0) (jW (qb (dC (.int 6)) qw)))) (dC (.int 3))) qw))))
noncomputable abbrev UL:jK:=jV qgh [.val,.io] (qbb)
abbrev Xl (e0:Ev):=qH e0 4 "_law_look" ["_law_script", "_law_town"] [.val,.io] .sh (UL)
theorem qdL (Z:ZtE e0 ca) (T:kS e0 "_law_look" UK ["_law_script", "_law_town"]) (o:ye e0):Xl e0:=
 dW [1] T λcdv f A outer s H E hr=>(qf (qm (jU (qa (qI vL (cN o (qa vr (sl (qa ql qd)))) ql) (qa (qI vL (cN o (qa vr (sl (qa ql qd)))) ql) qd)))))
abbrev Qa:Stmt:=top 66
abbrev qbc:List Str:=["_law_word_here", "_law_place"]
noncomputable def qbd:qU:=(qG (sIf (qF (d2 geD (qc 1) 'i')) (jf (d2 ixD (d2 jZ (kR (qc 0) (ij (qc 1)) (ij (d2 jZ (qc 1) 'f')) im) (d2 ixD (qc 0) (d1 Zl 'f'))) 'i')) qO)
  (jf (d2 ixD (d2 jZ (kR (kR (qc 0) im im (ij (d1 Zl 'f'))) (ij (d2 yv (d1 Zl 'f') (qc 1))) (ij (d2 yv 'i' (qc 1))) im) (d2 ixD (qc 0) 'i')) 'i')))
noncomputable abbrev wv:jK:=jV qbc [.val,.val] (qbd)
abbrev Jj (e0:Ev):=qH e0 1 "_law_letter" ["_law_word_here", "_law_place"] [.val,.val] .sh (wv)
theorem ZN (Z:ZtE e0 ca) (T:kS e0 "_law_letter" Qa ["_law_word_here", "_law_place"]):Jj e0:=
 dW [] T λcdv f A outer s H E hr=>(qe (qN (qD qfu vr ql) (qf (qm (ix (qI (jn rfl) (vN rfl vr (kN vr) (kN (qI (jn rfl) vr ql)) jL) (ix vr (Ua gi ql))) ql))) qC)
  (qf (qm (ix (qI (jn rfl) (vN rfl (vN rfl vr jL jL (kN (Ua gi ql))) (kN (qI vL (Ua gi ql) vr)) (kN (qI vL ql vr)) jL) (ix vr ql)) ql))))
abbrev Kt:Stmt:=top 67
abbrev qdM:List Str:=["_law_words_here", "_law_look_here"]
noncomputable def Xm:qU:=(jf (jk [] 1 [1] (jR (qc 0)) (gNm 0) ftT (vM (qb (qo [.vl,.vl] wv (qb (qc 0) (qb (d2 ixD (qc 1) 'i') qw))) (qb (qo [.vl,.vl] wv (qb (qc 0) (qb (d2 ixD (qc 1) 'f') qw))) qw)))))
noncomputable abbrev kz:jK:=jV qdM [.val,.val] (Xm)
abbrev uM (e0:Ev):=qH e0 2 "_law_pairs" ["_law_words_here", "_law_look_here"] [.val,.val] .sh (kz)
theorem qbe (Z:ZtE e0 ca) (T:kS e0 "_law_pairs" Kt ["_law_words_here", "_law_look_here"]) (o:Jj e0):uM e0:=
 dW [] T λcdv f A outer s H E hr=>(qf (qm (cmp (qW rfl vr) (λ_ _ _ _=>(jU (qa (jq o hr 'd' uq rfl (qa vr (qa (ix vr ql) qd))) (qa (jq o hr 'd' uq rfl (qa vr (qa (ix vr ql) qd))) qd)))))))
abbrev UM:Stmt:=top 68
abbrev qgi:List Str:=["_law_words_here", "_law_look_here", "_law_made", "_law_one", "_law_other"]
noncomputable def qbf:qU:=(qG (jp 2 (wo qw))
  (qG (yL (jR (qo [.vl,.vl] kz (qb (qc 0) (qb (qc 1) qw)))) (jG 2 (qA (gNm 3) (qA (gNm 4) jF)))
  (kP (JF 2 qel (wo (qb (qc 3) (qb (qc 4) qw))))))
  (jf (d1 vQ (qc 2)))))
noncomputable abbrev ki:jK:=jV qgi [.val,.val] (qbf)
abbrev Ku (e0:Ev):=qH e0 3 "_law_seen" ["_law_words_here", "_law_look_here"] [.val,.val] .sh (ki)
theorem qdN (Z:ZtE e0 ca) (T:kS e0 "_law_seen" UM ["_law_words_here", "_law_look_here"]) (o:uM e0):Ku e0:=
 dW [] T λcdv f A outer s H E hr=>(qe (sO (jz qd))
  (qe (jO aM rfl (qW rfl (cN o 'j')) (kY rfl rfl (qJ gn (qJ gn kf)))
  (qf (jt (Vx (i:=2) rfl (bE rfl) 'd' (jz 'j')))))
  (qf (qm (xJ rfl rfl rfl Z.z_sorted uw rfl Z.z_set Xa vO)))))
abbrev Qb:Stmt:=top 70
abbrev Qc:List Str:=["_law_some", "_law_room", "_law_numbers", "_law_book", "_law_turn", "_law_number", "_law_one", "_law_other"]
noncomputable def Qd:qU:=(qG (yL (jo (d2 jZ (d1 wb (qc 0)) 'f')) (gNm 4)
  (yL (qjo (qb (qc 0) (qb (qc 2) qw))) (jG 2 (qA (jG 2 (qA (gNm 6) (qA (gNm 7) jF))) (qA (gNm 5) jF)))
  (qG (sIf (Ze (qF (d2 inA (qc 6) (qc 3))) (qF (d2 ui (qc 7) (qc 3)))) (yA 3 (d2 wE (d2 yv (qc 5) (d2O 3 ixD (qc 6))) (qc 1)) (qc 7)) qO)
  (qG (sIf (Ze (qF (d2 inA (qc 7) (qc 3))) (qF (d2 ui (qc 6) (qc 3)))) (yA 3 (d2 wE (d2 yv (qc 5) (d2O 3 ixD (qc 7))) (qc 1)) (qc 6)) qO)
  (sIf (Ze (qF (d2 inA (qc 6) (qc 3))) (qF (d2 neD (d2 wE (d2 jZ (d2O 3 ixD (qc 6)) (d2O 3 ixD (qc 7))) (qc 1)) (qc 5)))) (jf (dC .non)) qO)))))
  (jf (qc 3)))
noncomputable abbrev uN:jK:=jV Qc [.val,.val,.val,.tk] (Qd)
abbrev Jk (e0:Ev):=qH e0 1 "_law_spread" ["_law_some", "_law_room", "_law_numbers", "_law_book"] [.val,.val,.val,.tk] .sh (uN)
theorem ZO (Z:ZtE e0 ca) (T:kS e0 "_law_spread" Qb ["_law_some", "_law_room", "_law_numbers", "_law_book"]):Jk e0:=
 dW [] T λcdv f A outer s H E hr=>(qe (jO aM rfl (kI rfl Z.z_range (qI (jn rfl) 'l' ql)) gn
  (qf (jO aM rfl (qfV rfl rfl Z.z_zip vr vr) (kY rfl rfl (qJ (kY rfl rfl (qJ gn (qJ gn kf))) (qJ gn kf)))
  (qe (qN (PW.pt (zZ (qD (VD rfl hr.units) vr vO) (jv (qD (kr rfl hr.units) vr vO)))) (qf (xf (n:=3) hr.units rfl (bE rfl) 'd' (qI kj (qI vL vr (VR (i:=3) rfl hr.units rfl (bE rfl) 'd' vr (λ_ _=>rfl))) vr) vr)) qC)
  (qe (qN (PW.pt (zZ (qD (VD rfl hr.units) vr vO) (jv (qD (kr rfl hr.units) vr vO)))) (qf (xf (n:=3) hr.units rfl (bE rfl) 'd' (qI kj (qI vL vr (VR (i:=3) rfl hr.units rfl (bE rfl) 'd' vr (λ_ _=>rfl))) vr) vr)) qC)
  (qf (qN (PW.pt (zZ (qD (VD rfl hr.units) vr vO) (jv (qD (yQ rfl hr.units) (qI kj (qI (jn rfl) (VR (i:=3) rfl hr.units rfl (bE rfl) 'd' vr (λ_ _=>rfl)) (VR (i:=3) rfl hr.units rfl (bE rfl) 'd' vr (λ_ _=>rfl))) vr) vr)))) (qf (qm vw)) qC)))))))
  (vf [3] (qf (qm vr))))
abbrev Kv:Stmt:=top 69
abbrev Kw:List Str:=["_law_words_here", "_law_look_here", "_law_room", "_law_numbers", "_law_some", "_law_book", "_law_start", "_law_found", "_law_worth"]
noncomputable def qdO:qU:=(qG (jp 4 (qo [.vl,.vl] kz (qb (qc 0) (qb (qc 1) qw))))
  (qG (jp 5 (dC (.dct [])))
  (qG (yL (jR (qo [.vl,.vl] ki (qb (qc 0) (qb (qc 1) qw)))) (gNm 6)
  (sIf (qF (d2 ui (qc 6) (qc 5))) (qG (jp 7 (dC .non))
  (qG (yL (jo (qc 2)) (gNm 8)
  (sIf (qF (d2 qcl (qc 7) (dC .non))) (jp 7 (qo [.vl,.vl,.vl,.fr] uN (qb (qc 4) (qb (qc 2) (qb (qc 3) (qb (VT (qc 6) (qc 8)) qw)))))) qO))
  (qG (sIf (qF (d2 qcl (qc 7) (dC .non))) (jf (dC .non)) qO)
  (kP (qil 5 (qc 7)))))) qO))
  (jf (qc 5)))))
noncomputable abbrev zO:jK:=jV Kw [.val,.val,.val,.val] (qdO)
abbrev Wv (e0:Ev):=qH e0 4 "_law_solve" ["_law_words_here", "_law_look_here", "_law_room", "_law_numbers"] [.val,.val,.val,.val] .sh (zO)
theorem qbg (Z:ZtE e0 ca) (T:kS e0 "_law_solve" Kv ["_law_words_here", "_law_look_here", "_law_room", "_law_numbers"]) (o:uM e0) (O:Ku e0) (e:Jk e0):Wv e0:=
 dW [] T λcdv f A outer s H E hr=>(qe (se (cN o 'j'))
  (qe (sO Jz)
  (qe (jO aM rfl (qW rfl (cN O 'j')) gn
  (qf (qN (qD (kr rfl hr.units) vr vO) (qe (se vw)
  (qe (jO aM rfl (kI rfl Z.z_range vr) gn
  (qf (qN (qD GP vr vw) (qf (se (cN e (qa vr (qa vr (qa vr (GS (qdz vr vr) qd))))))) qC)))
  (qe (qN (qD GP vr vw) (qf (qm vw)) qC)
  (qf (jt (qim (i:=5) vr)))))) qC)))
  (vf [5] (qf (qm vr))))))
abbrev UN:Stmt:=top 71
abbrev qbh:List Str:=["_law_words_here", "_law_look_here", "_law_room", "_law_numbers", "_law_start", "_law_walk", "_law_some", "_law_here", "_law_total", "_law_place", "_law_one", "_law_other"]
noncomputable def qbi:qU:=(qG (jp 6 (qo [.vl,.vl] kz (qb (qc 0) (qb (qc 1) qw))))
  (qG (jp 7 (qc 4))
  (qG (jp 8 'i')
  (qG (yL (jR (qc 5)) (gNm 9)
  (qG (qji (d2 ixD (qc 6) (qc 9)) (jG 2 (qA (gNm 10) (qA (gNm 11) jF))))
  (qG (sIf (qF (d2 ui (qc 7) (vM (qb (qc 10) (qb (qc 11) qw))))) (jf (dC (.bl ir))) qO)
  (qG (jp 7 (dIf (qF (d2 eqD (qc 7) (qc 10))) (qc 11) (qc 10)))
  (jp 8 (d2 yv (d2 ixD (qc 3) (qc 9)) (qc 8)))))))
  (qG (sIf (dOr (qF (d2 neD (qc 7) (qc 4))) (yw (qF (wn leD leD 'f' (d1 wb (qc 5)) (dC (.int 40)))))) (jf (dC (.bl ir))) qO)
  (qG (sIf (qF (d2 eqD (d2 wE (d1 wb (qc 5)) (dC (.int 2))) 'i')) (jf (d2 neD (d2 wE (qc 8) (qc 2)) 'i')) qO)
  (jf (Qu (d2 eqD (d2 wE (qc 2) (dC (.int 2))) 'i') (d2 eqD (d2 wE (qc 8) (dC (.int 2))) 'f')))))))))
noncomputable abbrev Ky:jK:=jV qbh [.val,.val,.val,.val,.val,.val] (qbi)
abbrev Xn (e0:Ev):=qH e0 3 "_law_bars" ["_law_words_here", "_law_look_here", "_law_room", "_law_numbers", "_law_start", "_law_walk"] [.val,.val,.val,.val,.val,.val] .sh (Ky)
theorem qdP (Z:ZtE e0 ca) (T:kS e0 "_law_bars" UN ["_law_words_here", "_law_look_here", "_law_room", "_law_numbers", "_law_start", "_law_walk"]) (o:uM e0):Xn e0:=
 dW [] T λcdv f A outer s H E hr=>(qe (se (cN o 'j'))
  (qe (se vr)
  (qe (se ql)
  (qe (jO aM rfl (qW rfl vr) gn
  (qe (qfC (ix vr vr) (kY rfl rfl (qJ gn (qJ gn kf))))
  (qe (qN (qD (kr rfl hr.units) vr (jU 'j')) (qf (qm vt)) qC)
  (qe (se (Zf (qD (wm rfl hr.units) vr vr) vr vr))
  (qf (se (qI vL (ix vr vr) vr)))))))
  (qe (qN (PW.pt (va (qD (yQ rfl hr.units) vr vr) (jv (ja (yR zp zp ql 'l' ql))))) (qf (qm vt)) qC)
  (qe (qN (qD (wm rfl hr.units) (qI kj 'l' ql) ql) (qf (qm (vp (yQ rfl hr.units) (qI kj vr vr) ql))) qC)
  (qf (qm (gb (vp (wm rfl hr.units) (qI kj vr ql) ql) (QO (vp (wm rfl hr.units) (qI kj vr ql) ql)))))))))))
abbrev zQ:Stmt:=top 72
abbrev Xo:List Str:=["_law_e", "_law_own"]
theorem qbj:FnScope Xo ["_law_e"] (qR zQ):=fsc
noncomputable def xp (ca:Str->Addr):qU:=(qG (jp 1 (wo (qb (d1 (JJ (Zm ca CS "NoWords")) (qc 0)) (qb (d1 (JJ (Zm ca CS "NoLook")) (qc 0)) (qb (d1 (JJ (Zm ca CS "NoNumbers")) (qc 0)) (qb (d1 (JJ (Zm ca CS "NoRoom")) (qc 0)) qw))))))
  (qG (kP (JF 1 qel (wo (qb (d1 (JJ (Zm ca CS "NoWord")) (qc 0)) (qb (d1 (JJ (Zm ca CS "NoWorths")) (qc 0)) (qb (d1 (JJ (Zm ca CS "Never")) (qc 0)) (qb (d1 (JJ (Zm ca CS "Full")) (qc 0)) qw)))))))
  (qG (kP (JF 1 Qy (d1 (JJ (Zm ca CS "Known")) (qc 0))))
  (qG (sIf (dOr (qF (d2 neD (d1 (QW iu) (qc 1)) 'f')) (yw (uh (d1 (JJ (qh2 ca CS)) (qc 0))))) (jf (vM (qb (dC (.str "refused")) (qb (d1 Zl 'f') qw)))) qO)
  (jf (vM (qb (dC (.str "refused")) (qb (d1 (QX iu) (qc 1)) qw))))))))
noncomputable abbrev yf (ca:Str->Addr):jK:=jV Xo [.val] (xp ca)
abbrev Ww (ca:Str->Addr) (e0:Ev):=qks e0 1 "_law_which" ["_law_e"] [.val] .sh (yf ca)
theorem qbk (Z:ZtE e0 ca) (T:kS e0 "_law_which" zQ ["_law_e"]):Ww ca e0:=
 qka (k:=0) (own':=[]) (fb:=xp ca) T qbj λcdv f A outer s H E hr=>(qe (sO (jz (qa (yZ rfl Z.z_isinstance qx rfl (Z.mref "NoWords" 'a') (Z.xs.ans 'a') vr) (qa (yZ rfl Z.z_isinstance qx rfl (Z.mref "NoLook" 'a') (Z.xs.ans 'a') vr) (qa (yZ rfl Z.z_isinstance qx rfl (Z.mref "NoNumbers" 'a') (Z.xs.ans 'a') vr) (qa (yZ rfl Z.z_isinstance qx rfl (Z.mref "NoRoom" 'a') (Z.xs.ans 'a') vr) qd))))))
  (qe (jt (Vx (i:=1) rfl (bE rfl) 'd' (jz (qa (yZ rfl Z.z_isinstance qx rfl (Z.mref "NoWord" 'a') (Z.xs.ans 'a') vr) (qa (yZ rfl Z.z_isinstance qx rfl (Z.mref "NoWorths" 'a') (Z.xs.ans 'a') vr) (qa (yZ rfl Z.z_isinstance qx rfl (Z.mref "Never" 'a') (Z.xs.ans 'a') vr) (qa (yZ rfl Z.z_isinstance qx rfl (Z.mref "Full" 'a') (Z.xs.ans 'a') vr) qd)))))))
  (qe (jt (wp (i:=1) rfl rfl (bE rfl) 'd' (yZ rfl Z.z_isinstance qx rfl (Z.mref "Known" 'a') (Z.xs.ans 'a') vr)))
  (vf [1] (qe (qN (PW.pt (va (qD (yQ rfl hr.units) (qc6 rfl vr) ql) (jv (ja (tv (qfO rfl Z.z_isinstance qx rfl Z.z_ValueError JR Z.xs.ansV vr)))))) (qf (qm (jU (qa kB (qa (Ua gi ql) qd))))) qC)
  (qf (qm (jU (qa kB (qa (qc7 rfl vr) qd))))))))))
abbrev Xp:Stmt:=top 73
abbrev Qe:List Str:=["_law_what", "_law_words_here", "_law_look_here", "_law_room", "_law_numbers", "_law_e"]
abbrev yg:List Str:=["_law_what", "_law_words_here", "_law_look_here", "_law_room", "_law_numbers"]
theorem qgj:FnScope Qe yg (qR Xp):=fsc
noncomputable def qit (ca:Str->Addr):qU:=(WP 6 (ij 5) (Gc ca CS) (qG (sIf (qF (d2 ltD (qc 0) (dC (.int 2)))) (jf (zu [.vl,.vl,.vl,.vl] (qc 0) [gT,wV] (qb (qc 1) (qb (qc 2) (qb (qc 3) (qb (qc 4) qw)))))) qO)
  (jf (zu [.vl,.vl,.vl,.vl,.vl] (d2 yv (qc 0) (dC (.int 2))) [jD ca,vX] (qb (qc 1) (qb (qc 2) (qb (qc 3) (qb (qc 4) (qb (dC .non) qw)))))))) (jf (qo [.vl] (yf ca) (qb (qc 5) qw))))
noncomputable abbrev Qf (ca:Str->Addr):jK:=jV Qe [.val,.val,.val,.val,.val] (qit ca)
abbrev qbl (ca:Str->Addr) (e0:Ev):=qH e0 9 "_law_ask" yg [.val,.val,.val,.val,.val] .sh (Qf ca)
theorem qgk (Z:ZtE e0 ca) (T:kS e0 "_law_ask" Xp yg) (b:qaZ e0) (a:Wo e0) (J:wW ca e0) (o:gY e0) (O:Ww ca e0):qbl ca e0:=
 dW [] T λcdv f A outer s H E hr=>(qf (qfI (own2:=[]) (n:=6) (j:=5) rfl rfl rfl rfl Z.m_WordError Z.xs.hit qgj.nd rfl rfl rfl (λpn xe E hx=>(qe (qN (qD qhE vr ql) (qf (qm (qaA (j:=8) (ca:=ca) (ns:=["bar", "worths"]) (gs:=[gT,wV]) ⟨⟨_,b.mono 'd'⟩,⟨_,a.mono 'd'⟩,trivial⟩ (λx hx=>Z.fref x ((show ∀ x∈(["bar", "worths"]:List Str),x∈FS from by decide +kernel) x hx)) 'd' hr 'd' hx (ix (jz (qa (qds (Z.fref "bar" 'a') rfl) (qa (qds (Z.fref "worths" 'a') rfl) qd))) vr) (qa vr (qa vr 'j'))))) qC)
  (qf (qm (qaA (j:=7) (ca:=ca) (ns:=["is_telling", "is_bar"]) (gs:=[jD ca,vX]) ⟨⟨_,J.mono 'd'⟩,⟨_,o.mono 'd'⟩,trivial⟩ (λx hx=>Z.fref x ((show ∀ x∈(["is_telling", "is_bar"]:List Str),x∈FS from by decide +kernel) x hx)) 'd' hr 'd' hx (ix (jz (qa (qds (Z.fref "is_telling" 'a') rfl) (qa (qds (Z.fref "is_bar" 'a') rfl) qd))) (qI vL vr ql)) (qa vr (qa vr (qa vr (qa vr (qa vw qd)))))))))) (λe=>(qf (qm (qag O ((hr.quiet.mono 'd').mark _) uq rfl (qa vr qd)))))))
abbrev qbm:Stmt:=top 74
abbrev qgl:List Str:=["_law_script", "_law_town", "_law_words_here", "_law_look_here", "_law_room", "_law_book", "_law_numbers", "_law_k", "_law_due", "_law_thing", "_law_found", "_law_seen_here", "_law_bad", "_law_odd"]
abbrev qiu:List Str:=["_law_script"]
theorem qiv:FnScope qgl qiu (qR qbm):=fsc
noncomputable def qgm (ca:Str->Addr):qU:=(qG (jp 1 (wo qw))
  (qG (jp 2 (qo [.vl,.sl 1,.vl] Ks (qb (qc 0) (jW (qb (dC (.int 6)) qw)))))
  (qG (jp 3 (qo [.vl,.sl 1] UL (qb (qc 0) (jW qw))))
  (qG (jp 4 (d2 jZ 'f' (qo [.vl,.sl 1,.vl] jE (qb (qc 0) (jW (qb (qo [.vl,.sl 1,.vl] uL (qb (qc 0) (jW (qb (wo (qb (dC (.int 2)) (qb (dC (.int 4)) (qb (dC (.int 9)) (qb (dC (.int 99)) qw))))) qw)))) qw))))))
  (qG (jp 5 (d1 VS (jk [1] 1 [0,1,4] (jR (qo [.vl,.vl] ki (qb (qc 2) (qb (qc 3) qw)))) (gNm 0) ftT (vM (qb (qc 0) (qb (qo [.vl,.sl 2,.vl] jE (qb (qc 1) (jW (qb (qc 3) qw)))) qw))))))
  (qG (jp 6 (jk [1] 2 [4,5] (jR (qo [.vl,.vl] kz (qb (qc 2) (qb (qc 3) qw)))) (jG 2 (qA (gNm 0) (qA (gNm 1) jF))) ftT (d2 wE (d2 jZ (d2 ixD (qc 3) (qc 0)) (d2 ixD (qc 3) (qc 1))) (qc 2))))
  (qG (yL (jo (qo [.vl,.sl 1,.vl] jE (qb (qc 0) (jW (qb (dC (.int 3)) qw))))) (gNm 7)
  (YV 6 (qo [.vl,.sl 1,.vl] jE (qb (qc 0) (jW (qb (qc 4) qw)))) (qo [.vl,.sl 1,.vl] jE (qb (qc 0) (jW (qb (d1 wb (qc 2)) qw))))))
  (qG (jp 6 (d1 yY (qc 6)))
  (qG (jp 8 (qo [.vl,.vl,.vl,.vl] zO (qb (qc 2) (qb (qc 3) (qb (qc 4) (qb (qc 6) qw))))))
  (qG (jp 9 (qo [.vl,.vl,.vl,.vl,.vl] (Qf ca) (qb 'i' (qb (qc 2) (qb (qc 3) (qb (qc 4) (qb (qc 6) qw)))))))
  (qG (jp 10 (qo [.vl,.vl,.vl,.vl,.vl] (Qf ca) (qb 'f' (qb (qc 2) (qb (qc 3) (qb (qc 4) (qb (qc 6) qw)))))))
  (qG (sIf (qF (d2 qcl (qc 8) (dC .non))) (qG (sIf (dOr (qF (d2 neD (qc 10) (vM (qb (dC (.str "refused")) (qb (dC (.int 6)) qw))))) (dOr (yw (uh (d1 (wI "tuple") (qc 9)))) (yw (uh (d1 (wI "list") (d2 ixD (qc 9) 'f')))))) (jf (dC (.bl ir))) qO)
  (qG (sIf (yw (uh (qo [.vl,.vl,.vl,.vl,.vl,.vl] Ky (qb (qc 2) (qb (qc 3) (qb (qc 4) (qb (qc 6) (qb (d2 ixD (qc 9) 'i') (qb (d2 ixD (qc 9) 'f') qw))))))))) (jf (dC (.bl ir))) qO)
  (jf (d2 eqD (qo [.vl,.vl,.vl,.vl,.vl] vX (qb (qc 2) (qb (qc 3) (qb (qc 4) (qb (qc 6) (qb (qc 9) qw)))))) (dC (.bl iu)))))) qO)
  (qG (jp 11 (jk [1] 2 [] (jR (qc 10)) (jG 2 (qA (gNm 0) (qA (gNm 1) jF))) ftT (qc 0)))
  (qG (sIf (dOr (qF (d2 Ue (qc 9) (dC .non))) (qF (d2 neD (qc 11) (qo [.vl,.vl] ki (qb (qc 2) (qb (qc 3) qw)))))) (jf (dC (.bl ir))) qO)
  (qG (sIf (dOr (qF (d2 neD (qo [.vl,.vl,.vl,.vl] kM (qb (qc 2) (qb (qc 3) (qb (qc 4) (qb (qc 10) qw))))) (qc 6))) (qF (d2 neD (qo [.vl,.vl,.vl,.vl,.vl] (jD ca) (qb (qc 2) (qb (qc 3) (qb (qc 4) (qb (qc 6) (qb (qc 10) qw)))))) (dC (.bl iu))))) (jf (dC (.bl ir))) qO)
  (qG (jp 12 (wo (qb (dC .non) (qb (d1 qcZ (qc 6)) (qb (kR (qc 6) (ij 'f') im im) (qb (d2 jZ (qc 6) (vM (qb 'i' qw))) (qb (d2 jZ (kR (qc 6) (ij 'f') im im) (vM (qb (qc 4) qw))) (qb (d2 jZ (kR (qc 6) (ij 'f') im im) (vM (qb (d1 Zl 'f') qw))) (qb (dC (.str "x")) qw)))))))))
  (qG (jp 13 (qo [.vl,.sl 1,.vl] uL (qb (qc 0) (jW (qb (d2 jZ (qc 12) (wo (qb (d2 jZ (kR (qc 6) (ij 'f') im im) (vM (qb (dC (.bl iu)) qw))) (qb (d2 jZ (kR (qc 6) (ij 'f') im im) (vM (qb (dC (.str "0")) qw))) qw)))) qw)))))
  (qG (sIf (qF (d2 neD (jk [1] 1 [2,3,4,13] (jo (dC (.int 4))) (gNm 0) ftT (qo [.vl,.vl,.vl,.vl,.vl] (Qf ca) (qb (qc 0) (qb (qc 1) (qb (qc 2) (qb (qc 3) (qb (qc 4) qw))))))) (d2 qer (wo λρ=>.ok ([(.tup [(.str "refused"),(.int 2)])],ρ)) (dC (.int 4))))) (jf (dC (.bl ir))) qO)
  (qG (jp 13 (qo [.vl,.sl 1,.vl] uL (qb (qc 0) (jW (qb (wo (qb 'i' (qb (dC (.int 100)) (qb (d1 Zl 'f') (qb (dC .non) (qb (dC (.bl iu)) (qb (dC (.str "1")) qw))))))) qw)))))
  (jf (d2 eqD (jk [1] 1 [2,3,13] (jo (dC (.int 4))) (gNm 0) ftT (qo [.vl,.vl,.vl,.vl,.vl] (Qf ca) (qb (qc 0) (qb (qc 1) (qb (qc 2) (qb (qc 3) (qb (dC .non) qw))))))) (d2 qer (wo λρ=>.ok ([(.tup [(.str "refused"),(.int 3)])],ρ)) (dC (.int 4))))))))))))))))))))))))
noncomputable abbrev qdQ (ca:Str->Addr):jK:=jV qgl [.val] (qgm ca)
theorem qiw {f:Addr} {fd:k6} (Z:ZtE e0 ca) (F:Fun e0.K "law" "law" qbm f fd) (N:yH e0) (J:wW ca e0) (a:gY e0) (o:ye e0) (z:zN e0) (c:Wu e0) (b:Xl e0) (u:uM e0) (O:Ku e0) (l:Wv e0) (v:Xn e0) (R:qbl ca e0):FnOk e0.P e0.w e0.K e0.mg e0.base (CXk e0.P e0.w) 10 f fd qiu (spD e0.K e0.cv [.val] .sh (qdQ ca)):=
 qkV (k:=9) (own':=[]) (fb:=qgm ca) F qiv rfl (kZ rfl) (.inl rfl) (λcdv A outer s H E hr=>(qe (sO (jz qd))
  (qe (se (cN c (qa vr (km (i:=1) rfl (db (bE rfl)) 'd' (qa ql qd)))))
  (qe (se (cN b (qa vr (km (i:=1) rfl (db (bE rfl)) 'd' qd))))
  (qe (se (qI (jn rfl) ql (cN o (qa vr (km (i:=1) rfl (db (bE rfl)) 'd' (qa (cN z (qa vr (km (i:=1) rfl (db (bE rfl)) 'd' (qa (jz (qa ql (qa ql (qa ql (qa ql qd))))) qd)))) qd))))))
  (qe (se (kQ (YX rfl rfl) rfl Z.z_dict Uu (cmp (qW rfl (cN O 'j')) (λ_ _ _ _=>(jU (qa vr (qa (jq o hr 'd' uq rfl (qa vr (km (i:=2) rfl (by first | exact db (db rfl) | exact db (bE rfl)) 'd' (qa vr qd)))) qd)))))))
  (qe (qik (qW rfl (cN u 'j')) (λ_ _ _ _=>(qI kj (qI (jn rfl) (ix vr vr) (ix vr vr)) vr)) (hg:=λ_ _ _ _=>(kY rfl rfl (qJ gC (qJ gC kf)))))
  (qe (jO aM rfl (kI rfl Z.z_range (cN o (qa vr (km (i:=1) rfl (db (bE rfl)) 'd' (qa ql qd))))) gn
  (qf (qaK (n:=6) rfl (bE rfl) 'd' (cN o (qa vr (km (i:=1) rfl (db (bE rfl)) 'd' (qa vr qd)))) (cN o (qa vr (km (i:=1) rfl (db (bE rfl)) 'd' (qa 'l' qd)))))))
  (qe (se (kQ (zH rfl) rfl Z.z_tuple ky vO))
  (qe (se (cN l (qa vr (qa vr 'j'))))
  (qe (se (cN R (qa ql (qa vr (qa vr 'j')))))
  (qe (se (cN R (qa ql (qa vr (qa vr 'j')))))
  (qe (qN (qD GP vr vw) (qe (qN (PW.pt (va (qD (yQ rfl hr.units) vr (jU (qa kB (qa ql qd)))) (va (ja (tv (wq rfl rfl Z.z_isinstance qx rfl Z.z_tuple ky vr))) (jv (ja (tv (wq rfl rfl Z.z_isinstance qx rfl Z.z_list gH (ix vr ql)))))))) (qf (qm vt)) qC)
  (qe (qN (ja (tv (cN v (qa vr (qa vr (qa vr (qa vr (qa (ix vr ql) (qa (ix vr ql) qd))))))))) (qf (qm vt)) qC)
  (qf (qm (vp (wm rfl hr.units) (cN a (qa vr (qa vr (qa vr 'j')))) vt))))) qC)
  (qe (qik (qW rfl vr) (λ_ _ _ _=>vr) (hg:=λ_ _ _ _=>(kY rfl rfl (qJ gC (qJ gC kf)))))
  (vf [11] (qe (qN (PW.pt (va (qD GQ vr vw) (jv (qD (yQ rfl hr.units) vr (cN O 'j'))))) (qf (qm vt)) qC)
  (qe (qN (PW.pt (va (qD (yQ rfl hr.units) (cN N (qa vr (qa vr 'j'))) vr) (jv (qD (yQ rfl hr.units) (cN J (qa vr (qa vr (qa vr 'j')))) vt)))) (qf (qm vt)) qC)
  (qe (se (jz (qa vw (qa (kQ (qfK rfl) rfl Z.z_list gH vr) (qa (vN rfl vr (kN ql) jL jL) (qa (qI (jn rfl) vr (jU (qa ql qd))) (qa (qI (jn rfl) (vN rfl vr (kN ql) jL jL) (jU (qa vr qd))) (qa (qI (jn rfl) (vN rfl vr (kN ql) jL jL) (jU (qa (Ua gi ql) qd))) (qa kB qd)))))))))
  (qe (se (cN z (qa vr (km (i:=1) rfl (db (bE rfl)) 'd' (qa (qI (jn rfl) vr (jz (qa (qI (jn rfl) (vN rfl vr (kN ql) jL jL) (jU (qa vt qd))) (qa (qI (jn rfl) (vN rfl vr (kN ql) jL jL) (jU (qa kB qd))) qd)))) qd)))))
  (qe (qN (qD (yQ rfl hr.units) (cmp (kI rfl Z.z_range ql) (λ_ _ _ _=>(jq R hr 'd' uq rfl (qa vr (qa vr (qa vr 'j')))))) (qI (qaD rfl) (qaJ 10 rfl) ql)) (qf (qm vt)) qC)
  (qe (se (cN z (qa vr (km (i:=1) rfl (db (bE rfl)) 'd' (qa (jz (qa ql (qa ql (qa (Ua gi ql) (qa vw (qa vt (qa kB qd))))))) qd)))))
  (qf (qm (vp (wm rfl hr.units) (cmp (kI rfl Z.z_range ql) (λ_ _ _ _=>(jq R hr 'd' uq rfl (qa vr (qa vr (qa vr (qa vr (qa vw qd)))))))) (qI (qaD rfl) (qaJ 10 rfl) ql))))))))))))))))))))))))) λ_=>.inr rfl
end
end Kx
namespace Kx
open PySem PySem.Spec L2 L2.D2
variable {ρ:Sl} {ds:List D} {d:D} {ms:List PM} {n:Nat} {i:Int} {x y:Str}
section
variable {as:List AK} {os:List D} {j:Int} {b:Bool} {ks:List (Key×D)}
@[simp] theorem qlM:kX [] [] ρ=ij []:=rfl
@[simp] theorem qlN:kX (.sl n::as) (d::ds) ρ=match ρ[n]? with | some (ij d)=>(kX as ds ρ).map (d::·) | _=>none:=rfl
@[simp] theorem qlO:kX (.vl::as) (d::ds) ρ=(kX as ds ρ).map (d::·):=rfl
@[simp] theorem qlP:kX (.fr::as) (d::ds) ρ=(kX as ds ρ).map (d::·):=rfl
@[simp] theorem qlQ:zD [] [] ρ=ρ:=rfl
@[simp] theorem qlR:zD (.sl n::as) (d::ds) ρ=zD as ds (ρ.set n (ij d)):=rfl
@[simp] theorem qlS:zD (.vl::as) (d::ds) ρ=zD as ds ρ:=rfl
@[simp] theorem qlT:zD (.fr::as) (d::ds) ρ=zD as ds ρ:=rfl
@[simp] theorem qlU:kb ρ n []=[]:=rfl
@[simp] theorem qlV:kb ρ n (.io::ms)=((ρ[n]?).getD im).getD .non::kb ρ (n+1) ms:=rfl
@[simp] theorem qlW:kb ρ n (.val::ms)=.non::kb ρ (n+1) ms:=rfl
@[simp] theorem qlX:kb ρ n (.tk::ms)=.non::kb ρ (n+1) ms:=rfl
@[simp] theorem qlY:jZ (.int i) (.int j)=.ok (.int (i+j)):=rfl
@[simp] theorem qlZ:jZ (.str x) (.str y)=if x.length+y.length<=sizeLine then .ok (.str (x++y)) else .bad:=rfl
@[simp] theorem qlH:jZ (.lst ds) (.lst os)=if ds.length+os.length<=sizeLine then .ok (.lst (ds++os)) else .bad:=rfl
@[simp] theorem ql0:jZ (.tup ds) (.tup os)=if ds.length+os.length<=sizeLine then .ok (.tup (ds++os)) else .bad:=rfl
@[simp] theorem ql1:qcl .non .non=.ok (.bl iu):=rfl
@[simp] theorem ql2:qcl (.tup ds) .non=.ok (.bl ir):=rfl
@[simp] theorem ql3:qcl (.dct ks) .non=.ok (.bl ir):=rfl
@[simp] theorem ql4:Ue .non .non=.ok (.bl ir):=rfl
@[simp] theorem ql5:Ue (.tup ds) .non=.ok (.bl iu):=rfl
@[simp] theorem ylI:ltD (.int i) (.int j)=.ok (.bl (decide (i < j))):=rfl
@[simp] theorem ylS:ltD (.str x) (.str y)=.ok (.bl (vd x y)):=rfl
@[simp] theorem yeI:leD (.int i) (.int j)=.ok (.bl (decide (i<=j))):=rfl
@[simp] theorem yeS:leD (.str x) (.str y)=.ok (.bl (!vd y x)):=rfl
@[simp] theorem ygI:gtD (.int i) (.int j)=.ok (.bl (decide (j < i))):=rfl
@[simp] theorem ysI:yv (.int i) (.int j)=.ok (.int (i - j)):=rfl
@[simp] theorem ytB:Ga (.bl b)=.ok b:=rfl
@[simp] theorem ytI:Ga (.int i)=.ok (i != 0):=rfl
@[simp] theorem ytN:Ga .non=.ok false:=rfl
@[simp] theorem ytL:Ga (.lst ds)=.ok (!ds.isEmpty):=rfl
@[simp] theorem ytT:Ga (.tup ds)=.ok (!ds.isEmpty):=rfl
@[simp] theorem ynS:wb (.str x)=.ok (.int x.length):=rfl
@[simp] theorem ynL:wb (.lst ds)=.ok (.int ds.length):=rfl
@[simp] theorem ynT:wb (.tup ds)=.ok (.int ds.length):=rfl
@[simp] theorem ynD:wb (.dct ks)=.ok (.int ks.length):=rfl
end
variable {α:Type}
theorem uO (xs:List α) (k:Nat):atI xs (k:Int)=xs[k]?:=by
 unfold atI ixN;rw [Aa (by omega)];by_cases h:k < xs.length;·rw [Aa (by omega)];simp
 ·rw [Ab (by omega),cq (by omega)];rfl
theorem qeu {xs:List α} (a:0<=i) (h1:i < xs.length):∃ d,atI xs i=ij d/\d∈xs:=by
 obtain ⟨k,rfl⟩:=Int.eq_ofNat_of_zero_le a;have h:k < xs.length:=by omega
 exact ⟨xs[k],by rw [uO,aE h],cu h⟩
theorem big:2000<=sizeLine:=by rw [iM]; decide
abbrev scr (ns:List Int):D:=.lst (ns.map .int)
theorem qgn (ns:List Int) (k:Nat):∃ i,xS [scr ns,.int k]=.ok (.int i,[.non,.non]):=by
 by_cases h:k < ns.length;·refine ⟨ns[k],?_⟩;refine qr.trans ?_;simp [yd,qt,ixD,h,uO]
 ·by_cases a:ns=[]
  ·subst a;have b:¬((k:Int) < 0):=by omega
   exact ⟨0,by refine qr.trans ?_; simp [yd,qt,ixD,eqD,eqN,ud,b]⟩
  ·have hp:0 < ns.length:=List.length_pos_iff.mpr a;have c:k % ns.length < ns.length:=Nat.mod_lt _ hp;have e:atI (ns.map D.int) ((k:Int) % (ns.length:Int))=ij (.int ns[k % ns.length]):=by rw [show ((k:Int) % (ns.length:Int))=((k % ns.length:Nat):Int) by simp,uO,aH,aE c];rfl
   refine ⟨ns[k % ns.length] * 31+k,?_⟩;refine qr.trans ?_;simp [yd,qt,ixD,eqD,eqN,h,a,wE,qeg,ym,hp,e,CMul]
variable {many:Int}
theorem qdR (ns:List Int) (k:Nat) (h:0 < many):∃ r,0<=r/\r < many/\Kp [scr ns,.int k,.int many]=.ok (.int r,[.non,.non,.non]):=by obtain ⟨c,a⟩:=qgn ns k;have h1:=ck ((c+7919 * k+1) * 48271) (show (2147483647:Int)≠0 by decide);have h2:=bX ((c+7919 * k+1) * 48271) (show (0:Int) < 2147483647 by decide);generalize hd:(c+7919 * (k:Int)+1) * 48271 % 2147483647=d at h1 h2;have b:CMul d d:=.inl ⟨by omega,by omega⟩;refine ⟨(d * d+7 * d+k) % 2147483629 % many,ck _ (by omega),bX _ h,?_⟩;refine qr.trans ?_;simp [Xi,qt,a,qeg,wE,ym,h,hd,b,show ∀ j,CMul 7919 j from λj=>.inl ⟨by omega,by omega⟩,show ∀ j,CMul 7 j from λj=>.inl ⟨by omega,by omega⟩,show ∀ i,CMul i 48271 from λi=>.inr ⟨by omega,by omega⟩]
theorem vI (ns:List Int) (t:List D) (c:0 < many) (ht:t.length < 1000):∃ r,0<=r/\r < many/\jE [scr ns,.lst t,.int many]=.ok (.int r,[.non,.lst (t++[.int 0]),.non]):=by obtain ⟨r,a,h1,h⟩:=qdR ns (t.length+1) c;have hl:t.length < sizeLine:=aF (eh ht 'd') big;refine ⟨r,a,h1,?_⟩;simp at h;refine qr.trans ?_;simp [qa7,qt,yj,Qy,hl,h]
theorem Qg (ns:List Int) (t xs:List D) (hx:xs≠[]) (ht:t.length < 1000):∃ d,d∈xs/\uL [scr ns,.lst t,.lst xs]=.ok (d,[.non,.lst (t++[.int 0]),.non]):=by have hp:0 < xs.length:=List.length_pos_iff.mpr hx;obtain ⟨r,a,h1,h⟩:=vI ns t (many:=(xs.length:Int)) (by omega) ht;obtain ⟨d,e,hd⟩:=qeu (xs:=xs) a h1;refine ⟨d,hd,?_⟩;refine qr.trans ?_;simp [qa8,qt,h,ixD,e]
def az (c:Nat):Prop:=97<=c/\c<=122
def qdS (w:Str):Prop:=1<=w.length/\w.length<=6/\∀ c∈w.cps.toList,az c
theorem wg (x:Str):x.length=x.cps.size:=rfl
theorem UO (x y:Str):(x++y).cps=x.cps++y.cps:=rfl
theorem uP:∀ ws:List Str,VP (ws.map D.str)=ij ws
 | []=>rfl
 | w::ws=>by simp [VP,uP ws]
theorem xq (w:Str):∀ ws:List Str,WN 7 (.str w) (ws.map D.str)=ij (decide (w∈ws))
 | []=>by simp [WN]
 | a::ws=>by
  have j:=xq w ws;simp only [aD,WN,j];simp [eqN,eqS];by_cases h:a=w;·simp [h]
  ·simp [h,bo h]
def jw (ws:List Str):Prop:=1<=ws.length/\ws.length<=6/\ws.Nodup/\∀ w∈ws,qdS w
theorem qgo:(aL "abcdefghijklmnopqrstuvwxyz").cps.toList.length=26:=by decide +kernel
theorem qix:∀ c∈(aL "abcdefghijklmnopqrstuvwxyz").cps.toList,az c:=by unfold az;decide +kernel
abbrev qiy:qU:=(jp 3 (d2 jZ (qc 3) (d2 ixD (dC (.str "abcdefghijklmnopqrstuvwxyz")) (qo [.vl,.sl 1,.vl] jE (qb (qc 0) (jW (qb (qc 2) qw)))))))
variable {few:Int}
theorem Wx (ns:List Int) (h:0 < few) (h1:few<=26):∀ (ds:List D) (t:List D) (w:Str) (k:Option D),t.length+ds.length < 1000->w.length+ds.length<=100->(∀ c∈w.cps.toList,az c) ->∃ a T k',a.length=t.length+ds.length/\T.length=w.length+ds.length/\(∀ c∈T.cps.toList,az c)/\kU (gNm 4) qiy ds [ij (scr ns),ij (.lst t),ij (.int few),ij (.str w),k]=.ok (.nx,[ij (scr ns),ij (.lst a),ij (.int few),ij (.str T),k'])
 | [],t,w,k,_,_,hw=>⟨t,w,k,rfl,rfl,hw,rfl⟩
 | d::ds,t,w,k,ht,hl,hw=>by
  rw [ao] at ht hl;obtain ⟨r,r0,r1,hr⟩:=vI ns t (many:=few) h (by omega);obtain ⟨c,b,m⟩:=qeu (xs:=(aL "abcdefghijklmnopqrstuvwxyz").cps.toList) (i:=r) r0 (by rw [qgo]; omega);obtain ⟨a,T,k',e,g,q,p⟩:=Wx ns h h1 ds (t++[.int 0]) (w++⟨#[c]⟩) (ij d) (by rw [af]; simp; omega) (by rw [wg,UO,Array.size_append]; rw [wg] at hl; simp; omega) (λx hx=>by
   rw [UO,Array.toList_append,aj] at hx;rcases hx with hx | hx;·exact hw x hx
   ·simp at hx;rw [hx];exact qix c m)
  refine ⟨a,T,k',?_,?_,q,?_⟩;·rw [e,af,ao];simp;omega
  ·rw [g,wg,UO,Array.size_append,<-wg,ao];simp;omega
  ·have z:w.length+fQ ⟨#[c]⟩<=sizeLine:=by have:=big;simp [wg] at hl ⊢;omega
   rw [<-p];simp [kU,qiy,hr,ixD,b,z]
theorem qgp (ns:List Int) (t:List D) (b:0 < few) (h1:few<=26) (ht:t.length < 900):∃ w a,qdS w/\a.length<=t.length+8/\Kq [scr ns,.lst t,.int few]=.ok (.str w,[.non,.lst a,.non]):=by
 obtain ⟨d,hd,hp⟩:=Qg ns t [.int 2,.int 3,.int 6] 'g' (by omega);obtain ⟨m,rfl,m0,m1⟩:∃ m:Int,d=.int m/\0 < m/\m<=6:=by
  simp at hd;rcases hd with rfl | rfl | rfl;·exact ⟨2,rfl,by omega,by omega⟩
  ·exact ⟨3,rfl,by omega,by omega⟩
  ·exact ⟨6,rfl,by omega,by omega⟩
 obtain ⟨r,r0,r1,hr⟩:=vI ns (t++[.int 0]) (many:=m) m0 (by rw [af]; simp; omega);have n:(zr 0 (1+r).toNat).length=(1+r).toNat:=by simp [zr]
 have e0:fQ (aL "")=0:=by decide +kernel
 obtain ⟨a,T,k',e,g,q,p⟩:=Wx ns b h1 (zr 0 (1+r).toNat) (t++[.int 0]++[.int 0]) "" im (by rw [n,af,af]; simp; omega) (by rw [n,e0]; omega) (by
  have:(aL "").cps.toList=[]:=by decide +kernel
  rw [this];intro c h;cases h)
 refine ⟨T,a,⟨?_,?_,q⟩,?_,?_⟩;·rw [g,e0,n];omega
 ·rw [g,e0,n];omega
 ·rw [e,n,af,af];simp;omega
 ·refine qr.trans ?_;have k:-(2 ^ 62:Int)<=1+r/\1+r < 2 ^ 62:=by omega
  have f:=big;have z:3<=sizeLine:=by omega
  simp only [aV,dH,cm] at p hr;simp [qa9,qt,hp,hr,jo,-Int.reducePow,k,z,p]
abbrev qbn:qU:=(qG (jp 6 (qo [.vl,.sl 1,.vl] Kq (qb (qc 0) (jW (qb (qc 3) qw)))))
  (sIf (qF (d2 ui (qc 6) (qc 4))) (kP (JF 4 Qy (qc 6))) qO))
theorem xT (ns:List Int) (m:D) (e:0 < few) (h1:few<=26):∀ (ds:List D) (n:List D) (ws:List Str) (k u:Option D),n.length+8 * ds.length < 900->ws.length+ds.length<=100->ws.Nodup->(∀ w∈ws,qdS w) ->∃ (t:List D) (c:List Str) (k' W:Option D),t.length<=n.length+8 * ds.length/\c.length<=ws.length+ds.length/\ws.length<=c.length/\(ds≠[]->1<=c.length)/\c.Nodup/\(∀ w∈c,qdS w) /\
   kU (gNm 5) qbn ds [ij (scr ns),ij (.lst n),ij m,ij (.int few),ij (.lst (ws.map D.str)),k,u]=.ok (.nx,[ij (scr ns),ij (.lst t),ij m,ij (.int few),ij (.lst (c.map D.str)),k',W])
 | [],n,ws,k,u,_,_,hn,hw=>⟨n,ws,k,u,by simp,by simp,by simp,by simp,hn,hw,rfl⟩
 | d::ds,n,ws,k,u,ht,hl,hn,hw=>by
  rw [ao] at ht hl;obtain ⟨w,t1,r,y,hg⟩:=qgp ns n e h1 (by omega);have i:=big;have j:ws.length < sizeLine:=by omega
  by_cases h:w∈ws
  ·obtain ⟨t,c,k',W,v,g,q,s,o,l,f⟩:=xT ns m e h1 ds t1 ws (ij d) (ij (.str w)) (by omega) (by omega) hn hw;refine ⟨t,c,k',W,by rw [ao]; omega,by rw [ao]; omega,q,λ_=>?_,o,l,?_⟩;·have:0 < ws.length:=df h;omega
   ·rw [<-f];simp [kU,qbn,hg,ui,Zd,inD,xq,h]
  ·obtain ⟨t,c,k',W,v,g,q,s,o,l,f⟩:=xT ns m e h1 ds t1 (ws++[w]) (ij d) (ij (.str w)) (by omega) (by rw [af]; simp; omega) (cg.mpr ⟨hn,by simp,λa p b i=>by
    rw [au.mp i];exact λz=>h (z ▸ p)⟩) (λx hx=>by
    rcases aj.mp hx with hx | hx;·exact hw x hx
    ·rw [au.mp hx];exact r)
   rw [af] at g q;simp at g q;refine ⟨t,c,k',W,by rw [ao]; omega,by rw [ao]; omega,by omega,λ_=>by omega,o,l,?_⟩;rw [<-f];simp [kU,qbn,hg,ui,Zd,inD,xq,h,yj,Qy,j]
theorem qdT (ns:List Int) (t:List D) (ht:t.length < 700):∃ ws a,jw ws/\a.length<=t.length+50/\Ks [scr ns,.lst t,.int 6]=.ok (.tup (ws.map D.str),[.non,.lst a,.non]):=by
 obtain ⟨d,hd,hp⟩:=Qg ns t [.int 2,.int 3,.int 4,.int 6,.int 26] 'g' (by omega);obtain ⟨m,rfl,m0,m1⟩:∃ m:Int,d=.int m/\0 < m/\m<=26:=by
  simp at hd;rcases hd with rfl | rfl | rfl | rfl | rfl;·exact ⟨2,rfl,by omega,by omega⟩
  ·exact ⟨3,rfl,by omega,by omega⟩
  ·exact ⟨4,rfl,by omega,by omega⟩
  ·exact ⟨6,rfl,by omega,by omega⟩
  ·exact ⟨26,rfl,by omega,by omega⟩
 obtain ⟨r,r0,r1,hr⟩:=vI ns (t++[.int 0]) (many:=6) (by omega) (by rw [af]; simp; omega);have n:(zr 0 (1+r).toNat).length=(1+r).toNat:=by simp [zr]
 obtain ⟨a,c,k',W,b,g,q,p,o,l,k⟩:=xT ns (.int 6) m0 m1 (zr 0 (1+r).toNat) (t++[.int 0]++[.int 0]) [] im im (by rw [n,af,af]; simp; omega) (by rw [n]; simp; omega) cy 'g';have e:zr 0 (1+r).toNat≠[]:=λz=>by rw [z] at n;simp at n;omega
 refine ⟨c,a,⟨p e,?_,o,l⟩,?_,?_⟩;·rw [n] at g;simp at g;omega
 ·rw [n,af,af] at b;simp at b;omega
 ·refine qr.trans ?_;have f:-(2 ^ 62:Int)<=1+r/\1+r < 2 ^ 62:=by omega
  have i:=big;have h:5<=sizeLine:=by omega
  simp only [aV,dH,cm,bU] at k hr;simp [Xk,qt,hp,hr,jo,-Int.reducePow,f,h,k,yY]
def KW (p q:Int):Prop:=(-3<=p/\p<=2)/\-3<=q/\q<=2
theorem qgq (ns:List Int) (t:List D) (ht:t.length < 900):∃ p q a,KW p q/\a.length=t.length+2/\UL [scr ns,.lst t]=.ok (.tup [.int p,.int q],[.non,.lst a]):=by
 obtain ⟨r,r0,r1,hr⟩:=vI ns t (many:=6) (by omega) (by omega);obtain ⟨u,b,j,f⟩:=vI ns (t++[.int 0]) (many:=6) (by omega) (by rw [af]; simp; omega);have d:=big;have z:2<=sizeLine:=by omega
 refine ⟨r - 3,u - 3,t++[.int 0,.int 0],⟨⟨by omega,by omega⟩,by omega,by omega⟩,by simp,?_⟩;refine qr.trans ?_;simp only [aV,dH,cm] at f;simp [qbb,qt,hr,f,ym,z]
noncomputable def xu (n:Nat) (p:Int):Nat:=(max 0 (min (if 0<=p then p else (n:Int)+p) ((n:Int) - 1))).toNat
noncomputable def Xq (w:Str) (p:Int):Str:=⟨#[(w.cps.toList[xu w.length p]?).getD 0]⟩
variable {w:Str}
theorem zm (h:qdS w) (p:Int):vE [.str w,.int p]=.ok (.str (Xq w p),[.non,.non]):=by
 have h1:=h.1;have hn:(w.cps.toList.length:Int)=w.length:=by simp [wg]
 have key:∀ q:Int,q=(if 0<=p then p else (w.length:Int)+p)->atI w.cps.toList (if 0 < (if (w.length:Int) - 1 < q then (w.length:Int) - 1 else q) then (if (w.length:Int) - 1 < q then (w.length:Int) - 1 else q) else 0)=ij ((w.cps.toList[xu w.length p]?).getD 0):=by
  intro q hq;have e:(if 0 < (if (w.length:Int) - 1 < q then (w.length:Int) - 1 else q) then (if (w.length:Int) - 1 < q then (w.length:Int) - 1 else q) else 0)=(xu w.length p:Int):=by
   unfold xu;rw [<-hq];have:1<=(w.length:Int):=by omega
   generalize (w.length:Int)=n at *;split <;> split <;> omega
  have hl:xu w.length p < w.cps.toList.length:=by
   have F:w.cps.toList.length=w.length:=by simp [wg]
   rw [F];unfold xu;omega
  rw [e,uO,aE hl];rfl
 refine qr.trans ?_;by_cases hp:0<=p;·have k:=key p (by rw [Aa hp]);simp [yF,qt,geD,ym,hp,qjm,qjn,ixD,k,Xq]
 ·have k:=key (w.length+p) (by rw [Ab hp]);simp [yF,qt,geD,ym,hp,qjm,qjn,ixD,k,Xq]
theorem qbo (h:qdS w):(∃ a,w=⟨#[a]⟩)\/(∃ a b,w=⟨#[a,b]⟩)\/(∃ a b c,w=⟨#[a,b,c]⟩)\/(∃ a b c d,w=⟨#[a,b,c,d]⟩)\/(∃ a b c d e,w=⟨#[a,b,c,d,e]⟩)\/∃ a b c d e f,w=⟨#[a,b,c,d,e,f]⟩:=by
 obtain ⟨⟨l⟩⟩:=w;have h1:1<=l.length:=h.1;have h2:l.length<=6:=h.2.1
 match l,h1,h2 with
 | [a],_,_=>exact .inl ⟨a,rfl⟩
 | [a,b],_,_=>exact .inr (.inl ⟨a,b,rfl⟩)
 | [a,b,c],_,_=>exact .inr (.inr (.inl ⟨a,b,c,rfl⟩))
 | [a,b,c,d],_,_=>exact .inr (.inr (.inr (.inl ⟨a,b,c,d,rfl⟩)))
 | [a,b,c,d,e],_,_=>exact .inr (.inr (.inr (.inr (.inl ⟨a,b,c,d,e,rfl⟩))))
 | [a,b,c,d,e,f],_,_=>exact .inr (.inr (.inr (.inr (.inr ⟨a,b,c,d,e,f,rfl⟩))))
variable {own:List Nat}
theorem xU (ρc:Sl):∀ (cap:List Nat) (n:Nat) (ρ:Sl),(∀ k∈cap,k∉own)->ke own ρc n cap ρ=ρ
 | [],n,ρ,_=>rfl
 | k::cap,n,ρ,h=>by unfold ke;rw [Ab (h k (ap ..))];exact xU ρc cap (n+1) ρ λx hx=>h x (ae _ hx)
variable {caps:Sl}
theorem qiz {fe:jl} {ft:yi} {P:D->Bool} {F:D->D}:∀ (ds:List D) (x:Option D),(∀ d∈ds,ft (ij d::caps)=.ok (P d,ij d::caps))->(∀ d∈ds,P d=iu->fe (ij d::caps)=.ok (F d,ij d::caps))->∃ n,jX (gNm 0) ft fe ds (x::caps)=.ok ((ds.filter P).map F,n::caps)
 | [],x,_,_=>⟨x,rfl⟩
 | d::ds,x,h,h'=>by
  obtain ⟨n,e⟩:=qiz ds (ij d) (λd' hd=>h d' (ae _ hd)) λd' hd=>h' d' (ae _ hd);refine ⟨n,?_⟩;have h1:=h d (ap ..);have h2:=h' d (ap ..);cases q:P d with
  | true=>simp [jX,gf,h1,q,h2 q,e]
  | false=>simp [jX,gf,h1,q,e]
variable {cap:List Nat} {ρ1:Sl}
theorem qev {fi:ww} {fe:jl} {ft:yi} (P:D->Bool) (F:D->D) (l:∀ k∈cap,k∉own) (h:fi ρ=.ok (ds,ρ1)) (hl:ds.length<=sizeLine)
  (ht:∀ d∈ds,ft (ij d::cap.map λk=>(ρ1[k]?).getD im)=.ok (P d,ij d::cap.map λk=>(ρ1[k]?).getD im)) (i:∀ d∈ds,P d=iu->fe (ij d::cap.map λk=>(ρ1[k]?).getD im)=.ok (F d,ij d::cap.map λk=>(ρ1[k]?).getD im)) :
  jk own 1 cap fi (gNm 0) ft fe ρ=.ok (.lst ((ds.filter P).map F),ρ1):=by
 obtain ⟨n,e⟩:=qiz ds im ht i;unfold jk;rw [h];simp only [ku];rw [Aa hl,show vA 1 cap ρ1=im::cap.map λk=>(ρ1[k]?).getD im from rfl,e];simp only [ku,xU _ _ _ _ l]
theorem UP {fi:ww} {fe:jl} (F:D->D) (l:∀ k∈cap,k∉own) (h:fi ρ=.ok (ds,ρ1)) (hl:ds.length<=sizeLine) (ht:∀ d∈ds,fe (ij d::cap.map λk=>(ρ1[k]?).getD im)=.ok (F d,ij d::cap.map λk=>(ρ1[k]?).getD im)):jk own 1 cap fi (gNm 0) ftT fe ρ=.ok (.lst (ds.map F),ρ1):=by have e:=qev (ft:=ftT) (λ_=>iu) F l h hl (λ_ _=>rfl) λd hd _=>ht d hd;rw [dL.mpr λ_ _=>rfl] at e;exact e
theorem vJ {fi:ww} {fe:jl} (F:D->D) (h:fi ρ=.ok (ds,ρ1)) (hl:ds.length<=sizeLine) (ht:∀ d∈ds,fe (ij d::cap.map λk=>(ρ1[k]?).getD im)=.ok (F d,ij d::cap.map λk=>(ρ1[k]?).getD im)):jk [] 1 cap fi (gNm 0) ftT fe ρ=.ok (.lst (ds.map F),ρ1):=UP F (λ_ _=>by simp) h hl ht
theorem qew {fe:jl} {ft:yi} {P:D×D->Bool} {F:D×D->D}:∀ (ps:List (D×D)) (x y:Option D),(∀ p∈ps,ft (ij p.1::ij p.2::caps)=.ok (P p,ij p.1::ij p.2::caps))->(∀ p∈ps,P p=iu->fe (ij p.1::ij p.2::caps)=.ok (F p,ij p.1::ij p.2::caps)) ->∃ n s,jX (jG 2 (qA (gNm 0) (qA (gNm 1) jF))) ft fe (ps.map λp=>.tup [p.1,p.2]) (x::y::caps)=.ok ((ps.filter P).map F,n::s::caps)
 | [],x,y,_,_=>⟨x,y,rfl⟩
 | p::ps,x,y,h,h'=>by
  obtain ⟨n,s,e⟩:=qew ps (ij p.1) (ij p.2) (λd' hd=>h d' (ae _ hd)) λd' hd=>h' d' (ae _ hd);refine ⟨n,s,?_⟩;have h1:=h p (ap ..);have h2:=h' p (ap ..);cases q:P p with
  | true=>simp [jX,gf,jG,qA,jF,h1,q,h2 q,e]
  | false=>simp [jX,gf,jG,qA,jF,h1,q,e]
theorem qbp {fi:ww} {fe:jl} {ft:yi} {ps:List (D×D)} (P:D×D->Bool) (F:D×D->D) (l:∀ k∈cap,k∉own) (h:fi ρ=.ok (ps.map λp=>.tup [p.1,p.2],ρ1)) (hl:ps.length<=sizeLine)
  (ht:∀ p∈ps,ft (ij p.1::ij p.2::cap.map λk=>(ρ1[k]?).getD im)=.ok (P p,ij p.1::ij p.2::cap.map λk=>(ρ1[k]?).getD im))
  (i:∀ p∈ps,P p=iu->fe (ij p.1::ij p.2::cap.map λk=>(ρ1[k]?).getD im)=.ok (F p,ij p.1::ij p.2::cap.map λk=>(ρ1[k]?).getD im)) :
  jk own 2 cap fi (jG 2 (qA (gNm 0) (qA (gNm 1) jF))) ft fe ρ=.ok (.lst ((ps.filter P).map F),ρ1):=by
 obtain ⟨n,s,e⟩:=qew ps im im ht i;unfold jk;rw [h];simp only [ku];rw [Aa (by rw [ay]; exact hl),show vA 2 cap ρ1=im::im::cap.map λk=>(ρ1[k]?).getD im from rfl,e];simp only [ku,xU _ _ _ _ l]
noncomputable def qv (ws:List Str) (p q:Int):List (Str×Str):=ws.map λw=>(Xq w p,Xq w q)
noncomputable def jx (l:List (Str×Str)):List D:=l.map λx=>.tup [.str x.1,.str x.2]
theorem qV (h:n<=2000):n<=sizeLine:=bY h big
abbrev Wd (ws:List Str):D:=.tup (ws.map D.str)
abbrev Ld (p q:Int):D:=.tup [.int p,.int q]
variable {ws:List Str} {p q:Int}
theorem ZP {G:jK} (h:jw ws) (a:∀ w∈ws,G [.str w,.int p]=.ok (.str (Xq w p),[.non,.non])/\G [.str w,.int q]=.ok (.str (Xq w q),[.non,.non])):jk [] 1 [1] (jR (qc 0)) (gNm 0) ftT (vM (qb (qo [.vl,.vl] G (qb (qc 0) (qb (d2 ixD (qc 1) 'i') qw))) (qb (qo [.vl,.vl] G (qb (qc 0) (qb (d2 ixD (qc 1) 'f') qw))) qw))) [ij (Wd ws),ij (Ld p q)]
   = .ok (.lst (jx 'h'),[ij (Wd ws),ij (Ld p q)]):=by
 have e:=vJ (cap:=[1]) (fi:=jR (qc 0)) (ρ:=[ij (Wd ws),ij (Ld p q)]) (ρ1:=[ij (Wd ws),ij (Ld p q)]) (ds:=ws.map D.str)
  (fe:=(vM (qb (qo [.vl,.vl] G (qb (qc 0) (qb (d2 ixD (qc 1) 'i') qw))) (qb (qo [.vl,.vl] G (qb (qc 0) (qb (d2 ixD (qc 1) 'f') qw))) qw))))
  (λd=>match d with | .str w=>.tup [.str (Xq w p),.str (Xq w q)] | d=>d) (by simp [jM]) (by rw [ay]; exact qV (by have:=h.2.1; omega)) (λd hd=>by obtain ⟨w,c,rfl⟩:=ah.mp hd;obtain ⟨h1,h2⟩:=a w c;have z:2<=sizeLine:=qV (by omega);simp [ixD,atI,ixN,h1,h2,z])
 rw [e];simp [jx,qv]
def Pl:D->Prop
 | .raw _=>False
 | .xcp _=>False
 | .ins _ _=>False
 | .dct _=>False
 | .at_ _ _=>False
 | _=>True
@[simp] theorem kk1:kJ "NoneType" "int"=ij false:=by decide +kernel
@[simp] theorem kk2:kJ "bool" "int"=ij true:=by decide +kernel
@[simp] theorem kk3:kJ "int" "int"=ij true:=by decide +kernel
@[simp] theorem kk4:kJ "str" "int"=ij false:=by decide +kernel
@[simp] theorem kk5:kJ "tuple" "int"=ij false:=by decide +kernel
@[simp] theorem kk6:kJ "list" "int"=ij false:=by decide +kernel
@[simp] theorem kb1:kJ "NoneType" "bool"=ij false:=by decide +kernel
@[simp] theorem kb2:kJ "bool" "bool"=ij true:=by decide +kernel
@[simp] theorem kb3:kJ "int" "bool"=ij false:=by decide +kernel
@[simp] theorem kb4:kJ "str" "bool"=ij false:=by decide +kernel
@[simp] theorem kb5:kJ "tuple" "bool"=ij false:=by decide +kernel
@[simp] theorem kb6:kJ "list" "bool"=ij false:=by decide +kernel
@[simp] theorem ks1:kJ "NoneType" "str"=ij false:=by decide +kernel
@[simp] theorem ks2:kJ "bool" "str"=ij false:=by decide +kernel
@[simp] theorem ks3:kJ "int" "str"=ij false:=by decide +kernel
@[simp] theorem ks4:kJ "str" "str"=ij true:=by decide +kernel
@[simp] theorem ks5:kJ "tuple" "str"=ij false:=by decide +kernel
@[simp] theorem ks6:kJ "list" "str"=ij false:=by decide +kernel
@[simp] theorem kt1:kJ "NoneType" "tuple"=ij false:=by decide +kernel
@[simp] theorem kt2:kJ "bool" "tuple"=ij false:=by decide +kernel
@[simp] theorem kt3:kJ "int" "tuple"=ij false:=by decide +kernel
@[simp] theorem kt4:kJ "str" "tuple"=ij false:=by decide +kernel
@[simp] theorem kt5:kJ "tuple" "tuple"=ij true:=by decide +kernel
@[simp] theorem kt6:kJ "list" "tuple"=ij false:=by decide +kernel
noncomputable def Qh:D->Bool
 | .tup _=>iu
 | _=>ir
theorem Wz (h:Pl d):wI "tuple" d=.ok (.bl (Qh d)):=by cases d <;> first | exact h.elim | simp [wI,tyN,Qh]
noncomputable def qbq:D->Bool
 | .str x=>decide (x.length=1)&&(!vd x "a"&&!vd "z" x)
 | _=>ir
noncomputable def wX (lo hi:Int):D->Bool
 | .int i=>decide (lo<=i)&&decide (i<=hi)
 | _=>ir
theorem uQ (h:Pl d):kK [d]=.ok (.bl (qbq d),[.non]):=by
 refine qr.trans ?_;cases d <;> first
  | exact h.elim
  | (simp [wK,qt,wI,tyN,qbq]; done)
  | skip
 rename_i x;by_cases h1:x.length=1
 ·have c:(x.length:Int)=1:=by omega
  cases h2:vd x "a" <;> simp [wK,qt,wI,tyN,eqD,eqN,eqS,qbq,h1,c,h2]
 ·have c:¬(x.length:Int)=1:=by omega
  simp [wK,qt,wI,tyN,eqD,eqN,eqS,qbq,h1,c]
theorem jh (h:Pl d) (lo hi:Int):qS [d,.int lo,.int hi]=.ok (.bl (wX lo hi d),[.non,.non,.non]):=by
 refine qr.trans ?_;cases d <;> first
  | exact h.elim
  | (simp [uy,qt,wI,tyN,wX]; done)
  | skip
 rename_i i;by_cases h1:lo<=i <;> simp [uy,qt,wI,tyN,wX,h1]
theorem qbr {c:Nat} (h:az c):qbq (.str ⟨#[c]⟩)=true:=by
 have g:(aL "a").cps.toList=[97]:=by decide +kernel
 have z:(aL "z").cps.toList=[122]:=by decide +kernel
 obtain ⟨h1,h2⟩:=h;have f:¬([c]:List Nat) < [97]:=by rw [List.cons_lt_cons_iff];simp;omega
 have l:¬([122]:List Nat) < [c]:=by rw [List.cons_lt_cons_iff];simp;omega
 have e1:vd ⟨#[c]⟩ (aL "a")=false:=by unfold vd;rw [g];exact Ac f
 have i:vd (aL "z") ⟨#[c]⟩=false:=by unfold vd;rw [z];exact Ac l
 simp [qbq,wg,e1,i]
theorem Jl (f:α->Bool):∀ l:List α,vC (l.map λx=>.bl (f x))=ij (l.map f)
 | []=>rfl
 | a::l=>by have j:=Jl f l;simp [vC,j]
theorem wY (f:α->Bool) (l:List α):Gb (.lst (l.map λx=>.bl (f x)))=.ok (.bl (l.all f)):=by simp only [Gb,Jl];simp [List.all_map,Function.comp_def]
theorem qbs (h:qdS w) (p:Int):∃ c,az c/\Xq w p=⟨#[c]⟩:=by
 have hn:w.cps.toList.length=w.length:=by simp [wg]
 have hl:xu w.length p < w.cps.toList.length:=by have:=h.1;rw [hn];unfold xu;omega
 refine ⟨w.cps.toList[xu w.length p],h.2.2 _ (cu hl),?_⟩;unfold Xq;rw [aE hl];rfl
theorem ZQ (h:qdS w):xh [.str w]=.ok (.bl iu,[.non]):=by
 refine qr.trans ?_;have e:=vJ (cap:=[]) (fi:=jR (qc 0)) (ρ:=[ij (.str w)]) (ρ1:=[ij (.str w)]) (ds:=VA w) (fe:=qo [.vl] kK (qb (qc 0) qw)) (λd=>.bl (qbq d)) (by simp [jM]) (by
   have:=h.2.1;simp [VA,<-wg];exact qV (by omega)) (λd hd=>by
   obtain ⟨c,a,rfl⟩:=ah.mp hd;have h1:=uQ (d:=.str ⟨#[c]⟩) trivial;simp [h1])
 have g:(VA w).all qbq=true:=by rw [aQ];intro d hd;obtain ⟨c,a,rfl⟩:=ah.mp hd;exact qbr (h.2.2 c a)
 have h1:(1:Int)<=w.length:=by have:=h.1; omega
 have h6:(w.length:Int)<=6:=by have:=h.2.1; omega
 simp only [VZ,qt,aD,bU,ao,aX,Nat.reduceAdd,ej,cE,aZ];simp [wI,tyN,h1,h6,e,wY,g]
theorem yI:∀ (ws ks:List Str),ws.Nodup->(∀ x∈ws,x∉ks)->ws.foldl xa ks=ks++ws
 | [],ks,_,_=>by simp
 | w::ws,ks,hn,hd=>by
  have h1:=aK.mp hn;rw [cj,show xa ks w=ks++[w] from Ab (hd w (ap ..)),yI ws (ks++[w]) h1.2 ?_];·simp
  ·intro x hx z;rcases aj.mp z with z | z;·exact hd x (ae _ hx) z
   ·rw [au.mp z] at hx;exact h1.1 hx
theorem uR (ws:List Str):∀ ks:List Str,ks.Nodup->(ws.foldl xa ks).Nodup/\∀ x,x∈ws.foldl xa ks↔x∈ks\/x∈ws:=by
 induction ws with
 | nil=>intro ks hn; exact ⟨hn,λx=>by simp⟩
 | cons w ws j=>
  intro ks hn;have r:(xa ks w).Nodup:=by
   unfold xa;split;·exact hn
   ·rename_i h;exact cg.mpr ⟨hn,by simp,λa g b d=>by rw [au.mp d];exact λz=>h (z ▸ g)⟩
  obtain ⟨a,b⟩:=j (xa ks w) r;refine ⟨a,λx=>?_⟩;rw [cj,b x];unfold xa;split
  ·rename_i h;constructor
   ·rintro (q | q);·exact .inl q
    ·exact .inr (ae _ q)
   ·rintro (q | q);·exact .inl q
    ·rcases ac.mp q with rfl | q;·exact .inl h
     ·exact .inr q
  ·simp [aj,or_assoc]
theorem UQ (h:jw ws):xM [.tup (ws.map D.str)]=.ok (.bl iu,[.non]):=by
 refine qr.trans ?_;have e:=vJ (cap:=[]) (fi:=jR (qc 0)) (ρ:=[ij (.tup (ws.map D.str))]) (ρ1:=[ij (.tup (ws.map D.str))]) (ds:=ws.map D.str) (fe:=qo [.vl] xh (qb (qc 0) qw)) (λd=>.bl iu) (by simp [jM]) (by
   rw [ay];exact qV (by have:=h.2.1; omega)) (λd hd=>by
   obtain ⟨w,c,rfl⟩:=ah.mp hd;have h1:=ZQ (h.2.2.2 w c);simp [h1])
 have h1:(1:Int)<=ws.length:=by have:=h.1; omega
 have h6:(ws.length:Int)<=6:=by have:=h.2.1; omega
 have f:ws.foldl xa []=ws:=by rw [yI ws [] h.2.2.1 'g']; simp
 have a:ws.length < 4000:=by omega
 have g:=wY (λ_:D=>iu) (ws.map D.str);simp only [Jc,qt,aD,bU,ao,aX,Nat.reduceAdd,ej,cE,aZ];simp [-bg,wI,tyN,h1,h6,e,g,gB,yn,uP,f,a,eqD,eqN,eqS]
theorem QH (w:jw ws):wM [.tup (ws.map D.str)]=.ok (.non,[.non]):=by refine qr.trans ?_;have h:=UQ w;simp [xi,qt,h]
theorem ZR (hl:KW p q):gN [.tup [.int p,.int q]]=.ok (.bl iu,[.non]):=by
 refine qr.trans ?_;have e:=vJ (cap:=[]) (fi:=jR (qc 0)) (ρ:=[ij (.tup [.int p,.int q])]) (ρ1:=[ij (.tup [.int p,.int q])]) (ds:=[.int p,.int q]) (fe:=qo [.vl,.vl,.vl] qS (qb (qc 0) (qb (dC (.int (-3))) (qb (dC (.int 2)) qw)))) (λd=>.bl (wX (-3) 2 d)) (by simp [jM]) (qV 'g') (λd hd=>by
   have hd:d=.int p\/d=.int q:=by simpa using hd
   have h1:=jh (d:=.int p) trivial (-3) 2;have h2:=jh (d:=.int q) trivial (-3) 2;rcases hd with rfl | rfl;·simp [h1]
   ·simp [h2])
 have a:wX (-3) 2 (.int p)=true:=by simp [wX]; exact hl.1
 have b:wX (-3) 2 (.int q)=true:=by simp [wX]; exact hl.2
 simp only [Wa,qt,aD,bU,ao,aX,Nat.reduceAdd,ej,cE,aZ];simp [wI,tyN,neD,eqN,eqS,e,Gb,vC,a,b]
theorem Kz (hl:KW p q):uC [.tup [.int p,.int q]]=.ok (.non,[.non]):=by refine qr.trans ?_;have h:=ZR hl;simp [zg,qt,h]
theorem Xr (h:jw ws) (hl:KW p q):uD [Wd ws,Ld p q]=.ok (.lst (jx 'h'),[.non,.non]):=by
 refine qr.trans ?_;have e:=ZP (G:=vE) h (p:=p) (q:=q) λw c=>⟨zm (h.2.2.2 w c) p,zm (h.2.2.2 w c) q⟩
 have k:=QH h;have c2:=Kz hl;simp only [qaS,qt,aD,bU,ao,aX,Nat.reduceAdd,ej,cE,aZ];simp [k,c2,e]
theorem WA {a b:List Str} (g:a.Nodup) (d:b.Nodup) (h:∀ x,x∈a↔x∈b):a.Perm b:=(List.perm_ext_iff_of_nodup g d).mpr h
theorem qbt {a b:List Str} (h:∀ x,x∈a↔x∈b):jY (a.foldl xa [])=jY (b.foldl xa []):=by
 obtain ⟨n1,m1⟩:=uR a [] cy;obtain ⟨n2,B⟩:=uR b [] cy;have p:=WA n1 n2 λx=>by rw [m1,B,h]
 exact uu ((qM _).trans (p.trans (qM _).symm)) (ji _) (ji _)
noncomputable def LS (l:List (Str×Str)):List Str:=jY ((l.map (·.1)++l.map (·.2)).foldl xa [])
theorem vY {l:List (Str×Str)}:x∈LS l↔∃ p∈l,x=p.1\/x=p.2:=by
 unfold LS;rw [(qM _).mem_iff,(uR _ [] cy).2];simp only [aN,false_or,aj,ah];constructor
 ·rintro (⟨p,hp,rfl⟩ | ⟨p,hp,rfl⟩);·exact ⟨p,hp,.inl rfl⟩
  ·exact ⟨p,hp,.inr rfl⟩
 ·rintro ⟨p,hp,rfl | rfl⟩;·exact .inl ⟨p,hp,rfl⟩
  ·exact .inr ⟨p,hp,rfl⟩
theorem xw {l:List (Str×Str)} (hl:l.length<=20):jP [.lst (jx l)]=.ok (.lst ((LS l).map D.str),[.non]):=by
 refine qr.trans ?_;have z:(jx l).length<=sizeLine:=by unfold jx;rw [ay];exact qV (by omega)
 have e1:=vJ (cap:=[]) (fi:=jR (qc 0)) (ρ:=[ij (.lst (jx l))]) (ρ1:=[ij (.lst (jx l))]) (ds:=jx l) (fe:=d2 ixD (qc 0) 'i') (λd=>match d with | .tup [a,b]=>a | d=>d) (by simp [jM]) z (λd hd=>by obtain ⟨x,hx,rfl⟩:=ah.mp hd;simp [ixD,atI,ixN]);have i:=vJ (cap:=[]) (fi:=jR (qc 0)) (ρ:=[ij (.lst (jx l))]) (ρ1:=[ij (.lst (jx l))]) (ds:=jx l) (fe:=d2 ixD (qc 0) 'f') (λd=>match d with | .tup [a,b]=>b | d=>d) (by simp [jM]) z (λd hd=>by obtain ⟨x,hx,rfl⟩:=ah.mp hd;simp [ixD,atI,ixN]);have f1:(jx l).map (λd=>match d with | .tup [a,b]=>a | d=>d)=(l.map (·.1)).map D.str:=by simp [jx]
 have f2:(jx l).map (λd=>match d with | .tup [a,b]=>b | d=>d)=(l.map (·.2)).map D.str:=by simp [jx]
 rw [f1] at e1;rw [f2] at i;have c:l.length+l.length<=sizeLine:=qV (by omega);have j:l.length+l.length < 64:=by omega
 simp only [zi,qt,aD,bU,ao,aX,Nat.reduceAdd,ej,cE,aZ,Us,qdo,qkh,e1,i,ku];simp only [qlH,ay,Aa c,qkd,ku,<-fh,vQ,yn,uP,af,Aa j];simp [LS]
theorem at0 {a:D} {l:List D}:atI (a::l) 0=ij a:=by have:=uO (a::l) 0;simpa using this
theorem at1 {a b:D} {l:List D}:atI (a::b::l) 1=ij b:=by have:=uO (a::b::l) 1;simpa using this
abbrev nn4:Sl:=[ij .non,ij .non,ij .non,ij .non]
theorem xx (h:Pl d):jB [d]=if wX 1 99 d=iu then .ok (.non,[.non]) else .exc "NoRoom" [ij .non]:=by refine qr.trans ?_;have h1:=jh h 1 99;have z:1<=sizeLine:=qV (by omega);cases e:wX 1 99 d <;> simp [vR,qt,h1,e,kg]
theorem qy {f g:qU} (h:f ρ=.ok (.nx,ρ1)):KZ ms (qG f g ρ)=KZ ms (g ρ1):=by rw [gD,h];rfl
theorem WB (w:jw ws) (p q:Int):(LS 'h').length<=12:=by
 have c:(qv ws p q).length<=6:=by simp [qv]; exact w.2.1
 unfold LS;rw [(qM _).length_eq];have:=VE ((qv ws p q).map (·.1)++(qv ws p q).map (·.2)) [];simp only [af,ay,aX] at this;omega
theorem qgr (a:jw ws) (p q:Int):∀ x∈LS 'h',∃ c,az c/\x=⟨#[c]⟩:=λx hx=>by
 obtain ⟨y,D,h⟩:=vY.mp hx;obtain ⟨w,m,rfl⟩:=ah.mp D;rcases h with rfl | rfl;·exact qbs (a.2.2.2 w m) p
 ·exact qbs (a.2.2.2 w m) q
theorem Xu:∀ l:List (Str×Str),(l.flatMap λp=>[p.1,p.2]).length=2 * l.length
 | []=>rfl
 | a::l=>by
  rw [List.flatMap_cons,af,Xu l,ao];simp
  lia
noncomputable def prL (l:List (Str×Int)):List D:=l.map λx=>.tup [.str x.1,.int x.2]
noncomputable def qp (l:List (Str×Int)):List Str:=l.map (·.1)
noncomputable def bk (l:List (Str×Int)):List (Key×D):=l.map λx=>(.inr x.1,.int x.2)
theorem Qi:∀ l:List (Str×Int),ur (prL l)=ij (bk l)
 | []=>rfl
 | x::l=>by have j:=Qi l;unfold prL at j ⊢;rw [aD];simp [ur,qdd,zd,j,bk]
theorem UR:∀ (l:List (Str×Int)) (a:List (Key×D)),(qp l).Nodup->(∀ x∈l,∀ p∈a,p.1≠.inr x.1)->(bk l).foldl (λa p=>zI a p.1 p.2) a=a++bk l
 | [],a,_,_=>by simp [bk]
 | x::l,a,hn,hd=>by
  have h1:=aK.mp (show (x.1::qp l).Nodup from hn);have hp:zI a (.inr x.1) (.int x.2)=a++[(.inr x.1,.int x.2)]:=by unfold zI;rw [Ab];simp only [List.any_eq_true,decide_eq_true_eq,not_exists,not_and];exact λp hp=>hd x (ap ..) p hp
  have j:=UR l (a++[(.inr x.1,.int x.2)]) h1.2 (λy h p hp=>by
   rcases aj.mp hp with hp | hp;·exact hd y (ae _ h) p hp
   ·rw [au.mp hp];intro z;have z:x.1=y.1:=bC.inj z;exact h1.1 (z ▸ ah.mpr ⟨y,h,rfl⟩))
  show ((bk l).foldl (λa p=>zI a p.1 p.2) (zI a (.inr x.1) (.int x.2)))=a++(.inr x.1,.int x.2)::bk l;rw [hp,j];simp
variable {l:List (Str×Int)}
theorem qgs (h:(qp l).Nodup):qde (.tup (prL l))=.ok (.dct (bk l)):=by have e:=UR l [] h (λ_ _ p hp=>by cases hp);simp at e;simp [qde,Qi,e]
noncomputable def qK (l:List (Str×Int)) (x:Str):Int:=((l.find? λy=>decide (y.1=x)).map (·.2)).getD 0
theorem wZ:∀ {l:List (Str×Int)} {x:Str},x∈qp l->(x,qK l x)∈l/\(bk l).find? (λkv=>decide (kv.1=bC x))=ij (.inr x,.int (qK l x))
 | [],x,h=>by cases h
 | a::l,x,h=>by
  by_cases e:a.1=x
  ·have c:qK (a::l) x=a.2:=by simp [qK,e]
   rw [c];refine ⟨?_,?_⟩;·rw [<-e];exact ap ..
   ·simp [bk,e]
  ·have hx:x∈qp l:=by
    rcases ac.mp (show x∈a.1::qp l from h) with z | z;·exact absurd z.symm e
    ·exact z
   obtain ⟨h1,h2⟩:=wZ hx;have c:qK (a::l) x=qK l x:=by simp [qK,e]
   rw [c];refine ⟨ae _ h1,?_⟩;rw [<-h2];simp [bk,e]
theorem KA (h:x∈qp l):ixD (.dct (bk l)) (.str x)=.ok (.int (qK l x)):=by simp [ixD,(wZ h).2]
noncomputable def qjA (l:List (Str×Int)) (s:List (Str×Str)) (r:Int):List D:=s.map λx=>.int ((qK l x.1+qK l x.2) % r)
variable {room:Int}
theorem Jm (ns:List Int) (hr:0 < room):∀ (L:List Str) (t:List D) (x:Option D),t.length+L.length < 1000 ->∃ (es:List (Str×Int)) (b:List D) (n:Option D),qp es=L/\(∀ e∈es,0<=e.2/\e.2 < room)/\b.length=t.length+L.length /\
   jX (gNm 0) ftT (vM (qb (qc 0) (qb (qo [.vl,.sl 2,.vl] jE (qb (qc 1) (jW (qb (qc 3) qw)))) qw))) (L.map D.str) [x,ij (scr ns),ij (.lst t),ij (.int room)]=.ok (prL es,[n,ij (scr ns),ij (.lst b),ij (.int room)])
 | [],t,x,_=>⟨[],t,x,rfl,by simp,by simp,rfl⟩
 | a::L,t,x,h=>by
  rw [ao] at h;obtain ⟨r,r0,r1,hd⟩:=vI ns t (many:=room) hr 'b';obtain ⟨es,b,n,k,A,g,q⟩:=Jm ns hr L (t++[.int 0]) (ij (.str a)) (by rw [af]; simp; lia);have z2:2<=sizeLine:=qV 'b';refine ⟨(a,r)::es,b,n,by simp [qp] at k ⊢; exact k,λe i=>?_,by rw [g,af]; simp; lia,?_⟩
  ·rcases ac.mp i with rfl | i;·exact ⟨r0,r1⟩
   ·exact A e i
  ·simp [jX,gf,hd,z2,q,prL]
theorem xy (h:qdS w) (g:-3<=p) (h1:p<=2):wv [.str w,.int p]=.ok (.str (Xq w p),[.non,.non]):=by
 have hp:p=-3\/p=-2\/p=-1\/p=0\/p=1\/p=2:=by omega
 rcases qbo h with ⟨a,rfl⟩ | ⟨a,b,rfl⟩ | ⟨a,b,c,rfl⟩ | ⟨a,b,c,d,rfl⟩ | ⟨a,b,c,d,e,rfl⟩ | ⟨a,b,c,d,e,f,rfl⟩ <;> rcases hp with rfl | rfl | rfl | rfl | rfl | rfl <;> kernel_rfl
theorem vZ (h:jw ws) (hl:KW p q):kz [.tup (ws.map D.str),.tup [.int p,.int q]]=.ok (.lst (jx 'h'),[.non,.non]):=by
 refine qr.trans ?_;have e:=vJ (cap:=[1]) (fi:=jR (qc 0)) (ρ:=[ij (.tup (ws.map D.str)),ij (.tup [.int p,.int q])]) (ρ1:=[ij (.tup (ws.map D.str)),ij (.tup [.int p,.int q])]) (ds:=ws.map D.str)
  (fe:=(vM (qb (qo [.vl,.vl] wv (qb (qc 0) (qb (d2 ixD (qc 1) 'i') qw))) (qb (qo [.vl,.vl] wv (qb (qc 0) (qb (d2 ixD (qc 1) 'f') qw))) qw))))
  (λd=>match d with | .str w=>.tup [.str (Xq w p),.str (Xq w q)] | d=>d) (by simp [jM]) (by rw [ay]; exact qV (by have:=h.2.1; omega)) (λd hd=>by obtain ⟨w,c,rfl⟩:=ah.mp hd;have h1:=xy (h.2.2.2 w c) hl.1.1 hl.1.2;have h2:=xy (h.2.2.2 w c) hl.2.1 hl.2.2;have z:2<=sizeLine:=qV (by omega);simp [ixD,atI,ixN,h1,h2,z])
 simp only [Xm,qt,aD,bU,Us,ao,aX,Nat.reduceAdd,ej,cE,aZ];rw [e];simp [jx,qv]
abbrev Pr:=Str×Str
abbrev Wk:=List Nat
noncomputable def inL (l:Wk):List D:=l.map λ(k:Nat)=>.int (k:Nat)
abbrev lD (l:Wk):D:=.lst (inL l)
abbrev nD (ns:List Int):D:=.tup (ns.map D.int)
abbrev pD (p:Pr):D:=.tup [.str p.1,.str p.2]
noncomputable def nI (ns:List Int) (k:Nat):Int:=(ns[k]?).getD 0
variable {ns:List Int}
theorem qex {k:Nat} (h:k < ns.length):ixD (nD ns) (.int (k:Nat))=.ok (.int (nI ns k)):=by unfold ixD nI;simp only [];rw [uO,aH,aE h];rfl
noncomputable def qP (ns:List Int) (t:Int) (l:Wk):Int:=l.foldl (λa k=>nI ns k - a) t
def qgX (nd:D) (ns:List Int):Prop:=∀ k:Nat,k < ns.length->ixD nd (.int (k:Nat))=.ok (.int (nI ns k))
theorem Xv (ns:List Int):qgX (nD ns) ns:=λ_ h=>qex h
theorem Jn {nd:D} {ns:List Int} (d:qgX nd ns) {a s:Option D}:∀ (l:Wk) (t:Int) (x:Option D),(∀ k∈l,k < ns.length)->∃ n,kU (gNm 4) (jp 3 (d2 yv (d2 ixD (qc 1) (qc 4)) (qc 3))) (inL l) [a,ij nd,s,ij (.int t),x]=.ok (.nx,[a,ij nd,s,ij (.int (qP ns t l)),n])
 | [],t,x,_=>⟨x,rfl⟩
 | k::l,t,x,h=>by have b:=d k (h k (ap ..));obtain ⟨n,e⟩:=Jn d (a:=a) (s:=s) l (nI ns k - t) (ij (.int (k:Nat))) λj G=>h j (ae _ G);refine ⟨n,?_⟩;have e0:qP ns t (k::l)=qP ns (nI ns k - t) l:=rfl;rw [e0,<-e];simp [inL,kU,b,ym]
variable {nd:D}
theorem yJ (d:qgX nd ns) {l:Wk} (h:∀ k∈l,k < ns.length) (t:Int):vo [lD l,nd,.int t]=.ok (.int (qP ns t l),[.non,.non,.non]):=by obtain ⟨n,e⟩:=Jn d (a:=ij (lD l)) (s:=ij (.int t)) l t im h;refine qr.trans ?_;unfold Jf;rw [show qt Je [lD l,nd,.int t]=[ij (lD l),ij nd,ij (.int t),im,im] from rfl];refine (qy (ρ1:=[ij (lD l),ij nd,ij (.int t),ij (.int t),im]) 'g').trans ?_;refine (qy (ρ1:=[ij (lD l),ij nd,ij (.int t),ij (.int (qP ns t l)),n]) (by rw [kh]; exact e)).trans ?_;simp
noncomputable def odd (l:Wk):Bool:=decide (l.length % 2=1)
theorem Qj (l:Wk):wO [lD l]=.ok (.bl (odd l),[.non]):=by
 refine qr.trans ?_;have h:((inL l).length:Int) % 2=((l.length % 2:Nat):Int):=by simp [inL]
 by_cases q:l.length % 2=1;·simp [Kb,qt,wE,ym,eqD,eqN,eqS,h,odd,q]
 ·have g:¬((l.length % 2:Nat):Int)=1:=by omega
  simp [Kb,qt,wE,ym,eqD,eqN,eqS,h,odd,q,g];omega
noncomputable def WC (l:Wk) (r:Int) (ns:List Int):Bool:=if odd l=iu then decide (r % 2=0)&&decide (qP ns 0 l % 2=1) else !decide (qP ns 0 l % r=0)
variable {r:Int}
theorem qbu (d:qgX nd ns) {l:Wk} (h:∀ k∈l,k < ns.length) (hr:1<=r):Wh [lD l,.int r,nd]=.ok (.bl (WC l r ns),[.non,.non,.non]):=by
 have h1:=yJ d h 0;have h2:=Qj l;have a:0 < r:=by omega
 refine qr.trans ?_;unfold WC;generalize qP ns 0 l=t at h1;cases q:odd l with
 | true=>rw [q] at h2;by_cases e1:r % 2=0 <;> simp [qaW,qt,h1,h2,wE,ym,eqD,eqN,eqS,e1] <;> rfl
 | false=>rw [q] at h2;simp [qaW,qt,h1,h2,wE,ym,neD,eqN,eqS,a];rfl
abbrev Wy:=List (Str×Str×Wk)
noncomputable def wD (W:Wy):List (Key×D):=W.map λe=>(.inr e.1,.tup [.str e.2.1,lD e.2.2])
noncomputable def kW (W:Wy):List Str:=W.map (·.1)
theorem qey (W:Wy) (x:Str):Zq (wD W) (.inr x)=decide (x∈kW W):=by
 unfold Zq wD kW
 induction W with
 | nil=>rfl
 | cons e W j=>
  rw [aD,cI,j];by_cases h:e.1=x;·subst h; simp
  ·have h2:¬(bC e.1:Key)=bC x:=λz=>h (bC.inj z);have g:¬x=e.1:=λz=>h z.symm;simp [h2,g]
variable {W:Wy}
theorem qez {r:Str} {l:Wk} (h:x∉kW W):zI (wD W) (.inr x) (.tup [.str r,lD l])=wD (W++[(x,r,l)]):=by
 unfold zI;have h1:((wD W).any λp=>decide (p.1=(bC x:Key)))=false:=by have:=qey W x;unfold Zq at this;rw [this];exact Ac h
 rw [h1,Ab bj];unfold wD;rw [fh];rfl
theorem qgt:∀ {W:Wy} {e:Str×Str×Wk},(kW W).Nodup->e∈W->ixD 'o' (.str e.1)=.ok (.tup [.str e.2.1,lD e.2.2])
 | [],e,_,h=>by cases h
 | a::W,e,hn,h=>by
  have r:=aK.mp (show (a.1::kW W).Nodup from hn);rcases ac.mp h with rfl | h;·simp [ixD,wD]
  ·have b:a.1≠e.1:=λz=>r.1 (by rw [z]; exact ah.mpr ⟨e,h,rfl⟩);have j:=qgt r.2 h;unfold ixD at j ⊢;simp only [wD,aD] at j ⊢;have h2:¬(bC a.1:Key)=bC e.1:=λz=>b (bC.inj z);rw [bD (by simpa using h2)];exact j
inductive Path (seen:List Pr) (r:Str):Wk->Str->Prop
 | nil:Path seen r [] r
 | snoc {l:Wk} {x y:Str} {k:Nat} {p:Pr}:Path seen r l x->seen[k]?=ij p->(p=(x,y)\/p=(y,x))->Path seen r (l++[k]) y
variable {seen:List Pr}
theorem Path.lt {r:Str} {l:Wk} (h:Path seen r l x):∀ k∈l,k < seen.length:=by
 induction h with
 | nil=>simp
 | snoc _ e _ j=>
  intro k a;rcases aj.mp a with a | a;·exact j k a
  ·rw [au.mp a];exact (aB.mp e).1
structure WI (seen:List Pr) (W:Wy):Prop where
 nd:(kW W).Nodup
 sub:∀ x∈kW W,x∈LS seen
 path:∀ e∈W,Path seen e.2.1 e.2.2 e.1
 len:∀ e∈W,e.2.2.length < W.length
 nr:∀ e∈W,e.2.2.Nodup/\∀ k∈e.2.2,∀ p,seen[k]?=ij p->p.1∈kW W/\p.2∈kW W
theorem kD (W V:Wy):kW (W++V)=kW W++kW V:=by simp [kW]
theorem WI.add (h:WI seen W) {r:Str} {l:Wk} (hx:x∉kW W) (m:x∈LS seen) (hp:Path seen r l x) (hl:l.length<=W.length) (c:l.Nodup/\∀ k∈l,∀ p,seen[k]?=ij p->(p.1∈kW W\/p.1=x)/\(p.2∈kW W\/p.2=x)):WI seen (W++[(x,r,l)]) where
 nr:=λe i=>by
  have up:∀ y,y∈kW W\/y=x->y∈kW (W++[(x,r,l)]):=λy D=>by
   rw [kD];rcases D with D | D;·exact bK _ D
   ·rw [D]; exact aR _ (by simp [kW])
  rcases aj.mp i with i | i;·obtain ⟨a,b⟩:=h.nr e i;exact ⟨a,λk d p hp=>⟨up _ (.inl (b k d p hp).1),up _ (.inl (b k d p hp).2)⟩⟩
  ·rw [au.mp i];exact ⟨c.1,λk d p hp=>⟨up _ (c.2 k d p hp).1,up _ (c.2 k d p hp).2⟩⟩
 nd:=by rw [kD];refine cg.mpr ⟨h.nd,by simp [kW],λa g b f=>?_⟩;rw [show kW [(x,r,l)]=[x] from rfl] at f;rw [au.mp f];exact λz=>hx (z ▸ g)
 sub:=λy D=>by
  rw [kD] at D;rcases aj.mp D with D | D;·exact h.sub y D
  ·rw [show y=x from au.mp D]; exact m
 path:=λe i=>by
  rcases aj.mp i with i | i;·exact h.path e i
  ·rw [au.mp i]; exact hp
 len:=λe i=>by
  rw [af];rcases aj.mp i with i | i;·have:=h.len e i; simp; omega
  ·rw [au.mp i]; simp; omega
theorem qbv:∀ {a b:List Str},a.Nodup->(∀ x∈a,x∈b)->a.length<=b.length
 | [],b,_,_=>bH _
 | x::a,b,hn,h=>by have r:=aK.mp hn;have hx:=h x (ap ..);have j:=qbv (b:=b.erase x) r.2 λy D=>(List.mem_erase_of_ne (λz=>r.1 (by rw [<-z]; exact D))).mpr (h y (ae _ D));rw [List.length_erase_of_mem hx] at j;have:=df hx;rw [ao];omega
theorem WI.le (h:WI seen W):W.length<=(LS seen).length:=by have:=qbv h.nd h.sub;simpa [kW] using this
noncomputable def oth (p:Pr) (x:Str):Str:=if x=p.1 then p.2 else p.1
theorem Xw (p:Pr) (x:Str):jI [pD p,.str x]=.ok (.str (oth p x),[.non,.non]):=by refine qr.trans ?_;unfold oth;by_cases h:x=p.1 <;> simp [yq,qt,ixD,at0,at1,eqD,eqN,eqS,h]
theorem qbw (p:Pr) (x:Str):inA (.str x) (pD p)=.ok (.bl (decide (x=p.1\/x=p.2))):=by have h:=xq x [p.1,p.2];simp only [aD,bU] at h;show (inD (.str x) (pD p)).bind (λb=>Out.ok (D.bl b))=_;unfold inD;simp only [h];simp
theorem Xx (W:Wy) (x:Str):ui (.str x) 'o'=.ok (.bl (!decide (x∈kW W))):=by unfold ui;simp only [zd];rw [qey]
theorem qiA {p:Pr} (hp:p∈seen) (x:Str):oth p x∈LS seen:=by
 rw [vY];refine ⟨p,hp,?_⟩;unfold oth;split;·exact .inr rfl
 ·exact .inl rfl
abbrev spB:qU:=(qG (jp 7 (qo [.vl,.vl] jI (qb (qc 6) (qb (qc 4) qw))))
  (sIf (Ze (qF (d2 inA (qc 4) (qc 6))) (qF (d2 ui (qc 7) (qc 2)))) (qG (yA 2 (vM (qb (qc 1) (qb (d2 jZ (d2 ixD (d2O 2 ixD (qc 4)) 'f') (wo (qb (qc 5) qw))) qw))) (qc 7))
  (kP (JF 3 Qy (qc 7)))) qO))
theorem Gd {f g:qU} (h:f ρ=.ok (.nx,ρ1)):qG f g ρ=g ρ1:=by rw [gD,h];rfl
variable {g:D->Sl->Out Sl} {ρ2:Sl}
theorem kE {fb:qU} (h1:g d ρ=.ok ρ1) (h2:fb ρ1=.ok (.nx,ρ2)):kU g fb (d::ds) ρ=kU g fb ds ρ2:=by rw [kU,h1];simp only [Out.plain,ku];rw [h2];rfl
theorem Xy {fb:qU} {v:D} (h1:g d ρ=.ok ρ1) (h2:fb ρ1=.ok (.rt v,ρ2)):kU g fb (d::ds) ρ=.ok (.rt v,ρ2):=by rw [kU,h1];simp only [Out.plain,ku];rw [h2];rfl
variable {root:Str} {ly:Wk}
theorem qgu (R:(LS seen).length<=20) (i:WI seen W) (n:(y,root,ly)∈W) {k:Nat} {p:Pr} (A:seen[k]?=ij p) (Q:List Str) (T:Q.length<=1000) (s x7:Option D):∃ (M:Wy) (C:Option D),WI seen (W++M)/\(∀ e∈M,e.2.1=root)/\M.length<=1/\((y=p.1\/y=p.2)->oth p y∈kW (W++M)) /\
   spB [s,ij (.str root),ij 'o',ij (.lst (Q.map D.str)),ij (.str y),ij (.int (k:Nat)),ij (pD p),x7]=.ok (.nx,[s,ij (.str root),ij (.dct (wD (W++M))),ij (.lst ((Q++kW M).map D.str)),ij (.str y),ij (.int (k:Nat)),ij (pD p),C]):=by
 have h1:=Xw p y;have h2:=qbw p y;have B:=Xx W (oth p y);have S:=i.le;have N:=big;have u:=i.len _ n;have I:p∈seen:=aP A;by_cases q:(y=p.1\/y=p.2)/\oth p y∉kW W
 ·have m:y∈kW W:=ah.mpr ⟨_,n,rfl⟩;have two:(p.1=y/\p.2=oth p y)\/(p.2=y/\p.1=oth p y):=by
   unfold oth;by_cases z:y=p.1;·exact .inl ⟨z.symm,by rw [Aa z]⟩
   ·exact .inr ⟨(q.1.resolve_left z).symm,by rw [Ab z]⟩
  have J:(ly++[k]).Nodup/\∀ j∈ly++[k],∀ Z,seen[j]?=ij Z->(Z.1∈kW W\/Z.1=oth p y)/\(Z.2∈kW W\/Z.2=oth p y):=by
   obtain ⟨n1,n2⟩:=i.nr _ n;refine ⟨cg.mpr ⟨n1,by simp,λa P b O=>?_⟩,λj G Z f=>?_⟩
   ·rw [au.mp O];rintro rfl;obtain ⟨c,d⟩:=n2 _ P p A;rcases two with ⟨_,t⟩ | ⟨_,t⟩
    ·exact q.2 (t ▸ d)
    ·exact q.2 (t ▸ c)
   ·rcases aj.mp G with G | G;·obtain ⟨c,d⟩:=n2 j G Z f;exact ⟨.inl c,.inl d⟩
    ·rw [au.mp G,A] at f;cases f;rcases two with ⟨t1,t2⟩ | ⟨t1,t2⟩
     ·exact ⟨.inl (t1 ▸ m),.inr t2⟩
     ·exact ⟨.inr t2,.inl (t1 ▸ m)⟩
  refine ⟨[(oth p y,root,ly++[k])],ij (.str (oth p y)),i.add q.2 (qiA I y) (.snoc (i.path _ n) A ?_) (by rw [af]; simp; simp at u; lia) J,by simp,by simp,λ_=>by rw [kD]; exact aj.mpr (.inr (by simp [kW])),?_⟩
  ·obtain ⟨p1,p2⟩:=p;unfold oth;rcases q.1 with e | e;·have e:y=p1:=e;subst e;simp
   ·have e:y=p2:=e;subst e;by_cases z:y=p1;·subst z; simp
    ·simp [z]
  ·unfold spB;rw [Gd (ρ1:=[s,ij (.str root),ij 'o',ij (.lst (Q.map D.str)),ij (.str y),ij (.int (k:Nat)),ij (pD p),ij (.str (oth p y))]) (by simp [h1])];have h:decide (y=p.1\/y=p.2)=true:=Ad q.1;have g:(!decide (oth p y∈kW W))=true:=by rw [Ac q.2]; rfl
   rw [h] at h2;rw [g] at B;have V:=qgt i.nd n;simp only [] at V;have v:ixD (.tup [.str root,lD ly]) (.int 1)=.ok (lD ly):=by simp [ixD,at1]
   have o:=qez (W:=W) (x:=oth p y) (r:=root) (l:=ly++[k]) q.2;have hl:(inL ly).length+1<=sizeLine:=by simp [inL]; simp at u; lia
   have z1:1<=sizeLine:=by lia
   have z2:2<=sizeLine:=by lia
   have E:(wD W).length < sizeLine:=by simp [wD]; lia
   have H:Q.length < sizeLine:=by lia
   have K:inL ly++[.int (k:Nat)]=inL (ly++[k]):=by simp [inL]
   rw [qie,show Ze (qF (d2 inA (qc 4) (qc 6))) (qF (d2 ui (qc 7) (qc 2))) [s,ij (.str root),ij 'o',ij (.lst (Q.map D.str)),ij (.str y),ij (.int (k:Nat)),ij (pD p),ij (.str (oth p y))]=.ok (iu,[s,ij (.str root),ij 'o',ij (.lst (Q.map D.str)),ij (.str y),ij (.int (k:Nat)),ij (pD p),ij (.str (oth p y))]) by simp [h2,B]];simp only [ku,if_true];rw [Gd (ρ1:=[s,ij (.str root),ij (.dct (wD (W++[(oth p y,root,ly++[k])]))),ij (.lst (Q.map D.str)),ij (.str y),ij (.int (k:Nat)),ij (pD p),ij (.str (oth p y))]) (by simp [yA,d2O,V,v,z1,z2,hl,K,zd,E,o])];simp [yj,Qy,H,kW]
 ·refine ⟨[],ij (.str (oth p y)),by simpa using i,by simp,by simp,λz=>?_,?_⟩;·rw [aZ];exact bP λw=>q ⟨z,w⟩
  ·unfold spB;rw [Gd (ρ1:=[s,ij (.str root),ij 'o',ij (.lst (Q.map D.str)),ij (.str y),ij (.int (k:Nat)),ij (pD p),ij (.str (oth p y))]) (by simp [h1])];by_cases z:y=p.1\/y=p.2
   ·have h:decide (y=p.1\/y=p.2)=true:=Ad z;have L:oth p y∈kW W:=bP λw=>q ⟨z,w⟩;have g:(!decide (oth p y∈kW W))=false:=by rw [Ad L]; rfl
    rw [h] at h2;rw [g] at B;simp [h2,B,kW]
   ·have h:decide (y=p.1\/y=p.2)=false:=Ac z;rw [h] at h2;simp [h2,kW]
noncomputable def en (k0:Nat) (rest:List Pr):List D:=(rest.zipIdx k0).map λp=>.tup [.int (p.2:Nat),pD p.1]
theorem qiB (seen:List Pr):JP (jx seen)=en 0 seen:=by unfold JP en jx;rw [List.zipIdx_map,bg];rfl
theorem qeA (h:(LS seen).length<=20) (s:Option D):∀ (rest:List Pr) (k0:Nat) (W:Wy) (Q:List Str) (x5 x x7:Option D),seen.drop k0=rest->WI seen W->(y,root,ly)∈W->Q.length+rest.length<=500 ->∃ (M:Wy) (U c b:Option D),WI seen (W++M)/\(∀ e∈M,e.2.1=root)/\(∀ p∈rest,(y=p.1\/y=p.2)->oth p y∈kW (W++M))/\M.length<=rest.length /\
   kU (jG 2 (qA (gNm 5) (qA (gNm 6) jF))) spB (en k0 rest) [s,ij (.str root),ij 'o',ij (.lst (Q.map D.str)),ij (.str y),x5,x,x7]=.ok (.nx,[s,ij (.str root),ij (.dct (wD (W++M))),ij (.lst ((Q++kW M).map D.str)),ij (.str y),U,c,b])
 | [],k0,W,Q,x5,x,x7,_,hW,_,_=>⟨[],x5,x,x7,by simpa using hW,by simp,by simp,by simp,by simp [en,kU,kW]⟩
 | p::rest,k0,W,Q,x5,x,x7,hd,hW,hy,hQ=>by
  rw [ao] at hQ;have k:seen[k0]?=ij p:=by have:=congrArg List.head? hd;rw [List.head?_drop] at this;simpa using this
  have hd2:seen.drop (k0+1)=rest:=by have:=congrArg List.tail hd;rw [List.tail_drop] at this;simpa using this
  obtain ⟨a,r1,r,n,q,m,o⟩:=qgu h hW hy k Q 'b' s x7;have d:(kW a).length<=1:=by simpa [kW] using q
  obtain ⟨M2,U,c,b,l,j,w,v,g⟩:=qeA h s rest (k0+1) (W++a) (Q++kW a) (ij (.int (k0:Nat))) (ij (pD p)) r1 hd2 r (aj.mpr (.inl hy)) (by rw [af]; lia);refine ⟨a++M2,U,c,b,by rw [<-aV]; exact l,λe i=>?_,λZ f z=>?_,by rw [af,ao]; lia,?_⟩
  ·rcases aj.mp i with i | i;·exact n e i
   ·exact j e i
  ·rw [<-aV,kD];rcases ac.mp f with rfl | f;·exact aj.mpr (.inl (m z))
   ·have:=w Z f z;rw [kD] at this;exact this
  ·rw [kD,<-aV,<-aV];refine dN ?_ g;have e0:en k0 (p::rest)=.tup [.int (k0:Nat),pD p]::en (k0+1) rest:=by simp [en,dF]
   rw [e0];exact kE rfl o
theorem qdU {ft:yi} {fb:qU} (h1:ft ρ=.ok (iu,ρ1)) (h2:fb ρ1=.ok (.nx,ρ2)):kC ft fb (n+1) ρ=kC ft fb n ρ2:=by rw [kC,h1];simp only [ku,if_true];rw [h2];rfl
theorem qbx {ft:yi} {fb:qU} (h1:ft ρ=.ok (ir,ρ1)):kC ft fb (n+1) ρ=.ok (.nx,ρ1):=by rw [kC,h1];rfl
abbrev spC:yi:=qF (d2 gtD (d1 wb (qc 3)) 'i')
abbrev spW:qU:=(qG (jp 4 (qaL 3)) (yL (ZA (qc 0)) (jG 2 (qA (gNm 5) (qA (gNm 6) jF))) spB))
abbrev sD (seen:List Pr):D:=.lst (jx seen)
theorem Xz (hn:seen.length<=10) (s:(LS seen).length<=20) (root:Str):∀ (n:Nat) (W:Wy) (Q:List Str) (b x5 a x7:Option D),n<=100->WI seen W->(∀ x∈Q,∃ l,(x,root,l)∈W)->Q.length+((LS seen).length - W.length) < n ->∃ (M:Wy) (t U f d:Option D),WI seen (W++M)/\(∀ e∈M,e.2.1=root)/\(∀ x,x∈Q\/x∈kW M->∀ p∈seen,(x=p.1\/x=p.2)->oth p x∈kW (W++M)) /\
   kC spC spW n [ij 'n',ij (.str root),ij 'o',ij (.lst (Q.map D.str)),b,x5,a,x7]=.ok (.nx,[ij 'n',ij (.str root),ij (.dct (wD (W++M))),ij (.lst []),t,U,f,d])
 | 0,W,Q,b,x5,a,x7,_,_,_,h=>absurd h (Nat.not_lt_zero _)
 | n+1,W,[],b,x5,a,x7,_,hW,_,_=>⟨[],b,x5,a,x7,by simpa using hW,by simp,by simp [kW],by rw [aZ];exact qbx (by simp [ym])⟩
 | n+1,W,y::Q,b,x5,a,x7,h100,hW,hQ,hm=>by
  obtain ⟨ly,u⟩:=hQ y (ap ..);rw [ao] at hm;obtain ⟨c,U,f,d,k,g,E,G,C⟩:=qeA s (ij 'n') seen 0 W Q x5 a x7 'g' hW u 'b';have S:=k.le;rw [af] at S;obtain ⟨M2,r,o,m,j,B,A,w,v⟩:=Xz hn s root n (W++c) (Q++kW c) (ij (.str y)) U f d 'b' k (λx hx=>by
   rcases aj.mp hx with hx | hx;·obtain ⟨l,hl⟩:=hQ x (ae _ hx);exact ⟨l,aj.mpr (.inl hl)⟩
   ·obtain ⟨e,i,rfl⟩:=ah.mp hx;refine ⟨e.2.2,aj.mpr (.inr ?_)⟩;rw [<-g e i];exact i) (by
   rw [af,af,show (kW c).length=c.length by simp [kW]]
   lia)
  refine ⟨c++M2,r,o,m,j,by rw [<-aV]; exact B,λe i=>?_,λx hx p hp z=>?_,?_⟩
  ·rcases aj.mp i with i | i;·exact g e i
   ·exact A e i
  ·rw [<-aV];by_cases q:x=y;·subst q;rw [kD];exact aj.mpr (.inl (E p hp z))
   ·refine w x ?_ p hp z;rcases hx with hx | hx
    ·rcases ac.mp hx with e | hx;·exact absurd e q
     ·exact .inl (aj.mpr (.inl hx))
    ·rw [kD] at hx;rcases aj.mp hx with hx | hx;·exact .inl (aj.mpr (.inr hx))
     ·exact .inr hx
  ·rw [<-aV];refine dN ?_ v;refine qdU (ρ1:=[ij 'n',ij (.str root),ij 'o',ij (.lst ((y::Q).map D.str)),b,x5,a,x7]) (by
    have:(0:Int) < (Q.length:Int)+1:=by lia
    simp [ym,this]) ?_
   unfold spW;rw [Gd (ρ1:=[ij 'n',ij (.str root),ij 'o',ij (.lst (Q.map D.str)),ij (.str y),x5,a,x7]) (by simp [qaL])];rw [kh,show ZA (qc 0) [ij 'n',ij (.str root),ij 'o',ij (.lst (Q.map D.str)),ij (.str y),x5,a,x7]=.ok (JP (jx seen),[ij 'n',ij (.str root),ij 'o',ij (.lst (Q.map D.str)),ij (.str y),x5,a,x7]) from rfl,ku,qiB];exact C
theorem qby (hn:seen.length<=6) (s:(LS seen).length<=12) (c:WI seen W) (hr:root∉kW W) (m:root∈LS seen):∃ M:Wy,WI seen (W++M)/\(∀ e∈M,e.2.1=root)/\(root,root,[])∈M/\(∀ x∈kW M,∀ p∈seen,(x=p.1\/x=p.2)->oth p x∈kW (W++M))/\zL [sD seen,.str root,.dct (wD W)]=.ok (.non,[.non,.non,.dct (wD (W++M))]):=by
 have h:=c.add hr m (r:=root) (l:=[]) .nil (bH _) ⟨cy,λk g=>by cases g⟩;have S:=h.le;have b:=c.le;have N:=big;obtain ⟨M,t,U,n,y,f,j,q,d⟩:=Xz 'b' 'b' root 20 (W++[(root,root,[])]) [root] im im im im 'b' h (λx hx=>⟨[],by rw [au.mp hx]; exact aj.mpr (.inr (au.mpr rfl))⟩) (by simp; lia);rw [aV] at f q d;refine ⟨[(root,root,[])]++M,f,λe i=>?_,aj.mpr (.inl (au.mpr rfl)),λx hx p hp z=>q x ?_ p hp z,?_⟩
 ·rcases aj.mp i with i | i;·rw [au.mp i]
  ·exact j e i
 ·rw [kD] at hx;rcases aj.mp hx with hx | hx;·exact .inl hx
  ·exact .inr hx
 ·refine qr.trans ?_;unfold Xd;rw [show qt Xc [sD seen,.str root,.dct (wD W)]=[ij 'n',ij (.str root),ij 'o',im,im,im,im,im] from rfl];have o:=qez (W:=W) (x:=root) (r:=root) (l:=[]) hr;rw [show lD []=.lst [] from rfl] at o;have z2:2<=sizeLine:=by lia
  have z1:1<=sizeLine:=by lia
  have a:(wD W).length < sizeLine:=by simp [wD]; lia
  refine (qy (ρ1:=[ij 'n',ij (.str root),ij (.dct (wD (W++[(root,root,[])]))),im,im,im,im,im]) (by simp [yA,z2,zd,a,o])).trans ?_;refine (qy (ρ1:=[ij 'n',ij (.str root),ij (.dct (wD (W++[(root,root,[])]))),ij (.lst [.str root]),im,im,im,im]) (by simp [z1])).trans ?_;exact (congrArg (KZ [.val,.val,.io]) d).trans rfl
def CI (seen:List Pr) (W:Wy):Prop:=∀ e∈W,∀ p∈seen,(e.1=p.1\/e.1=p.2)->∃ a∈W,a.1=oth p e.1/\a.2.1=e.2.1
def RI (W:Wy):Prop:=∀ e∈W,(e.2.1,e.2.1,[])∈W
theorem qgv {p:Pr} (h:x=p.1\/x=p.2):oth p (oth p x)=x/\(oth p x=p.1\/oth p x=p.2):=by
 obtain ⟨a,b⟩:=p;unfold oth;simp only [];by_cases q:x=a
 ·subst q;simp only [if_true];by_cases d:b=x;·subst d; simp
  ·simp [d]
 ·have:x=b:=by rcases h with h | h; exact absurd h q; exact h
  subst this;simp [q]
theorem zR:∀ {W:Wy},(kW W).Nodup->∀ {e b:Str×Str×Wk},e∈W->b∈W->e.1=b.1->e=b
 | [],_,e,b,h,_,_=>by cases h
 | a::W,hn,e,b,h,h',q=>by
  have r:=aK.mp (show (a.1::kW W).Nodup from hn);rcases ac.mp h with h1 | h1
  ·rcases ac.mp h' with h2 | h2;·rw [h1,h2]
   ·exact absurd (show a.1∈kW W from ah.mpr ⟨b,h2,by rw [<-q,h1]⟩) r.1
  ·rcases ac.mp h' with h2 | h2;·exact absurd (show a.1∈kW W from ah.mpr ⟨e,h1,by rw [q,h2]⟩) r.1
   ·exact zR r.2 h1 h2 q
abbrev woB:qU:=(sIf (qF (d2 ui (qc 2) (qc 1))) (kP (qo [.vl,.vl,.sl 1] zL (qb (qc 0) (qb (qc 2) (jW qw))))) qO)
def MI (W:Wy):Prop:=∀ e∈W,leS e.2.1 e.1
theorem qdV (x:Str):leS x x:=(VN x x).elim id id
theorem Qk (hn:seen.length<=6) (w:(LS seen).length<=12):∀ (xs:List Str) (W:Wy) (x:Option D),(∀ x∈xs,x∈LS seen)->xs.Pairwise leS->(∀ z∈LS seen,z∈kW W\/z∈xs)->WI seen W->CI seen W->RI W->MI W ->∃ (M:Wy) (n:Option D),WI seen (W++M)/\CI seen (W++M)/\RI (W++M)/\MI (W++M)/\(∀ x∈xs,x∈kW (W++M))/\kU (gNm 2) woB (xs.map D.str) [ij 'n',ij 'o',x]=.ok (.nx,[ij 'n',ij (.dct (wD (W++M))),n])
 | [],W,x,_,_,_,hW,hC,hR,hM=>⟨[],x,by simpa using hW,by simpa using hC,by simpa using hR,by simpa using hM,by simp,by simp [kU]⟩
 | y::xs,W,x,hx,hso,hal,hW,hC,hR,hM=>by
  have b:=bn.mp hso;have k:=Xx W y;by_cases q:y∈kW W
  ·obtain ⟨M,n,v,u,t,o,s,r⟩:=Qk hn w xs W (ij (.str y)) (λz a=>hx z (ae _ a)) b.2 (λz a=>by
    rcases hal z a with h | h;·exact .inl h
    ·rcases ac.mp h with rfl | h;·exact .inl q
     ·exact .inr h) hW hC hR hM
   refine ⟨M,n,v,u,t,o,λz a=>?_,?_⟩
   ·rcases ac.mp a with rfl | a;·rw [kD]; exact aj.mpr (.inl q)
    ·exact s z a
   ·refine dN (kE (ρ1:=[ij 'n',ij 'o',ij (.str y)]) rfl ?_) r;rw [Ad q] at k;simp [k]
  ·obtain ⟨j,g,m,H,N,L⟩:=qby hn w hW q (hx y (ap ..));have C:RI (W++j):=λe i=>by
    rcases aj.mp i with i | i;·exact aj.mpr (.inl (hR e i))
    ·rw [m e i];exact aj.mpr (.inr H)
   have G:CI seen (W++j):=λe i p hp a=>by
    rcases aj.mp i with i | i;·obtain ⟨f,h1,h2⟩:=hC e i p hp a;exact ⟨f,aj.mpr (.inl h1),h2⟩
    ·have K:=N e.1 (ah.mpr ⟨e,i,rfl⟩) p hp a;obtain ⟨f,h1,h2⟩:=ah.mp K;refine ⟨f,h1,h2,?_⟩;rcases aj.mp h1 with c | c
     ·exfalso;obtain ⟨o1,o2⟩:=qgv a;rw [<-h2] at o1 o2;obtain ⟨l,J,I,_⟩:=hC f c p hp o2;rw [o1] at I;have:=zR g.nd (aj.mpr (.inl J)) (aj.mpr (.inr i)) I;subst this;have d:=g.nd;rw [kD] at d;exact (cg.mp d).2.2 l.1 (ah.mpr ⟨l,J,rfl⟩) l.1 (ah.mpr ⟨l,i,rfl⟩) rfl
     ·rw [m f c,m e i]
   have E:MI (W++j):=λe i=>by
    rcases aj.mp i with i | i;·exact hM e i
    ·rw [m e i];have d:=g.nd;rw [kD] at d;have A:e.1∉kW W:=λz=>(cg.mp d).2.2 e.1 z e.1 (ah.mpr ⟨e,i,rfl⟩) rfl;have B:=g.sub e.1 (by rw [kD]; exact aj.mpr (.inr (ah.mpr ⟨e,i,rfl⟩)));rcases hal e.1 B with h | h;·exact absurd h A
     ·rcases ac.mp h with h | h;·rw [h]; exact qdV _
      ·exact b.1 e.1 h
   obtain ⟨M2,n,v,u,t,o,s,r⟩:=Qk hn w xs (W++j) (ij (.str y)) (λz a=>hx z (ae _ a)) b.2 (λz a=>by
    rcases hal z a with h | h;·exact .inl (by rw [kD]; exact aj.mpr (.inl h))
    ·rcases ac.mp h with rfl | h;·exact .inl (by rw [kD]; exact aj.mpr (.inr (ah.mpr ⟨_,H,rfl⟩)))
     ·exact .inr h) g G C E
   rw [aV] at v u t o s r;refine ⟨j++M2,n,v,u,t,o,λz a=>?_,?_⟩
   ·rcases ac.mp a with rfl | a;·rw [kD,kD];exact aj.mpr (.inr (aj.mpr (.inl (ah.mpr ⟨_,H,rfl⟩))))
    ·exact s z a
   ·refine dN (kE (ρ1:=[ij 'n',ij 'o',ij (.str y)]) rfl ?_) r;rw [Ac q] at k;simp [k,L]
theorem ZT (hn:seen.length<=6) (c:(LS seen).length<=12):∃ W:Wy,WI seen W/\CI seen W/\RI W/\MI W/\(∀ x∈LS seen,x∈kW W)/\wu [sD seen]=.ok (.dct (wD W),[.non]):=by obtain ⟨W,n,k,g,q,o,p,a⟩:=Qk hn c (LS seen) [] im (λ_ h=>h) (by unfold LS; exact ji _) (λz b=>.inr b) ⟨by simp [kW],by simp [kW],by simp,by simp,by simp⟩ (λe i=>by cases i) (λe i=>by cases i) (λe i=>by cases i);rw [cm] at k g q o p a;refine ⟨W,k,g,q,o,p,?_⟩;have t:=xw (l:=seen) 'b';refine qr.trans ?_;unfold Wl;rw [show qt Wj [sD seen]=[ij 'n',im,im] from rfl];refine (qy (ρ1:=[ij 'n',ij (.dct []),im]) 'g').trans ?_;refine (qy (ρ1:=[ij 'n',ij 'o',n]) (by rw [kh,show jR (qo [.vl] jP (qb (qc 0) qw)) [ij 'n',ij (.dct []),im]=.ok ((LS seen).map D.str,[ij 'n',ij (.dct []),im]) by simp [t,jM],ku];exact a)).trans ?_;simp
noncomputable def qQ (W:Wy) (x:Str):Str×Wk:=((W.find? λe=>decide (e.1=x)).map (·.2)).getD (⟨#[]⟩,[])
theorem jr (h:x∈kW W):(x,qQ W x)∈W:=by
 unfold qQ;cases q:W.find? λe=>decide (e.1=x) with
 | none=>obtain ⟨e,i,rfl⟩:=ah.mp h;have:=cw.mp q e i;simp at this
 | some e=>
  have h1:=ba q;have h2:e.1=x:=by simpa using dh q
  rw [<-h2];exact h1
theorem KB (hn:(kW W).Nodup) (h:x∈kW W):ixD 'o' (.str x)=.ok (.tup [.str (qQ W x).1,lD (qQ W x).2]):=qgt hn (jr h)
theorem qiC {a b:D}:ixD (.tup [a,b]) (.int 0)=.ok a:=by simp [ixD,at0]
theorem qiD {a b:D}:ixD (.tup [a,b]) (.int 1)=.ok b:=by simp [ixD,at1]
theorem qgw (a b:Wk):inL a++inL b=inL (a++b):=by simp [inL]
theorem US (a:Wk):(inL a).length=a.length:=by simp [inL]
theorem qiE (l:Wk):xg (lD l)=.ok (lD l.reverse):=by simp [xg,inL]
theorem qbz {a b:Wk} (h:a.length+b.length<=2000):jZ (lD a) (lD b)=.ok (lD (a++b)):=by
 have z:(inL a).length+(inL b).length<=sizeLine:=by rw [US,US]; exact qV h
 show (if (inL a).length+(inL b).length<=sizeLine then Out.ok (D.lst (inL a++inL b)) else .bad)=_;rw [Aa z,qgw]
abbrev Ci:=Str×Wk
noncomputable def cd (c:Ci):D:=.tup [.str c.1,lD c.2]
noncomputable def cD (C:List Ci):List D:=C.map cd
noncomputable def Va (W:Wy) (p:Pr) (k:Nat):Ci:=((qQ W p.1).1,(qQ W p.1).2++[k]++(qQ W p.2).2.reverse)
noncomputable def CL (W:Wy) (k0:Nat) (rest:List Pr):List Ci:=(rest.zipIdx k0).map λp=>Va W p.1 p.2
abbrev ciB:qU:=(qG (jp 5 (d1 xg (d2 ixD (d2 ixD (qc 1) (d2 ixD (qc 4) 'f')) 'f')))
  (kP (JF 2 Qy (vM (qb (d2 ixD (d2 ixD (qc 1) (d2 ixD (qc 4) 'i')) 'i') (qb (d2 jZ (d2 jZ (d2 ixD (d2 ixD (qc 1) (d2 ixD (qc 4) 'i')) 'f') (wo (qb (qc 3) qw))) (qc 5)) qw))))))
theorem qgx (d:(LS seen).length<=20) (r:WI seen W) {p:Pr} (h1:p.1∈kW W) (h2:p.2∈kW W) {k:Nat} {acc:List D} (e:acc.length < 1000) (s x5:Option D):∃ U,ciB [s,ij 'o',ij (.lst acc),ij (.int (k:Nat)),ij (pD p),x5]=.ok (.nx,[s,ij 'o',ij (.lst (acc++[cd (Va W p k)])),ij (.int (k:Nat)),ij (pD p),U]):=by
 have i1:=KB r.nd h1;have i2:=KB r.nd h2;have f:=r.len _ (jr h1);have l:=r.len _ (jr h2);have S:=r.le;have N:=big;simp only [] at f l;have z1:1<=sizeLine:=by lia
 have z2:2<=sizeLine:=by lia
 have h:acc.length < sizeLine:=by lia
 have c:=qbz (a:=(qQ W p.1).2) (b:=[k]) (by simp; lia);have g:=qbz (a:=(qQ W p.1).2++[k]) (b:=(qQ W p.2).2.reverse) (by simp; lia);have c:jZ (lD (qQ W p.1).2) (.lst [.int (k:Nat)])=.ok (lD ((qQ W p.1).2++[k])):=c;have r2:=qiE (qQ W p.2).2;refine ⟨ij (lD (qQ W p.2).2.reverse),?_⟩;unfold ciB Va cd;rw [Gd (ρ1:=[s,ij 'o',ij (.lst acc),ij (.int (k:Nat)),ij (pD p),ij (lD (qQ W p.2).2.reverse)]) (by simp [qiD,i2,r2])];simp [yj,qiC,qiD,i1,c,g,z1,z2,Qy,h]
theorem qbA (c:(LS seen).length<=20) (r:WI seen W) (s:Option D):∀ (rest:List Pr) (k0:Nat) (acc:List Ci) (x b x5:Option D),(∀ p∈rest,p.1∈kW W/\p.2∈kW W)->acc.length+rest.length<=500 ->∃ y t U,kU (jG 2 (qA (gNm 3) (qA (gNm 4) jF))) ciB (en k0 rest) [s,ij 'o',ij (.lst (cD acc)),x,b,x5]=.ok (.nx,[s,ij 'o',ij (.lst (cD (acc++CL W k0 rest))),y,t,U])
 | [],k0,acc,x,b,x5,_,_=>⟨x,b,x5,by simp [en,CL,kU]⟩
 | p::rest,k0,acc,x,b,x5,h,hl=>by
  rw [ao] at hl;obtain ⟨h1,h2⟩:=h p (ap ..);obtain ⟨r5,e⟩:=qgx c r h1 h2 (k:=k0) (acc:=cD acc) (by simp [cD]; lia) s x5;obtain ⟨y,t,U,j⟩:=qbA c r s rest (k0+1) (acc++[Va W p k0]) (ij (.int (k0:Nat))) (ij (pD p)) r5 (λq hq=>h q (ae _ hq)) (by rw [af]; simp; lia);refine ⟨y,t,U,?_⟩;have e0:en k0 (p::rest)=.tup [.int (k0:Nat),pD p]::en (k0+1) rest:=by simp [en,dF]
  have e1:acc++CL W k0 (p::rest)=(acc++[Va W p k0])++CL W (k0+1) rest:=by simp [CL,dF]
  rw [e0,e1];refine dN (kE rfl e) ?_;rw [show cD acc++[cd (Va W p k0)]=cD (acc++[Va W p k0]) by simp [cD]];exact j
theorem kT (g:∀ x∈LS seen,x∈kW W):∀ p∈seen,p.1∈kW W/\p.2∈kW W:=λp hp=>⟨g _ (vY.mpr ⟨p,hp,.inl rfl⟩),g _ (vY.mpr ⟨p,hp,.inr rfl⟩)⟩
theorem Jo (hn:seen.length<=6) (c:(LS seen).length<=20) (r:WI seen W) (g:∀ x∈LS seen,x∈kW W):vW [sD seen,.dct (wD W)]=.ok (.lst (cD (CL W 0 seen)),[.non,.non]):=by obtain ⟨y,t,U,e⟩:=qbA c r (ij 'n') seen 0 [] im im im (kT g) (by simp; lia);rw [cm] at e;refine qr.trans ?_;unfold zl;rw [show qt zk [sD seen,.dct (wD W)]=[ij 'n',ij 'o',im,im,im,im] from rfl];refine (qy (ρ1:=[ij 'n',ij 'o',ij (.lst []),im,im,im]) 'g').trans ?_;refine (qy (ρ1:=[ij 'n',ij 'o',ij (.lst (cD (CL W 0 seen))),y,t,U]) (by rw [kh,show ZA (qc 0) [ij 'n',ij 'o',ij (.lst []),im,im,im]=.ok (JP (jx seen),[ij 'n',ij 'o',ij (.lst []),im,im,im]) from rfl,ku,qiB];exact e)).trans ?_;simp
theorem qiF (r:WI seen W) (g:∀ x∈LS seen,x∈kW W):∀ c∈CL W 0 seen,∀ k∈c.2,k < seen.length:=by
 intro c d k h;obtain ⟨q,hq,rfl⟩:=ah.mp d;obtain ⟨p,j⟩:=q;have G:=fW hq;have hp:p∈seen:=by rw [G.2.2]; exact cu _
 obtain ⟨h1,h2⟩:=kT g p hp;unfold Va at h;simp only [aj,List.mem_reverse,au] at h;rcases h with (h | h) | h;·exact (r.path _ (jr h1)).lt k h
 ·have:=G.2.1;omega
 ·exact (r.path _ (jr h2)).lt k h
noncomputable def fD (F:List Ci):List (Key×D):=F.map λc=>(.inr c.1,lD c.2)
noncomputable def kF (F:List Ci):List Str:=F.map (·.1)
theorem qeB (F:List Ci) (x:Str):Zq (fD F) (.inr x)=decide (x∈kF F):=by
 unfold Zq fD kF
 induction F with
 | nil=>rfl
 | cons e F j=>
  rw [aD,cI,j];by_cases h:e.1=x;·subst h; simp
  ·have h2:¬(bC e.1:Key)=bC x:=λz=>h (bC.inj z);have g:¬x=e.1:=λz=>h z.symm;simp [h2,g]
variable {F:List Ci}
theorem qiG {l:Wk} (h:x∉kF F):zI (fD F) (.inr x) (lD l)=fD (F++[(x,l)]):=by
 unfold zI;have h1:((fD F).any λp=>decide (p.1=(bC x:Key)))=false:=by have:=qeB F x;unfold Zq at this;rw [this];exact Ac h
 rw [h1,Ab bj];unfold fD;rw [fh];rfl
noncomputable def uS (F:List Ci) (x:Str):Wk:=((F.find? λc=>decide (c.1=x)).map (·.2)).getD []
theorem UT:∀ (F:List Ci) (x:Str),(fD F).find? (λkv=>decide (kv.1=(bC x:Key)))=(F.find? λc=>decide (c.1=x)).map λc=>(bC c.1,lD c.2)
 | [],x=>rfl
 | c::F,x=>by
  have j:=UT F x;unfold fD at j ⊢;rw [aD];by_cases h:c.1=x;·rw [bN (by simp [h]),bN (by simp [h])];rfl
  ·have h2:¬(bC c.1:Key)=bC x:=λz=>h (bC.inj z);rw [bD (by simpa using h2),bD (by simpa using h),j]
theorem qku (h:x∈kF F):ixD (.dct (fD F)) (.str x)=.ok (lD (uS F x)):=by
 unfold ixD uS;simp only [UT];cases q:F.find? λc=>decide (c.1=x) with
 | none=>obtain ⟨e,i,rfl⟩:=ah.mp h;have:=cw.mp q e i;simp at this
 | some c=>rfl
theorem qiH (F:List Ci) (x:Str):qjy (fD F) (.inr x) (.lst [])=lD (uS F x):=by unfold qjy uS;rw [UT];cases F.find? λc=>decide (c.1=x) <;> rfl
noncomputable def FO:List Ci->List Ci->List Ci
 | F,[]=>F
 | F,c::C=>FO (if odd c.2=iu/\c.1∉kF F then F++[c] else F) C
theorem zn:∀ (C F:List Ci),(∀ c∈FO F C,c∈F\/c∈C)/\(∀ x∈kF F,x∈kF (FO F C))/\(∀ c∈C,odd c.2=iu->c.1∈kF (FO F C))/\(FO F C).length<=F.length+C.length
 | [],F=>⟨λc h=>.inl h,λx h=>h,by simp,by simp [FO]⟩
 | c::C,F=>by
  unfold FO;by_cases q:odd c.2=iu/\c.1∉kF F
  ·rw [Aa q];obtain ⟨a,b,d,e⟩:=zn C (F++[c]);refine ⟨λy D=>?_,λx hx=>b x (by simp [kF] at hx ⊢; exact .inl hx),λy D l=>?_,by rw [af] at e; simp at e ⊢; lia⟩
   ·rcases a y D with h | h
    ·rcases aj.mp h with h | h;·exact .inl h
     ·exact .inr (by rw [au.mp h]; exact ap ..)
    ·exact .inr (ae _ h)
   ·rcases ac.mp D with rfl | D;·exact b _ (by simp [kF])
    ·exact d y D l
  ·rw [Ab q];obtain ⟨a,b,d,e⟩:=zn C F;refine ⟨λy D=>?_,b,λy D l=>?_,by simp at e ⊢; lia⟩
   ·rcases a y D with h | h;·exact .inl h
    ·exact .inr (ae _ h)
   ·rcases ac.mp D with rfl | D;·exact b _ (bP λw=>q ⟨l,w⟩)
    ·exact d y D l
abbrev foB:qU:=(sIf (Ze (uh (qo [.vl] wO (qb (qc 3) qw))) (qF (d2 ui (qc 2) (qc 1)))) (yA 1 (qc 3) (qc 2)) qO)
theorem qiI (F:List Ci) (x:Str):ui (.str x) (.dct (fD F))=.ok (.bl (!decide (x∈kF F))):=by unfold ui;simp only [zd];rw [qeB]
theorem UU (a:Option D):∀ (C F:List Ci) (f e:Option D),F.length+C.length<=500->∃ b y,kU (jG 2 (qA (gNm 2) (qA (gNm 3) jF))) foB (cD C) [a,ij (.dct (fD F)),f,e]=.ok (.nx,[a,ij (.dct (fD (FO F C))),b,y])
 | [],F,f,e,_=>⟨f,e,rfl⟩
 | c::C,F,f,e,hl=>by
  rw [ao] at hl;have h1:=Qj c.2;have h2:=qiI F c.1;have i:(fD F).length < sizeLine:=aF (by simp [fD]; lia) big;unfold FO;by_cases q:odd c.2=iu/\c.1∉kF F;·rw [Aa q];obtain ⟨b,y,j⟩:=UU a C (F++[c]) (ij (.str c.1)) (ij (lD c.2)) (by rw [af]; simp; lia);refine ⟨b,y,dN (kE (d:=cd c) (ρ1:=[a,ij (.dct (fD F)),ij (.str c.1),ij (lD c.2)]) rfl ?_) j⟩;rw [q.1] at h1;rw [Ac q.2] at h2;have hp:=qiG (F:=F) (x:=c.1) (l:=c.2) q.2;simp [h1,h2,yA,zd,i,hp]
  ·rw [Ab q];obtain ⟨b,y,j⟩:=UU a C F (ij (.str c.1)) (ij (lD c.2)) 'b';refine ⟨b,y,dN (kE (d:=cd c) (ρ1:=[a,ij (.dct (fD F)),ij (.str c.1),ij (lD c.2)]) rfl ?_) j⟩;cases g:odd c.2 with
   | false=>rw [g] at h1;simp [h1]
   | true=>rw [g] at h1;have:c.1∈kF F:=bP λw=>q ⟨g,w⟩;rw [Ad this] at h2;simp [h1,h2]
theorem XA (C:List Ci) (hl:C.length<=400):wR [.lst (cD C)]=.ok (.dct (fD (FO [] C)),[.non]):=by obtain ⟨b,y,e⟩:=UU (ij (.lst (cD C))) C [] im im (by simp; lia);refine qr.trans ?_;unfold gS;rw [show qt gR [.lst (cD C)]=[ij (.lst (cD C)),im,im,im] from rfl];refine (qy (ρ1:=[ij (.lst (cD C)),ij (.dct []),im,im]) 'g').trans ?_;refine (qy (ρ1:=[ij (.lst (cD C)),ij (.dct (fD (FO [] C))),b,y]) (by rw [kh,show jR (qc 0) [ij (.lst (cD C)),ij (.dct []),im,im]=.ok (cD C,[ij (.lst (cD C)),ij (.dct []),im,im]) from rfl,ku];exact e)).trans ?_;simp
noncomputable def JN (F C:List Ci):List Ci:=(C.filter λc=>odd c.2).map λc=>(c.1,uS F c.1++c.2)
abbrev joT:yi:=uh (qo [.vl] wO (qb (qc 1) qw))
abbrev joE:jl:=vM (qb (qc 0) (qb (d2 jZ (d2 ixD (qc 2) (qc 0)) (qc 1)) qw))
theorem qbB (h:∀ c∈F,c.2.length<=100):∀ (C:List Ci) (x y:Option D),(∀ c∈C,c.2.length<=100)->(∀ c∈C,odd c.2=iu->c.1∈kF F) ->∃ n s,jX (jG 2 (qA (gNm 0) (qA (gNm 1) jF))) joT joE (cD C) [x,y,ij (.dct (fD F))]=.ok (cD (JN F C),[n,s,ij (.dct (fD F))])
 | [],x,y,_,_=>⟨x,y,rfl⟩
 | c::C,x,y,hl,hk=>by
  obtain ⟨n,s,j⟩:=qbB h C (ij (.str c.1)) (ij (lD c.2)) (λd hd=>hl d (ae _ hd)) λd hd=>hk d (ae _ hd);refine ⟨n,s,?_⟩;have h1:=Qj c.2;have z2:2<=sizeLine:=qV 'b';have e0:cD (c::C)=.tup [.str c.1,lD c.2]::cD C:=rfl;cases q:odd c.2 with
  | false=>
   rw [q] at h1;have e1:JN F (c::C)=JN F C:=by simp [JN,q]
   rw [e0,e1];simp [jX,gf,jG,qA,jF,h1,j]
  | true=>
   rw [q] at h1;have e1:JN F (c::C)=(c.1,uS F c.1++c.2)::JN F C:=by simp [JN,q]
   have m:=hk c (ap ..) q;have i1:=qku m;have hg:(uS F c.1).length<=100:=by
    unfold uS;cases w:F.find? λd=>decide (d.1=c.1) with
    | none=>simp
    | some d=>exact h d (ba w)
   have l:=hl c (ap ..);have k:=qbz (a:=uS F c.1) (b:=c.2) 'b';rw [e0,e1];simp [jX,gf,jG,qA,jF,h1,i1,k,z2,j];simp [cD,cd]
theorem KC {nt:Nat} {fi:ww} {ft:yi} {fe:jl} {es:List D} (h:fi ρ=.ok (ds,ρ1)) (hl:ds.length<=sizeLine) (d:jX g ft fe ds (vA nt cap ρ1)=.ok (es,ρ2)):jk own nt cap fi g ft fe ρ=.ok (.lst es,ke own ρ2 nt cap ρ1):=by unfold jk;rw [h];simp only [ku];rw [Aa hl,d];rfl
abbrev baB:qU:=(sIf (uh (qo [.vl,.vl,.vl] Wh (qb (qc 7) (qb (qc 1) (qb (qc 2) qw))))) (jf (vM (qb (qc 6) (qb (qc 7) qw)))) qO)
theorem qbC (e:qgX nd ns) (hr:1<=r) (a b c d:Option D):∀ (L:List Ci) (x y:Option D),(∀ w∈L,∀ k∈w.2,k < ns.length)->∃ ρ,kU (jG 2 (qA (gNm 6) (qA (gNm 7) jF))) baB (cD L) [a,ij 'k',ij nd,b,c,d,x,y]=.ok (match L.find? λw=>WC w.2 r ns with | some w=>.rt (cd w) | none=>.nx,ρ)
 | [],x,y,_=>⟨_,rfl⟩
 | w::L,x,y,h=>by
  have h1:=qbu e (h w (ap ..)) hr;have z2:2<=sizeLine:=qV 'b';cases q:WC w.2 r ns with
  | true=>rw [q] at h1;refine ⟨[a,ij 'k',ij nd,b,c,d,ij (.str w.1),ij (lD w.2)],?_⟩;rw [bN (by simpa using q)];exact Xy (d:=cd w) (ρ1:=[a,ij 'k',ij nd,b,c,d,ij (.str w.1),ij (lD w.2)]) rfl (by simp [h1,z2,cd])
  | false=>rw [q] at h1;obtain ⟨ρ,j⟩:=qbC e hr a b c d L (ij (.str w.1)) (ij (lD w.2)) λv f=>h v (ae _ f);refine ⟨ρ,?_⟩;rw [bD (by simpa using q)];exact dN (kE (d:=cd w) (ρ1:=[a,ij 'k',ij nd,b,c,d,ij (.str w.1),ij (lD w.2)]) rfl (by simp [h1])) j
noncomputable def BO (W:Wy) (seen:List Pr) (r:Int) (ns:List Int):Option Ci:=(CL W 0 seen++JN (FO [] (CL W 0 seen)) (CL W 0 seen)).find? λw=>WC w.2 r ns
theorem qiJ (h:(LS seen).length<=20) (r:WI seen W) (g:∀ x∈LS seen,x∈kW W):∀ c∈CL W 0 seen,c.2.length<=100:=by
 intro c d;obtain ⟨q,hq,rfl⟩:=ah.mp d;obtain ⟨p,j⟩:=q;have G:=fW hq;have hp:p∈seen:=by rw [G.2.2]; exact cu _
 obtain ⟨h1,h2⟩:=kT g p hp;have f:=r.len _ (jr h1);have l:=r.len _ (jr h2);have S:=r.le;simp only [] at f l;unfold Va;simp
 lia
theorem qbD (W:Wy) (k0:Nat) (seen:List Pr):(CL W k0 seen).length=seen.length:=by simp [CL]
structure Sn (seen:List Pr) (W:Wy):Prop where
 n:seen.length<=6
 s:(LS seen).length<=12
 w:WI seen W
 C:CI seen W
 R:RI W
 a:∀ x∈LS seen,x∈kW W
 e:wu [sD seen]=.ok (.dct (wD W),[.non])
 z:∀ x∈LS seen,x.length<=2000
 m:MI W
theorem qbE (S:Sn seen W) (o:qgX nd ns) (A:ns.length=seen.length) (hr:1<=r):Kg [sD seen,.int r,nd]=.ok (match BO W seen r ns with | some w=>cd w | none=>.non,[.non,.non,.non]):=by
 have v:(LS seen).length<=20:=by have:=S.s; lia
 have h1:=Jo S.n v S.w S.a;have p:=qbD W 0 seen;have hn:=S.n;have h2:=XA (CL W 0 seen) 'b';have b:=qiJ v S.w S.a;have t:=qiF S.w S.a;obtain ⟨f1,_,u,f4⟩:=zn (CL W 0 seen) [];have j:∀ c∈FO [] (CL W 0 seen),c∈CL W 0 seen:=λc i=>by
  rcases f1 c i with h | h;·cases h
  ·exact h
 unfold BO;generalize hC:CL W 0 seen=C at h1 h2 p b t u j;generalize E:FO [] C=F at h2 u j;obtain ⟨H,G,z⟩:=qbB (F:=F) (λc i=>b c (j c i)) C im im b u;refine qr.trans ?_;unfold Xf;rw [show qt Xe [sD seen,.int r,nd]=[ij 'n',ij 'k',ij (nd),im,im,im,im,im] from rfl];have m:=S.e;refine (qy (ρ1:=[ij 'n',ij 'k',ij (nd),ij (.lst (cD C)),im,im,im,im]) (by simp [m,h1])).trans ?_;refine (qy (ρ1:=[ij 'n',ij 'k',ij (nd),ij (.lst (cD C)),ij (.dct (fD F)),im,im,im]) (by simp [h2])).trans ?_;have y:=KC (own:=[]) (cap:=[4]) (nt:=2) (fi:=jR (qc 3)) (g:=jG 2 (qA (gNm 0) (qA (gNm 1) jF))) (ft:=joT) (fe:=joE) (ρ:=[ij 'n',ij 'k',ij (nd),ij (.lst (cD C)),ij (.dct (fD F)),im,im,im]) (ρ1:=[ij 'n',ij 'k',ij (nd),ij (.lst (cD C)),ij (.dct (fD F)),im,im,im]) (ds:=cD C) rfl (by simp [cD]; exact qV 'b') z;refine (qy (ρ1:=[ij 'n',ij 'k',ij (nd),ij (.lst (cD C)),ij (.dct (fD F)),ij (.lst (cD (JN F C))),im,im]) (by rw [gE,y]; rfl)).trans ?_;have D:(JN F C).length<=6:=by
  unfold JN;rw [ay];have:=eG (λc:Ci=>odd c.2) C
  lia
 have B:(cD C).length+(cD (JN F C)).length<=sizeLine:=by simp [cD]; exact qV 'b'
 have l:∀ w∈C++JN F C,∀ k∈w.2,k < ns.length:=λw m k x=>by
  rw [A];rcases aj.mp m with h | h;·exact t w h k x
  ·obtain ⟨c,i,rfl⟩:=ah.mp h;have i:=(bF.mp i).1;rcases aj.mp x with h | h
   ·unfold uS at h;cases w:F.find? λd=>decide (d.1=c.1) with
    | none=>rw [w] at h; cases h
    | some d=>rw [w] at h;exact t d (j d (ba w)) k h
   ·exact t c i k h
 obtain ⟨ρ,e⟩:=qbC o hr (ij 'n') (ij (.lst (cD C))) (ij (.dct (fD F))) (ij (.lst (cD (JN F C)))) (C++JN F C) im im l;have f:yL (jR (d2 jZ (qc 3) (qc 5))) (jG 2 (qA (gNm 6) (qA (gNm 7) jF))) baB [ij 'n',ij 'k',ij (nd),ij (.lst (cD C)),ij (.dct (fD F)),ij (.lst (cD (JN F C))),im,im]=kU (jG 2 (qA (gNm 6) (qA (gNm 7) jF))) baB (cD (C++JN F C)) [ij 'n',ij 'k',ij (nd),ij (.lst (cD C)),ij (.dct (fD F)),ij (.lst (cD (JN F C))),im,im]:=by rw [kh,show jR (d2 jZ (qc 3) (qc 5)) [ij 'n',ij 'k',ij (nd),ij (.lst (cD C)),ij (.dct (fD F)),ij (.lst (cD (JN F C))),im,im]=.ok (cD (C++JN F C),[ij 'n',ij 'k',ij (nd),ij (.lst (cD C)),ij (.dct (fD F)),ij (.lst (cD (JN F C))),im,im]) by simp [B,jM];simp [cD]];rfl
 cases q:(C++JN F C).find? λw=>WC w.2 r ns with
 | some w=>rw [q] at e;rw [gD,f.trans e];rfl
 | none=>rw [q] at e;refine (qy (f.trans e)).trans ?_;rfl
theorem KG (w:jw ws) (hl:KW p q):uD [Wd ws,Ld p q]=.ok (sD 'h',[.non,.non]):=Xr w hl
def kA (n:Nat) (r:Int) (ns:List Int):Prop:=ns.length=n/\∀ i∈ns,0<=i/\i < r
theorem KH (h:kA n r ns) (hn:n<=50):jC [nD ns,.int (n:Nat),.int r]=.ok (.bl iu,[.non,.non,.non]):=by
 have ht:=Wz (d:=nD ns) trivial;have e:=vJ (cap:=[2]) (fi:=jR (qc 0)) (ρ:=[ij (nD ns),ij (.int (n:Nat)),ij 'k']) (ρ1:=[ij (nD ns),ij (.int (n:Nat)),ij 'k']) (ds:=ns.map D.int) (fe:=qo [.vl,.vl,.vl] qS (qb (qc 0) (qb 'i' (qb (d2 yv (qc 1) 'f') qw)))) (λd=>.bl (wX 0 (r - 1) d)) (by simp [jM]) (by rw [ay,h.1]; exact qV 'b') (λd hd=>by obtain ⟨i,hi,rfl⟩:=ah.mp hd;have h1:=jh (d:=.int i) trivial 0 (r - 1);simp [ym,h1]);have g:=wY (wX 0 (r - 1)) (ns.map D.int);have c:(ns.map D.int).all (wX 0 (r - 1))=true:=by
  rw [aQ];intro d hd;obtain ⟨i,hi,rfl⟩:=ah.mp hd;have:=h.2 i hi;simp [wX]
  lia
 rw [c] at g;have a:(ns.map D.int).length=n:=by rw [ay,h.1]
 refine qr.trans ?_;simp [-bg,vU,qt,ht,Qh,neD,eqN,eqS,h.1,e,g]
theorem zw (h:kA n r ns) (hn:n<=50):jQ [nD ns,.int (n:Nat),.int r]=.ok (.non,[.non,.non,.non]):=by have h1:=KH h hn;refine qr.trans ?_;simp [vG,qt,h1]
theorem UV (w:jw ws) (hl:KW p q) (a:1<=r) (h1:r<=99) (hn:kA ws.length r ns):jj [Wd ws,Ld p q,.int r,nD ns]=.ok (sD 'h',[.non,.non,.non,.non]):=by have e1:=KG w hl;have i:=xx (d:=.int r) trivial;rw [Aa (by simp [wX]; exact ⟨a,h1⟩)] at i;have D:=zw hn (by have:=w.2.1; lia);refine qr.trans ?_;simp [vV,qt,e1,i,D]
theorem qkv (w:jw ws) (p q:Int):∃ W,Sn 'h' W:=by
 have h1:(qv ws p q).length<=6:=by simp [qv]; exact w.2.1
 have h2:=WB w p q;obtain ⟨W,a,b,c,m,d,e⟩:=ZT h1 h2;exact ⟨W,h1,h2,a,b,c,d,e,λx hx=>by
  obtain ⟨k,_,rfl⟩:=qgr w p q x hx;show 1<=2000
  lia,m⟩
theorem qeC (h:jw ws) (hl:KW p q) (a:1<=r) (h1:r<=99) (hn:kA ws.length r ns) (S:Sn 'h' W):gT [Wd ws,Ld p q,.int r,nD ns]=.ok (match BO W 'h' r ns with | some w=>cd w | none=>.non,[.non,.non,.non,.non]):=by have e1:=UV h hl a h1 hn;have i:=qbE S (Xv ns) (by rw [hn.1]; simp [qv]) a;refine qr.trans ?_;simp [qgc,qt,e1,i]
noncomputable def xz (t r:Int):Int:=if t % r % 2=0 then t % r / 2 else (t % r+r) / 2
theorem qgy (t:Int) (hr:1<=r):qa1 [.int t,.int r]=.ok (.int (xz t r),[.non,.non]):=by
 have a:0 < r:=by lia
 have d:∀ i,qgS i 2:=λi=>⟨by lia,by lia⟩
 unfold xz;refine qr.trans ?_;by_cases q:t % r % 2=0 <;> simp [qet,qt,wE,ym,a,eqD,eqN,eqS,Zb,d,q]
noncomputable def rW (l:Wk) (r:Int) (ns:List Int):List Int:=if l=[] then (aO r.toNat).map λ(j:Nat)=>(j:Int) else if r % 2=0 then [xz (qP ns 0 l) r,xz (qP ns 0 l) r+r / 2] else [xz (qP ns 0 l) r]
abbrev iD (xs:List Int):D:=.lst (xs.map D.int)
theorem QI {l:Wk} (h:∀ k∈l,k < ns.length) (hr:1<=r) (h9:r<=99):vj [lD l,.int r,nD ns]=.ok (iD (rW l r ns),[.non,.non,.non]):=by
 have z2:2<=sizeLine:=qV 'b';have z1:1<=sizeLine:=qV 'b';have d:∀ i,qgS i 2:=λi=>⟨by lia,by lia⟩
 refine qr.trans ?_;unfold rW;cases l with
 | nil=>
  have c:qih 0 r/\r - 0<=1000000:=⟨⟨⟨by lia,by lia⟩,by lia,by lia⟩,by lia⟩
  have e:xc 'k'=.ok (.lst ((aO r.toNat).map λ(j:Nat)=>.int (j:Int))):=by unfold xc;dsimp only;rw [Aa c,Int.sub_zero];simp [zr]
  rw [Aa rfl,show iD ((aO r.toNat).map λ(j:Nat)=>(j:Int))=.lst ((aO r.toNat).map λ(j:Nat)=>.int (j:Int)) by simp [iD]];simp [vi,qt,inL,eqD,eqN,eqS,e]
 | cons a l=>
  have h1:=yJ (Xv ns) h 0;have h2:=qgy (qP ns 0 (a::l)) hr;have n:¬inL (a::l)=[]:=by simp [inL]
  rw [Ab 'g'];generalize hx:qP ns 0 (a::l)=t at h1 h2;generalize D:xz t r=w at h2;generalize z:lD (a::l)=ld at h1;have b:wb ld=.ok (.int ((inL (a::l)).length:Int)):=by rw [<-z]; rfl
  by_cases q:r % 2=0;·rw [Aa q];simp [vi,qt,b,eqD,eqN,eqS,n,h1,h2,wE,ym,q,Zb,d,z2]
  ·rw [Ab q];simp [vi,qt,b,eqD,eqN,eqS,n,h1,h2,wE,ym,q,z1]
noncomputable def RT (W:Wy):List Str:=(jY (kW W)).filter λx=>decide ((qQ W x).1=x)
abbrev Rt:=Str×List Int
noncomputable def rd (x:Rt):D:=.tup [.str x.1,iD x.2]
noncomputable def RO (W:Wy) (seen:List Pr) (r:Int) (ns:List Int):List Rt:=(RT W).map λx=>(x,rW (uS (FO [] (CL W 0 seen)) x) r ns)
theorem UW:∀ W:Wy,Ut (wD W)=ij (kW W)
 | []=>rfl
 | e::W=>by have j:=UW W;show (Ut (wD W)).map (e.1::·)=_;rw [j];rfl
theorem UX (S:Sn seen W) (A:ns.length=seen.length) (hr:1<=r) (h9:r<=99):yc [sD seen,.int r,nD ns]=.ok (.lst ((RO W seen r ns).map rd),[.non,.non,.non]):=by
 have G:(LS seen).length<=20:=by have:=S.s; lia
 have h1:=Jo S.n G S.w S.a;have i:=qbD W 0 seen;have hn:=S.n;have h2:=XA (CL W 0 seen) 'b';have t:=qiF S.w S.a;obtain ⟨f1,_,q,f4⟩:=zn (CL W 0 seen) [];have j:∀ c∈FO [] (CL W 0 seen),c∈CL W 0 seen:=λc I=>by
  rcases f1 c I with h | h;·cases h
  ·exact h
 unfold RO;generalize hC:CL W 0 seen=C at h1 h2 i t q j;generalize K:FO [] C=F at h2 q j;have H:=S.w.le;have p:=S.s;have b:(kW W).length < 64:=by simp [kW]; lia
 have g:((kW W).all λy=>decide (y.length<=sizeLine))=true:=by rw [aQ];intro y v;exact Ad (qV (S.z y (S.w.sub y v)))
 have o:kw 'o'=.ok (.lst ((jY (kW W)).map D.str)):=by unfold kw;simp only [UW];rw [Aa ⟨b,g⟩]
 have m:∀ x∈jY (kW W),x∈kW W:=λx hx=>(qM _).mem_iff.mp hx;have E:(jY (kW W)).length<=12:=by rw [(qM _).length_eq]; simp [kW]; lia
 refine qr.trans ?_;unfold Jh;rw [show qt Jg [sD seen,.int r,nD ns]=[ij 'n',ij 'k',ij (nD ns),im,im,im] from rfl];have B:=S.e;refine (qy (ρ1:=[ij 'n',ij 'k',ij (nD ns),ij 'o',im,im]) (by simp [B])).trans ?_;refine (qy (ρ1:=[ij 'n',ij 'k',ij (nD ns),ij 'o',ij (.dct (fD F)),im]) (by simp [h1,h2])).trans ?_;have u:=qev (own:=[]) (cap:=[3]) (fi:=jR (d1 kw (qc 3))) (ft:=qF (d2 eqD (d2 ixD (d2 ixD (qc 1) (qc 0)) 'i') (qc 0))) (fe:=qc 0) (ρ:=[ij 'n',ij 'k',ij (nD ns),ij 'o',ij (.dct (fD F)),im]) (ρ1:=[ij 'n',ij 'k',ij (nD ns),ij 'o',ij (.dct (fD F)),im]) (ds:=(jY (kW W)).map D.str) (λd=>match d with | .str x=>decide ((qQ W x).1=x) | _=>ir) (λd=>d) 'g' (by simp [o,jM]) (by rw [ay]; exact qV 'b') (λd hd=>by obtain ⟨x,hx,rfl⟩:=ah.mp hd;have i1:=KB S.w.nd (m x hx);simp [i1,qiC,eqD,eqN,eqS];rfl) (λd hd _=>by simp);have e1:(((jY (kW W)).map D.str).filter λd=>match d with | .str x=>decide ((qQ W x).1=x) | _=>ir).map (λd=>d)=(RT W).map D.str:=by rw [List.map_id',List.filter_map];rfl
 rw [e1] at u;refine (qy (ρ1:=[ij 'n',ij 'k',ij (nD ns),ij 'o',ij (.dct (fD F)),ij (.lst ((RT W).map D.str))]) (by rw [gE,u]; rfl)).trans ?_;have J:(RT W).length<=12:=by
  have:=eG (λx=>decide ((qQ W x).1=x)) (jY (kW W));unfold RT
  lia
 have z2:2<=sizeLine:=qV 'b';have c2:=vJ (cap:=[1,2,4]) (fi:=jR (qc 5)) (fe:=vM (qb (qc 0) (qb (qo [.vl,.vl,.vl] vj (qb (qdu (qc 3) (qc 0) (wo qw)) (qb (qc 1) (qb (qc 2) qw)))) qw))) (ρ:=[ij 'n',ij 'k',ij (nD ns),ij 'o',ij (.dct (fD F)),ij (.lst ((RT W).map D.str))]) (ρ1:=[ij 'n',ij 'k',ij (nD ns),ij 'o',ij (.dct (fD F)),ij (.lst ((RT W).map D.str))]) (ds:=(RT W).map D.str) (λd=>match d with | .str x=>rd (x,rW (uS F x) r ns) | d=>d) (by simp [jM]) (by rw [ay]; exact qV 'b') (λd hd=>by
  obtain ⟨x,hx,rfl⟩:=ah.mp hd;have g1:=qiH F x;have l:∀ k∈uS F x,k < ns.length:=λk f=>by
   unfold uS at f;cases w:F.find? λd=>decide (d.1=x) with
   | none=>rw [w] at f; cases f
   | some d=>rw [w] at f;rw [A];exact t d (j d (ba w)) k f
  have L:=QI l hr h9;simp [qdu,zd,g1,L,z2,rd])
 have M:((RT W).map D.str).map (λd=>match d with | .str x=>rd (x,rW (uS F x) r ns) | d=>d)=((RT W).map λx=>(x,rW (uS F x) r ns)).map rd:=by rw [bg,bg];rfl
 rw [M] at c2;rw [Us,c2];rfl
noncomputable def HM (W:Wy) (seen:List Pr) (r:Int) (ns:List Int):Int:=match BO W seen r ns with
 | some _=>0
 | none=>(RO W seen r ns).foldl (λa x=>a * (x.2.length:Int)) 1
theorem qbF (l:List Pr):(LS l).Nodup:=(qM _).nodup_iff.mpr (uR _ [] cy).1
theorem XB (h:(qp l).Nodup):VS (.lst (prL l))=.ok (.dct (bk l)):=by have:=UR l [] h 'g';unfold VS;simp only [Qi];rw [this];rfl
noncomputable def ua (l:List (Str×Int)) (s:List Pr) (r:Int):List Int:=s.map λx=>(qK l x.1+qK l x.2) % r
theorem iR0 {f:jl} {k:Int} (a:0<=k) (h1:k<=2000) (h:f ρ=.ok (.int k,ρ1)):jo f ρ=.ok (zr 0 k.toNat,ρ1):=by
 have c:-(2 ^ 62:Int)<=k/\k < 2 ^ 62:=by lia
 simp [jo,h,-Int.reducePow,c]
structure Told (ws:List Str) (p q r:Int) (ns:List Int):Prop where
 w:jw ws
 w5:ws.length<=6
 l:KW p q
 r0:1<=r
 r9:r<=99
 n:kA ws.length r ns
noncomputable def sg (l:Wk):Int:=if odd l=iu then -1 else 1
theorem qdW (k:Nat) (l:Wk):odd (k::l)=!odd l:=by
 unfold odd;rw [ao];by_cases h:l.length % 2=1;·rw [Ad h,Ac 'b']; rfl
 ·rw [Ac h,Ad 'b']; rfl
theorem qgz (k:Nat) (l:Wk):sg (k::l)=- sg l:=by unfold sg;rw [qdW];cases odd l <;> rfl
theorem uT (ns:List Int) (t:Int) (a b:Wk):qP ns t (a++b)=qP ns (qP ns t a) b:=List.foldl_append ..
theorem xV (ns:List Int) (t:Int) (k:Nat) (l:Wk):qP ns t (k::l)=qP ns (nI ns k - t) l:=rfl
theorem ub (ns:List Int):∀ (l:Wk) (t:Int),qP ns t l=qP ns 0 l+sg l * t
 | [],t=>by simp [qP,sg,odd]
 | k::l,t=>by
  have h1:=ub ns l (nI ns k - t);have h2:=ub ns l (nI ns k - 0);rw [xV,xV,h1,h2,qgz,fG,fG,Int.neg_mul];simp
  lia
theorem WD (ns:List Int):∀ (l:Wk) (s:Int),qP ns (qP ns s l) l.reverse=s
 | [],s=>rfl
 | k::l,s=>by
  have h:=WD ns l (nI ns k - s);rw [xV,dw,uT,h];show nI ns k - (nI ns k - s)=s
  lia
theorem qdX (l:Wk):sg l=1\/sg l=-1:=by
 unfold sg;split;·exact .inr rfl
 ·exact .inl rfl
theorem qiK {a:Int} (l:Wk):r ∣ sg l * a↔r ∣ a:=by
 rcases qdX l with h | h;·rw [h,fZ]
 ·rw [h,Int.neg_one_mul,Int.dvd_neg]
theorem xW {a b:Int}:a % r=b % r↔r ∣ a - b:=by rw [Int.emod_eq_emod_iff_emod_sub_eq_zero,Int.dvd_iff_emod_eq_zero]
theorem qdY {a b:Int} (h:r ∣ a - b) (A:0<=a) (k:a < r) (c:0<=b) (e:b < r):a=b:=by have:=xW.mpr h;rwa [be A k,be c e] at this
def Sol (seen:List Pr) (r:Int) (ns:List Int) (v:Str->Int):Prop:=∀ (k:Nat) (p:Pr),seen[k]?=ij p->r ∣ v p.1+v p.2 - nI ns k
variable {v:Str->Int}
theorem Path.val (S:Sol seen r ns v) {ρ:Str} {l:Wk} (h:Path seen ρ l x):r ∣ v x - qP ns (v ρ) l:=by
 induction h with
 | nil=>show r ∣ v ρ - v ρ;rw [Int.sub_self];exact ⟨0,by simp⟩
 | snoc hp e hq j=>
  rename_i l x y k p;have a:=S k p e;have m:r ∣ v x+v y - nI ns k:=by
   rcases hq with rfl | rfl;·exact a
   ·rw [Int.add_comm (v x)]; exact a
  rw [uT];show r ∣ v y - (nI ns k - qP ns (v ρ) l);have e1:v y - (nI ns k - qP ns (v ρ) l)=(v x+v y - nI ns k) - (v x - qP ns (v ρ) l):=by lia
  rw [e1];exact dE m j
def okS (r:Int) (ns:List Int) (c:Wk) (s:Int):Prop:=r ∣ qP ns s c - s
theorem KI {c:Wk} (h:odd c=ir) (s:Int):okS r ns c s↔r ∣ qP ns 0 c:=by unfold okS;rw [ub,show sg c=1 by unfold sg; rw [h]; rfl,fZ,Int.add_sub_cancel]
theorem KJ {c:Wk} (h:odd c=iu) (s:Int):okS r ns c s↔r ∣ qP ns 0 c - 2 * s:=by unfold okS;rw [ub,show sg c=-1 by unfold sg; rw [h]; rfl,show qP ns 0 c + -1 * s - s=qP ns 0 c - 2 * s by lia]
theorem qbG (W:Wy) (p:Pr) (k:Nat) (r:Int) (ns:List Int) (s:Int):okS r ns (Va W p k).2 s↔r ∣ qP ns s (qQ W p.1).2+qP ns s (qQ W p.2).2 - nI ns k:=by
 unfold okS Va;simp only [];rw [uT,uT];have h1:=WD ns (qQ W p.2).2 s;generalize qP ns s (qQ W p.1).2=A;generalize qP ns s (qQ W p.2).2=B at h1;generalize (qQ W p.2).2.reverse=L at h1;show r ∣ qP ns (nI ns k - A) L - s↔_;have e:qP ns (nI ns k - A) L - s=sg L * (nI ns k - A - B):=by
  have h2:=ub ns L (nI ns k - A);have g:=ub ns L B;rw [h1] at g;rw [h2,fG (sg L) (nI ns k - A) B]
  lia
 rw [e,qiK,show nI ns k - A - B=-(A+B - nI ns k) by lia,Int.dvd_neg]
theorem qiL {k:Nat} {p:Pr} (h:seen[k]?=ij p):Va W p k∈CL W 0 seen:=ah.mpr ⟨(p,k),List.mem_zipIdx_iff_getElem?.mpr h,rfl⟩
variable {c:Ci}
theorem qgA (h:c∈CL W 0 seen):∃ (k:Nat) (p:Pr),seen[k]?=ij p/\c=Va W p k:=by obtain ⟨q,hq,rfl⟩:=ah.mp h;obtain ⟨p,k⟩:=q;exact ⟨k,p,List.mem_zipIdx_iff_getElem?.mp hq,rfl⟩
theorem qgB (p:Pr):oth p p.1=p.2:=by unfold oth; rw [Aa rfl]
theorem Ql (S:Sn seen W) {p:Pr} (hp:p∈seen):(qQ W p.1).1=(qQ W p.2).1:=by obtain ⟨h1,h2⟩:=kT S.a p hp;obtain ⟨e,h,e1,i⟩:=S.C _ (jr h1) p hp (.inl rfl);simp only [] at e1 i;rw [qgB] at e1;have:=zR S.w.nd h (jr h2) e1;rw [this] at i;exact i.symm
theorem qeD (S:Sn seen W) (d:Sol seen r ns v):∀ c∈CL W 0 seen,okS r ns c.2 (v c.1):=by
 intro c g;obtain ⟨k,p,f,rfl⟩:=qgA g;have hp:=aP f;obtain ⟨h1,h2⟩:=kT S.a p hp;have h:=(S.w.path _ (jr h1)).val d;have b:=(S.w.path _ (jr h2)).val d;simp only [] at h b;rw [<-Ql S hp] at b;show okS r ns (Va W p k).2 (v (qQ W p.1).1);rw [qbG];have s:=d k p f;generalize qP ns (v (qQ W p.1).1) (qQ W p.1).2=A at h;generalize qP ns (v (qQ W p.1).1) (qQ W p.2).2=B at b;have e:A+B - nI ns k=(v p.1+v p.2 - nI ns k) - (v p.1 - A) - (v p.2 - B):=by lia
 rw [e];exact dE (dE s h) b
noncomputable def vO (W:Wy) (r:Int) (ns:List Int) (σ:Str->Int) (x:Str):Int:=qP ns (σ (qQ W x).1) (qQ W x).2 % r
theorem qbH (S:Sn seen W) {σ:Str->Int} (h:∀ c∈CL W 0 seen,okS r ns c.2 (σ c.1)):Sol seen r ns (vO W r ns σ):=by
 intro k p a;have hp:=aP a;have h1:=h _ (qiL a);have h1:okS r ns (Va W p k).2 (σ (qQ W p.1).1):=h1;rw [qbG] at h1;unfold vO;rw [<-Ql S hp];generalize qP ns (σ (qQ W p.1).1) (qQ W p.1).2=A at h1;generalize qP ns (σ (qQ W p.1).1) (qQ W p.2).2=B at h1;have d1:r ∣ A - A % r:=dq;have d2:r ∣ B - B % r:=dq;have e:A % r+B % r - nI ns k=(A+B - nI ns k) - (A - A % r) - (B - B % r):=by lia
 rw [e];exact dE (dE h1 d1) d2
theorem qbI:∀ (C F:List Ci),∀ c∈FO F C,c∈F\/(c∈C/\odd c.2=iu)
 | [],F,c,h=>.inl h
 | d::C,F,c,h=>by
  unfold FO at h;by_cases q:odd d.2=iu/\d.1∉kF F
  ·rw [Aa q] at h;rcases qbI C _ c h with h | h
   ·rcases aj.mp h with h | h;·exact .inl h
    ·rw [au.mp h];exact .inr ⟨ap ..,q.1⟩
   ·exact .inr ⟨ae _ h.1,h.2⟩
  ·rw [Ab q] at h;rcases qbI C _ c h with h | h;·exact .inl h
   ·exact .inr ⟨ae _ h.1,h.2⟩
theorem KK (h:x∈kF F):(x,uS F x)∈F:=by
 unfold uS;cases q:F.find? λc=>decide (c.1=x) with
 | none=>obtain ⟨e,i,rfl⟩:=ah.mp h;have:=cw.mp q e i;simp at this
 | some c=>
  have h1:=ba q;have h2:c.1=x:=by simpa using dh q
  rw [<-h2];exact h1
theorem qdZ (h:x∉kF F):uS F x=[]:=by
 unfold uS;cases q:F.find? λc=>decide (c.1=x) with
 | none=>rfl
 | some c=>
  have h1:=ba q;have h2:c.1=x:=by simpa using dh q
  exact absurd (ah.mpr ⟨c,h1,h2⟩) h
theorem qbJ (a b:Wk):odd (a++b)=(odd a != odd b):=by
 unfold odd;rw [af];by_cases h1:a.length % 2=1 <;> by_cases h2:b.length % 2=1;·rw [Ad h1,Ad h2,Ac 'b']; rfl
 ·rw [Ad h1,Ac h2,Ad 'b']; rfl
 ·rw [Ac h1,Ad h2,Ad 'b']; rfl
 ·rw [Ac h1,Ac h2,Ac 'b']; rfl
theorem zS {c:Wk} (h:odd c=ir):WC c r ns=ir↔r ∣ qP ns 0 c:=by unfold WC;rw [h,Ab bj,Int.dvd_iff_emod_eq_zero];simp
theorem qbK {c:Wk} (h:odd c=iu):WC c r ns=ir↔¬(r % 2=0/\qP ns 0 c % 2=1):=by unfold WC;rw [h,Aa rfl];simp
theorem qeE (ns:List Int) (f c:Wk) (h:odd c=iu):qP ns 0 (f++c)=qP ns 0 c - qP ns 0 f:=by
 rw [uT,ub,show sg c=-1 by unfold sg; rw [h]; rfl]
 lia
section
abbrev FF (W:Wy) (seen:List Pr):List Ci:=FO [] (CL W 0 seen)
theorem qbL (h:c∈FF W seen):c∈CL W 0 seen/\odd c.2=true:=by
 rcases qbI _ _ c h with h | h;·cases h
 ·exact h
theorem qbM:BO W seen r ns=im↔∀ c∈CL W 0 seen,(odd c.2=ir->r ∣ qP ns 0 c.2)/\(odd c.2=iu->¬(r % 2=0/\qP ns 0 c.2 % 2=1)/\r ∣ qP ns 0 c.2 - qP ns 0 (uS (FF W seen) c.1)):=by
 unfold BO;rw [cw];have k:∀ c∈CL W 0 seen,odd c.2=iu->odd (uS (FF W seen) c.1)=true:=λc d l=>(qbL (KK ((zn _ _).2.2.1 c d l))).2;constructor
 ·intro h c d;have h1:WC c.2 r ns=false:=by simpa using h c (aj.mpr (.inl d))
  refine ⟨λl=>(zS l).mp h1,λl=>⟨(qbK l).mp h1,?_⟩⟩;have h2:WC (uS (FF W seen) c.1++c.2) r ns=false:=by have:=h (c.1,uS (FF W seen) c.1++c.2) (aj.mpr (.inr (ah.mpr ⟨c,bF.mpr ⟨d,by simpa using l⟩,rfl⟩)));simpa using this
  rw [zS (by rw [qbJ,k c d l,l]; rfl),qeE _ _ _ l] at h2;exact h2
 ·intro h w a;rcases aj.mp a with a | a
  ·cases l:odd w.2 with
   | false=>simpa using (zS l).mpr ((h w a).1 l)
   | true=>simpa using (qbK l).mpr ((h w a).2 l).1
  ·obtain ⟨c,d,rfl⟩:=ah.mp a;obtain ⟨d,l⟩:=bF.mp d;have l:odd c.2=true:=by simpa using l
   have:WC (uS (FF W seen) c.1++c.2) r ns=false:=by rw [zS (by rw [qbJ,k c d l,l]; rfl),qeE _ _ _ l];exact ((h c d).2 l).2
   simpa using this
theorem qbN (S:Sn seen W) (a:Sol seen r ns v):BO W seen r ns=none:=by
 have hok:=qeD S a;rw [qbM];intro c d;refine ⟨λl=>(KI l _).mp (hok c d),λl=>?_⟩;have h1:=(KJ l _).mp (hok c d);have h:=KK ((zn (CL W 0 seen) []).2.2.1 c d l);obtain ⟨f1,f2⟩:=qbL h;have h2:=(KJ f2 _).mp (hok _ f1);refine ⟨λ⟨e1,i⟩=>?_,?_⟩
 ·obtain ⟨m,h⟩:=h1;obtain ⟨j,G⟩:=dY e1;rw [G,fL] at h
  lia
 ·simp only [] at h2;have e:qP ns 0 c.2 - qP ns 0 (uS (FF W seen) c.1)=(qP ns 0 c.2 - 2 * v c.1) - (qP ns 0 (uS (FF W seen) c.1) - 2 * v c.1):=by lia
  rw [e];exact dE h1 h2
end
theorem qbO {t s:Int} (hr:1<=r) (s0:0<=s) (s1:s < r) (hp:¬(r % 2=0/\t % 2=1)):r ∣ t - 2 * s↔s∈(if r % 2=0 then [xz t r,xz t r+r / 2] else [xz t r]):=by
 have b:0 < r:=by lia
 have i:=ck t (show r≠0 by lia);have t1:=bX t b;have hd:r ∣ t - t % r:=dq;have a:r % 2=0->t % r % 2=0:=λe=>by
  obtain ⟨m,c⟩:=hd;obtain ⟨j,G⟩:=dY e;have:t % 2=0:=by
   have:=Int.emod_two_eq t;rcases this with h | h;·exact h
   ·exact absurd ⟨e,h⟩ hp
  have k:r * m=2 * (j * m):=by rw [G,fL]
  generalize t % r=u at c ⊢
  lia
 have key:r ∣ t - 2 * s↔(t % r - 2 * s=0\/t % r - 2 * s=-r):=by
  constructor
  ·intro h;have h2:r ∣ t % r - 2 * s:=by
    have e:t % r - 2 * s=(t - 2 * s) - (t - t % r):=by lia
    rw [e];exact dE h hd
   generalize t % r=u at *;by_cases q:2 * s<=u;·refine .inl ?_;have:=dZ h2;rwa [be 'b' 'b'] at this
   ·by_cases d:2 * s<=u+r
    ·refine .inr ?_;have g:r ∣ u - 2 * s+r:=d4 h2 ⟨1,by simp⟩;have:=dZ g;rw [be 'b' 'b'] at this
     lia
    ·exfalso;have g:r ∣ u - 2 * s+r+r:=d4 (d4 h2 ⟨1,by simp⟩) ⟨1,by simp⟩;have:=dZ g;rw [be 'b' 'b'] at this
     lia
  ·intro h;have e:t - 2 * s=(t - t % r)+(t % r - 2 * s):=by lia
   rw [e];refine d4 hd ?_;rcases h with h | h;·rw [h]; exact ⟨0,by simp⟩
   ·rw [h]; exact ⟨-1,by simp⟩
 rw [key];clear hp hd key;unfold xz;by_cases q:r % 2=0
 ·have f:=a q;clear a;rw [Aa q,Aa f];generalize t % r=u at *;simp only [ac,aN,or_false];constructor
  ·rintro (h | h);·exact .inl 'b'
   ·exact .inr 'b'
  ·rintro (h | h);·exact .inl 'b'
   ·exact .inr 'b'
 ·rw [Ab q];clear a;generalize t % r=u at *;rw [au];by_cases d:u % 2=0
  ·rw [Aa d];constructor;·rintro (h | h) <;> lia
   ·intro h; exact .inl 'b'
  ·rw [Ab d];constructor;·rintro (h | h) <;> lia
   ·intro h; exact .inr 'b'
theorem qgC {t:Int} (hr:1<=r):0<=xz t r/\xz t r < r/\(r % 2=0->t % r % 2=0->xz t r+r / 2 < r):=by have i:=ck t (show r≠0 by lia);have t1:=bX t (show 0 < r by lia);unfold xz;generalize t % r=u at *;split <;> refine ⟨by lia,by lia,λh h2=>by lia⟩
section
abbrev ch (W:Wy) (seen:List Pr) (r:Int) (ns:List Int) (x:Str):List Int:=rW (uS (FF W seen) x) r ns
theorem qgD (hr:1<=r) (p:BO W seen r ns=im) (x:Str) (s:Int):s∈ch W seen r ns x↔(0<=s/\s < r)/\∀ c∈CL W 0 seen,c.1=x->okS r ns c.2 s:=by
 have a:=qbM.mp p;unfold ch rW;by_cases q:x∈kF (FF W seen)
 ·have n:=KK q;obtain ⟨f1,f2⟩:=qbL n;simp only [] at f2;have k:uS (FF W seen) x≠[]:=λz=>by rw [z] at f2; exact absurd f2 'd'
  have f:=(a _ f1).2 f2;simp only [] at f;rw [Ab k];have hT:∀ s,(∀ c∈CL W 0 seen,c.1=x->okS r ns c.2 s)↔r ∣ qP ns 0 (uS (FF W seen) x) - 2 * s:=λs=>by
   constructor;·intro h;exact (KJ f2 s).mp (h _ f1 rfl)
   ·intro h c g o;cases l:odd c.2 with
    | false=>exact (KI l s).mpr ((a c g).1 l)
    | true=>
     have h1:=((a c g).2 l).2;rw [o] at h1;rw [KJ l];have e:qP ns 0 c.2 - 2 * s=(qP ns 0 c.2 - qP ns 0 (uS (FF W seen) x))+(qP ns 0 (uS (FF W seen) x) - 2 * s):=by lia
     rw [e];exact d4 h1 h
  rw [hT s];generalize qP ns 0 (uS (FF W seen) x)=t at f;have y:=qgC (t:=t) hr;have d:r % 2=0->t % r % 2=0:=λe=>by
   obtain ⟨m,n⟩:r ∣ t - t % r:=dq;obtain ⟨j,G⟩:=dY e;have:t % 2=0:=by
    rcases Int.emod_two_eq t with h | h;·exact h
    ·exact absurd ⟨e,h⟩ f.1
   have v:r * m=2 * (j * m):=by rw [G,fL]
   generalize t % r=u at n ⊢
   lia
  constructor
  ·intro h;have b:0<=s/\s < r:=by
    by_cases i:r % 2=0
    ·rw [Aa i] at h;simp only [ac,aN,or_false] at h;have:=y.2.2 i (d i);rcases h with rfl | rfl;·exact ⟨y.1,y.2.1⟩
     ·exact ⟨by lia,this⟩
    ·rw [Ab i] at h;rw [au.mp h];exact ⟨y.1,y.2.1⟩
   exact ⟨b,(qbO hr b.1 b.2 f.1).mpr h⟩
  ·rintro ⟨b,h⟩;exact (qbO hr b.1 b.2 f.1).mp h
 ·rw [qdZ q,Aa rfl];constructor
  ·intro h;obtain ⟨j,G,rfl⟩:=ah.mp h;have:=bv.mp G;refine ⟨⟨by lia,by lia⟩,λc g o=>?_⟩;cases l:odd c.2 with
   | false=>exact (KI l _).mpr ((a c g).1 l)
   | true=>exact absurd (by rw [<-o]; exact (zn (CL W 0 seen) []).2.2.1 c g l) q
  ·rintro ⟨⟨s0,s1⟩,_⟩;exact ah.mpr ⟨s.toNat,bv.mpr 'b',by lia⟩
theorem qkw (hr:1<=r) (x:Str):(ch W seen r ns x).Nodup:=by
 unfold ch rW;split;·have:(aO r.toNat).Nodup:=List.nodup_range;exact fH _ (λa b h=>by lia) this
 ·split
  ·refine aK.mpr ⟨λh=>?_,by simp⟩;have:=au.mp h
   lia
  ·simp
end
abbrev Ln:=List (Str×Int)
noncomputable def evS (r:Int) (x:Str) (rows:List Ln):List Ln:=rows.flatMap λl=>(aO r.toNat).map λ(j:Nat)=>l++[(x,(j:Int))]
noncomputable def EV (r:Int) (rows:List Ln):List Str->List Ln
 | []=>rows
 | x::L=>EV r (evS r x rows) L
variable {rows:List Ln}
theorem qbP (hr:1<=r) {l:Ln}:l∈evS r x rows↔∃ a∈rows,∃ i:Int,0<=i/\i < r/\l=a++[(x,i)]:=by
 unfold evS;rw [fO];constructor;·rintro ⟨a,b,h⟩;obtain ⟨j,G,rfl⟩:=ah.mp h;have:=bv.mp G;exact ⟨a,b,j,by lia,by lia,rfl⟩
 ·rintro ⟨a,b,i,c,i1,rfl⟩;exact ⟨a,b,ah.mpr ⟨i.toNat,bv.mpr 'b',by rw [Int.toNat_of_nonneg c]⟩⟩
theorem qeF (hr:1<=r):∀ (L:List Str) (rows:List Ln) (l:Ln),l∈EV r rows L↔∃ b∈rows,∃ m:Ln,l=b++m/\qp m=L/\∀ e∈m,0<=e.2/\e.2 < r
 | [],rows,l=>by
  constructor;·intro h;exact ⟨l,h,[],by simp,rfl,by simp⟩
  ·rintro ⟨b,d,m,rfl,k,_⟩;have:m=[]:=by cases m with
    | nil=>rfl
    | cons a m=>cases k
   subst this;rw [aZ];exact d
 | x::L,rows,l=>by
  show l∈EV r (evS r x rows) L↔_;rw [qeF hr L];constructor
  ·rintro ⟨j,h1,m,rfl,k,f⟩;obtain ⟨b,d,i,g,i1,rfl⟩:=(qbP hr).mp h1;refine ⟨b,d,(x,i)::m,by simp,by simp [qp] at k ⊢; exact k,λe c=>?_⟩;rcases ac.mp c with rfl | c;·exact ⟨g,i1⟩
   ·exact f e c
  ·rintro ⟨b,d,m,rfl,k,f⟩;cases m with
   | nil=>cases k
   | cons a m=>obtain ⟨y,i⟩:=a;have k:y::qp m=x::L:=k;injection k with h1 h2;subst h1;have:=f (y,i) (ap ..);exact ⟨b++[(y,i)],(qbP hr).mpr ⟨b,d,i,this.1,this.2,rfl⟩,m,by simp,h2,λe c=>f e (ae _ c)⟩
theorem qiM (h:rows.Nodup):(evS r x rows).Nodup:=by
 unfold evS;unfold List.Nodup;rw [List.pairwise_flatMap];constructor;·intro l hl;have:(aO r.toNat).Nodup:=List.nodup_range;exact fH _ (λa b h=>λz=>by have:=List.append_cancel_left z;simp at this;exact h 'b') this
 ·refine List.Pairwise.imp (λ{a b} c=>?_) h;intro y D z d e;obtain ⟨i,_,rfl⟩:=ah.mp D;obtain ⟨j,_,rfl⟩:=ah.mp d;exact c (List.append_inj_left' e rfl)
theorem qiN:∀ (L:List Str) (rows:List Ln),rows.Nodup->(EV r rows L).Nodup
 | [],rows,h=>h
 | x::L,rows,h=>qiN L _ (qiM h)
abbrev EV0 (r:Int) (L:List Str):List Ln:=EV r [[]] L
theorem KL (hr:1<=r) {L:List Str} {l:Ln}:l∈EV0 r L↔qp l=L/\∀ e∈l,0<=e.2/\e.2 < r:=by
 rw [qeF hr];constructor;·rintro ⟨b,a,m,rfl,h⟩;rw [au.mp a,cm];exact h
 ·intro h;exact ⟨[],au.mpr rfl,l,rfl,h⟩
theorem uc (f:Str->Int):∀ {L:List Str} {x:Str},x∈L->qK (L.map λx=>(x,f x)) x=f x
 | [],x,h=>by cases h
 | y::L,x,h=>by
  unfold qK;rw [aD];by_cases q:y=x;·subst q;rw [bN 'g'];rfl
  ·rw [bD (by simpa using q)];rcases ac.mp h with h | h;·exact absurd h.symm q
   ·exact uc f h
theorem Qm:∀ {l:Ln},(qp l).Nodup->l=(qp l).map λx=>(x,qK l x)
 | [],_=>rfl
 | (y,i)::l,h=>by
  have hn:=aK.mp (show (y::qp l).Nodup from h);have j:=Qm hn.2;show (y,i)::l=(y,qK ((y,i)::l) y)::(qp l).map λx=>(x,qK ((y,i)::l) x)
  have e1:qK ((y,i)::l) y=i:=by unfold qK; rw [bN 'g']; rfl
  have e:((qp l).map λx=>(x,qK ((y,i)::l) x))=(qp l).map λx=>(x,qK l x):=by refine cF λx hx=>?_;have:y≠x:=λz=>hn.1 (z ▸ hx);show (x,qK ((y,i)::l) x)=_;unfold qK;rw [bD (by simpa using this)]
  rw [e1,e,<-j]
theorem xA (f:Str->Int) (L:List Str):qp (L.map λx=>(x,f x))=L:=by unfold qp;rw [bg];exact List.map_id' L
theorem KM {α:Type} [DecidableEq α]:∀ {a b:List α},a.Nodup->(∀ x∈a,x∈b)->a.length<=b.length
 | [],b,_,_=>bH _
 | x::a,b,hn,h=>by
  have r:=aK.mp hn;have hx:=h x (ap ..);have j:=KM (b:=b.erase x) r.2 λy D=>(List.mem_erase_of_ne (λz=>r.1 (by rw [<-z]; exact D))).mpr (h y (ae _ D));rw [List.length_erase_of_mem hx] at j;have:=df hx;rw [ao]
  lia
theorem qbQ {β:Type} [DecidableEq β] {A:List α} {B:List β} (f:α->β) (hA:A.Nodup) (h:∀ a∈A,f a∈B) (hi:∀ a∈A,∀ b∈A,f a=f b->a=b):A.length<=B.length:=by
 have c:(A.map f).Nodup:=by unfold List.Nodup;rw [List.pairwise_map];refine List.Pairwise.imp_of_mem (λ{a b} g d e=>λz=>e (hi a g b d z)) hA
 have:=KM c (b:=B) λx hx=>by obtain ⟨a,g,rfl⟩:=ah.mp hx;exact h a g
 rwa [ay] at this
noncomputable def PV (c:Str->List Int):List Str->List Ln
 | []=>[[]]
 | x::R=>(c x).flatMap λs=>(PV c R).map λl=>(x,s)::l
theorem qeG {β γ:Type} (P:List β) (g:α->β->γ):∀ c:List α,(c.flatMap λs=>P.map (g s)).length=c.length * P.length
 | []=>by simp
 | a::c=>by
  rw [List.flatMap_cons,af,qeG P g c,ay,ao,Nat.succ_mul]
  lia
theorem qbR (c:Str->List Int):∀ (R:List Str) (t:Int),(R.map λx=>((x,c x):Rt)).foldl (λa x=>a * (x.2.length:Int)) t=t * ((PV c R).length:Int)
 | [],t=>by simp [PV]
 | x::R,t=>by rw [aD,cj,qbR c R,show PV c (x::R)=(c x).flatMap λs=>(PV c R).map λl=>(x,s)::l from rfl,qeG,Int.natCast_mul,fL]
theorem yu (c:Str->List Int):∀ {R:List Str} {l:Ln},l∈PV c R↔qp l=R/\∀ e∈l,e.2∈c e.1
 | [],l=>by
  constructor;·intro h;rw [au.mp h];exact ⟨rfl,by simp⟩
  ·rintro ⟨h,_⟩;cases l with
   | nil=>exact au.mpr rfl
   | cons a l=>cases h
 | x::R,l=>by
  unfold PV;rw [fO];constructor
  ·rintro ⟨s,b,h⟩;obtain ⟨l',hl,rfl⟩:=ah.mp h;obtain ⟨h1,h2⟩:=(yu c).mp hl;refine ⟨by show x::qp l'=_; rw [h1],λe i=>?_⟩;rcases ac.mp i with rfl | i;·exact b
   ·exact h2 e i
  ·rintro ⟨h1,h2⟩;cases l with
   | nil=>cases h1
   | cons a l=>obtain ⟨y,s⟩:=a;have h1:y::qp l=x::R:=h1;injection h1 with h3 h4;subst h3;exact ⟨s,h2 _ (ap ..),ah.mpr ⟨l,(yu c).mpr ⟨h4,λe i=>h2 e (ae _ i)⟩,rfl⟩⟩
theorem qiO (c:Str->List Int) (f:∀ x,(c x).Nodup):∀ R:List Str,(PV c R).Nodup
 | []=>by simp [PV]
 | x::R=>by
  unfold PV;unfold List.Nodup;rw [List.pairwise_flatMap];constructor;·intro s i;exact fH _ (λa b h=>λz=>by injection z with _ z; exact h z) (qiO c f R)
  ·refine List.Pairwise.imp (λ{a b} d=>?_) (f x);intro y D z g e;obtain ⟨l,_,rfl⟩:=ah.mp D;obtain ⟨m,_,rfl⟩:=ah.mp g;injection e with e _;injection e with _ e;exact d e
section
theorem XC (hn:kA seen.length r ns) (l:Ln):ua l seen r=ns↔Sol seen r ns (qK l):=by
 have a:∀ k p,seen[k]?=ij p->∃ i,ns[k]?=ij i/\nI ns k=i/\0<=i/\i < r:=λk p h=>by
  have t:k < ns.length:=by rw [hn.1]; exact (aB.mp h).1
  refine ⟨ns[k],aE t,by unfold nI; rw [aE t]; rfl,hn.2 _ (cu t)⟩
 constructor
 ·intro h k p hp;obtain ⟨i,e1,e,c,i1⟩:=a k p hp;rw [<-h] at e1;unfold ua at e1;rw [aH,hp] at e1;have e1:(qK l p.1+qK l p.2) % r=i:=by simpa using e1
  rw [e];apply xW.mp;rw [e1,be c i1]
 ·intro h;apply ei;intro k;unfold ua;rw [aH];cases hp:seen[k]? with
  | none=>
   have:ns[k]?=none:=by rw [bO] at hp ⊢;rw [hn.1];exact hp
   rw [this];rfl
  | some p=>obtain ⟨i,e1,e,c,i1⟩:=a k p hp;have:=xW.mpr (h k p hp);rw [e,be c i1] at this;rw [e1,<-this];rfl
theorem Qn (S:Sn seen W) (D:y∈kW W):(qQ W y).1∈kW W/\qQ W (qQ W y).1=((qQ W y).1,[]):=by have h1:=S.R _ (jr D);have h2:(qQ W y).1∈kW W:=ah.mpr ⟨_,h1,rfl⟩;have:=zR S.w.nd (jr h2) h1 rfl;refine ⟨h2,?_⟩;injection this
theorem Jp:x∈RT W↔x∈kW W/\(qQ W x).1=x:=by unfold RT;rw [bF,(qM _).mem_iff];simp
theorem qgE (S:Sn seen W):(RT W).Nodup:=((qM _).nodup_iff.mpr S.w.nd).filter _
theorem qkx (S:Sn seen W) (hr:1<=r) (hn:kA seen.length r ns):HM W seen r ns=(((EV0 r (LS seen)).filter λl=>decide (ua l seen r=ns)).length:Int)/\(BO W seen r ns=im↔0 < ((EV0 r (LS seen)).filter λl=>decide (ua l seen r=ns)).length):=by
 have hA:∀ l,l∈(EV0 r (LS seen)).filter (λl=>decide (ua l seen r=ns))↔(qp l=LS seen/\∀ e∈l,0<=e.2/\e.2 < r)/\Sol seen r ns (qK l):=λl=>by rw [bF,KL hr,decide_eq_true_eq,XC hn]
 have B:((EV0 r (LS seen)).filter λl=>decide (ua l seen r=ns)).Nodup:=(qiN _ _ 'g').filter _;generalize (EV0 r (LS seen)).filter (λl=>decide (ua l seen r=ns))=A at hA B;have h:∀ l∈A,∀ x∈LS seen,0<=qK l x/\qK l x < r:=λl hl x hx=>by obtain ⟨⟨h1,h2⟩,_⟩:=(hA l).mp hl;exact h2 _ (wZ (by rw [h1]; exact hx)).1
 unfold HM;cases T:BO W seen r ns with
 | some c=>
  have:A=[]:=by
   cases A with
   | nil=>rfl
   | cons l A=>have:=qbN S ((hA l).mp (ap ..)).2;rw [T] at this;cases this
  rw [this];simp
 | none=>
  have f:=qgD hr T;have L:∀ x∈RT W,x∈LS seen:=λx hx=>S.w.sub x (Jp.mp hx).1;have Q:∀ c∈CL W 0 seen,c.1∈RT W:=λc i=>by obtain ⟨k,p,E,rfl⟩:=qgA i;have hp:=(kT S.a p (aP E)).1;obtain ⟨h1,h2⟩:=Qn S hp;exact Jp.mpr ⟨h1,by show (qQ W (qQ W p.1).1).1=_; rw [h2]; rfl⟩
  have K:A.length<=(PV (ch W seen r ns) (RT W)).length:=by
   refine qbQ (λl=>(RT W).map λx=>(x,qK l x)) B (λl hl=>?_) (λa G b g e=>?_);·refine (yu _).mpr ⟨xA _ _,λe u=>?_⟩;obtain ⟨x,hx,rfl⟩:=ah.mp u;refine (f x _).mpr ⟨h l hl x (L x hx),λc i P=>?_⟩;have:=qeD S ((hA l).mp hl).2 c i;rw [P] at this;exact this
   ·obtain ⟨⟨q,X⟩,a3⟩:=(hA a).mp G;obtain ⟨⟨o,V⟩,b3⟩:=(hA b).mp g;have t:∀ x∈RT W,qK a x=qK b x:=λx hx=>by have h1:=uc (qK a) hx;have h2:=uc (qK b) hx;rw [<-h1,<-h2];exact congrArg (λl=>qK l x) e
    have v:∀ y∈LS seen,qK a y=qK b y:=λy D=>by
     have j:=S.a y D;obtain ⟨r1,r2⟩:=Qn S j;have N:(qQ W y).1∈RT W:=Jp.mpr ⟨r1,by rw [r2]⟩;have H:=(S.w.path _ (jr j)).val a3;have R:=(S.w.path _ (jr j)).val b3;simp only [] at H R;rw [t _ N] at H;have h1:=h a G y D;have h2:=h b g y D;refine qdY ?_ h1.1 h1.2 h2.1 h2.2;have e1:qK a y - qK b y=(qK a y - qP ns (qK b (qQ W y).1) (qQ W y).2) - (qK b y - qP ns (qK b (qQ W y).1) (qQ W y).2):=by lia
     rw [e1];exact dE H R
    have n:(qp a).Nodup:=by rw [q]; exact qbF _
    have d:(qp b).Nodup:=by rw [o]; exact qbF _
    rw [Qm n,Qm d,q,o];exact cF λy D=>by rw [v y D]
  have I:(PV (ch W seen r ns) (RT W)).length<=A.length:=by
   refine qbQ (λl=>(LS seen).map λx=>(x,vO W r ns (qK l) x)) (qiO _ (λx=>qkw hr x) _) (λl hl=>?_) (λa G b g e=>?_)
   ·obtain ⟨F,Z⟩:=(yu _).mp hl;have hok:∀ c∈CL W 0 seen,okS r ns c.2 (qK l c.1):=λc i=>by have:=Z _ (wZ (by rw [F]; exact Q c i)).1;exact ((f _ _).mp this).2 c i rfl
    have hs:=qbH S hok;refine (hA _).mpr ⟨⟨xA _ _,λe u=>?_⟩,λk p E=>?_⟩;·obtain ⟨x,_,rfl⟩:=ah.mp u;exact ⟨ck _ 'b',bX _ 'b'⟩
    ·have hp:=aP E;have m1:p.1∈LS seen:=vY.mpr ⟨p,hp,.inl rfl⟩;have Y:p.2∈LS seen:=vY.mpr ⟨p,hp,.inr rfl⟩;rw [uc (vO W r ns (qK l)) m1,uc (vO W r ns (qK l)) Y];exact hs k p E
   ·obtain ⟨q,X⟩:=(yu _).mp G;obtain ⟨o,V⟩:=(yu _).mp g;have M:∀ x∈RT W,qK a x=qK b x:=λx hx=>by
     have m:=L x hx;have h1:=uc (vO W r ns (qK a)) m;have h2:=uc (vO W r ns (qK b)) m;have C:vO W r ns (qK a) x=vO W r ns (qK b) x:=by rw [<-h1,<-h2];exact congrArg (λl=>qK l x) e
     obtain ⟨k1,k2⟩:=Jp.mp hx;obtain ⟨_,r2⟩:=Qn S k1;rw [k2] at r2;unfold vO at C;rw [r2] at C;have C:qK a x % r=qK b x % r:=C;have U:=((f x _).mp (X _ (wZ (by rw [q]; exact hx)).1)).1;have c2:=((f x _).mp (V _ (wZ (by rw [o]; exact hx)).1)).1;rwa [be U.1 U.2,be c2.1 c2.2] at C
    have n:(qp a).Nodup:=by rw [q]; exact qgE S
    have d:(qp b).Nodup:=by rw [o]; exact qgE S
    rw [Qm n,Qm d,q,o];exact cF λy D=>by rw [M y D]
  have s:A.length=(PV (ch W seen r ns) (RT W)).length:=fV K I;have J:0 < (PV (ch W seen r ns) (RT W)).length:=by
   have hl:((RT W).map λx=>(x,((ch W seen r ns x).head?).getD 0))∈PV (ch W seen r ns) (RT W):=(yu _).mpr ⟨xA _ _,λe u=>by
    obtain ⟨x,_,rfl⟩:=ah.mp u;show ((ch W seen r ns x).head?).getD 0∈ch W seen r ns x;have O:ch W seen r ns x≠[]:=by
     unfold ch rW;split
     ·intro z;have:=congrArg fB z;simp at this
      lia
     ·split <;> simp
    cases i:ch W seen r ns x with
    | nil=>exact absurd i O
    | cons a l=>exact ap ..⟩
   exact df hl
  refine ⟨?_,λ_=>by rw [s]; exact J,λ_=>rfl⟩;have:=qbR (ch W seen r ns) (RT W) 1;rw [fZ,<-s] at this;exact this
end
noncomputable def slv (r:Int) (seen:List Pr) (ns:List Int):List Ln:=(EV0 r (LS seen)).filter λl=>decide (ua l seen r=ns)
noncomputable def bl (W:Wy) (r:Int) (ns:List Int) (L:List Str) (l:Ln):Ln:=L.map λx=>(x,vO W r ns (qK l) x)
section
theorem qky (S:Sn seen W) (hr:1<=r) (hn:kA seen.length r ns) (j:BO W seen r ns=im) {l:Ln} (hl:l∈PV (ch W seen r ns) (RT W)):bl W r ns (LS seen) l∈(EV0 r (LS seen)).filter λl=>decide (ua l seen r=ns):=by
 have b:=qgD hr j;have Q:∀ c∈CL W 0 seen,c.1∈RT W:=λc d=>by obtain ⟨k,p,h,rfl⟩:=qgA d;have hp:=(kT S.a p (aP h)).1;obtain ⟨h1,h2⟩:=Qn S hp;exact Jp.mpr ⟨h1,by show (qQ W (qQ W p.1).1).1=_; rw [h2]; rfl⟩
 obtain ⟨g,f⟩:=(yu _).mp hl;have hok:∀ c∈CL W 0 seen,okS r ns c.2 (qK l c.1):=λc d=>by have:=f _ (wZ (by rw [g]; exact Q c d)).1;exact ((b _ _).mp this).2 c d rfl
 have s:=qbH S hok;rw [bF,KL hr,decide_eq_true_eq,XC hn];unfold bl;refine ⟨⟨xA _ _,λe i=>?_⟩,λk p h=>?_⟩;·obtain ⟨x,_,rfl⟩:=ah.mp i;exact ⟨ck _ 'b',bX _ 'b'⟩
 ·have hp:=aP h;have m1:p.1∈LS seen:=vY.mpr ⟨p,hp,.inl rfl⟩;have B:p.2∈LS seen:=vY.mpr ⟨p,hp,.inr rfl⟩;rw [uc (vO W r ns (qK l)) m1,uc (vO W r ns (qK l)) B];exact s k p h
end
theorem qbS (S:Sn seen W):jY (kW W)=LS seen:=by refine uu ?_ (ji _) (by unfold LS; exact ji _);exact (qM _).trans (WA S.w.nd (qbF _) λx=>⟨λh=>S.w.sub x h,λh=>S.a x h⟩)
abbrev wfB:qU:=(qG (jp 7 (d2 ixD (qc 3) (d2 ixD (d2 ixD (qc 4) (qc 6)) 'i')))
  (kP (JF 5 Qy (vM (qb (qc 6) (qb (d2 wE (qo [.vl,.vl,.vl] vo (qb (d2 ixD (d2 ixD (qc 4) (qc 6)) 'f') (qb (qc 2) (qb (qc 7) qw)))) (qc 1)) qw))))))
variable {st:Ln}
theorem qbT (S:Sn seen W) (hr:1<=r) (A:ns.length=seen.length) (c:∀ y∈kW W,(qQ W y).1∈qp st) (a:Option D):∀ (L:List Str) (acc:Ln) (x y:Option D),(∀ z∈L,z∈kW W)->acc.length+L.length<=100 ->∃ n s,kU (gNm 6) wfB (L.map D.str) [a,ij 'k',ij (nD ns),ij (.dct (bk st)),ij 'o',ij (.lst (prL acc)),x,y]=.ok (.nx,[a,ij 'k',ij (nD ns),ij (.dct (bk st)),ij 'o',ij (.lst (prL (acc++bl W r ns L st))),n,s])
 | [],acc,x,y,_,_=>⟨x,y,by simp [kU,bl]⟩
 | z::L,acc,x,y,hL,hl=>by
  rw [ao] at hl;have b:=hL z (ap ..);have i1:=KB S.w.nd b;have i2:=KA (c z b);have t:∀ k∈(qQ W z).2,k < ns.length:=λk m=>by rw [A];exact (S.w.path _ (jr b)).lt k m
  have i:=yJ (Xv ns) t (qK st (qQ W z).1);obtain ⟨n,s,j⟩:=qbT S hr A c a L (acc++[(z,vO W r ns (qK st) z)]) (ij (.str z)) (ij (.int (qK st (qQ W z).1))) (λw g=>hL w (ae _ g)) (by rw [af]; simp; lia);have f:0 < r:=by lia
  have z2:2<=sizeLine:=qV 'b';have h:(prL acc).length < sizeLine:=aF (by simp [prL]; lia) big;have e:acc++[(z,vO W r ns (qK st) z)]++bl W r ns L st=acc++bl W r ns (z::L) st:=by simp [bl]
  rw [e] at j;have o:prL (acc++[(z,vO W r ns (qK st) z)])=prL acc++[.tup [.str z,.int (qP ns (qK st (qQ W z).1) (qQ W z).2 % r)]]:=by simp [prL,vO]
  refine ⟨n,s,dN (kE (d:=.str z) (ρ1:=[a,ij 'k',ij (nD ns),ij (.dct (bk st)),ij 'o',ij (.lst (prL acc)),ij (.str z),y]) rfl ?_) j⟩;rw [o];unfold wfB;rw [Gd (ρ1:=[a,ij 'k',ij (nD ns),ij (.dct (bk st)),ij 'o',ij (.lst (prL acc)),ij (.str z),ij (.int (qK st (qQ W z).1))]) (by generalize D.dct (bk st)=Y at i2 ⊢;generalize D.dct (wD W)=Z at i1 ⊢;simp [i1,qiC,i2])];have hi:yj ([a,ij 'k',ij (nD ns),ij (.dct (bk st)),ij 'o',ij (.lst (prL acc)),ij (.str z),ij (.int (qK st (qQ W z).1))]:Sl)[5]?=true:=rfl;generalize D.dct (bk st)=Y at i2 hi ⊢;generalize D.dct (wD W)=Z at i1 hi ⊢;generalize l:lD (qQ W z).2=U at i1 i;simp [i1,qiD,i,wE,ym,f,z2,Qy,h,yj]
theorem qgF (S:Sn seen W) (hr:1<=r) (A:ns.length=seen.length) (c:∀ y∈kW W,(qQ W y).1∈qp st):wU [sD seen,.int r,nD ns,.dct (bk st)]=.ok (.tup (prL (bl W r ns (LS seen) st)),[.non,.non,.non,.non]):=by
 have j:=S.w.le;have p:=S.s;have b:(kW W).length < 64:=by simp [kW]; lia
 have g:((kW W).all λy=>decide (y.length<=sizeLine))=true:=by rw [aQ];intro y f;exact Ad (qV (S.z y (S.w.sub y f)))
 have o:kw 'o'=.ok (.lst ((LS seen).map D.str)):=by unfold kw;simp only [UW];rw [Aa ⟨b,g⟩,qbS S]
 obtain ⟨n,d,e⟩:=qbT S hr A c (ij 'n') (LS seen) [] im im (λz h=>S.a z h) (by simp; lia);rw [cm] at e;have i:=S.e;refine qr.trans ?_;unfold xo;rw [show qt xn [sD seen,.int r,nD ns,.dct (bk st)]=[ij 'n',ij 'k',ij (nD ns),ij (.dct (bk st)),im,im,im,im] from rfl];refine (qy (ρ1:=[ij 'n',ij 'k',ij (nD ns),ij (.dct (bk st)),ij 'o',im,im,im]) (by simp [i])).trans ?_;refine (qy (ρ1:=[ij 'n',ij 'k',ij (nD ns),ij (.dct (bk st)),ij 'o',ij (.lst []),im,im]) 'g').trans ?_;refine (qy (ρ1:=[ij 'n',ij 'k',ij (nD ns),ij (.dct (bk st)),ij 'o',ij (.lst (prL (bl W r ns (LS seen) st))),n,d]) (by rw [kh,show jR (d1 kw (qc 4)) [ij 'n',ij 'k',ij (nD ns),ij (.dct (bk st)),ij 'o',ij (.lst []),im,im]=.ok ((LS seen).map D.str,[ij 'n',ij 'k',ij (nD ns),ij (.dct (bk st)),ij 'o',ij (.lst []),im,im]) by simp [o,jM],ku];exact e)).trans ?_;simp [yY]
def qla (d:D):Prop:=Pl d/\∀ xs,d=.tup xs->∀ x∈xs,Pl x
noncomputable def qbU (room:Int):D->Bool
 | .tup [a,b]=>qbq a&&wX 0 (room - 1) b
 | _=>ir
theorem UY (h:qla d) (room:Int):ya [d,.int room]=.ok (.bl (qbU room d),[.non,.non]):=by
 refine qr.trans ?_;have ht:=Wz h.1;cases d with
 | tup xs=>
  have hp:=h.2 xs rfl
  match xs,hp with
  | [],_=>simp [vn,qt,ht,Qh,neD,eqN,eqS,qbU]
  | [a],_=>simp [vn,qt,ht,Qh,neD,eqN,eqS,qbU]
  | [a,b],hp=>have h1:=uQ (hp a 'g');have h2:=jh (hp b 'g') 0 (room - 1);cases f:qbq a <;> simp [vn,qt,ht,Qh,neD,eqN,eqS,qbU,ixD,at0,at1,h1,h2,f,ym]
  | a::b::c::l,_=>
   have e:¬((l.length:Int)+1+1+1=2):=by lia
   simp [vn,qt,ht,Qh,neD,eqN,eqS,qbU,e]
 | _=>first | exact h.1.elim | simp [vn,qt,ht,Qh,qbU]
def OkW (room:Int) (l:List (Str×Int)):Prop:=∀ x∈l,qbq (.str x.1)=iu/\0<=x.2/\x.2 < room
theorem qgG (h:OkW room l):(prL l).all (qbU room)=true:=by
 rw [aQ];intro d hd;obtain ⟨x,hx,rfl⟩:=ah.mp hd;obtain ⟨h1,h2,g⟩:=h x hx;simp [qbU,h1,wX,h2]
 lia
theorem WE:∀ (a b:List Str),ud (eqN 7) (a.map D.str) (b.map D.str)=ij (decide (a.take (min a.length b.length)=b.take (min a.length b.length)))
 | [],b=>by simp [ud]
 | a::l,[]=>by simp [ud]
 | a::l,b::m=>by have j:=WE l m;simp only [aD,ud,j,eqN,eqS,ao,Nat.succ_eq_add_one,Nat.add_min_add_right,List.take_succ_cons];by_cases h:a=b <;> simp [h]
theorem XD (a b:List Str):eqD (.lst (a.map D.str)) (.lst (b.map D.str))=.ok (.bl (decide (a=b))):=by
 by_cases h:a.length=b.length;·have e:=WE a b;rw [h,Nat.min_self,eJ,<-h,eJ] at e;simp [eqD,eqN,h,e]
 ·have c:a≠b:=λz=>h (by rw [z]);simp [eqD,eqN,h,c]
noncomputable def UZ (l:List (Str×Int)):Bool:=decide (qp l=jY ((qp l).foldl xa []))
theorem WF (h:∀ d∈ds,qla d) (hl:ds.length<=50) (room:Int):(ds.all (qbU room)=ir->kL [.tup ds,.int room]=.ok (.bl ir,[.non,.non]))/\∀ l,ds=prL l->OkW room l->kL [.tup ds,.int room]=.ok (.bl (UZ l),[.non,.non]):=by
 have z:ds.length<=sizeLine:=qV 'b';have ht:=Wz (d:=.tup ds) trivial;have e1:=vJ (cap:=[1]) (fi:=jR (qc 0)) (ρ:=[ij (.tup ds),ij (.int room),im]) (ρ1:=[ij (.tup ds),ij (.int room),im]) (ds:=ds) (fe:=qo [.vl,.vl] ya (qb (qc 0) (qb (qc 1) qw))) (λd=>.bl (qbU room d)) (by simp [jM]) z (λd hd=>by have h1:=UY (h d hd) room;simp [h1]);have g:=wY (qbU room) ds;constructor;·intro c;refine qr.trans ?_;simp [yD,qt,ht,Qh,e1,g,c]
 ·rintro l rfl w;refine qr.trans ?_;have c:=qgG w;have i:=vJ (cap:=[]) (fi:=jR (qc 0)) (ρ:=[ij (.tup (prL l)),ij (.int room),im]) (ρ1:=[ij (.tup (prL l)),ij (.int room),im]) (ds:=prL l) (fe:=d2 ixD (qc 0) 'i') (λd=>match d with | .tup [a,b]=>a | d=>d) (by simp [jM]) z (λd hd=>by obtain ⟨x,hx,rfl⟩:=ah.mp hd;simp [ixD,at0]);have f2:(prL l).map (λd=>match d with | .tup [a,b]=>a | d=>d)=(qp l).map D.str:=by simp [prL,qp]
  rw [f2] at i;have j:(qp l).length < 64:=by
   simp [qp];simp [prL] at hl
   lia
  have m:=XD (qp l) (jY ((qp l).foldl xa []));simp [yD,qt,ht,Qh,e1,g,c,i,vQ,yn,uP,j,m,UZ]
noncomputable def Yb:List Str->Bool
 | x::y::l=>vd x y&&Yb (y::l)
 | _=>iu
theorem qkz (h:vd x y=iu):leS x y/\x≠y:=by
 unfold vd at h;have h:=Ae h;constructor;·exact List.le_of_lt h
 ·rintro rfl;exact List.lt_irrefl _ h
theorem qkA (h:leS x y) (n:x≠y):vd x y=true:=by
 cases e:vd x y with
 | true=>rfl
 | false=>exact absurd (JM h (yz.mp e)) n
theorem Yc:∀ (l:List Str),Yb l=iu->l.Pairwise (λx y=>leS x y/\x≠y)
 | [],_=>d9
 | [x],_=>dX _ _
 | x::y::l,h=>by
  have h:(vd x y&&Yb (y::l))=true:=h;rw [aS] at h;have j:=Yc (y::l) h.2;have b:=qkz h.1;refine bn.mpr ⟨λz c=>?_,j⟩;rcases ac.mp c with rfl | c;·exact b
  ·have a:=(bn.mp j).1 z c;refine ⟨gx b.1 a.1,λe=>?_⟩;subst e;exact b.2 (JM b.1 a.1)
theorem Yd:∀ (l:List Str),l.Pairwise (λx y=>leS x y/\x≠y)->Yb l=iu
 | [],_=>rfl
 | [x],_=>rfl
 | x::y::l,h=>by have h1:=bn.mp h;have b:=h1.1 y (ap ..);show (vd x y&&Yb (y::l))=iu;rw [qkA b.1 b.2,Yd (y::l) h1.2];rfl
theorem XE {l:List Str} (h:l.Pairwise (λx y=>leS x y/\x≠y)):l.Nodup:=h.imp λh=>h.2
theorem XF (L:List Str):decide (L=jY (L.foldl xa []))=Yb L:=by
 cases e:Yb L with
 | true=>
  have p:=Yc L e;have hn:=XE p;have f:L.foldl xa []=L:=by rw [yI L [] hn 'g']; simp
  rw [f];exact Ad (uu (qM L).symm (p.imp λh=>h.1) (ji L))
 | false=>refine Ac λz=>?_;have hn:(jY (L.foldl xa [])).Nodup:=(qM _).nodup_iff.mpr (uR L [] cy).1;have c:=ji (L.foldl xa []);rw [<-z] at hn c;have p:L.Pairwise (λx y=>leS x y/\x≠y):=c.and hn;rw [Yd L p] at e;cases e
theorem ZU (h:UZ l=iu):(qp l).Nodup:=by unfold UZ at h;rw [XF] at h;exact XE (Yc _ h)
theorem WG (l:List (Str×Int)) (x:Str):Zq (bk l) (.inr x)=decide (x∈qp l):=by
 unfold Zq bk qp;rw [List.any_map]
 induction l with
 | nil=>simp
 | cons a l j=>
  simp only [cI,aD,ac,j];by_cases h:a.1=x;·simp [h]
  ·simp [h,bo h]
theorem qeH (w:OkW room l) (h:x∈qp l):0<=qK l x/\qK l x < room:=(w _ (wZ h).1).2
theorem Qo {b:Bool} (h:kL [d,.int room]=.ok (.bl b,[.non,.non])):we [d,.int room]=if b=iu then .ok (.non,[.non,.non]) else .exc "NoWorths" [ij .non,ij .non]:=by refine qr.trans ?_;cases b <;> simp [yo,qt,h,kg]
theorem qbV (t room:Int):zK [.int t,.int room]=.ok (.int (if room<=t then t - room else t),[.non,.non]):=by refine qr.trans ?_;by_cases h:room<=t <;> simp [Xb,qt,geD,ym,h]
theorem qlI {a b:Int} (g:0<=a/\a < r) (d:0<=b/\b < r):(if r<=a+b then a+b - r else a+b)=(a+b) % r:=by
 split;·rw [<-Int.sub_emod_right,be 'b' 'b']
 ·rw [be 'b' 'b']
theorem Ye (w:jw ws) (hl:KW p q) (hr:wX 1 99 'k'=iu) (o:OkW r l) (s:UZ l=iu) (h:kL [.tup (prL l),.int r]=.ok (.bl iu,[.non,.non])):kM [Wd ws,Ld p q,.int r,.tup (prL l)]=if (LS 'h').all (λx=>decide (x∈qp l))=iu then .ok (.tup (qjA l 'h' r),[.non,.non,.non,.non]) else .exc "NoWorths" nn4:=by
 refine qr.trans ?_;have h1:=Xr w hl;have h2:=xx (d:=.int r) trivial;rw [hr] at h2;have f:=Qo h;have c:=qgs (ZU s);have hn:(qv ws p q).length<=6:=by simp [qv]; exact w.2.1
 have m:=xw (l:=qv ws p q) (by omega);have n:(LS 'h').length<=2000:=by unfold LS;rw [(qM _).length_eq];have:=VE ((qv ws p q).map (·.1)++(qv ws p q).map (·.2)) [];simp only [af,ay,aX] at this;omega
 have e1:=vJ (cap:=[5]) (fi:=jR (qo [.vl] jP (qb (qc 4) qw))) (ρ:=[ij (Wd ws),ij (Ld p q),ij 'k',ij (.tup (prL l)),ij (.lst (jx 'h')),ij (.dct (bk l))]) (ρ1:=[ij (Wd ws),ij (Ld p q),ij 'k',ij (.tup (prL l)),ij (.lst (jx 'h')),ij (.dct (bk l))]) (ds:=(LS 'h').map D.str)
  (fe:=d2 inA (qc 0) (qc 1)) (λd=>match d with | .str x=>.bl (decide (x∈qp l)) | d=>d) (by simp [m,jM]) (by rw [ay]; exact qV n) (λd hd=>by obtain ⟨x,hx,rfl⟩:=ah.mp hd;simp [inA,zd,WG])
 rw [bg] at e1;have g:=wY (λx=>decide (x∈qp l)) (LS 'h');have e:jk [] 1 [5] (jR (qo [.vl] jP (qb (qc 4) qw))) (gNm 0) ftT (d2 inA (qc 0) (qc 1)) [ij (Wd ws),ij (Ld p q),ij 'k',ij (.tup (prL l)),ij (.lst (jx 'h')),ij (.dct (bk l))]=.ok (.lst ((LS 'h').map λx=>.bl (decide (x∈qp l))),[ij (Wd ws),ij (Ld p q),ij 'k',ij (.tup (prL l)),ij (.lst (jx 'h')),ij (.dct (bk l))]):=e1;cases hA:(LS 'h').all (λx=>decide (x∈qp l)) with
 | false=>rw [hA] at g;simp [xQ,qt,h1,h2,f,c,e,g,kg]
 | true=>
  rw [hA] at g;have y:∀ x∈qv ws p q,x.1∈qp l/\x.2∈qp l:=λx hx=>by rw [aQ] at hA;exact ⟨Ae (hA x.1 (vY.mpr ⟨x,hx,.inl rfl⟩)),Ae (hA x.2 (vY.mpr ⟨x,hx,.inr rfl⟩))⟩
  have i:=vJ (cap:=[2,5]) (fi:=jR (qc 4)) (ρ:=[ij (Wd ws),ij (Ld p q),ij 'k',ij (.tup (prL l)),ij (.lst (jx 'h')),ij (.dct (bk l))]) (ρ1:=[ij (Wd ws),ij (Ld p q),ij 'k',ij (.tup (prL l)),ij (.lst (jx 'h')),ij (.dct (bk l))]) (ds:=jx 'h')
   (fe:=qo [.vl,.vl] zK (qb (d2 jZ (d2 ixD (qc 2) (d2 ixD (qc 0) 'i')) (d2 ixD (qc 2) (d2 ixD (qc 0) 'f'))) (qb (qc 1) qw))) (λd=>match d with | .tup [.str a,.str b]=>.int ((qK l a+qK l b) % r) | d=>d) (by simp [jM]) (by simp [jx]; exact qV (by omega)) (λd hd=>by
    obtain ⟨x,hx,rfl⟩:=ah.mp hd;obtain ⟨i1,i2⟩:=y x hx;have k:=KA i1;have j:=KA i2;have wr:=qlI (qeH o i1) (qeH o i2);have wi:=qbV (qK l x.1+qK l x.2) r;rw [wr] at wi;have k0:ixD (.tup [.str x.1,.str x.2]) (.int 0)=.ok (.str x.1):=by simp [ixD,at0]
    have k1:ixD (.tup [.str x.1,.str x.2]) (.int 1)=.ok (.str x.2):=by simp [ixD,at1]
    simp [k0,k1,k,j,wi])
  have f2:(jx 'h').map (λd=>match d with | .tup [.str a,.str b]=>.int ((qK l a+qK l b) % r) | d=>d)=qjA l 'h' r:=by simp [jx,qjA]
  rw [f2] at i;simp [xQ,qt,h1,h2,f,c,e,g,i,yY]
noncomputable def hd0 (l:List Int):Int:=(l.head?).getD 0
theorem qiP (S:Sn seen W) (hr:1<=r) (hn:kA seen.length r ns) (d:BO W seen r ns=im):∀ x∈RT W,ch W seen r ns x≠[]:=by
 obtain ⟨k,c2⟩:=qkx S hr hn;have J:=c2.mp d;have b:HM W seen r ns=((PV (ch W seen r ns) (RT W)).length:Int):=by unfold HM;rw [d];have:=qbR (ch W seen r ns) (RT W) 1;rw [fZ] at this;exact this
 have hp:0 < (PV (ch W seen r ns) (RT W)).length:=by omega
 intro x hx z;obtain ⟨l,hl⟩:=List.exists_mem_of_length_pos hp;obtain ⟨k1,k2⟩:=(yu _).mp hl;have:=k2 _ (wZ (by rw [k1]; exact hx)).1;rw [show ch W seen r ns (x,qK l x).1=[] from z] at this;cases this
theorem qkB:(RO W seen r ns).map rd=(RT W).map λx=>rd (x,ch W seen r ns x):=by unfold RO;rw [bg];rfl
theorem qiQ (S:Sn seen W):(RT W).length<=100:=by
 have l:=eG (λx=>decide ((qQ W x).1=x)) (jY (kW W));have h6:(jY (kW W)).length=(LS seen).length:=by rw [qbS S]
 have:=S.s;unfold RT
 lia
theorem qbW {c:Str->List Int}:∀ (R:List Str) (x y:Option D),(∀ x∈R,c x≠[])->∃ n s,jX (jG 2 (qA (gNm 0) (qA (gNm 1) jF))) ftT (vM (qb (qc 0) (qb (d2 ixD (qc 1) 'i') qw))) (R.map λx=>rd (x,c x)) [x,y]=.ok (prL (R.map λx=>(x,hd0 (c x))),[n,s])
 | [],x,y,_=>⟨x,y,rfl⟩
 | z::R,x,y,h=>by
  obtain ⟨n,s,j⟩:=qbW R (ij (.str z)) (ij (iD (c z))) λw b=>h w (ae _ b);have i1:ixD (iD (c z)) (.int 0)=.ok (.int (hd0 (c z))):=by
   have:=h z (ap ..);generalize c z=e at this ⊢;cases e with
   | nil=>exact absurd rfl this
   | cons v e=>simp [ixD,at0,hd0]
  have a:2<=sizeLine:=qV 'b';refine ⟨n,s,?_⟩;show jX _ _ _ (.tup [.str z,iD (c z)]::_) _=.ok (.tup [.str z,.int (hd0 (c z))]::prL _,_);generalize iD (c z)=I at *;simp [jX,gf,jG,qA,jF,i1,j,a]
theorem qbX (w:jw ws) (hl:KW p q) (a:1<=r) (h9:r<=99) (hn:kA ws.length r ns) (S:Sn 'h' W) (d:BO W 'h' r ns=im):∃ l∈slv r 'h' ns,wV [Wd ws,Ld p q,.int r,nD ns]=.ok (.tup (prL l),[.non,.non,.non,.non]):=by
 have E:(qv ws p q).length=ws.length:=by simp [qv]
 have F:kA (qv ws p q).length r ns:=by rw [E]; exact hn
 have e1:=qeC w hl a h9 hn S;rw [d] at e1;have o:=KG w hl;have g:=UX S F.1 a h9;have h:=qiP S a F d;generalize qv ws p q=seen at *;rw [qkB] at g;have k:qp ((RT W).map λx=>(x,hd0 (ch W seen r ns x)))=RT W:=xA _ _;obtain ⟨t,s,b⟩:=qbW (RT W) im im h;have hd:=XB (l:=(RT W).map λx=>(x,hd0 (ch W seen r ns x))) (by rw [k]; exact qgE S);have n:((RT W).map λx=>(x,hd0 (ch W seen r ns x)))∈PV (ch W seen r ns) (RT W):=(yu _).mpr ⟨k,λe j=>by
  obtain ⟨x,hx,rfl⟩:=ah.mp j;have:=h x hx;show hd0 (ch W seen r ns x)∈ch W seen r ns x;generalize ch W seen r ns x=c at this ⊢;cases c with
  | nil=>exact absurd rfl this
  | cons y c=>exact ap ..⟩
 have f:=qgF S a F.1 (st:=(RT W).map λx=>(x,hd0 (ch W seen r ns x))) λy i=>by rw [k];obtain ⟨r1,r2⟩:=Qn S i;exact Jp.mpr ⟨r1,by rw [r2]⟩
 have z:((RT W).map λx=>rd (x,ch W seen r ns x)).length<=sizeLine:=by have:=qiQ S;rw [ay];exact qV 'b'
 refine ⟨_,qky S a F d n,?_⟩;refine qr.trans ?_;generalize (RT W).map (λx=>rd (x,ch W seen r ns x))=R at g b z;generalize prL (bl W r ns (LS seen) ((RT W).map λx=>(x,hd0 (ch W seen r ns x))))=V at f ⊢;generalize D.dct (bk ((RT W).map λx=>(x,hd0 (ch W seen r ns x))))=U at hd f;generalize prL ((RT W).map λx=>(x,hd0 (ch W seen r ns x)))=P at hd b;generalize nD ns=Y at *;generalize sD seen=Q at *;generalize Wd ws=W' at *;generalize Ld p q=L' at *;have m:=KC (own:=[]) (cap:=[]) (nt:=2) (fi:=jR (qo [.vl,.vl,.vl] yc (qb (qc 4) (qb (qc 2) (qb (qc 3) qw))))) (ρ:=[ij W',ij L',ij 'k',ij Y,ij Q,im]) (ρ1:=[ij W',ij L',ij 'k',ij Y,ij Q,im]) (by simp [g,jM]) z b;simp [zM,qt,e1,o,m,ke,hd,f]
theorem Qp:∀ (a b:List Int),ud (eqN 7) (a.map D.int) (b.map D.int)=ij (decide (a.take (min a.length b.length)=b.take (min a.length b.length)))
 | [],b=>by simp [ud]
 | a::l,[]=>by simp [ud]
 | a::l,b::m=>by have j:=Qp l m;simp only [aD,ud,j,eqN,eqS,ao,Nat.succ_eq_add_one,Nat.add_min_add_right,List.take_succ_cons];by_cases h:a=b <;> simp [h]
theorem XG (a b:List Int):eqD (nD a) (nD b)=.ok (.bl (decide (a=b))):=by
 by_cases h:a.length=b.length;·have e:=Qp a b;rw [h,Nat.min_self,eJ,<-h,eJ] at e;simp [eqD,eqN,h,e]
 ·have c:a≠b:=λz=>h (by rw [z]);simp [eqD,eqN,h,c,Qp]
variable {ca:Str->Addr}
section
theorem qgH (T:Told ws p q r ns) {ks:List Int} (h:kM [Wd ws,Ld p q,.int r,d]=.ok (nD ks,[.non,.non,.non,.non])):jD ca [Wd ws,Ld p q,.int r,nD ns,d]=.ok (.bl (decide (ks=ns)),[.non,.non,.non,.non,.non]):=by have h1:=UV T.w T.l T.r0 (by have:=T.r9; lia) T.n;have h2:=XG ks ns;refine qr.trans ?_;generalize sD 'h'=Z at *;generalize Wd ws=W at *;generalize Ld p q=L at *;generalize nD ks=K at *;generalize nD ns=N at *;simp [uK,WP,qt,h1,h,h2]
end
def qeI (ca:Str->Addr):Prop:=∀ x∈CS,∀ y∈CS,ca x=ca y->x=y
theorem jy (h:qeI ca) (hx:x∈CS) (D:y∈CS) {b:Bool} (e:decide (y=x)=b):Zm ca CS x (ca y)=ij b:=by
 unfold Zm;rw [Aa (ah.mpr ⟨y,D,rfl⟩),<-e];by_cases z:y=x;·simp [z]
 ·have:ca y≠ca x:=λw=>z (h y D x hx w);simp [z,this]
theorem Yg (D:y∈CS):qh2 ca CS (ca y)=ij true:=by unfold qh2;rw [Aa (ah.mpr ⟨y,D,rfl⟩)]
theorem qiR (D:y∈CS):Gc ca CS y=ij (ca y):=by unfold Gc;rw [Aa D]
theorem ZV (h:qeI ca):yf ca [.xcp (ca "NoRoom")]=.ok (.tup [.str "refused",.int 3],[.non]):=by
 refine qr.trans ?_;have m:∀ x,x∈CS->decide ((aL "NoRoom")=x)=decide ((aL "NoRoom")=x):=λ_ _=>rfl;have D:(aL "NoRoom")∈CS:=by decide +kernel
 have d:=jy h (x := "NoWords") (y := "NoRoom") (b:=ir) 'a' D 'a';have g:=jy h (x := "NoLook") (y := "NoRoom") (b:=ir) 'a' D 'a';have q:=jy h (x := "NoNumbers") (y := "NoRoom") (b:=ir) 'a' D 'a';have p:=jy h (x := "NoRoom") (y := "NoRoom") (b:=iu) 'a' D 'a';have o:=jy h (x := "NoWord") (y := "NoRoom") (b:=ir) 'a' D 'a';have l:=jy h (x := "NoWorths") (y := "NoRoom") (b:=ir) 'a' D 'a';have k:=jy h (x := "Never") (y := "NoRoom") (b:=ir) 'a' D 'a';have j:=jy h (x := "Full") (y := "NoRoom") (b:=ir) 'a' D 'a';have B:=jy h (x := "Known") (y := "NoRoom") (b:=ir) 'a' D 'a';have T:=Yg (ca:=ca) D;have c:4<=sizeLine:=qV (by omega);have a:8<=sizeLine:=qV (by omega);have z:8 < sizeLine:=aF 'd' big;have z2:2<=sizeLine:=qV (by omega);simp [xp,qt,JJ,d,g,q,p,o,l,k,j,B,T,c,a,z,z2,yj,qel,Qy,QW,vC,neD,eqN,eqS,QX,Zl,cJ,fy]
abbrev qiS:qU:=(kP (JF 2 qel (wo (qb (qc 3) (qb (qc 4) qw)))))
theorem WH (a b:Option D):∀ (l:List (Str×Str)) (m:List Str) (x y:Option D),m.length+2 * l.length<=1000->∃ n s,kU (jG 2 (qA (gNm 3) (qA (gNm 4) jF))) qiS (jx l) [a,b,ij (.lst (m.map D.str)),x,y]=.ok (.nx,[a,b,ij (.lst ((m++l.flatMap λp=>[p.1,p.2]).map D.str)),n,s])
 | [],m,x,y,_=>⟨x,y,by simp [jx,kU]⟩
 | p::l,m,x,y,h=>by rw [ao] at h;obtain ⟨n,s,e⟩:=WH a b l (m++[p.1,p.2]) (ij (.str p.1)) (ij (.str p.2)) (by rw [af]; simp; omega);refine ⟨n,s,?_⟩;have z:2<=sizeLine:=qV (by omega);have c:m.length+2<=sizeLine:=qV (by omega);rw [show (m++(p::l).flatMap λp=>[p.1,p.2])=(m++[p.1,p.2])++l.flatMap λp=>[p.1,p.2] by simp,<-e];simp [jx,kU,jG,qA,jF,qiS,yj,qel,z,c]
theorem Yh (w:jw ws) (hl:KW p q):ki [.tup (ws.map D.str),.tup [.int p,.int q]]=.ok (.lst ((LS 'h').map D.str),[.non,.non]):=by
 refine qr.trans ?_;have h1:=vZ w hl;have hn:(qv ws p q).length<=6:=by simp [qv]; exact w.2.1
 obtain ⟨n,s,e⟩:=WH (ij (.tup (ws.map D.str))) (ij (.tup [.int p,.int q])) 'h' [] im im (by simp; omega);have h:((qv ws p q).flatMap λp=>[p.1,p.2]).length < 64:=by rw [Xu];omega
 have c:jY (((qv ws p q).flatMap λp=>[p.1,p.2]).foldl xa [])=LS 'h':=qbt λx=>by
  simp only [fO,aj,ah,ac,aN,or_false];constructor
  ·rintro ⟨p,hp,rfl | rfl⟩;·exact .inl ⟨p,hp,rfl⟩
   ·exact .inr ⟨p,hp,rfl⟩
  ·rintro (⟨p,hp,rfl⟩ | ⟨p,hp,rfl⟩);·exact ⟨p,hp,.inl rfl⟩
   ·exact ⟨p,hp,.inr rfl⟩
 simp only [bU,cm] at e;simp [qbf,qt,h1,jM];rw [e];simp only [ku,qdo,qay,List.getElem?_cons_succ,List.getElem?_cons_zero,vQ,yn,uP,Aa h,c];simp
abbrev En:=Pr×Int
theorem Qq (l m:Ln):qp (l++m)=qp l++qp m:=by simp [qp]
theorem XH {l m:Ln} (h:x∈qp l):qK (l++m) x=qK l x:=by
 obtain ⟨y,D,rfl⟩:=ah.mp h;unfold qK;rw [List.find?_append];cases q:l.find? λz=>decide (z.1=y.1) with
 | none=>exact absurd (cw.mp q y D) 'g'
 | some z=>rfl
theorem KN {l m:Ln} (h:x∉qp l):qK (l++m) x=qK m x:=by
 unfold qK;rw [List.find?_append];cases q:l.find? λz=>decide (z.1=x) with
 | none=>rfl
 | some z=>exact absurd (ah.mpr ⟨z,ba q,by simpa using dh q⟩) h
noncomputable def st1 (r:Int) (l:Ln) (x y:Str) (n:Int):Ln:=if x∈qp l/\y∉qp l then l++[(y,(n - qK l x) % r)] else l
noncomputable def stp (r:Int) (l:Ln) (e:En):Option Ln:=
 if e.1.1∈qp (st1 r (st1 r l e.1.1 e.1.2 e.2) e.1.2 e.1.1 e.2)/\(qK (st1 r (st1 r l e.1.1 e.1.2 e.2) e.1.2 e.1.1 e.2) e.1.1+qK (st1 r (st1 r l e.1.1 e.1.2 e.2) e.1.2 e.1.1 e.2) e.1.2) % r≠e.2 then im else ij (st1 r (st1 r l e.1.1 e.1.2 e.2) e.1.2 e.1.1 e.2)
noncomputable def rnd (r:Int):List En->Ln->Option Ln
 | [],l=>ij l
 | e::es,l=>(stp r l e).bind (rnd r es)
noncomputable def Jq (r:Int) (es:List En):Nat->Ln->Option Ln
 | 0,l=>ij l
 | n+1,l=>(rnd r es l).bind (Jq r es n)
noncomputable def gd (l:Ln) (e:En):Bool:=decide (e.1.1∈qp l/\e.1.2∈qp l)
def Pre (l m:Ln):Prop:=∃ k,m=l++k
theorem Pre.rfl {l:Ln}:Pre l l:=⟨[],by simp⟩
theorem Pre.tr {a b c:Ln} (h:Pre a b) (k:Pre b c):Pre a c:=by obtain ⟨x,rfl⟩:=h;obtain ⟨y,rfl⟩:=k;exact ⟨x++y,by simp⟩
theorem Pre.key {a b:Ln} (h:Pre a b) (hx:x∈qp a):x∈qp b:=by obtain ⟨k,rfl⟩:=h;rw [Qq];exact bK _ hx
theorem Pre.eq {a b:Ln} (h:Pre a b) (k:Pre b a):a=b:=by obtain ⟨x,rfl⟩:=h;obtain ⟨y,D⟩:=k;have:=congrArg fB D;simp at this;rw [this.1];simp
theorem uU (r:Int) (l:Ln) (x y:Str) (n:Int):Pre l (st1 r l x y n):=by
 unfold st1;split;·exact ⟨_,rfl⟩
 ·exact .rfl
theorem Jr {l:Ln} {n:Int} (h:x∈qp l):y∈qp (st1 r l x y n):=by
 unfold st1;by_cases q:y∈qp l;·rw [Ab λz=>z.2 q]; exact q
 ·rw [Aa ⟨h,q⟩,Qq]; simp [qp]
theorem wj {l:Ln} {n:Int} (h:x∉qp l):st1 r l x y n=l:=Ab λz=>h z.1
theorem qbY {l:Ln} {n:Int} (h:y∈qp l):st1 r l x y n=l:=Ab λz=>z.2 h
variable {e:En}
theorem qbZ {l f:Ln} (h:stp r l e=ij f):Pre l f/\(e.1.1∈qp f↔e.1.2∈qp f)/\(e.1.1∈qp f->(qK f e.1.1+qK f e.1.2) % r=e.2)/\(f=l\/gd l e=ir/\gd f e=iu):=by
 unfold stp at h;split at h;·cases h
 ·rename_i hq;have h:st1 r (st1 r l e.1.1 e.1.2 e.2) e.1.2 e.1.1 e.2=f:=aI.inj h;rw [h] at hq;have hp:Pre l f:=by rw [<-h]; exact (uU ..).tr (uU ..)
  refine ⟨hp,?_,λz=>Decidable.byContradiction λy=>hq ⟨z,y⟩,?_⟩
  ·by_cases a:e.1.1∈qp l
   ·have b:e.1.2∈qp f:=by rw [<-h]; exact (uU ..).key (Jr a)
    exact ⟨λ_=>b,λ_=>hp.key a⟩
   ·by_cases b:e.1.2∈qp l
    ·have c:e.1.1∈qp f:=by rw [<-h,wj a]; exact Jr b
     exact ⟨λ_=>hp.key b,λ_=>c⟩
    ·have:f=l:=by rw [<-h,wj a,wj b]
     rw [this];exact ⟨λz=>absurd z a,λz=>absurd z b⟩
  ·by_cases a:e.1.1∈qp l
   ·by_cases b:e.1.2∈qp l;·exact .inl (by rw [<-h,qbY b,qbY a])
    ·exact .inr ⟨Ac λz=>b z.2,Ad ⟨hp.key a,by rw [<-h]; exact (uU ..).key (Jr a)⟩⟩
   ·by_cases b:e.1.2∈qp l;·exact .inr ⟨Ac λz=>a z.1,Ad ⟨by rw [<-h,wj a]; exact Jr b,hp.key b⟩⟩
    ·exact .inl (by rw [<-h,wj a,wj b])
theorem qb0 {l m:Ln} (h:Pre l m) (q:gd l e=iu):gd m e=true:=by have:=Ae q;exact Ad ⟨h.key this.1,h.key this.2⟩
theorem KO:∀ {es:List En} {l f:Ln},rnd r es l=ij f->Pre l f/\(f=l\/∃ e∈es,gd l e=ir/\gd f e=iu)
 | [],l,f,h=>by cases h; exact ⟨.rfl,.inl rfl⟩
 | e::es,l,f,h=>by
  obtain ⟨m,h1,h2⟩:=aU.mp h;obtain ⟨p1,_,_,c⟩:=qbZ h1;obtain ⟨p2,d⟩:=KO h2;refine ⟨p1.tr p2,?_⟩;rcases c with rfl | ⟨c1,c2⟩
  ·rcases d with rfl | ⟨e',he,d1,d2⟩
   ·exact .inl rfl
   ·exact .inr ⟨e',ae _ he,d1,d2⟩
  ·exact .inr ⟨e,ap ..,c1,qb0 p2 c2⟩
theorem qeJ (p q:α->Bool):∀ l:List α,(∀ x∈l,q x=iu->p x=iu)->l.countP q<=l.countP p
 | [],_=>by simp
 | x::l,h=>by
  have j:=qeJ p q l λy D=>h y (ae _ D);have hx:=h x (ap ..);rw [cJ,cJ];cases a:q x;·simp; lia
  ·rw [hx a]; simp; lia
theorem qeK (p q:α->Bool):∀ l:List α,(∀ x∈l,q x=iu->p x=iu)->(∃ x∈l,p x=iu/\q x=ir)->l.countP q < l.countP p
 | [],_,⟨x,hx,_⟩=>by cases hx
 | x::l,h,⟨y,D,h1,h2⟩=>by
  have hx:=h x (ap ..);rw [cJ,cJ];rcases ac.mp D with rfl | D
  ·have:=qeJ p q l λy D=>h y (ae _ D);rw [h1,h2]; simp; lia
  ·have j:=qeK p q l (λy D=>h y (ae _ D)) ⟨y,D,h1,h2⟩;cases a:q x;·simp; lia
   ·rw [hx a]; simp; lia
variable {es:List En} {l':Ln}
theorem XI {l:Ln} (h:rnd r es l=ij l):∀ n,Jq r es n l=ij l'->l'=l
 | 0,q=>by cases q; rfl
 | n+1,q=>by unfold Jq at q;rw [h] at q;exact XI h n q
theorem XJ:∀ (k:Nat) {l l':Ln},es.countP (λe=>!gd l e)<=k->Jq r es (k+1) l=ij l'->rnd r es l'=ij l'
 | k,l,l',hk,h=>by
  obtain ⟨m,h1,h2⟩:=aU.mp h;obtain ⟨p1,c⟩:=KO h1;rcases c with rfl | ⟨e,he,c1,c2⟩
  ·have:=XI h1 k h2;rw [this];exact h1
  ·have t:=qeK (λe=>!gd l e) (λe=>!gd m e) es (λx _ q=>by
    cases a:gd l x;·rfl
    ·rw [qb0 p1 a] at q; exact q) ⟨e,he,by simp [c1],by simp [c2]⟩
   match k,hk,h2 with
   | 0,hk,_=>lia
   | k+1,hk,h2=>exact XJ k 'b' h2
theorem qb1:∀ {es:List En} {l:Ln},rnd r es l=ij l->∀ e∈es,stp r l e=ij l
 | [],_,_,e,i=>by cases i
 | x::es,l,h,e,i=>by
  obtain ⟨m,h1,h2⟩:=aU.mp h;have p1:=(qbZ h1).1;have p2:=(KO h2).1;have:=p1.eq p2;subst this;rcases ac.mp i with rfl | i;·exact h1
  ·exact qb1 h2 e i
def Cls (r:Int) (es:List En) (l:Ln):Prop:=∀ e∈es,(e.1.1∈qp l↔e.1.2∈qp l)/\(e.1.1∈qp l->(qK l e.1.1+qK l e.1.2) % r=e.2)
theorem qd0 {l:Ln} (h:Jq r es (es.length+1) l=ij l'):Cls r es l':=λe i=>by obtain ⟨_,a,b,_⟩:=qbZ (qb1 (XJ es.length List.countP_le_length h) e i);exact ⟨a,b⟩
theorem XM:∀ (n:Nat) {l l':Ln},Jq r es n l=ij l'->Pre l l'
 | 0,l,l',h=>by cases h; exact .rfl
 | n+1,l,l',h=>by obtain ⟨m,h1,h2⟩:=aU.mp h;exact (KO h1).1.tr (XM n h2)
def Agr (r:Int) (v:Str->Int) (l:Ln):Prop:=∀ x∈qp l,r ∣ qK l x - v x
theorem qb2 {l:Ln} {n:Int} (h:Agr r v l) (i:r ∣ v x+v y - n):Agr r v (st1 r l x y n):=by
 unfold st1;split
 ·rename_i d;intro z c;rw [Qq] at c;by_cases a:z∈qp l;·rw [XH a]; exact h z a
  ·rw [KN a];have c:z=y:=by
    rcases aj.mp c with b | b;·exact absurd b a
    ·simpa [qp] using b
   subst c;have e:qK [(z,(n - qK l x) % r)] z=(n - qK l x) % r:=by simp [qK]
   rw [e];obtain ⟨k,h1⟩:=h x d.1;obtain ⟨g,h2⟩:=i;have f:=Int.mul_ediv_add_emod (n - qK l x) r;refine ⟨-((n - qK l x) / r) - k - g,?_⟩;rw [fG,fG,Int.mul_neg]
   lia
 ·exact h
theorem qgI (hr:1<=r) {l:Ln} (h:Agr r v l) (i:r ∣ v e.1.1+v e.1.2 - e.2) (e0:0<=e.2) (e1:e.2 < r):∃ m,stp r l e=ij m/\Agr r v m:=by
 have h2:Agr r v (st1 r (st1 r l e.1.1 e.1.2 e.2) e.1.2 e.1.1 e.2):=qb2 (qb2 h i) (by rw [Int.add_comm (v e.1.2)]; exact i);refine ⟨_,Ab λz=>z.2 ?_,h2⟩;have k2:e.1.2∈qp (st1 r (st1 r l e.1.1 e.1.2 e.2) e.1.2 e.1.1 e.2):=by
  by_cases a:e.1.1∈qp l;·exact (uU ..).key (Jr a)
  ·have z:=z.1;rw [wj a] at z ⊢;by_cases b:e.1.2∈qp l;·exact (uU ..).key b
   ·rw [wj b] at z; exact absurd z a
 have q:=h2 _ z.1;have d:=h2 _ k2;generalize qK (st1 r (st1 r l e.1.1 e.1.2 e.2) e.1.2 e.1.1 e.2) e.1.1=a at *;generalize qK (st1 r (st1 r l e.1.1 e.1.2 e.2) e.1.2 e.1.1 e.2) e.1.2=b at *;have:r ∣ a+b - e.2:=by have:=d4 (d4 q d) i;rw [show a - v e.1.1+(b - v e.1.2)+(v e.1.1+v e.1.2 - e.2)=a+b - e.2 by lia] at this;exact this
 have m:=xW.mpr this;rw [m,be e0 e1]
theorem qb3 (hr:1<=r):∀ {es:List En} {l:Ln},(∀ e∈es,(r ∣ v e.1.1+v e.1.2 - e.2)/\0<=e.2/\e.2 < r)->Agr r v l->∃ m,rnd r es l=ij m/\Agr r v m
 | [],l,_,h=>⟨l,rfl,h⟩
 | e::es,l,he,h=>by obtain ⟨a,b,c⟩:=he e (ap ..);obtain ⟨m,e1,h1⟩:=qgI hr h a b c;obtain ⟨B,i,h2⟩:=qb3 hr (λx hx=>he x (ae _ hx)) h1;exact ⟨B,by unfold rnd; rw [e1]; exact i,h2⟩
theorem XN (hr:1<=r) (i:∀ e∈es,(r ∣ v e.1.1+v e.1.2 - e.2)/\0<=e.2/\e.2 < r):∀ (n:Nat) {l:Ln},Agr r v l->∃ m,Jq r es n l=ij m
 | 0,l,_=>⟨l,rfl⟩
 | n+1,l,h=>by obtain ⟨m,e1,h1⟩:=qb3 hr i h;obtain ⟨B,a⟩:=XN hr i n h1;exact ⟨B,by unfold Jq; rw [e1]; exact a⟩
theorem qgJ (l:Ln) (x:Str):inA (.str x) (.dct (bk l))=.ok (.bl (decide (x∈qp l))):=by unfold inA;simp only [zd];rw [WG]
theorem qb4 (l:Ln) (x:Str):ui (.str x) (.dct (bk l))=.ok (.bl (!decide (x∈qp l))):=by unfold ui;simp only [zd];rw [WG]
theorem qb5 {l:Ln} {v:Int} (h:x∉qp l):zI (bk l) (.inr x) (.int v)=bk (l++[(x,v)]):=by have k:=WG l x;rw [Ac h] at k;unfold zI;unfold Zq at k;rw [k];simp [bk]
abbrev zB1:qU:=(sIf (Ze (qF (d2 inA (qc 6) (qc 3))) (qF (d2 ui (qc 7) (qc 3)))) (yA 3 (d2 wE (d2 yv (qc 5) (d2O 3 ixD (qc 6))) (qc 1)) (qc 7)) qO)
abbrev zB2:qU:=(sIf (Ze (qF (d2 inA (qc 7) (qc 3))) (qF (d2 ui (qc 6) (qc 3)))) (yA 3 (d2 wE (d2 yv (qc 5) (d2O 3 ixD (qc 7))) (qc 1)) (qc 6)) qO)
abbrev zB3:qU:=(sIf (Ze (qF (d2 inA (qc 6) (qc 3))) (qF (d2 neD (d2 wE (d2 jZ (d2O 3 ixD (qc 6)) (d2O 3 ixD (qc 7))) (qc 1)) (qc 5)))) (jf (dC .non)) qO)
abbrev zB:qU:=(qG zB1 (qG zB2 zB3))
theorem qeL {a:Int} (hr:1<=r) (h9:r<=99):wE (.int a) 'k'=.ok (.int (a % r)):=by
 have d:qgS a r:=⟨by lia,by lia⟩
 have h:0 < r:=by lia
 simp [wE,ym,d,h]
variable {b a:Option D}
section
variable (hr:1<=r) (h9:r<=99) {c:Option D} {l:Ln} {n:Int}
include hr h9
theorem qiT (e:l.length < 1000):zB1 [a,ij 'k',b,ij (.dct (bk l)),c,ij (.int n),ij (.str x),ij (.str y)]=.ok (.nx,[a,ij 'k',b,ij (.dct (bk (st1 r l x y n))),c,ij (.int n),ij (.str x),ij (.str y)]):=by
 have s:(bk l).length < sizeLine:=by
  have:(bk l).length=l.length:=by simp [bk]
  rw [this];exact aF 'b' big
 have i1:=qgJ l x;have i2:=qb4 l y;unfold st1;by_cases q:x∈qp l
 ·have hi:=KA q;rw [Ad q] at i1;by_cases d:y∈qp l;·rw [Ad d] at i2;rw [Ab λz=>z.2 d];generalize bk l=B at *;simp [i1,i2]
  ·rw [Ac d] at i2;rw [Aa ⟨q,d⟩,<-qb5 d];have m:=qeL (a:=n - qK l x) hr h9;have h:yv (.int n) (.int (qK l x))=.ok (.int (n - qK l x)):=rfl;generalize bk l=B at *;simp [i1,i2,yA,d2O,hi,h,m,zd,s]
 ·rw [Ac q] at i1;rw [Ab λz=>q z.1];generalize bk l=B at *;simp [i1]
theorem qiU (e:l.length < 1000):zB2 [a,ij 'k',b,ij (.dct (bk l)),c,ij (.int n),ij (.str x),ij (.str y)]=.ok (.nx,[a,ij 'k',b,ij (.dct (bk (st1 r l y x n))),c,ij (.int n),ij (.str x),ij (.str y)]):=by
 have s:(bk l).length < sizeLine:=by
  have:(bk l).length=l.length:=by simp [bk]
  rw [this];exact aF 'b' big
 have i1:=qgJ l y;have i2:=qb4 l x;unfold st1;by_cases q:y∈qp l
 ·have hi:=KA q;rw [Ad q] at i1;by_cases d:x∈qp l;·rw [Ad d] at i2;rw [Ab λz=>z.2 d];generalize bk l=B at *;simp [i1,i2]
  ·rw [Ac d] at i2;rw [Aa ⟨q,d⟩,<-qb5 d];have m:=qeL (a:=n - qK l y) hr h9;have h:yv (.int n) (.int (qK l y))=.ok (.int (n - qK l y)):=rfl;generalize bk l=B at *;simp [i1,i2,yA,d2O,hi,h,m,zd,s]
 ·rw [Ac q] at i1;rw [Ab λz=>q z.1];generalize bk l=B at *;simp [i1]
theorem qiV (h:x∈qp l->y∈qp l):zB3 [a,ij 'k',b,ij (.dct (bk l)),c,ij (.int n),ij (.str x),ij (.str y)]=(if x∈qp l/\(qK l x+qK l y) % r≠n then .ok (.rt .non,[a,ij 'k',b,ij (.dct (bk l)),c,ij (.int n),ij (.str x),ij (.str y)]) else .ok (.nx,[a,ij 'k',b,ij (.dct (bk l)),c,ij (.int n),ij (.str x),ij (.str y)])):=by
 have i1:=qgJ l x;by_cases q:x∈qp l
 ·have h1:=KA q;have h2:=KA (h q);rw [Ad q] at i1;have m:=qeL (a:=qK l x+qK l y) hr h9;generalize bk l=B at *;by_cases z:(qK l x+qK l y) % r=n
  ·have e:neD (.int ((qK l x+qK l y) % r)) (.int n)=.ok (.bl ir):=by simp [neD,eqN,eqS,z]
   rw [Ab λw=>w.2 z];simp [i1,d2O,h1,h2,m,e]
  ·have e:neD (.int ((qK l x+qK l y) % r)) (.int n)=.ok (.bl iu):=by simp [neD,eqN,eqS,z]
   rw [Aa ⟨q,z⟩];simp [i1,d2O,h1,h2,m,e]
 ·rw [Ac q] at i1;rw [Ab λw=>q w.1];generalize bk l=B at *;simp [i1]
theorem qb6 (l:Ln) (x y:Str) (n:Int):(st1 r l x y n).length<=l.length+1:=by
 unfold st1;split;·simp
 ·lia
theorem qkC (h:l.length < 900):(∃ m,stp r l ((x,y),n)=ij m/\m.length<=l.length+2/\zB [a,ij 'k',b,ij (.dct (bk l)),c,ij (.int n),ij (.str x),ij (.str y)]=.ok (.nx,[a,ij 'k',b,ij (.dct (bk m)),c,ij (.int n),ij (.str x),ij (.str y)]))
  \/ stp r l ((x,y),n)=im/\∃ ρ,zB [a,ij 'k',b,ij (.dct (bk l)),c,ij (.int n),ij (.str x),ij (.str y)]=.ok (.rt .non,ρ):=by
 have f:=qb6 hr h9 l x y n;have d:=qb6 hr h9 (st1 r l x y n) y x n;have e1:=qiT hr h9 (a:=a) (b:=b) (c:=c) (l:=l) (x:=x) (y:=y) (n:=n) 'b';have i:=qiU hr h9 (a:=a) (b:=b) (c:=c) (l:=st1 r l x y n) (x:=x) (y:=y) (n:=n) 'b';have D:=qiV hr h9 (a:=a) (b:=b) (c:=c) (l:=st1 r (st1 r l x y n) y x n) (x:=x) (y:=y) (n:=n) (λz=>by
  by_cases p:x∈qp l;·exact (uU ..).key (Jr p)
  ·rw [wj p] at z ⊢;by_cases q:y∈qp l;·exact (uU ..).key q
   ·rw [wj q] at z; exact absurd z p)
 have e:zB [a,ij 'k',b,ij (.dct (bk l)),c,ij (.int n),ij (.str x),ij (.str y)]=zB3 [a,ij 'k',b,ij (.dct (bk (st1 r (st1 r l x y n) y x n))),c,ij (.int n),ij (.str x),ij (.str y)]:=(Gd e1).trans (Gd i);rw [D] at e;by_cases q:x∈qp (st1 r (st1 r l x y n) y x n)/\(qK (st1 r (st1 r l x y n) y x n) x+qK (st1 r (st1 r l x y n) y x n) y) % r≠n;·rw [Aa q] at e;exact .inr ⟨Aa q,_,e⟩
 ·rw [Ab q] at e;exact .inl ⟨_,Ab q,by lia,e⟩
abbrev zG:D->Sl->Out Sl:=(jG 2 (qA (jG 2 (qA (gNm 6) (qA (gNm 7) jF))) (qA (gNm 5) jF)))
noncomputable def enD (e:En):D:=.tup [pD e.1,.int e.2]
theorem qeM:∀ (es:List En) (l:Ln) (u v w:Option D),l.length+2 * es.length < 900->(∃ m W V T,rnd r es l=ij m/\m.length<=l.length+2 * es.length/\kU zG zB (es.map enD) [a,ij 'k',b,ij (.dct (bk l)),c,u,v,w]=.ok (.nx,[a,ij 'k',b,ij (.dct (bk m)),c,W,V,T]))
  \/ rnd r es l=im/\∃ ρ,kU zG zB (es.map enD) [a,ij 'k',b,ij (.dct (bk l)),c,u,v,w]=.ok (.rt .non,ρ)
 | [],l,u,v,w,_=>.inl ⟨l,u,v,w,rfl,by lia,rfl⟩
 | e::es,l,u,v,w,hz=>by
  rw [ao] at hz;obtain ⟨⟨x,y⟩,n⟩:=e;have hg:zG (enD ((x,y),n)) [a,ij 'k',b,ij (.dct (bk l)),c,u,v,w]=.ok [a,ij 'k',b,ij (.dct (bk l)),c,ij (.int n),ij (.str x),ij (.str y)]:=rfl;rcases qkC hr h9 (a:=a) (b:=b) (c:=c) (l:=l) (x:=x) (y:=y) (n:=n) 'b' with ⟨m,e1,f,i⟩ | ⟨e1,ρ,i⟩
  ·rcases qeM es m (ij (.int n)) (ij (.str x)) (ij (.str y)) 'b' with ⟨B,W,V,T,k1,k2,k3⟩ | ⟨k1,ρ,k3⟩
   ·exact .inl ⟨B,W,V,T,by unfold rnd; rw [e1]; exact k1,by rw [ao]; lia,(kE hg i).trans k3⟩
   ·exact .inr ⟨by unfold rnd; rw [e1]; exact k1,ρ,(kE hg i).trans k3⟩
  ·exact .inr ⟨by unfold rnd; rw [e1]; rfl,ρ,Xy hg i⟩
end
abbrev rB:qU:=(yL (qjo (qb (qc 0) (qb (qc 2) qw))) zG zB)
theorem qeN:∀ (seen:List Pr) (ns:List Int),qcm (jx seen) (ns.map D.int)=(seen.zip ns).map enD
 | [],_=>by simp [qcm,jx]
 | _::_,[]=>by simp [qcm]
 | p::seen,n::ns=>by have j:=qeN seen ns;unfold qcm at j ⊢;exact congrArg (D.tup [pD p,.int n]::·) j
section
variable (hr:1<=r) (h9:r<=99)
include hr h9
theorem qeO (h6:(seen.zip ns).length<=6):∀ (ds:List D) (l:Ln) (t u v w:Option D),l.length+12 * ds.length < 800->(∃ m t' W V T,Jq r (seen.zip ns) ds.length l=ij m/\kU (gNm 4) rB ds [ij 'n',ij 'k',ij (nD ns),ij (.dct (bk l)),t,u,v,w]=.ok (.nx,[ij 'n',ij 'k',ij (nD ns),ij (.dct (bk m)),t',W,V,T]))
  \/ Jq r (seen.zip ns) ds.length l=im/\∃ ρ,kU (gNm 4) rB ds [ij 'n',ij 'k',ij (nD ns),ij (.dct (bk l)),t,u,v,w]=.ok (.rt .non,ρ)
 | [],l,t,u,v,w,_=>.inl ⟨l,t,u,v,w,rfl,rfl⟩
 | d::ds,l,t,u,v,w,hz=>by
  rw [ao] at hz;have hg:gNm 4 d [ij 'n',ij 'k',ij (nD ns),ij (.dct (bk l)),t,u,v,w]=.ok [ij 'n',ij 'k',ij (nD ns),ij (.dct (bk l)),ij d,u,v,w]:=rfl;have hit:qjo (qb (qc 0) (qb (qc 2) qw)) [ij 'n',ij 'k',ij (nD ns),ij (.dct (bk l)),ij d,u,v,w]=.ok ((seen.zip ns).map enD,[ij 'n',ij 'k',ij (nD ns),ij (.dct (bk l)),ij d,u,v,w]):=by rw [<-qeN];rfl
  rcases qeM hr h9 (a:=ij 'n') (b:=ij (nD ns)) (c:=ij d) (seen.zip ns) l u v w 'b' with ⟨m,W,V,T,k1,k2,k3⟩ | ⟨k1,ρ,k3⟩
  ·have h:rB [ij 'n',ij 'k',ij (nD ns),ij (.dct (bk l)),ij d,u,v,w]=.ok (.nx,[ij 'n',ij 'k',ij (nD ns),ij (.dct (bk m)),ij d,W,V,T]):=by show yL _ _ _ _=_;rw [kh,hit,ku];exact k3
   rcases qeO h6 ds m (ij d) W V T 'b' with ⟨B,t2,g,f,e,k,j⟩ | ⟨k,ρ,j⟩
   ·exact .inl ⟨B,t2,g,f,e,by rw [ao]; unfold Jq; rw [k1]; exact k,(kE hg h).trans j⟩
   ·exact .inr ⟨by rw [ao]; unfold Jq; rw [k1]; exact k,ρ,(kE hg h).trans j⟩
  ·have h:rB [ij 'n',ij 'k',ij (nD ns),ij (.dct (bk l)),ij d,u,v,w]=.ok (.rt .non,ρ):=by show yL _ _ _ _=_;rw [kh,hit,ku];exact k3
   exact .inr ⟨by rw [ao]; unfold Jq; rw [k1]; rfl,ρ,Xy hg h⟩
theorem ZW (h6:seen.length<=6) (hn:ns.length=seen.length) {l:Ln} (hl:l.length<=1):(∃ m,Jq r (seen.zip ns) ((seen.zip ns).length+1) l=ij m/\uN [sD seen,.int r,nD ns,.dct (bk l)]=.ok (.dct (bk m),[.non,.non,.non,.non]))
  \/ Jq r (seen.zip ns) ((seen.zip ns).length+1) l=im/\uN [sD seen,.int r,nD ns,.dct (bk l)]=.ok (.non,[.non,.non,.non,.non]):=by
 have d:(seen.zip ns).length=seen.length:=by rw [List.length_zip]; lia
 have n:wb 'n'=.ok (.int seen.length):=by simp [jx]
 have hit:jo (d2 jZ (d1 wb (qc 0)) 'f') [ij 'n',ij 'k',ij (nD ns),ij (.dct (bk l)),im,im,im,im]=.ok (zr 0 (seen.length+1),[ij 'n',ij 'k',ij (nD ns),ij (.dct (bk l)),im,im,im,im]):=by have:=iR0 (f:=d2 jZ (d1 wb (qc 0)) 'f') (ρ:=[ij 'n',ij 'k',ij (nD ns),ij (.dct (bk l)),im,im,im,im]) (ρ1:=[ij 'n',ij 'k',ij (nD ns),ij (.dct (bk l)),im,im,im,im]) (k:=seen.length+1) 'b' 'b' (by generalize sD seen=S at *;simp [n]);rw [this];congr 2
 have h:(zr 0 (seen.length+1)).length=(seen.zip ns).length+1:=by rw [d]; simp [zr]
 have key:=qeO hr h9 (seen:=seen) (ns:=ns) 'b' (zr 0 (seen.length+1)) l im im im im 'b';rw [h] at key;rcases key with ⟨m,t',W,V,T,k1,k2⟩ | ⟨k1,ρ,k2⟩
 ·refine .inl ⟨m,k1,qr.trans ?_⟩;unfold Qd;rw [show qt Qc [sD seen,.int r,nD ns,.dct (bk l)]=[ij 'n',ij 'k',ij (nD ns),ij (.dct (bk l)),im,im,im,im] from rfl];refine (qy (by rw [kh,hit,ku]; exact k2)).trans ?_;simp
 ·refine .inr ⟨k1,qr.trans ?_⟩;unfold Qd;rw [show qt Qc [sD seen,.int r,nD ns,.dct (bk l)]=[ij 'n',ij 'k',ij (nD ns),ij (.dct (bk l)),im,im,im,im] from rfl];rw [gD,kh,hit,ku,k2];rfl
end
theorem KQ (e:Str×Int) (l:Ln) (y:Str):qK (e::l) y=if e.1=y then e.2 else qK l y:=by
 unfold qK;rw [cP];by_cases h:e.1=y;·simp [h]
 ·simp [h]
noncomputable def xB (b:Ln) (x:Str) (v:Int):Ln:=if x∈qp b then b.map (λe=>if e.1=x then (e.1,v) else e) else b++[(x,v)]
theorem qb7 (x:Str) (v:Int):∀ b:Ln,qp (b.map (λe=>if e.1=x then (e.1,v) else e))=qp b
 | []=>rfl
 | e::b=>by have j:=qb7 x v b;unfold qp at j ⊢;rw [aD,aD,aD,j];split <;> rfl
theorem qgK (b:Ln) (x:Str) (v:Int) (y:Str):y∈qp (xB b x v)↔y∈qp b\/y=x:=by
 unfold xB;split;·rename_i h;rw [qb7];exact ⟨.inl,λz=>z.elim id λz=>z ▸ h⟩
 ·rw [Qq];simp [qp]
theorem yK (x:Str) (v:Int) (y:Str):∀ b:Ln,x∈qp b->qK (b.map (λe=>if e.1=x then (e.1,v) else e)) y=if y=x then v else qK b y
 | [],h=>by cases h
 | e::b,h=>by
  rw [aD,KQ,KQ];by_cases q:e.1=x
  ·by_cases z:y=x;·subst z; simp [q]
   ·have:¬x=y:=λw=>z w.symm;simp only [q,Aa,this,Ab,z,if_false];by_cases k:x∈qp b;·rw [yK x v y b k,Ab z]
    ·have:b.map (λe=>if e.1=x then (e.1,v) else e)=b:=by
      conv=>rhs; rw [<-List.map_id b]
      refine cF λa g=>?_;rw [Ab (λ(w:a.1=x)=>k (ah.mpr ⟨a,g,w⟩))];rfl
     rw [this]
  ·have k:x∈qp b:=by
    rcases ac.mp h with w | w;·exact absurd w.symm q
    ·exact w
   rw [Ab q,yK x v y b k];by_cases z:y=x;·subst z; rw [Ab q,Aa rfl,Aa rfl]
   ·rw [Ab z,Ab z]
theorem qgL (b:Ln) (x:Str) (v:Int) (y:Str):qK (xB b x v) y=if y=x then v else qK b y:=by
 unfold xB;split;·rename_i h; exact yK x v y b h
 ·rename_i h;by_cases z:y=x;·subst z; rw [KN h,Aa rfl]; simp [qK]
  ·rw [Ab z];by_cases k:y∈qp b;·exact XH k
   ·rw [KN k];have:¬x=y:=λw=>z w.symm;have e1:qK [(x,v)] y=0:=by simp [qK,this]
    have i:qK b y=0:=by unfold qK;rw [cw.mpr λa g w=>k (ah.mpr ⟨a,g,by simpa using w⟩)];rfl
    rw [e1,i]
theorem qgM (b:Ln) (x:Str) (v:Int):zI (bk b) (.inr x) (.int v)=bk (xB b x v):=by
 unfold xB;by_cases h:x∈qp b
 ·rw [Aa h];have k:=WG b x;rw [Ad h] at k;unfold Zq at k;unfold zI;rw [k,Aa rfl];unfold bk;rw [bg,bg];refine cF λa _=>?_;by_cases q:a.1=x;·simp [q]
  ·simp [q]
 ·rw [Ab h]; exact qb5 h
noncomputable def mg (b m:Ln):Ln:=m.foldl (λa e=>xB a e.1 e.2) b
theorem qiW:∀ (m b:Ln),gF (bk b) (bk m)=bk (mg b m)
 | [],b=>rfl
 | e::m,b=>by show gF (zI (bk b) (.inr e.1) (.int e.2)) (bk m)=bk (mg (xB b e.1 e.2) m);rw [qgM,qiW m]
theorem WJ:∀ (m b:Ln) (y:Str),y∈qp (mg b m)↔y∈qp b\/y∈qp m
 | [],b,y=>by simp [mg,qp]
 | e::m,b,y=>by
  show y∈qp (mg (xB b e.1 e.2) m)↔_;rw [WJ m,qgK];have:y∈qp (e::m)↔y=e.1\/y∈qp m:=by simp [qp]
  rw [this,or_assoc]
theorem qb8:∀ (m b:Ln) (y:Str),(qp m).Nodup->qK (mg b m) y=if y∈qp m then qK m y else qK b y
 | [],b,y,_=>by simp [mg,qp]
 | e::m,b,y,h=>by
  obtain ⟨h1,h2⟩:=aK.mp (show (e.1::qp m).Nodup from h);show qK (mg (xB b e.1 e.2) m) y=_;rw [qb8 m _ y h2,qgL,KQ];have:y∈qp (e::m)↔y=e.1\/y∈qp m:=by simp [qp]
  by_cases k:y∈qp m;·have:¬e.1=y:=λw=>h1 (w ▸ k);rw [Aa k,Aa (by rw [‹y∈qp (e::m)↔_›]; exact .inr k),Ab this]
  ·rw [Ab k];by_cases z:y=e.1;·rw [Aa z,Aa (by rw [this]; exact .inl z),Aa z.symm]
   ·rw [Ab z,Ab (by rw [this]; exact λw=>w.elim z k)]
theorem qeP:∀ (m b:Ln),(mg b m).length<=b.length+m.length
 | [],b=>by simp [mg]
 | e::m,b=>by
  have h1:=qeP m (xB b e.1 e.2);have h2:(xB b e.1 e.2).length<=b.length+1:=by
   unfold xB;split;·rw [ay]; lia
   ·simp
  show (mg (xB b e.1 e.2) m).length<=_;rw [ao]
  lia
theorem qiX {b m:Ln} (d:Cls r es b) (c:Cls r es m) (hn:(qp m).Nodup):Cls r es (mg b m):=λe i=>by
 obtain ⟨f,a⟩:=d e i;obtain ⟨m1,B⟩:=c e i;rw [WJ,WJ,qb8 m b _ hn,qb8 m b _ hn];refine ⟨by rw [f,m1],λh=>?_⟩;by_cases k:e.1.1∈qp m;·rw [Aa k,Aa (m1.mp k)];exact B k
 ·rw [Ab k,Ab λw=>k (m1.mpr w)];exact a (h.resolve_right k)
theorem qeQ {l:Ln} {n:Int} (h:(qp l).Nodup):(qp (st1 r l x y n)).Nodup:=by
 unfold st1;split
 ·rename_i d;rw [Qq];refine cg.mpr ⟨h,by simp [qp],λa g b c=>?_⟩;have:b=y:=by simpa [qp] using c
  rw [this];rintro rfl;exact d.2 g
 ·exact h
theorem qeR (r:Int) (l:Ln) (x y:Str) (n:Int):(st1 r l x y n).length<=l.length+1:=by
 unfold st1;split;·simp
 ·lia
theorem qiY {l m:Ln} (h:(qp l).Nodup) (q:stp r l e=ij m):(qp m).Nodup/\m.length<=l.length+2:=by
 unfold stp at q;split at q;·cases q
 ·cases q;have a:=qeR r l e.1.1 e.1.2 e.2;have b:=qeR r (st1 r l e.1.1 e.1.2 e.2) e.1.2 e.1.1 e.2;exact ⟨qeQ (qeQ h),by lia⟩
theorem qeS:∀ {es:List En} {l m:Ln},(qp l).Nodup->rnd r es l=ij m->(qp m).Nodup/\m.length<=l.length+2 * es.length
 | [],l,m,h,q=>by cases q; exact ⟨h,by lia⟩
 | e::es,l,m,h,q=>by obtain ⟨k,g,f⟩:=aU.mp q;obtain ⟨a,b⟩:=qiY h g;obtain ⟨c,d⟩:=qeS a f;exact ⟨c,by rw [ao]; lia⟩
theorem qb9 (h6:es.length<=6):∀ (n:Nat) {l m:Ln},(qp l).Nodup->Jq r es n l=ij m->(qp m).Nodup/\m.length<=l.length+12 * n
 | 0,l,m,h,q=>by cases q; exact ⟨h,by lia⟩
 | n+1,l,m,h,q=>by obtain ⟨k,f,e⟩:=aU.mp q;obtain ⟨a,b⟩:=qeS h f;obtain ⟨c,d⟩:=qb9 h6 n a e;exact ⟨c,by lia⟩
def qkD (r:Int) (es:List En) (v:Str->Int):Prop:=∀ e∈es,r ∣ v e.1.1+v e.1.2 - e.2
abbrev GF:=jK
noncomputable def wG (G:GF):qU:=(sIf (qF (d2 qcl (qc 7) (dC .non))) (jp 7 (qo [.vl,.vl,.vl,.fr] G (qb (qc 4) (qb (qc 2) (qb (qc 3) (qb (VT (qc 6) (qc 8)) qw)))))) qO)
abbrev wB:qU:=wG uN
variable {G:GF}
theorem qiZ {R N S B:Option D} {r n s:D} {k:Int} {F:D} {o:List D} (h:G [s,r,n,.dct [(.inr x,.int k)]]=.ok (F,[.non,.non,.non,.non])):wG G [a,b,ij r,ij n,ij s,B,ij (.str x),ij .non,ij (.int k)]=.ok (.nx,[a,b,ij r,ij n,ij s,B,ij (.str x),ij F,ij (.int k)]):=by simp [wG,VT,zd,h]
variable {m:List (Key×D)}
theorem qkE {R N S B:Option D} {x:Option D} {k:Option D}:wG G [a,b,R,N,S,B,x,ij (.dct m),k]=.ok (.nx,[a,b,R,N,S,B,x,ij (.dct m),k]):=by simp [wG]
noncomputable def oG (F:qU):qU:=(sIf (qF (d2 ui (qc 6) (qc 5))) (qG (jp 7 (dC .non))
  (qG F
  (qG (sIf (qF (d2 qcl (qc 7) (dC .non))) (jf (dC .non)) qO)
  (kP (qil 5 (qc 7)))))) qO)
variable {C:D}
theorem qkF {F:qU} {R N S u w:Option D} {x:D} (hi:ui x C=.ok (.bl ir)):oG F [a,b,R,N,S,ij C,ij x,u,w]=.ok (.nx,[a,b,R,N,S,ij C,ij x,u,w]):=by simp [oG,hi]
theorem qkG {F:qU} {R N S u w T:Option D} {x:D} (hi:ui x C=.ok (.bl iu)) (h:F [a,b,R,N,S,ij C,ij x,ij .non,w]=.ok (.nx,[a,b,R,N,S,ij C,ij x,ij .non,T])):oG F [a,b,R,N,S,ij C,ij x,u,w]=.ok (.rt .non,[a,b,R,N,S,ij C,ij x,ij .non,T]):=by simp [oG,hi,h]
theorem qkH {F:qU} {R N S u w T:Option D} {c:List (Key×D)} {x:D} (hi:ui x (.dct c)=.ok (.bl iu)) (h:F [a,b,R,N,S,ij (.dct c),ij x,ij .non,w]=.ok (.nx,[a,b,R,N,S,ij (.dct c),ij x,ij (.dct m),T])) (z:c.length+m.length<=sizeLine):oG F [a,b,R,N,S,ij (.dct c),ij x,u,w]=.ok (.nx,[a,b,R,N,S,ij (.dct (gF c m)),ij x,ij (.dct m),T]):=by simp [oG,hi,h,qil,z]
section
variable (hr:1<=r) (h9:r<=99) (h6:seen.length<=6) (hn:ns.length=seen.length) {B:Option D}
include hr h9 h6 hn
theorem qi0 (F:D) (C:F=.non\/∃ m,F=.dct (bk m)) (k:Int):∃ F',wB [a,b,ij 'k',ij (nD ns),ij 'n',B,ij (.str x),ij F,ij (.int k)]=.ok (.nx,[a,b,ij 'k',ij (nD ns),ij 'n',B,ij (.str x),ij F',ij (.int k)]) /\
  ((∃ m,F=.dct (bk m))->F'=F)/\(F=.non->F'=.non/\Jq r (seen.zip ns) ((seen.zip ns).length+1) [(x,k)]=im\/∃ m,Jq r (seen.zip ns) ((seen.zip ns).length+1) [(x,k)]=ij m/\F'=.dct (bk m)):=by
 rcases C with rfl | ⟨m,rfl⟩
 ·rcases ZW hr h9 h6 hn (l:=[(x,k)]) 'g' with ⟨m,e1,i⟩ | ⟨e1,i⟩
  ·exact ⟨.dct (bk m),qiZ (R:=im) (N:=im) (S:=im) (o:=[]) i,(λ⟨_,z⟩=>by cases z),λ_=>.inr ⟨m,e1,rfl⟩⟩
  ·exact ⟨.non,qiZ (R:=im) (N:=im) (S:=im) (o:=[]) i,(λ⟨_,z⟩=>by cases z),λ_=>.inl ⟨rfl,e1⟩⟩
 ·exact ⟨.dct (bk m),qkE,(λ_=>rfl),λz=>by cases z⟩
theorem qeT:∀ (ks:List Int) (F:D) (w:Option D),(F=.non\/∃ m,F=.dct (bk m))->∃ F' T,kU (gNm 8) wB (ks.map D.int) [a,b,ij 'k',ij (nD ns),ij 'n',B,ij (.str x),ij F,w]=.ok (.nx,[a,b,ij 'k',ij (nD ns),ij 'n',B,ij (.str x),ij F',T]) /\
  ((∃ m,F=.dct (bk m))->F'=F)/\(F=.non->(F'=.non/\∀ k∈ks,Jq r (seen.zip ns) ((seen.zip ns).length+1) [(x,k)]=im)\/∃ k m,Jq r (seen.zip ns) ((seen.zip ns).length+1) [(x,k)]=ij m/\F'=.dct (bk m))
 | [],F,w,_=>⟨F,w,rfl,λ_=>rfl,λh=>.inl ⟨h,λk d=>by cases d⟩⟩
 | k::ks,F,w,hF=>by
  obtain ⟨F1,e1,f1,f2⟩:=qi0 hr h9 h6 hn (a:=a) (b:=b) (B:=B) (x:=x) F hF k;have c:F1=.non\/∃ m,F1=.dct (bk m):=by
   rcases hF with h | h
   ·rcases f2 h with ⟨z,_⟩ | ⟨m,_,z⟩
    ·exact .inl z
    ·exact .inr ⟨m,z⟩
   ·rw [f1 h]; exact .inr h
  obtain ⟨F',T,i,g1,Z⟩:=qeT ks F1 (ij (.int k)) c;refine ⟨F',T,(kE rfl e1).trans i,λh=>?_,λh=>?_⟩;·have:=f1 h;rw [g1 (by rw [this]; exact h),this]
  ·rcases f2 h with ⟨z,q⟩ | ⟨m,q,z⟩
   ·rcases Z z with ⟨z2,q2⟩ | z2
    ·exact .inl ⟨z2,λj G=>by
      rcases ac.mp G with rfl | G;·exact q
      ·exact q2 j G⟩
    ·exact .inr z2
   ·exact .inr ⟨k,m,q,by rw [g1 ⟨m,z⟩,z]⟩
abbrev oB:qU:=oG (yL (jo (qc 2)) (gNm 8) wB)
theorem qd1 (n:Nat):zr 0 n=((aO n).map λ(k:Nat)=>(k:Int)).map D.int:=by unfold zr;rw [bg];refine cF λk _=>?_;simp
theorem qi1 (A:∀ y∈ns,0<=y/\y < r) {c:Ln} (p:Cls r (seen.zip ns) c) (t:c.length<=1500) (u w:Option D):(∃ U W T,oB [a,b,ij 'k',ij (nD ns),ij 'n',ij (.dct (bk c)),ij (.str x),u,w]=.ok (.nx,[a,b,ij 'k',ij (nD ns),ij 'n',ij (.dct (bk U)),ij (.str x),W,T])/\Cls r (seen.zip ns) U/\x∈qp U/\(∀ y∈qp c,y∈qp U)/\U.length<=c.length+90)
  \/ (∃ ρ,oB [a,b,ij 'k',ij (nD ns),ij 'n',ij (.dct (bk c)),ij (.str x),u,w]=.ok (.rt .non,ρ))/\¬∃ v,qkD r (seen.zip ns) v:=by
 have i:(seen.zip ns).length=seen.length:=by rw [List.length_zip]; lia
 have hi:=qb4 c x;by_cases q:x∈qp c;·rw [Ad q] at hi;exact .inl ⟨c,u,w,qkF hi,p,q,λy d=>d,by lia⟩
 ·rw [Ac q] at hi;obtain ⟨F,T,e,_,f⟩:=qeT hr h9 h6 hn (a:=a) (b:=b) (B:=ij (.dct (bk c))) (x:=x) ((aO r.toNat).map λ(k:Nat)=>(k:Int)) .non w (.inl rfl);have hit:jo (qc 2) [a,b,ij 'k',ij (nD ns),ij 'n',ij (.dct (bk c)),ij (.str x),ij .non,w]=.ok (((aO r.toNat).map λ(k:Nat)=>(k:Int)).map D.int,[a,b,ij 'k',ij (nD ns),ij 'n',ij (.dct (bk c)),ij (.str x),ij .non,w]):=by rw [<-qd1 hr h9 h6 hn];exact iR0 'b' 'b' rfl
  have h:yL (jo (qc 2)) (gNm 8) wB [a,b,ij 'k',ij (nD ns),ij 'n',ij (.dct (bk c)),ij (.str x),ij .non,w]=.ok (.nx,[a,b,ij 'k',ij (nD ns),ij 'n',ij (.dct (bk c)),ij (.str x),ij F,T]):=by rw [kh,hit,ku];exact e
  rcases f rfl with ⟨rfl,o⟩ | ⟨k,m,g,rfl⟩
  ·refine .inr ⟨⟨_,qkG hi h⟩,λ⟨v,s⟩=>?_⟩
   ·have j:=o (v x % r) (ah.mpr ⟨(v x % r).toNat,bv.mpr (by have:=bX (v x) (show 0 < r by lia); have:=ck (v x) (show r≠0 by lia); lia),by have:=ck (v x) (show r≠0 by lia); lia⟩);obtain ⟨m,g⟩:=XN hr (v:=v) (es:=seen.zip ns) (λe n=>⟨s e n,A e.2 (cO n).2⟩) ((seen.zip ns).length+1) (l:=[(x,v x % r)]) (λy d=>by
     have:y=x:=by simpa [qp] using d
     subst this;have e:qK [(y,v y % r)] y=v y % r:=by simp [qK]
     rw [e];exact xW.mp (Int.emod_emod_of_dvd _ (Int.dvd_refl r)))
    rw [g] at j;cases j
  ·obtain ⟨nd,len⟩:=qb9 'b' _ (l:=[(x,k)]) (by simp [qp]) g;have ln:m.length<=90:=by rw [i] at len; simp at len; lia
   have lb:∀ l:Ln,(bk l).length=l.length:=λl=>by simp [bk]
   refine .inl ⟨mg c m,_,_,(qkH hi h (by rw [lb,lb]; exact qV 'b')).trans (by rw [qiW]),qiX p (qd0 g) nd,(WJ m c x).mpr (.inr ((XM _ g).key (by simp [qp]))),λy d=>(WJ m c y).mpr (.inl d),?_⟩;have:=qeP m c
   lia
theorem qeU (A:∀ y∈ns,0<=y/\y < r):∀ (L:List Str) (c:Ln) (z u w:Option D),Cls r (seen.zip ns) c->c.length+90 * L.length<=1500 ->(∃ U p W T,kU (gNm 6) oB (L.map D.str) [a,b,ij 'k',ij (nD ns),ij 'n',ij (.dct (bk c)),z,u,w]=.ok (.nx,[a,b,ij 'k',ij (nD ns),ij 'n',ij (.dct (bk U)),p,W,T])/\Cls r (seen.zip ns) U/\(∀ y∈L,y∈qp U)/\∀ y∈qp c,y∈qp U)
  \/ (∃ ρ,kU (gNm 6) oB (L.map D.str) [a,b,ij 'k',ij (nD ns),ij 'n',ij (.dct (bk c)),z,u,w]=.ok (.rt .non,ρ))/\¬∃ v,qkD r (seen.zip ns) v
 | [],c,z,u,w,hc,_=>.inl ⟨c,z,u,w,rfl,hc,(λy h=>by cases h),λy h=>h⟩
 | x::L,c,z,u,w,hc,hl=>by
  rw [ao] at hl;have hg:gNm 6 (.str x) [a,b,ij 'k',ij (nD ns),ij 'n',ij (.dct (bk c)),z,u,w]=.ok [a,b,ij 'k',ij (nD ns),ij 'n',ij (.dct (bk c)),ij (.str x),u,w]:=rfl;rcases qi1 hr h9 h6 hn (a:=a) (b:=b) (x:=x) A hc 'b' u w with ⟨n,k,g,e1,O,hx,l,q⟩ | ⟨⟨ρ,e1⟩,o⟩
  ·rcases qeU A L n (ij (.str x)) k g O 'b' with ⟨c2,z2,j,f,i,e,m,d⟩ | ⟨⟨ρ,i⟩,o⟩
   ·exact .inl ⟨c2,z2,j,f,(kE hg e1).trans i,e,(λy h=>by
     rcases ac.mp h with rfl | h;·exact d _ hx
     ·exact m y h),λy h=>d y (l y h)⟩
   ·exact .inr ⟨⟨ρ,(kE hg e1).trans i⟩,o⟩
  ·exact .inr ⟨⟨ρ,Xy hg e1⟩,o⟩
end
theorem qca (hn:ns.length=seen.length):qkD r (seen.zip ns) v↔Sol seen r ns v:=by
 constructor
 ·intro h k p hp;have a:k < ns.length:=by rw [hn]; exact (aB.mp hp).1
  have:=h (p,nI ns k) (aP (i:=k) (by rw [List.getElem?_zip_eq_some];refine ⟨hp,?_⟩;unfold nI;rw [aE a];rfl));exact this
 ·intro h e b;obtain ⟨k,a⟩:=eZ b;obtain ⟨h1,h2⟩:=List.getElem?_zip_eq_some.mp a;have:=h k e.1 h1;unfold nI at this;rw [h2] at this;exact this
theorem qd2 (w:jw ws) (hl:KW p q) (hr:1<=r) (h9:r<=99) (hn:kA ws.length r ns):∃ d,zO [Wd ws,Ld p q,.int r,nD ns]=.ok (d,[.non,.non,.non,.non])/\((d=.non/\¬∃ v,Sol 'h' r ns v)\/(∃ m,d=.dct m)/\∃ v,Sol 'h' r ns v):=by
 have E:(qv ws p q).length=ws.length:=by simp [qv]
 have h:ns.length=(qv ws p q).length:=by rw [E]; exact hn.1
 have h6:=w.2.1;have u:=WB w p q;have hp:kz [Wd ws,Ld p q]=.ok (sD 'h',[.non,.non]):=vZ w hl;have s:ki [Wd ws,Ld p q]=.ok (.lst ((LS 'h').map D.str),[.non,.non]):=Yh w hl;have key:=qeU hr h9 (seen:=qv ws p q) (ns:=ns) 'b' h (a:=ij (Wd ws)) (b:=ij (Ld p q)) (λy j=>hn.2 y j) (LS 'h') [] im im im (λe _=>by simp [qp]) (by simp; lia);have hit:jR (qo [.vl,.vl] ki (qb (qc 0) (qb (qc 1) qw))) [ij (Wd ws),ij (Ld p q),ij 'k',ij (nD ns),ij (sD 'h'),ij (.dct []),im,im,im]=.ok ((LS 'h').map D.str,[ij (Wd ws),ij (Ld p q),ij 'k',ij (nD ns),ij (sD 'h'),ij (.dct []),im,im,im]):=by have c:jM (.lst ((LS 'h').map D.str))=.ok ((LS 'h').map D.str):=rfl;generalize D.lst ((LS 'h').map D.str)=A at *;generalize (LS 'h').map D.str=B at *;generalize sD 'h'=S at *;generalize Wd ws=W at *;generalize Ld p q=L at *;simp [s,c]
 have vb:∀ fb:qU,KZ [.val,.val,.val,.val] (qG (jp 4 (qo [.vl,.vl] kz (qb (qc 0) (qb (qc 1) qw)))) (qG (jp 5 (dC (.dct []))) fb) (qt Kw [Wd ws,Ld p q,.int r,nD ns]))=KZ [.val,.val,.val,.val] (fb [ij (Wd ws),ij (Ld p q),ij 'k',ij (nD ns),ij (sD 'h'),ij (.dct []),im,im,im]):=λfb=>by rw [show qt Kw [Wd ws,Ld p q,.int r,nD ns]=[ij (Wd ws),ij (Ld p q),ij 'k',ij (nD ns),im,im,im,im,im] from rfl];generalize sD 'h'=S at *;generalize Wd ws=W at *;generalize Ld p q=L at *;refine (qy (ρ1:=[ij W,ij L,ij 'k',ij (nD ns),ij S,im,im,im,im]) (by simp [hp])).trans ?_;exact qy (ρ1:=[ij W,ij L,ij 'k',ij (nD ns),ij S,ij (.dct []),im,im,im]) 'g'
 have g:∀ ρ,yL (jR (qo [.vl,.vl] ki (qb (qc 0) (qb (qc 1) qw)))) (gNm 6) oB ρ=(jR (qo [.vl,.vl] ki (qb (qc 0) (qb (qc 1) qw))) ρ).bind λp=>kU (gNm 6) oB p.1 p.2:=λρ=>rfl;rcases key with ⟨U,z,x,T,e,n,t,_⟩ | ⟨⟨ρ,e⟩,o⟩
 ·refine ⟨.dct (bk U),qr.trans ?_,.inr ⟨⟨_,rfl⟩,qK U,?_⟩⟩;·refine (vb _).trans ((qy (f:=yL (jR (qo [.vl,.vl] ki (qb (qc 0) (qb (qc 1) qw)))) (gNm 6) oB) (by rw [g,hit,ku]; exact e)).trans ?_);simp
  ·refine (qca h).mp λe i=>?_;obtain ⟨h1,h2⟩:=n e i;have l:=h2 (t _ (vY.mpr ⟨_,(cO i).1,.inl rfl⟩));have:=hn.2 e.2 (cO i).2;refine xW.mp ?_;rw [l,be this.1 this.2]
 ·refine ⟨.non,qr.trans ?_,.inl ⟨rfl,λ⟨v,k⟩=>o ⟨v,(qca h).mpr k⟩⟩⟩;refine (vb _).trans ?_;show KZ _ (qG (yL (jR (qo [.vl,.vl] ki (qb (qc 0) (qb (qc 1) qw)))) (gNm 6) oB) (jf (qc 5)) _)=_;have e:kU (gNm 6) oB ((LS 'h').map D.str) [ij (Wd ws),ij (Ld p q),ij 'k',ij (nD ns),ij (sD 'h'),ij (.dct []),im,im,im]=.ok (.rt .non,ρ):=e;rw [gD,g,hit,ku];show KZ _ ((kU _ _ _ _).bind _)=_;rw [e];rfl
theorem zT {a b c:Str} {l m:Wk} (h:Path seen a l b) (k:Path seen b m c):Path seen a (l++m) c:=by
 induction k with
 | nil=>rw [aZ]; exact h
 | snoc _ e1 i j=>rw [<-aV]; exact .snoc j e1 i
theorem qd3 {a b:Str} {l:Wk} (h:Path seen a l b):Path seen b l.reverse a:=by
 induction h with
 | nil=>exact .nil
 | @snoc l x y k p _ e1 e2 ih=>rw [List.reverse_append];exact zT (.snoc (l:=[]) .nil e1 e2.symm) ih
theorem qeV {l:Wk} (h:l.Nodup) (hl:∀ k∈l,k < n):l.length<=n:=by have:=KM h (b:=aO n) λx hx=>bv.mpr (hl x hx);rw [cA] at this;exact this
def Rnd (seen:List Pr) (n:Nat) (c:Ci):Prop:=Path seen c.1 c.2 c.1/\1<=c.2.length/\c.2.length<=n
section
variable (S:Sn seen W)
include S
theorem qd4 {p:Pr} {k:Nat} (h:seen[k]?=ij p):Rnd seen 13 (Va W p k):=by
 have hp:p∈seen:=aP h;obtain ⟨h1,h2⟩:=kT S.a p hp;have m1:=jr h1;have B:=jr h2;have p1:=S.w.path _ m1;have p2:=S.w.path _ B;have hr:(qQ W p.2).1=(qQ W p.1).1:=(Ql S hp).symm;have n1:=qeV (S.w.nr _ m1).1 p1.lt;have n2:=qeV (S.w.nr _ B).1 p2.lt;have hn:=S.n;simp only [] at n1 n2 p1 p2;rw [hr] at p2;refine ⟨zT (zT p1 (.snoc (l:=[]) .nil h (.inl rfl))) (qd3 p2),?_,?_⟩;·unfold Va; simp; lia
 ·unfold Va; simp; lia
theorem qcb:∀ c∈CL W 0 seen,Rnd seen 13 c:=λc d=>by obtain ⟨q,hq,rfl⟩:=ah.mp d;obtain ⟨p,j⟩:=q;have G:=fW hq;refine qd4 S ?_;rw [aB];have h2:=G.2.2;simp only [Nat.sub_zero] at h2;exact ⟨by have:=G.2.1; lia,h2.symm⟩
theorem qi2 (h:BO W seen r ns=ij c):Rnd seen 26 c/\WC c.2 r ns=true:=by
 unfold BO at h;refine ⟨?_,by simpa using dh h⟩;rcases aj.mp (ba h) with m | m
 ·obtain ⟨a,b,d⟩:=qcb S c m;exact ⟨a,b,by lia⟩
 ·obtain ⟨O,f,rfl⟩:=ah.mp m;obtain ⟨f,l⟩:=bF.mp f;obtain ⟨a,b,d⟩:=qcb S O f;obtain ⟨f1,_,t,_⟩:=zn (CL W 0 seen) [];have i:=t O f l;have hg:∃ k∈CL W 0 seen,k.1=O.1/\uS (FO [] (CL W 0 seen)) O.1=k.2:=by
   unfold uS;cases q:(FO [] (CL W 0 seen)).find? λc=>decide (c.1=O.1) with
   | none=>obtain ⟨z,g,e⟩:=ah.mp i;exact absurd (cw.mp q z g) (by simp [e])
   | some k=>
    have m:=ba q;rcases f1 k m with z | z;·cases z
    ·exact ⟨k,z,by simpa using dh q,rfl⟩
  obtain ⟨k,h1,e1,j⟩:=hg;obtain ⟨n,o,d1⟩:=qcb S k h1;rw [j];refine ⟨zT (e1 ▸ n) a,?_,?_⟩;·show 1<=(k.2++O.2).length; rw [af]; lia
  ·show (k.2++O.2).length<=26; rw [af]; lia
end
noncomputable def go (seen:List Pr):Str->Wk->Option Str
 | x,[]=>ij x
 | x,k::l=>match seen[k]? with
  | some p=>if x=p.1\/x=p.2 then go seen (oth p x) l else im
  | none=>im
theorem Qr (seen:List Pr) (x:Str) (k:Nat) (l:Wk):go seen x (k::l)=match seen[k]? with
  | some p=>if x=p.1\/x=p.2 then go seen (oth p x) l else im
  | none=>none:=rfl
theorem qeW (seen:List Pr):∀ (l m:Wk) (x:Str),go seen x (l++m)=(go seen x l).bind λy=>go seen y m
 | [],m,x=>rfl
 | k::l,m,x=>by
  rw [dH,Qr,Qr];cases seen[k]? with
  | none=>rfl
  | some p=>
   simp only [];by_cases h:x=p.1\/x=p.2;·rw [Aa h,Aa h]; exact qeW seen l m _
   ·rw [Ab h,Ab h]; rfl
theorem Yi {a b:Str} {l:Wk} (h:Path seen a l b):go seen a l=ij b:=by
 induction h with
 | nil=>rfl
 | @snoc l x y k p _ e1 e2 ih=>
  rw [qeW,ih];show go seen x [k]=ij y;unfold go;rw [e1];simp only [];rcases e2 with rfl | rfl
  ·rw [Aa (.inl rfl)];show ij (oth (x,y) x)=ij y;unfold oth;rw [Aa rfl]
  ·rw [Aa (.inr rfl)];show ij (oth (y,x) x)=ij y;unfold oth;by_cases z:x=y;·rw [Aa z,z]
   ·rw [Ab z]
theorem qi3 {k:Nat} {p:Pr} (h:seen[k]?=ij p):ixD 'n' (.int (k:Nat))=.ok (pD p):=by unfold ixD;simp only [];rw [uO];unfold jx;rw [aH,h];rfl
theorem XO (p:Pr) (x:Str):ui (.str x) (pD p)=.ok (.bl (!decide (x=p.1\/x=p.2))):=by
 have h:(inD (.str x) (pD p)).bind (λb=>Out.ok (D.bl b))=.ok (.bl (decide (x=p.1\/x=p.2))):=qbw p x;show (inD (.str x) (pD p)).bind (λb=>Out.ok (D.bl (!b)))=_;cases q:inD (.str x) (pD p) with
 | ok b=>rw [q] at h;have h:Out.ok (D.bl b)=.ok (.bl (decide (x=p.1\/x=p.2))):=h;have:b=decide (x=p.1\/x=p.2):=D.bl.inj (Out.ok.inj h);rw [this];rfl
 | exc c o=>rw [q] at h; cases h
 | bad=>rw [q] at h; cases h
abbrev lbB:qU:=(qG (qji (d2 ixD (qc 6) (qc 9)) (jG 2 (qA (gNm 10) (qA (gNm 11) jF))))
  (qG (sIf (qF (d2 ui (qc 7) (vM (qb (qc 10) (qb (qc 11) qw))))) (jf (dC (.bl ir))) qO)
  (qG (jp 7 (dIf (qF (d2 eqD (qc 7) (qc 10))) (qc 11) (qc 10)))
  (jp 8 (d2 yv (d2 ixD (qc 3) (qc 9)) (qc 8))))))
variable {N S:D}
theorem qgN {a b c e f u v:Option D} {p:Pr} {k:D} {n t:Int} (h1:ixD S k=.ok (pD p)) (h2:ixD N k=.ok (.int n)) (hx:x=p.1\/x=p.2):lbB [a,b,c,ij N,e,f,ij S,ij (.str x),ij (.int t),ij k,u,v]=.ok (.nx,[a,b,c,ij N,e,f,ij S,ij (.str (oth p x)),ij (.int (n - t)),ij k,ij (.str p.1),ij (.str p.2)]):=by
 have z2:2<=sizeLine:=qV 'b';have hn:=XO p x;rw [Ad hx] at hn;obtain ⟨y,z⟩:=p;have hn:ui (.str x) (.tup [.str y,.str z])=.ok (.bl ir):=hn;have h:yv (.int n) (.int t)=.ok (.int (n - t)):=rfl;have hg:jG 2 (qA (gNm 10) (qA (gNm 11) jF)) (pD (y,z)) [a,b,c,ij N,e,f,ij S,ij (.str x),ij (.int t),ij k,u,v]=.ok [a,b,c,ij N,e,f,ij S,ij (.str x),ij (.int t),ij k,ij (.str y),ij (.str z)]:=rfl;unfold lbB;rw [Gd (ρ1:=[a,b,c,ij N,e,f,ij S,ij (.str x),ij (.int t),ij k,ij (.str y),ij (.str z)]) (by simp [h1,hg])];rw [Gd (ρ1:=[a,b,c,ij N,e,f,ij S,ij (.str x),ij (.int t),ij k,ij (.str y),ij (.str z)]) (by simp [hn,z2])];by_cases q:x=y
 ·have hq:eqD (.str x) (.str y)=.ok (.bl iu):=by simp [eqD,eqN,eqS,q]
  have l:oth (y,z) x=z:=Aa q;rw [l,Gd (ρ1:=[a,b,c,ij N,e,f,ij S,ij (.str z),ij (.int t),ij k,ij (.str y),ij (.str z)]) (by simp [hq])];simp [h2,h]
 ·have hq:eqD (.str x) (.str y)=.ok (.bl ir):=by simp [eqD,eqN,eqS,q]
  have l:oth (y,z) x=y:=Ab q;rw [l,Gd (ρ1:=[a,b,c,ij N,e,f,ij S,ij (.str y),ij (.int t),ij k,ij (.str y),ij (.str z)]) (by simp [hq])];simp [h2,h]
theorem qcc {a b c e f:Option D} {seen:List Pr} {ns:List Int} (hn:ns.length=seen.length):∀ (l:Wk) (x y:Str) (t:Int) (w u v:Option D),go seen x l=ij y->∃ T W V,kU (gNm 9) lbB (inL l) [a,b,c,ij (nD ns),e,f,ij 'n',ij (.str x),ij (.int t),w,u,v]=.ok (.nx,[a,b,c,ij (nD ns),e,f,ij 'n',ij (.str y),ij (.int (qP ns t l)),T,W,V])
 | [],x,y,t,w,u,v,h=>by cases h;exact ⟨w,u,v,rfl⟩
 | k::l,x,y,t,w,u,v,h=>by
  rw [Qr] at h;cases q:seen[k]? with
  | none=>rw [q] at h; cases h
  | some p=>
   rw [q] at h;simp only [] at h;by_cases hx:x=p.1\/x=p.2
   ·rw [Aa hx] at h;have d:k < ns.length:=by rw [hn]; exact (aB.mp q).1
    obtain ⟨T,W,V,j⟩:=qcc (a:=a) (b:=b) (c:=c) (e:=e) (f:=f) hn l (oth p x) y (nI ns k - t) (ij (.int (k:Nat))) (ij (.str p.1)) (ij (.str p.2)) h;exact ⟨T,W,V,(kE rfl (qgN (qi3 q) (qex d) hx)).trans j⟩
   ·rw [Ab hx] at h; cases h
theorem Yj (v:jw ws) (hl:KW p q) (hr:1<=r) (h9:r<=99) (hn:kA ws.length r ns) (x:Rnd 'h' 26 c) (d:WC c.2 r ns=iu):Ky [Wd ws,Ld p q,.int r,nD ns,.str c.1,lD c.2]=.ok (.bl iu,[.non,.non,.non,.non,.non,.non]):=by
 have E:(qv ws p q).length=ws.length:=by simp [qv]
 obtain ⟨hp,A,y⟩:=x;obtain ⟨w,u,V,t⟩:=qcc (a:=ij (Wd ws)) (b:=ij (Ld p q)) (c:=ij 'k') (e:=ij (.str c.1)) (f:=ij (lD c.2)) (seen:=qv ws p q) (ns:=ns) (by rw [E]; exact hn.1) c.2 c.1 c.1 0 im im im (Yi hp);have s:kz [Wd ws,Ld p q]=.ok (sD 'h',[.non,.non]):=vZ v hl;have n:wb (lD c.2)=.ok (.int c.2.length):=by simp [inL]
 have h1:leD (.int 1) (.int c.2.length)=.ok (.bl iu):=by show Out.ok (D.bl (decide _))=_;rw [Ad 'b']
 have h2:leD (.int c.2.length) (.int 40)=.ok (.bl iu):=by show Out.ok (D.bl (decide _))=_;rw [Ad 'b']
 have i:neD (.str c.1) (.str c.1)=.ok (.bl ir):=by simp [neD,eqN,eqS]
 have B:wE (.int c.2.length) (.int 2)=.ok (.int ((c.2.length % 2:Nat):Int)):=by have:=qeL (a:=(c.2.length:Int)) (r:=2) 'b' 'b';rw [this];congr 2
 refine qr.trans ?_;unfold qbi;rw [show qt qbh [Wd ws,Ld p q,.int r,nD ns,.str c.1,lD c.2]=[ij (Wd ws),ij (Ld p q),ij 'k',ij (nD ns),ij (.str c.1),ij (lD c.2),im,im,im,im,im,im] from rfl];have hit:jR (qc 5) [ij (Wd ws),ij (Ld p q),ij 'k',ij (nD ns),ij (.str c.1),ij (lD c.2),ij (sD 'h'),ij (.str c.1),ij (.int 0),im,im,im]=.ok (inL c.2,[ij (Wd ws),ij (Ld p q),ij 'k',ij (nD ns),ij (.str c.1),ij (lD c.2),ij (sD 'h'),ij (.str c.1),ij (.int 0),im,im,im]):=rfl;refine (qy (ρ1:=[ij (Wd ws),ij (Ld p q),ij 'k',ij (nD ns),ij (.str c.1),ij (lD c.2),ij (sD 'h'),im,im,im,im,im]) (by generalize sD 'h'=S at *;generalize Wd ws=W at *;generalize Ld p q=L at *;simp [s])).trans ?_;refine (qy (ρ1:=[ij (Wd ws),ij (Ld p q),ij 'k',ij (nD ns),ij (.str c.1),ij (lD c.2),ij (sD 'h'),ij (.str c.1),im,im,im,im]) 'g').trans ?_;refine (qy (ρ1:=[ij (Wd ws),ij (Ld p q),ij 'k',ij (nD ns),ij (.str c.1),ij (lD c.2),ij (sD 'h'),ij (.str c.1),ij (.int 0),im,im,im]) 'g').trans ?_;refine (qy (by rw [kh,hit,ku]; exact t)).trans ?_;unfold WC at d;generalize qP ns 0 c.2=T at *;generalize lD c.2=LD at *;generalize sD 'h'=S at *;generalize Wd ws=W at *;generalize Ld p q=L at *;generalize nD ns=N at *;refine (qy (ρ1:=[ij W,ij L,ij 'k',ij N,ij (.str c.1),ij LD,ij S,ij (.str c.1),ij (.int T),w,u,V]) (by simp [i,n,wn,h1,h2])).trans ?_;by_cases o:odd c.2=iu;·rw [Aa o] at d;have o':c.2.length % 2=1:=Ae o;obtain ⟨g,k⟩:=eX.mp d;have g:=Ae g;have k:=Ae k;have mr:=qeL (a:=r) (r:=2) 'b' 'b';have m:=qeL (a:=T) (r:=2) 'b' 'b';rw [g] at mr;rw [k] at m;rw [o'] at B;have j:eqD (.int 1) (.int 0)=.ok (.bl ir):=rfl;have h:eqD (.int 0) (.int 0)=.ok (.bl iu):=rfl;have l:eqD (.int 1) (.int 1)=.ok (.bl iu):=rfl;simp [n,B,j,mr,m,h,l]
 ·rw [Ab o] at d;have o':c.2.length % 2=0:=by
   have:¬c.2.length % 2=1:=λz=>o (Ad z)
   lia
  have g:¬T % r=0:=by simpa using d
  have m:=qeL (a:=T) hr h9;rw [o'] at B;have j:eqD (.int 0) (.int 0)=.ok (.bl iu):=rfl;have h:neD (.int (T % r)) (.int 0)=.ok (.bl iu):=by simp [neD,eqN,eqS,g]
  simp [n,B,j,m,h]
abbrev eoB:qU:=(qG (sIf (qF (d2 ui (qc 3) (d2 ixD (qc 0) (qc 4)))) (jf (dC .non)) qO)
  (jp 3 (qo [.vl,.vl] jI (qb (d2 ixD (qc 0) (qc 4)) (qb (qc 3) qw)))))
theorem qgO {k:D} {p:Pr} (h1:ixD S k=.ok (pD p)) (hx:x=p.1\/x=p.2):eoB [ij S,a,b,ij (.str x),ij k]=.ok (.nx,[ij S,a,b,ij (.str (oth p x)),ij k]):=by have hn:=XO p x;rw [Ad hx] at hn;have l:=Xw p x;generalize pD p=P at *;simp [h1,hn,l]
theorem qcd {a b:Option D} {seen:List Pr}:∀ (l:Wk) (x y:Str) (w:Option D),go seen x l=ij y->∃ T,kU (gNm 4) eoB (inL l) [ij 'n',a,b,ij (.str x),w]=.ok (.nx,[ij 'n',a,b,ij (.str y),T])
 | [],x,y,w,h=>by cases h;exact ⟨w,rfl⟩
 | k::l,x,y,w,h=>by
  rw [Qr] at h;cases q:seen[k]? with
  | none=>rw [q] at h; cases h
  | some p=>
   rw [q] at h;simp only [] at h;by_cases hx:x=p.1\/x=p.2;·rw [Aa hx] at h;obtain ⟨T,j⟩:=qcd (a:=a) (b:=b) l (oth p x) y (ij (.int (k:Nat))) h;exact ⟨T,(kE rfl (qgO (qi3 q) hx)).trans j⟩
   ·rw [Ab hx] at h; cases h
theorem qce {l:Wk} (h:go seen x l=ij y):Kl [sD seen,.str x,lD l]=.ok (.str y,[.non,.non,.non]):=by obtain ⟨T,t⟩:=qcd (a:=ij (.str x)) (b:=ij (lD l)) l x y im h;refine qr.trans ?_;unfold Xh;rw [show qt Xg [sD seen,.str x,lD l]=[ij 'n',ij (.str x),ij (lD l),im,im] from rfl];have hit:jR (qc 2) [ij 'n',ij (.str x),ij (lD l),ij (.str x),im]=.ok (inL l,[ij 'n',ij (.str x),ij (lD l),ij (.str x),im]):=rfl;refine (qy (ρ1:=[ij 'n',ij (.str x),ij (lD l),ij (.str x),im]) 'g').trans ?_;refine (qy (by rw [kh,hit,ku]; exact t)).trans ?_;simp
theorem ZX {l:Wk} (h1:1<=l.length) (h2:l.length<=40) (h:∀ k∈l,k < n):gX [lD l,.int (n:Nat)]=.ok (.bl iu,[.non,.non]):=by
 have e:=vJ (cap:=[1]) (fi:=jR (qc 0)) (ρ:=[ij (lD l),ij (.int (n:Nat))]) (ρ1:=[ij (lD l),ij (.int (n:Nat))]) (ds:=inL l) (fe:=qo [.vl,.vl,.vl] qS (qb (qc 0) (qb 'i' (qb (d2 yv (qc 1) 'f') qw)))) (λd=>.bl (wX 0 ((n:Int) - 1) d)) rfl (qV (by rw [US]; lia)) (λd hd=>by obtain ⟨i,hi,rfl⟩:=ah.mp hd;have h1:=jh (d:=.int (i:Nat)) trivial 0 ((n:Int) - 1);simp [ym,h1]);have g:=wY (wX 0 ((n:Int) - 1)) (inL l);have c:(inL l).all (wX 0 ((n:Int) - 1))=true:=by
  rw [aQ];intro d hd;obtain ⟨i,hi,rfl⟩:=ah.mp hd;have:=h i hi;simp [wX]
  lia
 rw [c] at g;have a:wb (lD l)=.ok (.int l.length):=by simp [inL]
 have f:leD (.int 1) (.int l.length)=.ok (.bl iu):=by show Out.ok (D.bl (decide _))=_;rw [Ad 'b']
 have b:leD (.int l.length) (.int 40)=.ok (.bl iu):=by show Out.ok (D.bl (decide _))=_;rw [Ad 'b']
 have ht:wI "list" (lD l)=.ok (.bl iu):=by simp [wI,tyN]; rfl
 refine qr.trans ?_;unfold Wr;rw [show qt Wq [lD l,.int (n:Nat)]=[ij (lD l),ij (.int (n:Nat))] from rfl];refine (qy (ρ1:=[ij (lD l),ij (.int (n:Nat))]) (by generalize lD l=L at *;simp [ht,wn,a,f,b])).trans ?_;generalize jk [] 1 [1] (jR (qc 0)) (gNm 0) ftT (qo [.vl,.vl,.vl] qS (qb (qc 0) (qb 'i' (qb (d2 yv (qc 1) 'f') qw))))=CC at *;generalize D.lst ((inL l).map λd=>.bl (wX 0 ((n:Int) - 1) d))=BL at *;simp [e,g]
theorem ZY (b:jw ws) (hl:KW p q) (hr:1<=r) (h9:r<=99) (hn:kA ws.length r ns) (v:Rnd 'h' 26 c) (x:WC c.2 r ns=iu):vX [Wd ws,Ld p q,.int r,nD ns,cd c]=.ok (.bl iu,[.non,.non,.non,.non,.non]):=by
 have E:(qv ws p q).length=ws.length:=by simp [qv]
 obtain ⟨hp,f,A⟩:=v;have e1:=UV b hl hr h9 hn;have t:=hp.lt;have y:=qce (Yi hp);have D:=ZX (n:=(qv ws p q).length) f 'b' t;have m:=qbu (Xv ns) (l:=c.2) (λk u=>by rw [hn.1,<-E]; exact t k u) hr;rw [x] at m;have o:c.1∈LS 'h':=by
  cases hg:c.2 with
  | nil=>rw [hg] at f; simp at f
  | cons k l=>
   have:=Yi hp;rw [hg,Qr] at this;cases q:'h'[k]? with
   | none=>rw [q] at this; cases this
   | some w=>
    rw [q] at this;simp only [] at this;by_cases hx:c.1=w.1\/c.1=w.2;·exact vY.mpr ⟨w,aP q,hx⟩
    ·rw [Ab hx] at this; cases this
 obtain ⟨ch,z,g⟩:=qgr b p q c.1 o;have i:=uQ (d:=.str c.1) trivial;rw [g,qbr z,<-g] at i;have ht:wI "tuple" (cd c)=.ok (.bl iu):=by simp [wI,tyN,cd]
 have h:wb (cd c)=.ok (.int 2):=by simp [cd]
 have e:neD (.int 2) (.int 2)=.ok (.bl ir):=rfl;have j:ixD (cd c) (.int 0)=.ok (.str c.1):=qiC;have i1:ixD (cd c) (.int 1)=.ok (lD c.2):=qiD;have a:wb (sD 'h')=.ok (.int (qv ws p q).length):=by simp [jx]
 have s:eqD (.str c.1) (.str c.1)=.ok (.bl iu):=by simp [eqD,eqN,eqS]
 refine qr.trans ?_;generalize cd c=C at *;generalize lD c.2=LD at *;generalize sD 'h'=S at *;generalize ((qv ws p q).length:Int)=n at *;generalize Wd ws=W at *;generalize Ld p q=L at *;generalize nD ns=N at *;simp [Kn,qt,e1,ht,h,e,j,i1,i,a,D,y,s,m]
theorem KR (h:qeI ca):yf ca [.xcp (ca "NoNumbers")]=.ok (.tup [.str "refused",.int 2],[.non]):=by
 refine qr.trans ?_;have m:∀ x,x∈CS->decide ((aL "NoNumbers")=x)=decide ((aL "NoNumbers")=x):=λ_ _=>rfl;have D:(aL "NoNumbers")∈CS:=by decide +kernel
 have d:=jy h (x := "NoWords") (y := "NoNumbers") (b:=ir) 'a' D 'a';have g:=jy h (x := "NoLook") (y := "NoNumbers") (b:=ir) 'a' D 'a';have q:=jy h (x := "NoNumbers") (y := "NoNumbers") (b:=iu) 'a' D 'a';have p:=jy h (x := "NoRoom") (y := "NoNumbers") (b:=ir) 'a' D 'a';have o:=jy h (x := "NoWord") (y := "NoNumbers") (b:=ir) 'a' D 'a';have l:=jy h (x := "NoWorths") (y := "NoNumbers") (b:=ir) 'a' D 'a';have k:=jy h (x := "Never") (y := "NoNumbers") (b:=ir) 'a' D 'a';have j:=jy h (x := "Full") (y := "NoNumbers") (b:=ir) 'a' D 'a';have B:=jy h (x := "Known") (y := "NoNumbers") (b:=ir) 'a' D 'a';have T:=Yg (ca:=ca) D;have c:4<=sizeLine:=qV (by omega);have a:8<=sizeLine:=qV (by omega);have z:8 < sizeLine:=aF 'd' big;have z2:2<=sizeLine:=qV (by omega);simp [xp,qt,JJ,d,g,q,p,o,l,k,j,B,T,c,a,z,z2,yj,qel,Qy,QW,vC,neD,eqN,eqS,QX,Zl,cJ,fy]
theorem Yk (h:qeI ca):yf ca [.xcp (ca "Never")]=.ok (.tup [.str "refused",.int 6],[.non]):=by
 refine qr.trans ?_;have m:∀ x,x∈CS->decide ((aL "Never")=x)=decide ((aL "Never")=x):=λ_ _=>rfl;have D:(aL "Never")∈CS:=by decide +kernel
 have d:=jy h (x := "NoWords") (y := "Never") (b:=ir) 'a' D 'a';have g:=jy h (x := "NoLook") (y := "Never") (b:=ir) 'a' D 'a';have q:=jy h (x := "NoNumbers") (y := "Never") (b:=ir) 'a' D 'a';have p:=jy h (x := "NoRoom") (y := "Never") (b:=ir) 'a' D 'a';have o:=jy h (x := "NoWord") (y := "Never") (b:=ir) 'a' D 'a';have l:=jy h (x := "NoWorths") (y := "Never") (b:=ir) 'a' D 'a';have k:=jy h (x := "Never") (y := "Never") (b:=iu) 'a' D 'a';have j:=jy h (x := "Full") (y := "Never") (b:=ir) 'a' D 'a';have B:=jy h (x := "Known") (y := "Never") (b:=ir) 'a' D 'a';have T:=Yg (ca:=ca) D;have c:4<=sizeLine:=qV (by omega);have a:8<=sizeLine:=qV (by omega);have z:8 < sizeLine:=aF 'd' big;have z2:2<=sizeLine:=qV (by omega);simp [xp,qt,JJ,d,g,q,p,o,l,k,j,B,T,c,a,z,z2,yj,qel,Qy,QW,vC,neD,eqN,eqS,QX,Zl,cJ,fy]
abbrev nn5:Sl:=[ij .non,ij .non,ij .non,ij .non,ij .non]
theorem KS (h:Pl d) (b:wX 1 99 d=ir):jB [d]=.exc "NoRoom" [ij .non]:=by have h1:=jh h 1 99;rw [b] at h1;have z1:1<=sizeLine:=qV 'b';refine qr.trans ?_;simp [vR,qt,h1,kg,z1]
theorem QJ (hr:1<=r) (h9:r<=99):jB [.int r]=.ok (.non,[.non]):=by have h1:=jh (d:=.int r) trivial 1 99;rw [show wX 1 99 'k'=iu by simp [wX]; lia] at h1;refine qr.trans ?_;simp [vR,qt,h1]
theorem zx {n r:D} (h:jC [d,n,r]=.ok (.bl ir,[.non,.non,.non])):jQ [d,n,r]=.exc "NoNumbers" [ij .non,ij .non,ij .non]:=by have z1:1<=sizeLine:=qV 'b';refine qr.trans ?_;simp [vG,qt,h,kg,z1]
theorem Qs (h:Pl d) (hn:Qh d=ir) (n r:D):jC [d,n,r]=.ok (.bl ir,[.non,.non,.non]):=by have ht:=Wz h;rw [hn] at ht;refine qr.trans ?_;simp [vU,qt,ht]
theorem Qt (h:∀ d∈ds,Pl d) (hl:ds.length<=50) (n:Nat) (r:Int) (f:ds.length≠n\/ds.all (wX 0 (r - 1))=ir):jC [.tup ds,.int (n:Nat),.int r]=.ok (.bl ir,[.non,.non,.non]):=by
 have ht:=Wz (d:=.tup ds) trivial;have e:=vJ (cap:=[2]) (fi:=jR (qc 0)) (ρ:=[ij (.tup ds),ij (.int (n:Nat)),ij 'k']) (ρ1:=[ij (.tup ds),ij (.int (n:Nat)),ij 'k']) (ds:=ds) (fe:=qo [.vl,.vl,.vl] qS (qb (qc 0) (qb 'i' (qb (d2 yv (qc 1) 'f') qw)))) (λd=>.bl (wX 0 (r - 1) d)) rfl (qV 'b') (λd hd=>by have h1:=jh (h d hd) 0 (r - 1);simp [ym,h1]);have g:=wY (wX 0 (r - 1)) ds;have a:wb (.tup ds)=.ok (.int ds.length):=by simp
 refine qr.trans ?_;unfold vU;rw [show qt zj [.tup ds,.int (n:Nat),.int r]=[ij (.tup ds),ij (.int (n:Nat)),ij 'k'] from rfl];generalize jk [] 1 [2] (jR (qc 0)) (gNm 0) ftT (qo [.vl,.vl,.vl] qS (qb (qc 0) (qb 'i' (qb (d2 yv (qc 1) 'f') qw))))=CC at *;have ht:wI "tuple" (.tup ds)=.ok (.bl iu):=ht;by_cases q:ds.length=n
 ·have c:=f.resolve_left λz=>z q;rw [c] at g;have b:neD (.int ds.length) (.int (n:Nat))=.ok (.bl ir):=by rw [q]; simp [neD,eqN,eqS]
  generalize D.lst (ds.map λd=>.bl (wX 0 (r - 1) d))=BL at *;generalize D.tup ds=T at *;simp [ht,a,b,e,g]
 ·have b:neD (.int ds.length) (.int (n:Nat))=.ok (.bl iu):=by
   have:¬(ds.length:Int)=(n:Int):=by lia
   simp [neD,eqN,eqS,this]
  generalize D.tup ds=T at *;simp [ht,a,b]
variable {L T:D}
section
variable {W R:D} {c:Str}
theorem qcf (hp:uD [W,L]=.ok (S,[.non,.non])) (hr:jB [R]=.exc c [ij .non]):jj [W,L,R,N]=.exc c nn4:=by refine qr.trans ?_;simp [vV,qt,hp,hr]
theorem qd5 {n:D} (hp:uD [W,L]=.ok (S,[.non,.non])) (hr:jB [R]=.ok (.non,[.non])) (hl:wb W=.ok n) (hn:jQ [N,n,R]=.exc c [ij .non,ij .non,ij .non]):jj [W,L,R,N]=.exc c nn4:=by refine qr.trans ?_;simp [vV,qt,hp,hr,hl,hn]
theorem KU (h:jj [W,L,R,N]=.exc c nn4):gT [W,L,R,N]=.exc c nn4:=by refine qr.trans ?_;simp [qgc,qt,h]
theorem Js (h:gT [W,L,R,N]=.exc c nn4):wV [W,L,R,N]=.exc c nn4:=by refine qr.trans ?_;simp [zM,qt,h]
theorem XQ (h:jj [W,L,R,N]=.exc c nn4):jD ca [W,L,R,N,T]=.exc c nn5:=by refine qr.trans ?_;simp [uK,qt,h]
theorem WK (h:jj [W,L,R,N]=.exc c nn4):vX [W,L,R,N,T]=.exc c nn5:=by refine qr.trans ?_;simp [Kn,qt,h]
end
noncomputable def AG (ca:Str->Addr) (b w t i wh:GF):qU:=(WP 6 (ij 5) (Gc ca CS) (qG (sIf (qF (d2 ltD (qc 0) (dC (.int 2)))) (jf (zu [.vl,.vl,.vl,.vl] (qc 0) [b,w] (qb (qc 1) (qb (qc 2) (qb (qc 3) (qb (qc 4) qw)))))) qO)
  (jf (zu [.vl,.vl,.vl,.vl,.vl] (d2 yv (qc 0) (dC (.int 2))) [t,i] (qb (qc 1) (qb (qc 2) (qb (qc 3) (qb (qc 4) (qb (dC .non) qw)))))))) (jf (qo [.vl] wh (qb (qc 5) qw))))
abbrev av:List PM:=[.val,.val,.val,.val,.val]
abbrev o5:List D:=[.non,.non,.non,.non,.non]
section
variable {b w t i wh:GF} {W R v:D} {c:Str}
theorem qjB:ltD (.int 0) (.int 2)=.ok (.bl iu)/\ltD (.int 1) (.int 2)=.ok (.bl iu)/\ltD (.int 2) (.int 2)=.ok (.bl ir)/\ltD (.int 3) (.int 2)=.ok (.bl ir):=⟨rfl,rfl,rfl,rfl⟩
theorem qgY (x y:α):atI [x,y] 0=ij x/\atI [x,y] 1=ij y:=⟨rfl,rfl⟩
theorem qlJ:yv (.int 2) (.int 2)=.ok (.int 0)/\yv (.int 3) (.int 2)=.ok (.int 1):=⟨rfl,rfl⟩
theorem qi4 (h:b [W,L,R,N]=.ok (d,[.non,.non,.non,.non])):jV Qe av (AG ca b w t i wh) [.int 0,W,L,R,N]=.ok (d,o5):=by refine qr.trans ?_;obtain ⟨a,f,_,_⟩:=qjB;simp [AG,WP,qt,a,zu,(qgY b w).1,h]
theorem qkI (h:w [W,L,R,N]=.ok (d,[.non,.non,.non,.non])):jV Qe av (AG ca b w t i wh) [.int 1,W,L,R,N]=.ok (d,o5):=by refine qr.trans ?_;obtain ⟨a,f,_,_⟩:=qjB;simp [AG,WP,qt,f,zu,(qgY b w).2,h]
theorem qeX (hi:Gc ca CS c=ij (ca c)) (a:wh [.xcp (ca c)]=.ok (v,[.non])) (h:w [W,L,R,N]=.exc c nn4):jV Qe av (AG ca b w t i wh) [.int 1,W,L,R,N]=.ok (v,o5):=by refine qr.trans ?_;obtain ⟨l,f,_,_⟩:=qjB;simp [AG,WP,qt,f,zu,(qgY b w).2,h,hi,a]
theorem qi5 (hi:Gc ca CS c=ij (ca c)) (h:wh [.xcp (ca c)]=.ok (v,[.non])) (f:b [W,L,R,N]=.exc c nn4) (h1:w [W,L,R,N]=.exc c nn4) (h2:t [W,L,R,N,.non]=.exc c nn5) (g:i [W,L,R,N,.non]=.exc c nn5):∀ k:Nat,k < 4->jV Qe av (AG ca b w t i wh) [.int (k:Nat),W,L,R,N]=.ok (v,o5):=by
 obtain ⟨d,j,a,l⟩:=qjB;obtain ⟨s2,s3⟩:=qlJ;intro k e
 match k,e with
 | 0,_=>exact qr.trans (by simp [AG,WP,qt,d,zu,(qgY b w).1,f,hi,h])
 | 1,_=>exact qeX hi h h1
 | 2,_=>exact qr.trans (by simp [AG,WP,qt,a,s2,zu,(qgY t i).1,h2,hi,h])
 | 3,_=>exact qr.trans (by simp [AG,WP,qt,l,s3,zu,(qgY t i).2,g,hi,h])
end
abbrev LY (ak se nb tl pk:GF):qU:=(qG (jp 11 (jk [1] 2 [] (jR (qc 10)) (jG 2 (qA (gNm 0) (qA (gNm 1) jF))) ftT (qc 0)))
  (qG (sIf (dOr (qF (d2 Ue (qc 9) (dC .non))) (qF (d2 neD (qc 11) (qo [.vl,.vl] se (qb (qc 2) (qb (qc 3) qw)))))) (jf (dC (.bl ir))) qO)
  (qG (sIf (dOr (qF (d2 neD (qo [.vl,.vl,.vl,.vl] nb (qb (qc 2) (qb (qc 3) (qb (qc 4) (qb (qc 10) qw))))) (qc 6))) (qF (d2 neD (qo [.vl,.vl,.vl,.vl,.vl] tl (qb (qc 2) (qb (qc 3) (qb (qc 4) (qb (qc 6) (qb (qc 10) qw)))))) (dC (.bl iu))))) (jf (dC (.bl ir))) qO)
  (qG (jp 12 (wo (qb (dC .non) (qb (d1 qcZ (qc 6)) (qb (kR (qc 6) (ij 'f') im im) (qb (d2 jZ (qc 6) (vM (qb 'i' qw))) (qb (d2 jZ (kR (qc 6) (ij 'f') im im) (vM (qb (qc 4) qw))) (qb (d2 jZ (kR (qc 6) (ij 'f') im im) (vM (qb (d1 Zl 'f') qw))) (qb (dC (.str "x")) qw)))))))))
  (qG (jp 13 (qo [.vl,.sl 1,.vl] pk (qb (qc 0) (jW (qb (d2 jZ (qc 12) (wo (qb (d2 jZ (kR (qc 6) (ij 'f') im im) (vM (qb (dC (.bl iu)) qw))) (qb (d2 jZ (kR (qc 6) (ij 'f') im im) (vM (qb (dC (.str "0")) qw))) qw)))) qw)))))
  (qG (sIf (qF (d2 neD (jk [1] 1 [2,3,4,13] (jo (dC (.int 4))) (gNm 0) ftT (qo [.vl,.vl,.vl,.vl,.vl] ak (qb (qc 0) (qb (qc 1) (qb (qc 2) (qb (qc 3) (qb (qc 4) qw))))))) (d2 qer (wo λρ=>.ok ([(.tup [(.str "refused"),(.int 2)])],ρ)) (dC (.int 4))))) (jf (dC (.bl ir))) qO)
  (qG (jp 13 (qo [.vl,.sl 1,.vl] pk (qb (qc 0) (jW (qb (wo (qb 'i' (qb (dC (.int 100)) (qb (d1 Zl 'f') (qb (dC .non) (qb (dC (.bl iu)) (qb (dC (.str "1")) qw))))))) qw)))))
  (jf (d2 eqD (jk [1] 1 [2,3,13] (jo (dC (.int 4))) (gNm 0) ftT (qo [.vl,.vl,.vl,.vl,.vl] ak (qb (qc 0) (qb (qc 1) (qb (qc 2) (qb (qc 3) (qb (dC .non) qw))))))) (d2 qer (wo λρ=>.ok ([(.tup [(.str "refused"),(.int 3)])],ρ)) (dC (.int 4))))))))))))
noncomputable def LT (so ak lb ib se nb tl pk:GF):qU:=(qG (jp 8 (qo [.vl,.vl,.vl,.vl] so (qb (qc 2) (qb (qc 3) (qb (qc 4) (qb (qc 6) qw))))))
  (qG (jp 9 (qo [.vl,.vl,.vl,.vl,.vl] ak (qb 'i' (qb (qc 2) (qb (qc 3) (qb (qc 4) (qb (qc 6) qw)))))))
  (qG (jp 10 (qo [.vl,.vl,.vl,.vl,.vl] ak (qb 'f' (qb (qc 2) (qb (qc 3) (qb (qc 4) (qb (qc 6) qw)))))))
  (qG (sIf (qF (d2 qcl (qc 8) (dC .non))) (qG (sIf (dOr (qF (d2 neD (qc 10) (vM (qb (dC (.str "refused")) (qb (dC (.int 6)) qw))))) (dOr (yw (uh (d1 (wI "tuple") (qc 9)))) (yw (uh (d1 (wI "list") (d2 ixD (qc 9) 'f')))))) (jf (dC (.bl ir))) qO)
  (qG (sIf (yw (uh (qo [.vl,.vl,.vl,.vl,.vl,.vl] lb (qb (qc 2) (qb (qc 3) (qb (qc 4) (qb (qc 6) (qb (d2 ixD (qc 9) 'i') (qb (d2 ixD (qc 9) 'f') qw))))))))) (jf (dC (.bl ir))) qO)
  (jf (d2 eqD (qo [.vl,.vl,.vl,.vl,.vl] ib (qb (qc 2) (qb (qc 3) (qb (qc 4) (qb (qc 6) (qb (qc 9) qw)))))) (dC (.bl iu)))))) qO)
  (LY ak se nb tl pk)))))
variable {t:List D} {x5 x7:Option D}
section
variable {so ak lb ib se nb tl pk:GF} {Z W R st wk:D}
theorem qcg (h1:so [W,L,R,N]=.ok (.non,[.non,.non,.non,.non])) (h2:ak [.int 0,W,L,R,N]=.ok (C,o5)) (g:ak [.int 1,W,L,R,N]=.ok (.tup [.str "refused",.int 6],o5)) (b:wI "tuple" C=.ok (.bl iu)) (l:ixD C (.int 0)=.ok st) (h6:ixD C (.int 1)=.ok wk) (a:wI "list" wk=.ok (.bl iu))
  (h:lb [W,L,R,N,st,wk]=.ok (.bl iu,[.non,.non,.non,.non,.non,.non])) (h9:ib [W,L,R,N,C]=.ok (.bl iu,o5)) :
  KZ [.val] (LT so ak lb ib se nb tl pk [ij Z,ij (.lst t),ij W,ij L,ij R,x5,ij N,x7,im,im,im,im,im,im])=.ok (.bl iu,[.non]):=by
 have z2:2<=sizeLine:=qV 'b';have e:neD (.tup [.str "refused",.int 6]) (.tup [.str "refused",.int 6])=.ok (.bl ir):=by simp [neD,eqN,ud,eqS]
 have s:eqD (.bl iu) (.bl iu)=.ok (.bl iu):=rfl;unfold LT;generalize LY ak se nb tl pk=Y at *;refine (qy (ρ1:=[ij Z,ij (.lst t),ij W,ij L,ij R,x5,ij N,x7,ij .non,im,im,im,im,im]) (by simp [h1])).trans ?_;refine (qy (ρ1:=[ij Z,ij (.lst t),ij W,ij L,ij R,x5,ij N,x7,ij .non,ij C,im,im,im,im]) (by simp [h2])).trans ?_;refine (qy (ρ1:=[ij Z,ij (.lst t),ij W,ij L,ij R,x5,ij N,x7,ij .non,ij C,ij (.tup [.str "refused",.int 6]),im,im,im]) (by simp [g])).trans ?_;simp [e,z2,b,h6,a,l,h,h9,s]
end
variable {od R':D}
section
variable {so ak lb ib se nb tl pk:GF} {Z W R SL NL N1 A4 A5 A6 A8 A9 od2:D} {t1 t2:List D}
abbrev q2D:D:=.tup [.str "refused",.int 2]
abbrev q3D:D:=.tup [.str "refused",.int 3]
theorem qlb (ρ:Sl):jo (dC (.int 4)) ρ=.ok ([.int 0,.int 1,.int 2,.int 3],ρ):=by have:=iR0 (f:=dC (.int 4)) (ρ:=ρ) (ρ1:=ρ) (k:=4) 'b' 'b' rfl;rw [this];rfl
theorem qlc {v W L:D} (h:∀ k:Nat,k < 4->ak [.int (k:Nat),W,L,R',od]=.ok (v,o5)):∀ d∈([.int 0,.int 1,.int 2,.int 3]:List D),ak [d,W,L,R',od]=.ok (v,o5):=λd hd=>by
 have a:=h 0 'b';have h1:=h 1 'b';have h2:=h 2 'b';have g:=h 3 'b';rcases ac.mp hd with rfl | hd;·exact a
 ·rcases ac.mp hd with rfl | hd;·exact h1
  ·rcases ac.mp hd with rfl | hd;·exact h2
   ·rw [au.mp hd]; exact g
theorem qi6 {v:D} {x8 x9 x10 x11 x12:Option D} (h:∀ k:Nat,k < 4->ak [.int (k:Nat),W,L,R,od]=.ok (v,o5)):jk [1] 1 [2,3,4,13] (jo (dC (.int 4))) (gNm 0) ftT (qo [.vl,.vl,.vl,.vl,.vl] ak (qb (qc 0) (qb (qc 1) (qb (qc 2) (qb (qc 3) (qb (qc 4) qw)))))) [ij Z,ij (.lst t),ij W,ij L,ij R,x5,ij N,x7,x8,x9,x10,x11,x12,ij od]=.ok (.lst [v,v,v,v],[ij Z,ij (.lst t),ij W,ij L,ij R,x5,ij N,x7,x8,x9,x10,x11,x12,ij od]):=
 UP (own:=[1]) (cap:=[2,3,4,13]) (λ_=>v) 'g' (qlb _) (qV 'g') λd hd=>by have:=qlc h d hd;simp [this]
theorem qi7 {v:D} {x8 x9 x10 x11 x12:Option D} (h:∀ k:Nat,k < 4->ak [.int (k:Nat),W,L,R',.non]=.ok (v,o5)):jk [1] 1 [2,3,13] (jo (dC (.int 4))) (gNm 0) ftT (qo [.vl,.vl,.vl,.vl,.vl] ak (qb (qc 0) (qb (qc 1) (qb (qc 2) (qb (qc 3) (qb (dC .non) qw)))))) [ij Z,ij (.lst t),ij W,ij L,ij R,x5,ij N,x7,x8,x9,x10,x11,x12,ij R']=.ok (.lst [v,v,v,v],[ij Z,ij (.lst t),ij W,ij L,ij R,x5,ij N,x7,x8,x9,x10,x11,x12,ij R']):=
 UP (own:=[1]) (cap:=[2,3,13]) (λ_=>v) 'g' (qlb _) (qV 'g') λd hd=>by have:=qlc (od:=.non) h d hd;simp [this]
abbrev Ge (N NL N1 A4 A5 A6:D):List D:=[.non,NL,N1,A4,A5,A6,.str "x"]
theorem qch (h1:so [W,L,R,N]=.ok (.dct m,[.non,.non,.non,.non])) (h2:ak [.int 0,W,L,R,N]=.ok (.non,o5)) (y:ak [.int 1,W,L,R,N]=.ok (T,o5))
  (x:∀ (j B b a12 a:Option D),jk [1] 2 [] (jR (qc 10)) (jG 2 (qA (gNm 0) (qA (gNm 1) jF))) ftT (qc 0) [ij Z,ij (.lst t),ij W,ij L,ij R,x5,ij N,x7,j,B,ij T,b,a12,a]=.ok (SL,[ij Z,ij (.lst t),ij W,ij L,ij R,x5,ij N,x7,j,B,ij T,b,a12,a]))
  (w:se [W,L]=.ok (SL,[.non,.non])) (eS:neD SL SL=.ok (.bl ir)) (c:nb [W,L,R,T]=.ok (N,[.non,.non,.non,.non])) (eN:neD N N=.ok (.bl ir)) (l:tl [W,L,R,N,T]=.ok (.bl iu,o5))
  (hl:qcZ N=.ok NL) (e:slD (ij 1) im im N=.ok N1) (u:jZ N (.tup [.int 0])=.ok A4) (r:jZ N1 (.tup [R])=.ok A5) (q:jZ N1 (.tup [.int (-1)])=.ok A6) (o:jZ N1 (.tup [.bl iu])=.ok A8) (p:jZ N1 (.tup [.str "0"])=.ok A9)
  (k1:pk [Z,.lst t,.lst (Ge N NL N1 A4 A5 A6++[A8,A9])]=.ok (od,[.non,.lst t1,.non])) (C:∀ k:Nat,k < 4->ak [.int (k:Nat),W,L,R,od]=.ok (q2D,o5))
  (k2:pk [Z,.lst t1,.lst [.int 0,.int 100,.int (-1),.non,.bl iu,.str "1"]]=.ok (od2,[.non,.lst t2,.non])) (A:∀ k:Nat,k < 4->ak [.int (k:Nat),W,L,od2,.non]=.ok (q3D,o5)) :
  KZ [.val] (LT so ak lb ib se nb tl pk [ij Z,ij (.lst t),ij W,ij L,ij R,x5,ij N,x7,im,im,im,im,im,im])=.ok (.bl iu,[.non]):=by
 have z1:1<=sizeLine:=qV 'b';have z2:2<=sizeLine:=qV 'b';have i:6<=sizeLine:=qV 'b';have g:7<=sizeLine:=qV 'b';have z:9<=sizeLine:=qV 'b';have n:Zl (.int 1)=.ok (.int (-1)):=rfl;have nt:neD (.bl iu) (.bl iu)=.ok (.bl ir):=rfl;have d:jZ (.lst (Ge N NL N1 A4 A5 A6)) (.lst [A8,A9])=.ok (.lst (Ge N NL N1 A4 A5 A6++[A8,A9])):=by simp [z]
 have f:=λx8 x9 x10 x11 x12=>qi6 (ak:=ak) (Z:=Z) (W:=W) (L:=L) (R:=R) (N:=N) (od:=od) (t:=t1) (x5:=x5) (x7:=x7) (x8:=x8) (x9:=x9) (x10:=x10) (x11:=x11) (x12:=x12) C;have c2:=λx8 x9 x10 x11 x12=>qi7 (ak:=ak) (Z:=Z) (W:=W) (L:=L) (R:=R) (N:=N) (R':=od2) (t:=t2) (x5:=x5) (x7:=x7) (x8:=x8) (x9:=x9) (x10:=x10) (x11:=x11) (x12:=x12) A;have m1:qer (.lst [q2D]) (.int 4)=.ok (.lst [q2D,q2D,q2D,q2D]):=by kernel_rfl
 have v:qer (.lst [q3D]) (.int 4)=.ok (.lst [q3D,q3D,q3D,q3D]):=by kernel_rfl
 have n1:neD (.lst [q2D,q2D,q2D,q2D]) (.lst [q2D,q2D,q2D,q2D])=.ok (.bl ir):=by kernel_rfl
 have n2:eqD (.lst [q3D,q3D,q3D,q3D]) (.lst [q3D,q3D,q3D,q3D])=.ok (.bl iu):=by kernel_rfl
 have sl:∀ ρ:Sl,ρ[6]?=ij (ij N)->kR (qc 6) (ij 'f') im im ρ=.ok (N1,ρ):=λρ h=>by simp [kR,JH,qc,h,e]
 unfold LT LY;refine (qy (ρ1:=[ij Z,ij (.lst t),ij W,ij L,ij R,x5,ij N,x7,ij (.dct m),im,im,im,im,im]) (by simp [h1])).trans ?_;refine (qy (ρ1:=[ij Z,ij (.lst t),ij W,ij L,ij R,x5,ij N,x7,ij (.dct m),ij .non,im,im,im,im]) (by simp [h2])).trans ?_;refine (qy (ρ1:=[ij Z,ij (.lst t),ij W,ij L,ij R,x5,ij N,x7,ij (.dct m),ij .non,ij T,im,im,im]) (by simp [y])).trans ?_;refine (qy (ρ1:=[ij Z,ij (.lst t),ij W,ij L,ij R,x5,ij N,x7,ij (.dct m),ij .non,ij T,im,im,im]) 'g').trans ?_;refine (qy (ρ1:=[ij Z,ij (.lst t),ij W,ij L,ij R,x5,ij N,x7,ij (.dct m),ij .non,ij T,ij SL,im,im]) (by rw [gE,x]; rfl)).trans ?_;refine (qy (ρ1:=[ij Z,ij (.lst t),ij W,ij L,ij R,x5,ij N,x7,ij (.dct m),ij .non,ij T,ij SL,im,im]) (by simp [w,eS])).trans ?_;refine (qy (ρ1:=[ij Z,ij (.lst t),ij W,ij L,ij R,x5,ij N,x7,ij (.dct m),ij .non,ij T,ij SL,im,im]) (by simp [c,eN,l,nt])).trans ?_;generalize kR (qc 6) (ij 'f') im im=SLf at *;refine (qy (ρ1:=[ij Z,ij (.lst t),ij W,ij L,ij R,x5,ij N,x7,ij (.dct m),ij .non,ij T,ij SL,ij (.lst (Ge N NL N1 A4 A5 A6)),im]) (by have s:=sl [ij Z,ij (.lst t),ij W,ij L,ij R,x5,ij N,x7,ij (.dct m),ij .non,ij T,ij SL,im,im] rfl;simp [hl,s,z1,u,r,n,q,g])).trans ?_;refine (qy (ρ1:=[ij Z,ij (.lst t1),ij W,ij L,ij R,x5,ij N,x7,ij (.dct m),ij .non,ij T,ij SL,ij (.lst (Ge N NL N1 A4 A5 A6)),ij od]) (by have s:=sl [ij Z,ij (.lst t),ij W,ij L,ij R,x5,ij N,x7,ij (.dct m),ij .non,ij T,ij SL,ij (.lst (Ge N NL N1 A4 A5 A6)),im] rfl;generalize Ge N NL N1 A4 A5 A6++[A8,A9]=B9 at *;generalize Ge N NL N1 A4 A5 A6=B7 at *;simp [s,z1,z2,o,p,d,k1])).trans ?_;generalize Ge N NL N1 A4 A5 A6=B7 at *;have f:=f (ij (.dct m)) (ij .non) (ij T) (ij SL) (ij (.lst B7));have c2:=c2 (ij (.dct m)) (ij .non) (ij T) (ij SL) (ij (.lst B7));generalize jk [1] 1 [2,3,4,13] (jo (dC (.int 4))) (gNm 0) ftT (qo [.vl,.vl,.vl,.vl,.vl] ak (qb (qc 0) (qb (qc 1) (qb (qc 2) (qb (qc 3) (qb (qc 4) qw))))))=CA at *;generalize jk [1] 1 [2,3,13] (jo (dC (.int 4))) (gNm 0) ftT (qo [.vl,.vl,.vl,.vl,.vl] ak (qb (qc 0) (qb (qc 1) (qb (qc 2) (qb (qc 3) (qb (dC .non) qw))))))=CB at *;refine (qy (ρ1:=[ij Z,ij (.lst t1),ij W,ij L,ij R,x5,ij N,x7,ij (.dct m),ij .non,ij T,ij SL,ij (.lst B7),ij od]) (by generalize D.lst [q2D,q2D,q2D,q2D]=Q4 at *;simp [f,z1,m1,n1])).trans ?_;refine (qy (ρ1:=[ij Z,ij (.lst t2),ij W,ij L,ij R,x5,ij N,x7,ij (.dct m),ij .non,ij T,ij SL,ij (.lst B7),ij od2]) (by simp [n,i,k2])).trans ?_;generalize D.lst [q3D,q3D,q3D,q3D]=Q4 at *;simp [c2,z1,v,n2]
end
theorem qeY (S:Sn seen W) (hr:1<=r):BO W seen r ns=im↔∃ v,Sol seen r ns v:=by
 constructor
 ·intro h;have hx:∀ x,∃ s,s∈ch W seen r ns x:=λx=>by
   unfold ch rW;split;·exact ⟨0,ah.mpr ⟨0,bv.mpr (by omega),rfl⟩⟩
   ·split;·exact ⟨_,ap ..⟩
    ·exact ⟨_,ap ..⟩
  exact ⟨_,qbH S (σ:=λx=>(hx x).choose) λc d=>((qgD hr h c.1 _).mp (hx c.1).choose_spec).2 c d rfl⟩
 ·rintro ⟨v,h⟩;exact qbN S h
theorem qd6 (w:jw ws) (hl:KW p q) (f:1<=r) (h9:r<=99) {l:Ln} (k:qp l=LS 'h') (v:∀ e∈l,0<=e.2/\e.2 < r):kM [Wd ws,Ld p q,.int r,.tup (prL l)]=.ok (nD (ua l 'h' r),[.non,.non,.non,.non]):=by
 have o:OkW r l:=λx hx=>by obtain ⟨c,a,e⟩:=qgr w p q x.1 (by rw [<-k]; exact ah.mpr ⟨x,hx,rfl⟩);have:=v x hx;exact ⟨by rw [e]; exact qbr a,this.1,this.2⟩
 have h:UZ l=true:=by unfold UZ;rw [XF];refine Yd _ ?_;rw [k];exact (ji _).and (qbF _)
 have b:wX 1 99 'k'=true:=by
  simp [wX]
  lia
 have n:l.length<=12:=by
  have h1:=WB w p q;have e:l.length=(LS 'h').length:=by rw [<-k]; simp [qp]
  lia
 have hi:=(WF (ds:=prL l) (λd hd=>by
  obtain ⟨x,_,rfl⟩:=ah.mp hd;refine ⟨trivial,λxs e y D=>?_⟩;cases e;rcases ac.mp D with rfl | D;·trivial
  ·rw [au.mp D];trivial) (by simp [prL]; lia) r).2 l rfl o
 rw [h] at hi;rw [Ye w hl b o h hi,Aa (by rw [aQ];intro x hx;rw [k];exact Ad hx)];unfold qjA ua nD;rw [bg];rfl
theorem XR (h:eqD d d=.ok (.bl iu)):neD d d=.ok (.bl ir):=by
 unfold eqD at h;unfold neD;cases q:eqN 8 d d with
 | none=>rw [q] at h; cases h
 | some b=>rw [q] at h;have:b=true:=D.bl.inj (Out.ok.inj h);rw [this];rfl
abbrev sB:qU:=(YV 6 (qo [.vl,.sl 1,.vl] jE (qb (qc 0) (jW (qb (qc 4) qw)))) (qo [.vl,.sl 1,.vl] jE (qb (qc 0) (jW (qb (d1 wb (qc 2)) qw)))))
theorem qeZ (n:List Int) (B:1<=ws.length) (hr:1<=r) (a b:Option D) (q p l g f e:Option D):∀ (ks:List D) (t:List D) (ns:List Int) (x:Option D),t.length+2 * ks.length < 900->kA ws.length r ns ->∃ (c:List D) (d:List Int) (s:Option D),c.length=t.length+2 * ks.length/\kA ws.length r d/\kU (gNm 7) sB ks [ij (scr n),ij (.lst t),ij (Wd ws),a,ij 'k',b,ij (iD ns),x,q,p,l,g,f,e]=.ok (.nx,[ij (scr n),ij (.lst c),ij (Wd ws),a,ij 'k',b,ij (iD d),s,q,p,l,g,f,e])
 | [],t,ns,x,_,h=>⟨t,ns,x,by simp,h,rfl⟩
 | k::ks,t,ns,x,ht,h=>by
  rw [ao] at ht;obtain ⟨v,z,w,g1⟩:=vI n t (many:=r) 'b' 'b';obtain ⟨i,A,i1,Z⟩:=vI n (t++[.int 0]) (many:=(ws.length:Int)) 'b' (by rw [af]; simp; lia);obtain ⟨j,rfl⟩:=Int.eq_ofNat_of_zero_le A;have H:j < ns.length:=by rw [h.1]; lia
  have h':kA ws.length r (ns.set j v):=⟨by rw [dg]; exact h.1,λy u=>by
   rcases List.mem_or_eq_of_mem_set u with u | rfl;·exact h.2 y u
   ·exact ⟨z,w⟩⟩
  obtain ⟨c,d,s,G,E,C⟩:=qeZ n B hr a b q p l g f e ks (t++[.int 0]++[.int 0]) (ns.set j v) (ij k) (by rw [af,af]; simp; lia) h';refine ⟨c,d,s,by rw [G,af,af,ao]; simp; lia,E,dN (kE (ρ1:=[ij (scr n),ij (.lst t),ij (Wd ws),a,ij 'k',b,ij (iD ns),ij k,q,p,l,g,f,e]) rfl ?_) C⟩;have V:ixN (ns.map D.int).length (j:Int)=ij j:=by unfold ixN;rw [ay,Aa 'b',Aa 'b',fF]
  have m:(ns.map D.int).set j (.int v)=(ns.set j v).map D.int:=by rw [List.map_set]
  have o:wb (Wd ws)=.ok (.int (ws.length:Int)):=by simp
  generalize Wd ws=W' at *;simp only [sB,YV];simp only [qdr,qdp,qdq,qfZ,qay,qdo,List.getElem?_cons_succ,List.getElem?_cons_zero,ku];simp [g1,o,Z];simp at V m;simp [V,m]
theorem Jt (ca:Str->Addr):Qf ca=jV Qe av (AG ca gT wV (jD ca) vX (yf ca)):=rfl
theorem qci {W R:D} (h:gT [W,L,R,N]=.ok (cd c,[.non,.non,.non,.non])):wV [W,L,R,N]=.exc "Never" nn4:=by
 have hn:Ue (cd c) .non=.ok (.bl iu):=by simp [cd]
 have z1:1<=sizeLine:=qV 'b';refine qr.trans ?_;generalize cd c=C at *;simp [zM,qt,h,hn,kg,z1]
theorem qi8 (h1:1<=ns.length) (h6:ns.length<=6):slD (ij 1) im im (nD ns)=.ok (nD ns.tail):=by
 match ns,h1,h6 with
 | [a],_,_=>kernel_rfl
 | [a,b],_,_=>kernel_rfl
 | [a,b,c],_,_=>kernel_rfl
 | [a,b,c,d],_,_=>kernel_rfl
 | [a,b,c,d,e],_,_=>kernel_rfl
 | [a,b,c,d,e,f],_,_=>kernel_rfl
theorem qgP (hn:kA n r ns) (n1:1<=n) (a:n<=6) {od:D}
  (h:od∈Ge (nD ns) (.lst (ns.map D.int)) (nD ns.tail) (.tup (ns.map D.int++[.int 0])) (.tup (ns.tail.map D.int++[.int r])) (.tup (ns.tail.map D.int++[.int (-1)]))++[.tup (ns.tail.map D.int++[.bl iu]),.tup (ns.tail.map D.int++[.str "0"])]):jC [od,.int (n:Nat),.int r]=.ok (.bl ir,[.non,.non,.non]):=by
 have hl:=hn.1;have ht:ns.tail.length=n - 1:=by rw [List.length_tail,hl]
 have pi:∀ (l:List Int) (d:D),Pl d->∀ x∈l.map D.int++[d],Pl x:=λl d hd x hx=>by
  rcases aj.mp hx with hx | hx;·obtain ⟨i,_,rfl⟩:=ah.mp hx; trivial
  ·rw [au.mp hx]; exact hd
 have bad:∀ d:D,Pl d->wX 0 (r - 1) d=ir->jC [.tup (ns.tail.map D.int++[d]),.int (n:Nat),.int r]=.ok (.bl ir,[.non,.non,.non]):=λd hd b=>
  Qt (pi _ _ hd) (by simp; lia) n r (.inr (by rw [List.all_append]; simp [b]))
 simp only [Ge,dH,cm,ac,aN,or_false] at h;rcases h with rfl | rfl | rfl | rfl | rfl | rfl | rfl | rfl | rfl;·exact Qs (d:=.non) trivial rfl _ _
 ·exact Qs (d:=.lst (ns.map D.int)) trivial rfl _ _
 ·exact Qt (ds:=ns.tail.map D.int) (λd hd=>by obtain ⟨i,_,rfl⟩:=ah.mp hd; trivial) (by simp; lia) n r (.inl (by simp; lia))
 ·exact Qt (pi _ (.int 0) trivial) (by simp; lia) n r (.inl (by simp; lia))
 ·exact bad _ trivial (by simp [wX]; lia)
 ·exact bad _ trivial (by simp [wX])
 ·exact Qs (d:=.str "x") trivial rfl _ _
 ·exact bad _ trivial rfl
 ·exact bad _ trivial rfl
theorem qd7 (h:od∈([.int 0,.int 100,.int (-1),.non,.bl iu,.str "1"]:List D)):Pl od/\wX 1 99 od=false:=by
 simp only [ac,aN,or_false] at h;rcases h with rfl | rfl | rfl | rfl | rfl | rfl;·exact ⟨trivial,by simp [wX]⟩
 ·exact ⟨trivial,by simp [wX]⟩
 ·exact ⟨trivial,by simp [wX]⟩
 ·exact ⟨trivial,rfl⟩
 ·exact ⟨trivial,rfl⟩
 ·exact ⟨trivial,rfl⟩
theorem qgQ (j:qeI ca) (b:List Int) (T:Told ws p q r ns) (ht:t.length < 900) (x5 x7:Option D):KZ [.val] (LT zO (Qf ca) Ky vX ki kM (jD ca) uL [ij (scr b),ij (.lst t),ij (Wd ws),ij (Ld p q),ij 'k',x5,ij (nD ns),x7,im,im,im,im,im,im])=.ok (.bl iu,[.non]):=by
 have h:=T.w;have hl:=T.l;have hr:=T.r0;have h9:=T.r9;have hn:=T.n;have O:=h.1;have G:=h.2.1;obtain ⟨W,S⟩:=qkv h p q;have g:=qeC h hl hr h9 hn S;obtain ⟨d,es,hd⟩:=qd2 h hl hr h9 hn;have hit:∀ c∈CS,Gc ca CS c=ij (ca c):=λc E=>qiR E;cases B:BO W 'h' r ns with
 | some c=>
  rw [B] at g;have g:gT [Wd ws,Ld p q,.int r,nD ns]=.ok (cd c,[.non,.non,.non,.non]):=g;have L:¬∃ v,Sol 'h' r ns v:=λz=>by rw [(qeY S hr).mpr z] at B;cases B
  have Y:d=.non:=by
   rcases hd with ⟨z,_⟩ | ⟨_,z⟩
   ·exact z
   ·exact absurd z L
  rw [Y] at es;obtain ⟨E,J⟩:=qi2 S B;refine qcg es (by rw [Jt]; exact qi4 g) (by rw [Jt]; exact qeX (hit "Never" 'a') (Yk j) (qci g)) ?_ qiC qiD ?_ (Yj h hl hr h9 hn E J) (ZY h hl hr h9 hn E J);·simp [wI,tyN,cd]
  ·simp [wI,tyN]; rfl
 | none=>
  rw [B] at g;have g:gT [Wd ws,Ld p q,.int r,nD ns]=.ok (.non,[.non,.non,.non,.non]):=g;have hex:=(qeY S hr).mp B;obtain ⟨m,rfl⟩:∃ m,d=.dct m:=by
   rcases hd with ⟨_,z⟩ | ⟨z,_⟩
   ·exact absurd hex z
   ·exact z
  obtain ⟨l,M,H⟩:=qbX h hl hr h9 hn S B;obtain ⟨m1,R⟩:=bF.mp M;have i:=((KL hr).mp m1).1;have U:=((KL hr).mp m1).2;have u:=qd6 h hl hr h9 i U;rw [Ae R] at u;have o:=qgH (ca:=ca) T u;rw [Ad rfl] at o;have I:ki [Wd ws,Ld p q]=.ok (.lst ((LS 'h').map D.str),[.non,.non]):=Yh h hl;have eS:neD (.lst ((LS 'h').map D.str)) (.lst ((LS 'h').map D.str))=.ok (.bl ir):=XR (by rw [XD,Ad rfl]);have eN:neD (nD ns) (nD ns)=.ok (.bl ir):=XR (by rw [XG,Ad rfl]);have s:=KG h hl;have y:wb (Wd ws)=.ok (.int ws.length):=by simp
  have f:ns.tail.length<=6:=by rw [List.length_tail,hn.1]; lia
  have ad:∀ (a:List D) (x:D),a.length<=6->jZ (.tup a) (.tup [x])=.ok (.tup (a++[x])):=λa x F=>Aa (qV (by simp; lia));obtain ⟨od,V,k1⟩:=Qg b t (Ge (nD ns) (.lst (ns.map D.int)) (nD ns.tail) (.tup (ns.map D.int++[.int 0])) (.tup (ns.tail.map D.int++[.int r])) (.tup (ns.tail.map D.int++[.int (-1)]))++[.tup (ns.tail.map D.int++[.bl iu]),.tup (ns.tail.map D.int++[.str "0"])]) 'g' 'b';obtain ⟨od2,K,k2⟩:=Qg b (t++[.int 0]) [.int 0,.int 100,.int (-1),.non,.bl iu,.str "1"] 'g' (by rw [af]; simp; lia);have tn:=qd5 s (QJ hr h9) y (zx (qgP hn O G V));obtain ⟨pl,Z⟩:=qd7 K;have tr:=qcf (N:=.non) s (KS pl Z);refine qch es (by rw [Jt]; exact qi4 g) (by rw [Jt]; exact qkI H) (λQ P C a12 A=>?_) I eS u eN o rfl (qi8 (by rw [hn.1]; exact O) (by rw [hn.1]; exact G)) (ad _ _ (by rw [ay,hn.1]; exact G)) (ad _ _ (by rw [ay]; exact f)) (ad _ _ (by rw [ay]; exact f)) (ad _ _ (by rw [ay]; exact f)) (ad _ _ (by rw [ay]; exact f)) k1
   (λk i=>by rw [Jt]; exact qi5 (hit "NoNumbers" 'a') (KR j) (KU tn) (Js (KU tn)) (XQ tn) (WK tn) k i) k2
   (λk i=>by rw [Jt]; exact qi5 (hit "NoRoom" 'a') (ZV j) (KU tr) (Js (KU tr)) (XQ tr) (WK tr) k i)
  have X:l.length<=12:=by
   have h1:=WB h p q;have e:l.length=(LS 'h').length:=by rw [<-i]; simp [qp]
   lia
  have:=qbp (own:=[1]) (cap:=[]) (fi:=jR (qc 10)) (fe:=qc 0) (ft:=ftT) (ρ:=[ij (scr b),ij (.lst t),ij (Wd ws),ij (Ld p q),ij 'k',x5,ij (nD ns),x7,Q,P,ij (.tup (prL l)),C,a12,A]) (ρ1:=[ij (scr b),ij (.lst t),ij (Wd ws),ij (Ld p q),ij 'k',x5,ij (nD ns),x7,Q,P,ij (.tup (prL l)),C,a12,A]) (ps:=l.map λe=>(.str e.1,.int e.2)) (λ_=>iu) (λp=>p.1) 'g' (by show Out.ok (prL l,_)=_;rw [bg];rfl) (qV (by rw [ay]; lia)) (λ_ _=>rfl) (λ_ _ _=>rfl);rw [this,<-i];congr 2;rw [dL.mpr λ_ _=>rfl,bg];unfold qp;rw [bg];rfl
theorem qi9 (L:qeI ca) (n:List Int):qdQ ca [scr n]=.ok (.bl iu,[.non]):=by
 refine qr.trans ?_;obtain ⟨ws,t1,w,z,g1⟩:=qdT n [] 'g';rw [aX] at z;obtain ⟨p,q,t2,hl,Q,Z⟩:=qgq n t1 'b';obtain ⟨pk,o,Y⟩:=Qg n t2 [.int 2,.int 4,.int 9,.int 99] 'g' 'b';obtain ⟨mx,rfl,mx1,mx2⟩:∃ k:Int,pk=.int k/\1<=k/\k<=99:=by
  simp only [ac,aN,or_false] at o;rcases o with rfl | rfl | rfl | rfl;·exact ⟨2,rfl,by lia,by lia⟩
  ·exact ⟨4,rfl,by lia,by lia⟩
  ·exact ⟨9,rfl,by lia,by lia⟩
  ·exact ⟨99,rfl,by lia,by lia⟩
 obtain ⟨r',r0,r1,V⟩:=vI n (t2++[.int 0]) (many:=mx) 'b' (by rw [af]; simp; lia);have T:=WB w p q;obtain ⟨es,c,x5,k5,b5,i,F⟩:=Jm n (room:=1+r') 'b' (LS 'h') (t2++[.int 0]++[.int 0]) im (by rw [af,af]; simp; lia);rw [af,af] at i;simp at i;have J:(qp es).Nodup:=by rw [k5]; exact qbF _
 have hd:=XB J;have I:ki [Wd ws,Ld p q]=.ok (.lst ((LS 'h').map D.str),[.non,.non]):=Yh w hl;have G:kz [Wd ws,Ld p q]=.ok (sD 'h',[.non,.non]):=vZ w hl;have E:(qv ws p q).length=ws.length:=by simp [qv]
 have P:=w.2.1;have K:kA ws.length (1+r') (ua es 'h' (1+r')):=⟨by unfold ua; rw [ay,E],λy v=>by obtain ⟨x,_,rfl⟩:=ah.mp v;exact ⟨ck _ 'b',bX _ 'b'⟩⟩
 obtain ⟨m,m0,m3,U⟩:=vI n c (many:=3) 'b' 'b';have j:(zr 0 m.toNat).length=m.toNat:=by simp [zr]
 obtain ⟨u,ns,x7,e,H,W⟩:=qeZ n (ws:=ws) w.1 (r:=1+r') 'b' (ij (Ld p q)) (ij (.dct (bk es))) im im im im im im (zr 0 m.toNat) (c++[.int 0]) _ im (by rw [j,af]; simp; lia) K;rw [j,af] at e;simp at e;have d:=qgQ L n (t:=u) ⟨w,P,hl,by lia,by lia,H⟩ 'b' (ij (.dct (bk es))) x7;have O:4<=sizeLine:=qV 'b';have M:jZ (.int 1) (.int r')=.ok (.int (1+r')):=rfl;unfold qgm;rw [show qt qgl [scr n]=[ij (scr n),im,im,im,im,im,im,im,im,im,im,im,im,im] from rfl];refine (qy (ρ1:=[ij (scr n),ij (.lst []),im,im,im,im,im,im,im,im,im,im,im,im]) 'g').trans ?_;refine (qy (ρ1:=[ij (scr n),ij (.lst t1),ij (Wd ws),im,im,im,im,im,im,im,im,im,im,im]) (by simp [g1])).trans ?_;refine (qy (ρ1:=[ij (scr n),ij (.lst t2),ij (Wd ws),ij (Ld p q),im,im,im,im,im,im,im,im,im,im]) (by generalize Wd ws=W' at *;simp [Z])).trans ?_;refine (qy (ρ1:=[ij (scr n),ij (.lst (t2++[.int 0]++[.int 0])),ij (Wd ws),ij (Ld p q),ij (.int (1+r')),im,im,im,im,im,im,im,im,im]) (by generalize Wd ws=W' at *;generalize Ld p q=L' at *;generalize t2++[.int 0]++[.int 0]=tt at *;generalize t2++[.int 0]=tu at *;simp [O,Y,V,M])).trans ?_;generalize t2++[.int 0]++[.int 0]=t4 at *;have X:=KC (own:=[1]) (cap:=[0,1,4]) (nt:=1) (fi:=jR (qo [.vl,.vl] ki (qb (qc 2) (qb (qc 3) qw)))) (g:=gNm 0) (ft:=ftT) (fe:=vM (qb (qc 0) (qb (qo [.vl,.sl 2,.vl] jE (qb (qc 1) (jW (qb (qc 3) qw)))) qw))) (ρ:=[ij (scr n),ij (.lst t4),ij (Wd ws),ij (Ld p q),ij (.int (1+r')),im,im,im,im,im,im,im,im,im]) (ρ1:=[ij (scr n),ij (.lst t4),ij (Wd ws),ij (Ld p q),ij (.int (1+r')),im,im,im,im,im,im,im,im,im]) (ds:=(LS 'h').map D.str) (by have h:jM (.lst ((LS 'h').map D.str))=.ok ((LS 'h').map D.str):=rfl;generalize D.lst ((LS 'h').map D.str)=A at *;generalize (LS 'h').map D.str=B at *;generalize Wd ws=W' at *;generalize Ld p q=L' at *;simp [I,h]) (qV (by rw [ay]; lia)) F;refine (qy (ρ1:=[ij (scr n),ij (.lst c),ij (Wd ws),ij (Ld p q),ij (.int (1+r')),ij (.dct (bk es)),im,im,im,im,im,im,im,im]) (by rw [gE,qdo,X,ku];simp only [];rw [hd];rfl)).trans ?_;have N:=qbp (own:=[1]) (cap:=[4,5]) (fi:=jR (qo [.vl,.vl] kz (qb (qc 2) (qb (qc 3) qw)))) (fe:=d2 wE (d2 jZ (d2 ixD (qc 3) (qc 0)) (d2 ixD (qc 3) (qc 1))) (qc 2)) (ft:=ftT) (ρ:=[ij (scr n),ij (.lst c),ij (Wd ws),ij (Ld p q),ij (.int (1+r')),ij (.dct (bk es)),im,im,im,im,im,im,im,im]) (ρ1:=[ij (scr n),ij (.lst c),ij (Wd ws),ij (Ld p q),ij (.int (1+r')),ij (.dct (bk es)),im,im,im,im,im,im,im,im]) (ps:=(qv ws p q).map λx=>(.str x.1,.str x.2)) (λ_=>iu) (λy=>match y with | (.str a,.str b)=>.int ((qK es a+qK es b) % (1+r')) | _=>.non) 'g' (by
   have h:jM (sD 'h')=.ok (((qv ws p q).map λx=>(D.str x.1,D.str x.2)).map λp=>.tup [p.1,p.2]):=by rw [bg];rfl
   generalize sD 'h'=S at *;generalize ((qv ws p q).map λx=>(D.str x.1,D.str x.2)).map (λp=>D.tup [p.1,p.2])=B at *;generalize Wd ws=W' at *;generalize Ld p q=L' at *;simp [G,h]) (qV (by rw [ay]; lia)) (λ_ _=>rfl) (λy v _=>by
   obtain ⟨x,hx,rfl⟩:=ah.mp v;have i1:=KA (l:=es) (x:=x.1) (by rw [k5]; exact vY.mpr ⟨x,hx,.inl rfl⟩);have i2:=KA (l:=es) (x:=x.2) (by rw [k5]; exact vY.mpr ⟨x,hx,.inr rfl⟩);have R:=qeL (a:=qK es x.1+qK es x.2) (r:=1+r') 'b' 'b';have s:jZ (.int (qK es x.1)) (.int (qK es x.2))=.ok (.int (qK es x.1+qK es x.2)):=rfl;generalize bk es=B at *;simp [i1,i2,s,R])
 rw [dL.mpr λ_ _=>rfl,bg] at N;have e0:(List.map ((λy:D×D=>match y with | (.str a,.str b)=>D.int ((qK es a+qK es b) % (1+r')) | _=>.non) ∘ λx:Str×Str=>(D.str x.1,D.str x.2)) 'h')=(ua es 'h' (1+r')).map D.int:=by unfold ua;rw [bg];rfl
 rw [e0] at N;refine (qy (ρ1:=[ij (scr n),ij (.lst c),ij (Wd ws),ij (Ld p q),ij (.int (1+r')),ij (.dct (bk es)),ij (iD (ua es 'h' (1+r'))),im,im,im,im,im,im,im]) (by rw [gE,N]; rfl)).trans ?_;have C:=iR0 (f:=qo [.vl,.sl 1,.vl] jE (qb (qc 0) (jW (qb (dC (.int 3)) qw)))) (ρ:=[ij (scr n),ij (.lst c),ij (Wd ws),ij (Ld p q),ij (.int (1+r')),ij (.dct (bk es)),ij (iD (ua es 'h' (1+r'))),im,im,im,im,im,im,im]) (ρ1:=[ij (scr n),ij (.lst (c++[.int 0])),ij (Wd ws),ij (Ld p q),ij (.int (1+r')),ij (.dct (bk es)),ij (iD (ua es 'h' (1+r'))),im,im,im,im,im,im,im]) (k:=m) m0 'b' (by generalize c++[.int 0]=tv at *;simp [U]);refine (qy (ρ1:=[ij (scr n),ij (.lst u),ij (Wd ws),ij (Ld p q),ij (.int (1+r')),ij (.dct (bk es)),ij (iD ns),x7,im,im,im,im,im,im]) (by rw [kh,C,ku]; exact W)).trans ?_;refine (qy (ρ1:=[ij (scr n),ij (.lst u),ij (Wd ws),ij (Ld p q),ij (.int (1+r')),ij (.dct (bk es)),ij (nD ns),x7,im,im,im,im,im,im]) (by simp [yY])).trans ?_;exact d
end Kx
namespace Kx
open PySem PySem.Spec PyProof.Rows L2 L2.D2
variable {us:List iq} {P:List iq->Prop}
theorem qld (hl:us.length=0) (h:P []):P us:=List.length_eq_zero_iff.mp hl ▸ h
theorem qgZ {n:Nat} (hl:us.length=n+1):∃ a l,us=a::l/\l.length=n:=by
 cases us with
 | nil=>cases hl
 | cons a l=>exact ⟨a,l,rfl,Nat.succ.inj hl⟩
theorem qle (hl:us.length=1) (h:∀ a,P [a]):P us:=by obtain ⟨a,l,rfl,e⟩:=qgZ hl;exact qld (P:=λl=>P (a::l)) e (h a)
theorem qlf (hl:us.length=2) (h:∀ a b,P [a,b]):P us:=by obtain ⟨a,l,rfl,e⟩:=qgZ hl;exact qle (P:=λl=>P (a::l)) e (h a)
theorem qlg (hl:us.length=3) (h:∀ a b c,P [a,b,c]):P us:=by obtain ⟨a,l,rfl,e⟩:=qgZ hl;exact qlf (P:=λl=>P (a::l)) e (h a)
theorem qlh (hl:us.length=4) (h:∀ a b c d,P [a,b,c,d]):P us:=by obtain ⟨a,l,rfl,e⟩:=qgZ hl;exact qlg (P:=λl=>P (a::l)) e (h a)
theorem qli (hl:us.length=5) (h:∀ a b c d e,P [a,b,c,d,e]):P us:=by obtain ⟨a,l,rfl,e⟩:=qgZ hl;exact qlh (P:=λl=>P (a::l)) e (h a)
theorem qlK (hl:us.length=6) (h:∀ a b c d e f,P [a,b,c,d,e,f]):P us:=by obtain ⟨a,l,rfl,e⟩:=qgZ hl;exact qli (P:=λl=>P (a::l)) e (h a)
variable {K:Frag} {h:Heap}
theorem qgR {mg:Str->Option iq} (X:K.In h) (G:h.Ns iC mg) {x:Str} {st:Stmt} {ps:List Str} {f:Addr} {oc:iq} {od an:Option Addr} {osl:Array (Option iq)} {kV doc pm cdv ct:iq}
  (a:nsIn K iC x=ij (ij (.ref f))) (l:K.lookup f=ij ⟨oc,od,.func (ce x x (um st) (kG st) (qR st) .none kV doc pm an cdv ct),osl⟩) (c:codeIn K cdv x=iu) (k:mm K (.ref f)=iu)
  (d:∀ (kV doc pm:iq) (an:Option Addr) (cdv ct:iq) (us:List iq),us.length=ps.length->lB (ce x x (um st) (kG st) (qR st) .none kV doc pm an cdv ct) ⟨us,[]⟩=pure (ps.zip us)):kq K mg x st ps:=
 ⟨f,_,Gy l c k,lC X G a,(Gy l c k).binds d⟩
variable {x:Str}
theorem qcj {l:List Str} {f:Str->Addr} (nd:(l.map f).Nodup) {y:Str} (hx:x∈l) (D:y∈l) (e:f x=f y):x=y:=by obtain ⟨i,hi,rfl⟩:=fg.mp hx;obtain ⟨j,G,rfl⟩:=fg.mp D;have q:=(fM (h₀:=by simpa using hi) (h₁:=by simpa using G) nd).mp (show (l.map f)[i]'(by simpa using hi)=(l.map f)[j]'(by simpa using G) by simpa using e);subst q;rfl
noncomputable def caT (T:List (Str×Addr)) (x:Str):Addr:=(T.lookup x).getD 0
noncomputable def qd8 (K:Frag) (C:List Addr) (W:Addr):Bool:=decide C.Nodup&&C.all λc=>xcB K c&&decide (bM K (.ref c) (.ref W)=ij iu)&&decide (cf K (.ref c) (.type "ValueError")=ij iu)&&dO K c bmV "ValueError.__new__"&&C.all λd=>decide (cf K (.ref c) (.ref d)=ij (decide (c=d)))
theorem qd9 {C:List Addr} {W:Addr} (h:qd8 K C W=iu):C.Nodup/\∀ c∈C,xcB K c=iu/\bM K (.ref c) (.ref W)=ij iu/\cf K (.ref c) (.type "ValueError")=ij iu/\dO K c bmV "ValueError.__new__"=iu/\∀ d∈C,cf K (.ref c) (.ref d)=ij (decide (c=d)):=by unfold qd8 at h;rw [aS,aQ] at h;refine ⟨Ae h.1,λc a=>?_⟩;have q:=h.2 c a;simp only [aS,decide_eq_true_eq,aQ] at q;exact ⟨q.1.1.1.1,q.1.1.1.2,q.1.1.2,q.1.2,q.2⟩
variable {c:Str}
theorem qja (h:c∈FS):c = "bar"\/c = "is_bar"\/c = "is_telling"\/c = "worths":=by simpa [FS] using h
noncomputable def ZS:List Str:=["ValueError", "all", "bool", "dict", "enumerate", "int", "isinstance", "len", "list", "max", "min", "range", "reversed", "set", "sorted", "str", "tuple", "zip"]
noncomputable def zsB (K:Frag):Bool:=ZS.all λx=>decide (nsIn K iC x=ij im)
theorem ug (h:zsB K=iu) (x:Str) (hx:x∈ZS:=by decide +kernel):nsIn K iC x=ij none:=Ae (aQ.mp h x hx)
theorem qjb (h:c∈CS):c = "NoWords"\/c = "NoLook"\/c = "NoNumbers"\/c = "NoRoom"\/c = "NoWord"\/c = "NoWorths"\/c = "Never"\/c = "Full"\/c = "Known":=by simpa [CS] using h
theorem qkJ {mg:Str->Option iq} (X:K.In h) (G:h.Ns iC mg) {CW p o m l k C j i g:Addr} {F0 F1 F u:Addr} {E t a M b S:Tok}
  (Q:nsIn K iC "WordError"=ij (ij (.ref CW)))
  (a0:nsIn K iC "NoWords"=ij (ij (.ref p)))
  (a1:nsIn K iC "NoLook"=ij (ij (.ref o)))
  (a2:nsIn K iC "NoNumbers"=ij (ij (.ref m)))
  (a3:nsIn K iC "NoRoom"=ij (ij (.ref l)))
  (Z:nsIn K iC "NoWord"=ij (ij (.ref k)))
  (Y:nsIn K iC "NoWorths"=ij (ij (.ref C)))
  (V:nsIn K iC "Never"=ij (ij (.ref j)))
  (U:nsIn K iC "Full"=ij (ij (.ref i)))
  (R:nsIn K iC "Known"=ij (ij (.ref g)))
  (z:zsB K=iu)
  (c_LEAST_PLACE:nsIn K iC "LEAST_PLACE"=ij (ij (.int (-3) E)))
  (c_MOST_LETTERS:nsIn K iC "MOST_LETTERS"=ij (ij (.int 6 t)))
  (c_MOST_PLACE:nsIn K iC "MOST_PLACE"=ij (ij (.int 2 a)))
  (c_MOST_ROOM:nsIn K iC "MOST_ROOM"=ij (ij (.int 99 M)))
  (c_MOST_WALK:nsIn K iC "MOST_WALK"=ij (ij (.int 40 b)))
  (c_MOST_WORDS:nsIn K iC "MOST_WORDS"=ij (ij (.int 6 S)))
  (ex:qd8 K [p,o,m,l,k,C,j,i,g] CW=iu)
  (s:bM K (.ref C) (.ref C)=ij iu)
  (r0:nsIn K iC "bar"=ij (ij (.ref F0))) (r1:nsIn K iC "is_bar"=ij (ij (.ref F1))) (r2:nsIn K iC "is_telling"=ij (ij (.ref F))) (r3:nsIn K iC "worths"=ij (ij (.ref u))) :
  Zt K mg (λx=>.ref (caT [("WordError",CW),("NoWords",p),("NoLook",o),("NoNumbers",m),("NoRoom",l),("NoWord",k),("NoWorths",C),("Never",j),("Full",i),("Known",g),("bar",F0),("is_bar",F1),("is_telling",F),("worths",u)] x)) (caT [("WordError",CW),("NoWords",p),("NoLook",o),("NoNumbers",m),("NoRoom",l),("NoWord",k),("NoWorths",C),("Never",j),("Full",i),("Known",g),("bar",F0),("is_bar",F1),("is_telling",F),("worths",u)])/\qeI (caT [("WordError",CW),("NoWords",p),("NoLook",o),("NoNumbers",m),("NoRoom",l),("NoWord",k),("NoWorths",C),("Never",j),("Full",i),("Known",g),("bar",F0),("is_bar",F1),("is_telling",F),("worths",u)]):=by
 obtain ⟨nd,q⟩:=qd9 ex;generalize hT:([("WordError",CW),("NoWords",p),("NoLook",o),("NoNumbers",m),("NoRoom",l),("NoWord",k),("NoWorths",C),("Never",j),("Full",i),("Known",g),("bar",F0),("is_bar",F1),("is_telling",F),("worths",u)]:List (Str×Addr))=T;have W:caT T "WordError"=CW:=by subst hT; kernel_rfl
 have e0:caT T "NoWords"=p:=by subst hT; kernel_rfl
 have e1:caT T "NoLook"=o:=by subst hT; kernel_rfl
 have O:caT T "NoNumbers"=m:=by subst hT; kernel_rfl
 have N:caT T "NoRoom"=l:=by subst hT; kernel_rfl
 have L:caT T "NoWord"=k:=by subst hT; kernel_rfl
 have B:caT T "NoWorths"=C:=by subst hT; kernel_rfl
 have J:caT T "Never"=j:=by subst hT; kernel_rfl
 have I:caT T "Full"=i:=by subst hT; kernel_rfl
 have H:caT T "Known"=g:=by subst hT; kernel_rfl
 have A:caT T "bar"=F0:=by subst hT; kernel_rfl
 have w:caT T "is_bar"=F1:=by subst hT; kernel_rfl
 have v:caT T "is_telling"=F:=by subst hT; kernel_rfl
 have r:caT T "worths"=u:=by subst hT; kernel_rfl
 have D:CS.map (caT T)=[p,o,m,l,k,C,j,i,g]:=by unfold CS;simp only [aD,bU,e0,e1,O,N,L,B,J,I,H]
 have n:∀ c∈CS,caT T c∈[p,o,m,l,k,C,j,i,g]:=λc f=>D ▸ ah.mpr ⟨c,f,rfl⟩;refine ⟨⟨⟨λc f=>rfl,λc f=>?_,λc f=>(q _ (n c f)).1,λc f d hd=>(q _ (n c f)).2.2.2.2 _ (n d hd),λc f=>(q _ (n c f)).2.2.1⟩,λc f=>?_,λc f=>(q _ (n c f)).2.2.2.1,λx hx=>?fr,?_,iO X G (ug z "ValueError"),iO X G (ug z "all"),iO X G (ug z "bool"),iO X G (ug z "dict"),iO X G (ug z "enumerate"),iO X G (ug z "int"),iO X G (ug z "isinstance"),iO X G (ug z "len"),iO X G (ug z "list"),iO X G (ug z "max"),iO X G (ug z "min"),iO X G (ug z "range"),iO X G (ug z "reversed"),iO X G (ug z "set"),iO X G (ug z "sorted"),iO X G (ug z "str"),iO X G (ug z "tuple"),iO X G (ug z "zip"),⟨_,lC X G c_LEAST_PLACE⟩,⟨_,lC X G c_MOST_LETTERS⟩,⟨_,lC X G c_MOST_PLACE⟩,⟨_,lC X G c_MOST_ROOM⟩,⟨_,lC X G c_MOST_WALK⟩,⟨_,lC X G c_MOST_WORDS⟩,?sX5⟩,λx hx y P e=>?_⟩
 case sX5=>rw [B]; exact s
 case fr=>
  rcases qja hx with rfl | rfl | rfl | rfl;·rw [A]; exact lC X G r0
  ·rw [w]; exact lC X G r1
  ·rw [v]; exact lC X G r2
  ·rw [r]; exact lC X G r3
 ·show bM K (.ref (caT T c)) (.ref (caT T "WordError"))=ij iu;rw [W];exact (q _ (n c f)).2.1
 ·rcases qjb f with rfl | rfl | rfl | rfl | rfl | rfl | rfl | rfl | rfl;·rw [e0]; exact lC X G a0
  ·rw [e1]; exact lC X G a1
  ·rw [O]; exact lC X G a2
  ·rw [N]; exact lC X G a3
  ·rw [L]; exact lC X G Z
  ·rw [B]; exact lC X G Y
  ·rw [J]; exact lC X G V
  ·rw [I]; exact lC X G U
  ·rw [H]; exact lC X G R
 ·show mg "WordError"=ij (.ref (caT T "WordError"));rw [W];exact lC X G Q
 ·
  rw [<-D] at nd;exact qcj nd hx P e
structure Tx (K:Frag) (mg:Str->Option iq) (ca:Str->Addr):Prop where
 x_is_between:kq K mg "is_between" ux ["thing", "least", "most"]
 x_check_room:kq K mg "check_room" uz ["thing"]
 x_is_letter:kq K mg "is_letter" yB ["thing"]
 x_is_worth:kq K mg "is_worth" xK ["thing", "room"]
 x_is_worths:kq K mg "is_worths" yC ["thing", "room"]
 x_check_worths:kq K mg "check_worths" wc ["thing", "room"]
 x_is_word:kq K mg "is_word" gK ["thing"]
 x_is_words:kq K mg "is_words" xL ["thing"]
 x_check_words:kq K mg "check_words" wL ["thing"]
 x_is_look:kq K mg "is_look" gM ["thing"]
 x_check_look:kq K mg "check_look" uB ["thing"]
 x_letter_at:kq K mg "letter_at" yE ["word", "place"]
 x_pairs:kq K mg "pairs" UB ["words", "look"]
 x_letters_of:kq K mg "letters_of" uE ["seen"]
 x_within:kq K mg "within" JX ["total", "room"]
 x_is_numbers:kq K mg "is_numbers" uF ["thing", "count", "room"]
 x_check_numbers:kq K mg "check_numbers" vF ["thing", "count", "room"]
 x_told_pairs:kq K mg "told_pairs" uG ["words", "look", "room", "numbers"]
 x_is_odd:kq K mg "is_odd" Ka ["walk"]
 x_comes_to:kq K mg "comes_to" xN ["walk", "numbers", "start"]
 x_bars:kq K mg "bars" qaV ["walk", "room", "numbers"]
 x_other_letter:kq K mg "other_letter" wf ["pair", "letter"]
 x_spread:kq K mg "spread" Kc ["seen", "root", "ways"]
 x_ways_of:kq K mg "ways_of" gQ ["seen"]
 x_circles_of:kq K mg "circles_of" uH ["seen", "ways"]
 x_first_odd:kq K mg "first_odd" yG ["circles"]
 x_bar_of:kq K mg "bar_of" Kf ["seen", "room", "numbers"]
 x_bar:kq K mg "bar" qgb ["words", "look", "room", "numbers"]
 x_half:kq K mg "half" qa0 ["total", "room"]
 x_root_worths:kq K mg "root_worths" wS ["walk", "room", "numbers"]
 x_roots_of:kq K mg "roots_of" xO ["seen", "room", "numbers"]
 x_worths_from:kq K mg "worths_from" wT ["seen", "room", "numbers", "starts"]
 x_worths:kq K mg "worths" Ki ["words", "look", "room", "numbers"]
 x_numbered:kq K mg "numbered" xP ["words", "look", "room", "worths"]
 x_is_telling:kq K mg "is_telling" uJ ["words", "look", "room", "numbers", "thing"]
 x_is_walk:kq K mg "is_walk" gW ["thing", "count"]
 x_end_of:kq K mg "end_of" Kk ["seen", "letter", "walk"]
 x_is_bar:kq K mg "is_bar" Km ["words", "look", "room", "numbers", "thing"]
 x_Lcell_at:kq K mg "_law_cell_at" xR ["_law_script", "_law_k"]
 x_Lmixed:kq K mg "_law_mixed" Ko ["_law_script", "_law_k", "_law_many"]
 x_Ldraw:kq K mg "_law_draw" UH ["_law_script", "_law_town", "_law_many"]
 x_Lpick:kq K mg "_law_pick" UI ["_law_script", "_law_town", "_law_some"]
 x_Lword:kq K mg "_law_word" UJ ["_law_script", "_law_town", "_law_few"]
 x_Lwords:kq K mg "_law_words" Kr ["_law_script", "_law_town", "_law_most"]
 x_Llook:kq K mg "_law_look" UK ["_law_script", "_law_town"]
 x_Lletter:kq K mg "_law_letter" Qa ["_law_word_here", "_law_place"]
 x_Lpairs:kq K mg "_law_pairs" Kt ["_law_words_here", "_law_look_here"]
 x_Lseen:kq K mg "_law_seen" UM ["_law_words_here", "_law_look_here"]
 x_Lspread:kq K mg "_law_spread" Qb ["_law_some", "_law_room", "_law_numbers", "_law_book"]
 x_Lsolve:kq K mg "_law_solve" Kv ["_law_words_here", "_law_look_here", "_law_room", "_law_numbers"]
 x_Lbars:kq K mg "_law_bars" UN ["_law_words_here", "_law_look_here", "_law_room", "_law_numbers", "_law_start", "_law_walk"]
 x_Lwhich:kq K mg "_law_which" zQ ["_law_e"]
 x_Lask:kq K mg "_law_ask" Xp yg
variable {ca:Str->Addr}
theorem qjc {e0:Ev} {f:Addr} {fd:k6} (Z:ZtE e0 ca) (T:Tx e0.K e0.mg ca) (F:Fun e0.K "law" "law" qbm f fd):FnOk e0.P e0.w e0.K e0.mg e0.base (CXk e0.P e0.w) 10 f fd ["_law_script"] (spD e0.K e0.cv [.val] .sh (qdQ ca)):=by have o:=JS Z T.x_is_between ;have m:=JT Z T.x_check_room o;have r:=VX Z T.x_is_letter ;have E:=Ux Z T.x_is_worth o r;have C:=VY Z T.x_is_worths E;have p:=gJ Z T.x_check_worths C;have J:=ZG Z T.x_is_word r;have G:=Uz Z T.x_is_words J;have v:=QD Z T.x_check_words G;have M:=ZI Z T.x_is_look o;have z:=JV Z T.x_check_look M;have B:=Wc Z T.x_letter_at ;have u:=qdB Z T.x_pairs v z B;have e:=JW Z T.x_letters_of ;have S:=qaT Z T.x_within ;have y:=JY Z T.x_is_numbers o;have l:=zv Z T.x_check_numbers y;have s:=JZ Z T.x_told_pairs m l u;have k:=qaU Z T.x_is_odd ;have b:=UC Z T.x_comes_to ;have Q:=qga Z T.x_bars b k;have a:=gP Z T.x_other_letter ;have U:=qaX Z T.x_spread a;have i:=ZJ Z T.x_ways_of e U;have h:=Ke Z T.x_circles_of ;have j:=Wm Z T.x_first_odd k;have W:=qaY Z T.x_bar_of k Q i h j;have o_bar:=qir Z T.x_bar s W;have o_half:=qgd Z T.x_half ;have t:=QF Z T.x_root_worths b o_half;have D:=UE Z T.x_roots_of i h j t;have q:=QG Z T.x_worths_from b i;have R:=qa3 Z T.x_worths u o_bar D q;have n:=UF Z T.x_numbered m p u e S;have g:=Kj Z T.x_is_telling n s;have L:=ZL Z T.x_is_walk o;have V:=qa4 Z T.x_end_of a;have A:=qa5 Z T.x_is_bar r L s V Q;have I:=UG Z T.x_Lcell_at ;have o_Lmixed:=qa6 Z T.x_Lmixed I;have c:=qdH Z T.x_Ldraw o_Lmixed;have x:=qdI Z T.x_Lpick c;have o_Lword:=qdJ Z T.x_Lword c x;have X:=qba Z T.x_Lwords c x o_Lword;have o_Llook:=qdL Z T.x_Llook c;have O:=ZN Z T.x_Lletter ;have d:=qbe Z T.x_Lpairs O;have H:=qdN Z T.x_Lseen d;have N:=ZO Z T.x_Lspread ;have o_Lsolve:=qbg Z T.x_Lsolve d H N;have o_Lbars:=qdP Z T.x_Lbars d;have Y:=qbk Z T.x_Lwhich ;have o_Lask:=qgk Z T.x_Lask o_bar R g A Y;exact qiw Z F n g A c x X o_Llook d H o_Lsolve o_Lbars o_Lask
def qea (K:Frag):Sp:=λvs H Q _=>∃ (a:Addr) (ns:List Int),vs=[.ref a]/\SqL K H a (ns.map V.int)/\∀ H',Q (.bl iu) H'
theorem XS {F:Hp}:∀ ns:List Int,IsL K F (ns.map V.int) (ns.map D.int)
 | []=>.nil
 | n::ns=>.cons (.int n) (XS ns)
theorem qkK {cv:Str->iq} (h:qeI ca) (vs:List V) (H:Hp) (Q:VK) (E:XK) (q:qea K vs H Q E):spD K cv [.val] .sh (qdQ ca) vs H Q E:=by obtain ⟨a,ns,rfl,c,hq⟩:=q;refine ⟨H,[scr ns],Same.refl _,⟨.lst c (XS ns),trivial⟩,cy,?_⟩;rw [qi9 h ns];intro v F' H' k g b p;have p:Is K F' v (.bl iu):=p;cases p;exact hq H'
abbrev NsX (K:Frag) (x:Str) (f:Addr):Prop:=nsIn K iC x=ij (ij (.ref f))
abbrev CdX (K:Frag) (v:iq) (x:Str):Prop:=codeIn K v x=iu
abbrev KpX (K:Frag) (f:Addr):Prop:=mm K (.ref f)=iu
abbrev LkX (K:Frag) (x:Str) (st:Stmt) (f:Addr) (oc:iq) (od an:Option Addr) (sl:Array (Option iq)) (kV d pm cd ct:iq):Prop:=K.lookup f=ij ⟨oc,od,.func (ce x x (um st) (kG st) (qR st) .none kV d pm an cd ct),sl⟩
def Dx (K:Frag) (x:Str) (st:Stmt):Prop:=∃ (f:Addr) (oc:iq) (od an:Option Addr) (sl:Array (Option iq)) (kV d pm cd ct:iq),NsX K x f/\LkX K x st f oc od an sl kV d pm cd ct/\CdX K cd x/\KpX K f
theorem jb {mg:Str->Option iq} (X:K.In h) (G:h.Ns iC mg) {st:Stmt} {ps:List Str} (q:Dx K x st) (d:∀ (kV doc pm:iq) (an:Option Addr) (cdv ct:iq) (us:List iq),us.length=ps.length->lB (ce x x (um st) (kG st) (qR st) .none kV doc pm an cdv ct) ⟨us,[]⟩=pure (ps.zip us):=by
  intro _ _ _ _ _ _ us hl;first | refine qld (P:=λus=>lB _ ⟨us,[]⟩=pure (fP _ us)) hl ?_ | refine qle (P:=λus=>lB _ ⟨us,[]⟩=pure (fP _ us)) hl ?_ | refine qlf (P:=λus=>lB _ ⟨us,[]⟩=pure (fP _ us)) hl ?_ | refine qlg (P:=λus=>lB _ ⟨us,[]⟩=pure (fP _ us)) hl ?_ | refine qlh (P:=λus=>lB _ ⟨us,[]⟩=pure (fP _ us)) hl ?_ | refine qli (P:=λus=>lB _ ⟨us,[]⟩=pure (fP _ us)) hl ?_ | refine qlK (P:=λus=>lB _ ⟨us,[]⟩=pure (fP _ us)) hl ?_
  all_goals intros; rfl):kq K mg x st ps:=by
 obtain ⟨f,oc,od,an,sl,kV,b,pm,cd,ct,a,l,c,k⟩:=q;exact qgR X G a l c k d
theorem qjd {l:fS} {w:iG} {mg:Str->Option iq} {fa:Addr} (X:K.In h) (G:h.Ns iC mg) (hfa:mg "law"=ij (.ref fa)) {CW C0 C1 C2 C3 C4 C C6 C7 C8:Addr} {a t b M c S:Tok}
  (aW:nsIn K iC "WordError"=ij (ij (.ref CW)))
  (a0:nsIn K iC "NoWords"=ij (ij (.ref C0)))
  (a1:nsIn K iC "NoLook"=ij (ij (.ref C1)))
  (a2:nsIn K iC "NoNumbers"=ij (ij (.ref C2)))
  (a3:nsIn K iC "NoRoom"=ij (ij (.ref C3)))
  (a4:nsIn K iC "NoWord"=ij (ij (.ref C4)))
  (a5:nsIn K iC "NoWorths"=ij (ij (.ref C)))
  (a6:nsIn K iC "Never"=ij (ij (.ref C6)))
  (a7:nsIn K iC "Full"=ij (ij (.ref C7)))
  (a8:nsIn K iC "Known"=ij (ij (.ref C8)))
  (zz:zsB K=iu)
  (c_LEAST_PLACE:nsIn K iC "LEAST_PLACE"=ij (ij (.int (-3) a)))
  (c_MOST_LETTERS:nsIn K iC "MOST_LETTERS"=ij (ij (.int 6 t)))
  (c_MOST_PLACE:nsIn K iC "MOST_PLACE"=ij (ij (.int 2 b)))
  (c_MOST_ROOM:nsIn K iC "MOST_ROOM"=ij (ij (.int 99 M)))
  (c_MOST_WALK:nsIn K iC "MOST_WALK"=ij (ij (.int 40 c)))
  (c_MOST_WORDS:nsIn K iC "MOST_WORDS"=ij (ij (.int 6 S)))
  (ex:qd8 K [C0,C1,C2,C3,C4,C,C6,C7,C8] CW=iu)
  (B:bM K (.ref C) (.ref C)=ij iu)
  (q0:Dx K "is_between" ux)
  (q1:Dx K "check_room" uz)
  (q2:Dx K "is_letter" yB)
  (q3:Dx K "is_worth" xK)
  (q4:Dx K "is_worths" yC)
  (q5:Dx K "check_worths" wc)
  (q6:Dx K "is_word" gK)
  (q7:Dx K "is_words" xL)
  (q8:Dx K "check_words" wL)
  (q9:Dx K "is_look" gM)
  (q10:Dx K "check_look" uB)
  (q11:Dx K "letter_at" yE)
  (q12:Dx K "pairs" UB)
  (q13:Dx K "letters_of" uE)
  (q14:Dx K "within" JX)
  (q15:Dx K "is_numbers" uF)
  (q16:Dx K "check_numbers" vF)
  (q17:Dx K "told_pairs" uG)
  (q18:Dx K "is_odd" Ka)
  (q19:Dx K "comes_to" xN)
  (q20:Dx K "bars" qaV)
  (q21:Dx K "other_letter" wf)
  (q22:Dx K "spread" Kc)
  (q23:Dx K "ways_of" gQ)
  (q24:Dx K "circles_of" uH)
  (q25:Dx K "first_odd" yG)
  (q26:Dx K "bar_of" Kf)
  (i:Dx K "bar" qgb)
  (q28:Dx K "half" qa0)
  (q29:Dx K "root_worths" wS)
  (q30:Dx K "roots_of" xO)
  (q31:Dx K "worths_from" wT)
  (g:Dx K "worths" Ki)
  (q33:Dx K "numbered" xP)
  (f:Dx K "is_telling" uJ)
  (q35:Dx K "is_walk" gW)
  (q36:Dx K "end_of" Kk)
  (d:Dx K "is_bar" Km)
  (q38:Dx K "_law_cell_at" xR)
  (q39:Dx K "_law_mixed" Ko)
  (q40:Dx K "_law_draw" UH)
  (q41:Dx K "_law_pick" UI)
  (Y:Dx K "_law_word" UJ)
  (W:Dx K "_law_words" Kr)
  (V:Dx K "_law_look" UK)
  (U:Dx K "_law_letter" Qa)
  (R:Dx K "_law_pairs" Kt)
  (P:Dx K "_law_seen" UM)
  (O:Dx K "_law_spread" Qb)
  (N:Dx K "_law_solve" Kv)
  (L:Dx K "_law_bars" UN)
  (J:Dx K "_law_which" zQ)
  (I:Dx K "_law_ask" Xp)
  (D:Dx K "law" qbm) :
  ∃ fd:k6,(∀ (s:iw) (v:iq),mz s fd ⟨[v],[]⟩ [("_law_script",v)])/\∀ base:Heap,K.In base->base.Ns iC mg->FnOk l.prog w K mg base (CXk l.prog w) 10 fa fd ["_law_script"] (qea K):=by
 obtain ⟨f53,_,_,_,_,_,_,_,_,_,n,j,m,k⟩:=D;obtain ⟨f27,A⟩:=id i;obtain ⟨_,_,_,_,_,_,_,_,_,u,_⟩:=A;obtain ⟨f37,x⟩:=id d;obtain ⟨_,_,_,_,_,_,_,_,_,o,_⟩:=x;obtain ⟨f34,y⟩:=id f;obtain ⟨_,_,_,_,_,_,_,_,_,p,_⟩:=y;obtain ⟨f32,z⟩:=id g;obtain ⟨_,_,_,_,_,_,_,_,_,r,_⟩:=z;have e:=hfa.symm.trans (lC X G n);cases e;obtain ⟨Z,cok⟩:=qkJ X G aW a0 a1 a2 a3 a4 a5 a6 a7 a8 zz c_LEAST_PLACE c_MOST_LETTERS c_MOST_PLACE c_MOST_ROOM c_MOST_WALK c_MOST_WORDS ex B u o p r;have T:Tx K mg (caT [("WordError",CW),("NoWords",C0),("NoLook",C1),("NoNumbers",C2),("NoRoom",C3),("NoWord",C4),("NoWorths",C),("Never",C6),("Full",C7),("Known",C8),("bar",f27),("is_bar",f37),("is_telling",f34),("worths",f32)]):=⟨jb X G q0,jb X G q1,jb X G q2,jb X G q3,jb X G q4,jb X G q5,jb X G q6,jb X G q7,jb X G q8,jb X G q9,jb X G q10,jb X G q11,jb X G q12,jb X G q13,jb X G q14,jb X G q15,jb X G q16,jb X G q17,jb X G q18,jb X G q19,jb X G q20,jb X G q21,jb X G q22,jb X G q23,jb X G q24,jb X G q25,jb X G q26,jb X G i,jb X G q28,jb X G q29,jb X G q30,jb X G q31,jb X G g,jb X G q33,jb X G f,jb X G q35,jb X G q36,jb X G d,jb X G q38,jb X G q39,jb X G q40,jb X G q41,jb X G Y,jb X G W,jb X G V,jb X G U,jb X G R,jb X G P,jb X G O,jb X G N,jb X G L,jb X G J,jb X G I⟩
 have F:=Gy (st:=qbm) j m k;exact ⟨_,λs v=>.of_eq rfl,λbase _ _=>(qjc (e0:=⟨l.prog,w,K,mg,base,_⟩) Z T F).imp λvs H Q E q=>qkK cok vs H Q E q⟩
theorem qlL {l:fS} {q:iF} {loose:List Str} {XP:(Str->Option iq)->Heap->Prop} {YP:iG->Heap->Prop} {d:DefRec} {K:lR->Frag} (hn:l.most=ij 63) (hdf:d.params.defaults=[])
  (B:∀ (w:iG) (h:Heap),YP w h->(K w.params).In h)
  (F:∀ (w:iG) (mg:Str->Option iq) (fa:Addr) (h:Heap),(K w.params).In h->h.Ns iC mg->mg d.name=ij (.ref fa) ->∃ fd:k6,(∀ (s:iw) (u:iq),mz s fd ⟨[u],[]⟩ [("_law_script",u)])/\∀ base:Heap,(K w.params).In base->base.Ns iC mg->FnOk l.prog w (K w.params) mg base (CXk l.prog w) 10 fa fd ["_law_script"] (qea (K w.params))) :
  PySem.W.WalkO q loose XP YP l.row.toRowW d [] (λf vs=>ig f vs):=
 L2.qfk (n:=63) (k:=10) (x := "_law_script") (CX:=λw=>CXk l.prog w) (sp:=λw=>qea (K w.params)) hn 'd' hdf ⟨rfl,by decide,by decide⟩ B F (λ_ _ a ns hl _ S=>⟨a,ns,rfl,S,λ_=>rfl⟩) λw H s e s' z=>by obtain ⟨ex,T,C,H',_,_,_,_,_,_,_,_,_,_,q⟩:=z;exact q.elim
end Kx
open PySem PySem.W PyProof.Rows
set_option maxRecDepth 100000 in
set_option maxHeartbeats 0 in
theorem PySem.Challenge.cw_lookwords_k03_whole_telling_holds : PySem.Challenge.rw_lookwords_k03_whole_telling.Holds := by
  refine Kx.hd ?_;k_fill
  refine Kx.qlL (l := PySem.Challenge.rw_lookwords_k03_whole_telling) rfl rfl (λw h Y => PySem.W.kIn_of Y) ?F
  case F =>
    intro w mg fa h X G g;refine' Kx.qjd X G g ?_ ?_ ?_ ?_ ?_ ?_ ?_ ?_ ?_ ?_ ?_ ?_ ?_ ?_ ?_ ?_ ?_ ?_ ?_ ?_ ?_ ?_ ?_ ?_ ?_ ?_ ?_ ?_ ?_ ?_ ?_ ?_ ?_ ?_ ?_ ?_ ?_ ?_ ?_ ?_ ?_ ?_ ?_ ?_ ?_ ?_ ?_ ?_ ?_ ?_ ?_ ?_ ?_ ?_ ?_ ?_ ?_ ?_ ?_ ?_ ?_ ?_ ?_ ?_ ?_ ?_ ?_ ?_ ?_ ?_ ?_ ?_ ?_;all_goals try first | k_is | exact ⟨_, _, _, _, _, _, _, _, _, _, by unfold Kx.NsX; k_is, by unfold Kx.LkX; k_is, by unfold Kx.CdX; k_is, by unfold Kx.KpX; k_is⟩ | kernel_rfl
