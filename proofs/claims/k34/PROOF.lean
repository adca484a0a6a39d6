import PyProof.Rows.All
import KE.KTryMore
import KE.KDictOf
import KE.KItem
import KE.KRevIter
import KE.KDictList
import PySem.Challenge.RW_lookwords_k34_whole_orders_and_counts
open Option renaming some→iI,none→iK
open PySem renaming wpAny_bind→iJ,Value→iL,Shared→iO,wpAny_pure→iP,starEach→iQ,wpAny→iR,bootBuiltins→iS,mainGlobals→iT,Program→iU,World→iV,compareOp→iW,wpAny_newObj_type→iX,sizeLine_eq→iY,Around→iZ,wpAny_callSpecial?_slot→i4,wpAny_call_entry→i5,codeAny_builtin→i6,attributeBase→i7,wpAny_seqItems→i8,wpAny_holding→j0,backTo→j3,rawInt→j4,wpAny_askSetting→j5,binaryOp→j6,wpAny_setState_of→j7,keywordEach→j8,Keyword→j9,cLine→lb,builtinLookup_eq_fast→lc,wpAny_Call_Name_kw→lf,wpAny_field→lg,wpAny_truthy_bool→lh,foldedSetIterable→li,sysModules→lj,plainId_quiet→ll,swapsWith→lm,wpAny_isInstance→lp,assignEach→lq,wpAny_setField→lr,wpAny_setField_rec→lu,wpAny_passesOwn→lv,wpAny_attempt→lw,IsPair→lx,wpAny_setEntries_of→lz,pyNext→lB,NameKind→lC,codeAny→lE,tupleKind_room_in1→lF,wpAny_pyIter_tuple→lG,FuncData→lH,backToKw→lI,typeLookup_type→lJ,OsState→lK,bindArgs→lL,call_meets→lM,isSubtype_type→lN,firstArgMember→lO,wpAny_typeOf→lP,behindInMarks→lQ,getattributeRaised→lR,wpAny_rule→lS,sliceBounds→lT,pickOrder→lU,codeAny_mono→lV,wpAny_pyIter_list→lW,fits_of_scanBound→lX,Scope→lY,wpAny_mono→lZ,scanBound→l3,SetTable→l5,importedModules→l6,wpAny_execs_nil→l7,letOwnedTupleGo→l8,wpAny_loadPart'→mi,treeTable→ml,wpAny_runValue→mm,wpAny_fieldsOf→mn,setsByText→mq,IsZip→mt,ItemsOf→my,wpAny_onRaise→mC,tupleKind→mD,relayAll→mE,concat_meets→mF,typeLookup→mG,setNext→mH,Result→mK,wpAny_of_eq→mL,wpAny_letGo→mM,standAt→mO,PassesOwn→mP,callerA→mQ,valueAt→mR,Paired→mT,pyIter→mU,wpAny_load→mV,setEntries→mW,GenState→mX,BindsTo→mY,newList→mZ,getAttr?→m6
open Bool renaming true→iM,false→iN
open PySem.W renaming mg_none_of→i9,boot_heap→lA,openGood→l4,keepIn→l9,mg_of→mz,boot_drawn→mS
open PyProof.Rows renaming envOfC→mh,AllBare→mj,seqObj→mI,StrsAre→mJ
open PySem.Heap renaming get?_push_of_some→aa,get?_push_size→ah,lt_size→aC,get?_update_self→bn,size_push→bt,SameBut→bK,get?_update_other→cC,ExtBut→h8
open List renaming mem_cons→ac,mem_cons_of_mem→ae,mem_map→af,mem_append→ai,mem_cons_self→aj,length_cons→ao,length_map→ap,length_append→aq,size_toArray→au,mem_singleton→aw,getElem?_set_ne→ax,getElem?_eq_getElem→aA,getElem?_eq_some_iff→aE,map_cons→aG,getElem?_map→aH,all_eq_true→aI,getElem?_set_self→aJ,nodup_cons→aM,range→aN,replicate→aS,pairwise_cons→aT,not_mem_nil→aU,length_nil→aV,mem_range→aX,mem_append_right→aY,append_assoc→ba,mem_of_getElem?→bg,append_nil→bj,map_map→bo,mem_filter→br,getElem?_eq_none→bx,mem_of_find?_eq_some→bD,find?_cons_of_neg→bF,map_append→bG,getElem_mem→bI,length_range→bL,find?_cons_of_pos→bM,replicate_succ→bP,nodup_append→bR,map_nil→bV,foldl_cons→bW,any_cons→b7,getElem?_append_right→b9,length_pos_of_mem→cg,find?_eq_none→cm,reverse_cons→cw,nil_append→cB,length_take→cF,nodup_nil→cJ,length_filter_le→cK,getElem?_append_left→cL,flatten_cons→cR,pairwise_map→cT,length_erase_of_mem→cX,replicate_zero→c6,map_congr_left→c7,lookup_cons→c9,lookup→dh,length_set→dw,find?_cons→dA,length_replicate→dD,pairwise_flatMap→dH,ext_getElem?→dL,flatMap_cons→dN,mem_append_left→dO,mem_iff_getElem→dR,getD_eq_getElem?_getD→dS,zipIdx_cons→dU,mem_reverse→dY,mem_flatMap→dZ,drop_eq_getElem_cons→d4,filterMap_cons→d6,length_pos_iff→d7,getElem?_replicate→eD,pairwise_singleton→eG,getElem?_toArray→eU,nodup_range→eY,mem_erase_of_ne→e9,zip→fg,of_mem_zip→fh,getElem?_range→fm,length_reverse→fq,mem_filterMap→fA,any_eq_false→fG,foldl_append→fJ,all_cons→fP,getElem_inj→fS,drop_length→fU,take_length→fW,cons_append→fX,any_eq_true→fY,map_id'→f9,forIn_cons→g8,sum_append→hV,find?_some→hZ,filter_map→h7,length→iC
open Nat renaming le_refl→ay,ne_of_lt→aF,lt_of_lt_of_le→aK,zero_le→aZ,le_trans→bU,ne_of_gt→b8,lt_irrefl→cq,lt_succ_of_lt→cQ,not_lt_zero→dB,le_add_right→dX,le_succ→eC,le_of_lt→eJ,le_of_eq→eM,lt_trans→eR,sub_self→eS,lt_succ_self→eX,mod_lt→f7,le_antisymm→hJ,succ_mul→iu,mul_comm→iw
open PySem.Str renaming ofString→aD,length→ig,empty→iA
open Option renaming some→aL,map_eq_some_iff→aO,bind_eq_some_iff→cu,isSome_map→fI
open PySem.W renaming findIn→aP,emptyDict→bQ,hideAll→ci,fnOf→cr,instObj→cy,kitOne→cH,kia_one→cM,plainGet→c8,hasDictIn→dI,excIn→d9,plainOver→eL,hideAll_none→e8,hideAll_get→fj,plainGet_of→fk,isFn→fz,lookIn→fB,exmOne→fC,methodObj→fF,takerIn→g0,makesIn→g6,OpenLaw→g7
open PySem.PassesOwn renaming leaving→aQ
open Bool renaming and_eq_true→aR,false_ne_true→bE,or_eq_true→g9
open Int renaming emod_eq_of_lt→bb,emod_eq_zero_of_dvd→b6,emod_lt_of_pos→ck,emod_eq_emod_iff_emod_sub_eq_zero→cx,emod_nonneg→cP,dvd_of_emod_eq_zero→dg,dvd_sub→dj,dvd_self_sub_emod→dG,toNat_natCast→dJ,dvd_add→eI,one_mul→fK,mul_assoc→fR,dvd_neg→ia,mul_sub→iF
open Ne renaming symm→be
open Sum renaming inr→bf,inl→eZ
open PySem.Around renaming under_plainId→bh,under→iq
open PySem.Builtin.SmallTypes renaming nextOf→bq,ownedTupleIsFree→bT
open PySem.Value renaming ref→bu,none→cj,isStrOf_shape→cY,bool→dm,int→eu,str→eV,isInt→e7,isStrOf→fN,type→fZ
open PyProof.Rows renaming callWith_type1→bv
open PySem.Builtin.List renaming listExtendWith→bw,listTooLong→cV,listSameRef→cW
open PySem.Heap.SameBut renaming update→bz
open PySem.SetTable renaming below→bA,grown→de,laid→ib
open Classical renaming byContradiction→bB
open PySem.NameKind renaming free→bH
open Array renaming length_toList→bJ,getElem?_eq_getElem→bO,getElem?_toList→bS,getElem?_eq_none→dq,mk→ij
open PySem.F renaming called_set→bX,slot_tuple_iterator_next→ce,plainAttrs_list→db,plain_list_iadd→df,slot_zip_next→dF,slot_tuple_getattribute→d5,args_tuple_add_2→d8,slot_list_getattribute→eh,entry_tuple_add→eE,slot_tuple_add→eN,slot_dict_get→eT
open Or renaming inl→bY,inr→fE
open PySem.Builtin.Range renaming rangeSize→bZ,small→fy
open ForInStep renaming yield→cz
open PySem.Builtin.Frozenset renaming updateFrom→cA
open False renaming elim→cG
open List.Perm renaming refl→cI
open List.Pairwise renaming imp→cS,imp_of_mem→ei,nil→eQ,map→fL
open PySem.Obj renaming mapSeq→cU,putSet→ii
open PySem renaming mem_of_lookup→cZ,Within→ip,call→iG
open True renaming intro→dn
open PySem.Calls renaming evalArgs_plain→dP,spliced_cons→et,callWith_builtin→eO,spliced_nil→fH
open Eq renaming trans→dQ
open PyProof.Rows.F renaming plain_set_update_loop→eF
open List.Sublist renaming refl→fM
open PySem.Paired renaming length→fO
open PySem.Shared renaming TypeIs→fQ,heap→iE
open PySem.Txt renaming join→fV,partition→ic
open Prod renaming ext→im
open PySem.Code renaming isFrame→ir
open PySem.IsRange renaming new→iB
open PySem.Walks renaming list→iH
theorem Aa {c:Prop}{h:Decidable c}(k:c){a:Sort _}{t e:a}:ite c t e=t:=if_pos k
theorem Ab {c:Prop}{h:Decidable c}(k:¬c){a:Sort _}{t e:a}:ite c t e=e:=if_neg k
theorem Ac {p:Prop}[h:Decidable p](k:¬p):decide p=false:=decide_eq_false k
theorem Ad {p:Prop}[h:Decidable p](k:p):decide p=true:=decide_eq_true k
theorem Ae {p:Prop}[h:Decidable p](k:decide p=true):p:=of_decide_eq_true k
noncomputable section
open PySem.W (Frag nsIn keepIn codeIn mg_of mg_none_of)
set_option Elab.async false
set_option linter.all false
set_option maxRecDepth 100000
namespace Kx
noncomputable section
open PySem PySem.W PySem.Calls PyProof.Rows
noncomputable def zP:Pos:=⟨0,0,0,0⟩
noncomputable def anV:Option iL:=iI (.ref 6)
noncomputable def hA (P:Params):List Obj:=(lA P).objs.toList++[⟨.type "tuple",iK,.seq #[] 0,#[]⟩,⟨.none,iK,.fields #[],#[]⟩,
 ⟨.type "code",iK,.fields #[.str "<module>" 182,.str "<module>" 183,.str "/claim/cut.py" 184,.int 1 0,.int 0 0,.int 0 0,.int 0 0,.int 0 0,.ref 11,.bool iN,.int 181 0,.ref 12,.none,.none,.none,.none,.int 185 0,.int 1 0,.str "/claim/cut.py" 186],#[]⟩,
 ⟨.type "frame",iK,.plain,#[iI (.ref 13),iI (.ref 3),iI (.ref 3),iK,iI (.str "__main__" 164),iK,iI (.ref 0)]⟩]
noncomputable def enP (p:iU):Env:={ scope:=p.main.scope,locals:=mainNs,globals:=mainNs,cells:=[],code:=.ref 13,frame:=iI 14 }
noncomputable def cdP (p:iU):Code:=.body (behindTheImports p) (enP p)
noncomputable def trA:List Obj->Nat->BT->BT
 | [],_,t=>t
 | o::l,i,t=>trA l (i+1) (t.ins i o)
noncomputable def SA (w:iV) (os:lK):SharedT:=⟨trA (hA w.params) 0 .nil,15,(lA w.params).life,ij [],mS,187,os⟩
noncomputable def GL (p:iU) (w:iV) (M:Nat) (os:lK):Option (Flow×Code×iO):=
 (segRunT ml p w 11 anV 1 M (SA w os) (piecesOf (behindTheImports p) (enP p) (cdP p) zP [topFrame zP])).bind λr=>
  (topRun ml p w 11 anV 5 r.2.1.abs (restOf [] (enP p) (cdP p) r.2.2.2 [topFrame zP])).map λs=>(r.1,r.2.2.1,s)
abbrev qe7 (p:iU) (w:iV) (x:Flow×Code×iO):=
 (x.1,x.2.1,(staticsOk (l6 p.main.body) (lA w.params) x.2.2.heap&&namesBound p x.2.2.heap&&gensDone x.2.2&&laidKept (lA w.params) x.2.2.heap))
abbrev VJ (p q:iU) (loose:List Str) (Xt:iO->Bool) (x:Flow×Code×iO):=openSeen q loose (l6 p.main.body) Xt iM x.2.2
theorem left_T {p q:iU} {loose:List Str} {Xt:iO->Bool} {α:Type} {Yf:iO->α} {Ya:iV->α} {N M:Nat}
  (e:opening p=plainProg p.main.scope.names) (hN:Nat.ble 600 N=iM) (f:∀ s,fenceModules? p s=iI s)
  (size:∀ w:iV,((lA w.params).isNs iT&&(ij []:Array mX).size == 0,(lA w.params).objs.size,(lA w.params).nsMap iT "__annotations__")=(iM,11,anV))
  (pre:∀ (w:iV) (os:lK),topGo ml p w 11 anV 12 ⟨lA w.params,ij [],mS,boot_toks,os⟩ (topStub p)=iI ((SA w os).abs,⟨denote ml (cdP p),cdP p,zP,[topFrame zP]⟩))
  (blk:∀ (w:iV) (os:lK),segRun ml p w 11 anV 1 1 (SA w os).abs (blockOf (behindTheImports p) (enP p) (cdP p) zP [topFrame zP])=iI (.next,(SA w os).abs,cdP p,zP))
  (le:Nat.ble (12+(1+(M+5))) N=iM)
  (m0:∀ (w:iV) (os:lK),(GL p w M os).map (qe7 p w)=iI (.next,cdP p,iM))
  (m1:∀ (w:iV) (os:lK),(GL p w M os).map (λx=>(VJ p q loose Xt x).1)=iI (l4 q loose).1)
  (m3:∀ (w:iV) (os:lK),(GL p w M os).map (λx=>(VJ p q loose Xt x).2.1)=iI (l4 q loose).2.1)
  (m4:∀ (w:iV) (os:lK),(GL p w M os).map (λx=>(VJ p q loose Xt x).2.2.1)=iI (l4 q loose).2.2.1)
  (m5:∀ (w:iV) (os:lK),(GL p w M os).map (λx=>(VJ p q loose Xt x).2.2.2)=iI (l4 q loose).2.2.2)
  (m2:∀ (w:iV) (os:lK),(GL p w M os).map (λx=>Yf x.2.2)=iI (Ya w)):LeftO p q loose Xt Yf Ya N:=λw=>by
 obtain ⟨⟨h,gs,d,k,os⟩,a,a'⟩:=aO.mp (boot_open e hN f w)
 obtain ⟨rfl,rfl,rfl,rfl⟩:h=lA w.params/\gs=ij []/\d=mS/\k=boot_toks:=by simpa using a'
 obtain ⟨x,hx,hl⟩:=aO.mp (m0 w os)
 have l2:openSeen q loose (l6 p.main.body) Xt iM x.2.2=l4 q loose:=by
  have a1:=m1 w os
  have a3:=m3 w os
  have a4:=m4 w os
  have a5:=m5 w os
  rw [hx] at a1 a3 a4 a5
  exact im (aL.inj a1) (im (aL.inj a3) (im (aL.inj a4) (aL.inj a5)))
 obtain ⟨y,hy,hY⟩:=aO.mp (m2 w os)
 obtain rfl:y=x:=aL.inj (hy.symm.trans hx)
 obtain ⟨r,hr,hz⟩:=cu.mp hx
 obtain ⟨s,hs,rfl⟩:=aO.mp hz
 obtain ⟨fl,st,co,po⟩:=r
 unfold qe7 at hl
 simp only [Prod.mk.injEq] at hl
 obtain ⟨rfl,rfl,l1⟩:=hl
 have t1:=piece_app (rest:=[]) (segRun_of hr) hs
 rw [bj] at t1
 have t2:=piece_block (blk w os) t1
 have t3:=topRun_mono (N - (12+(1+(M+5)))) _ _ _ _ (go_top (pre w os) t2)
 rw [show 12+(1+(M+5))+(N - (12+(1+(M+5))))=N by have:=Nat.le_of_ble_eq_true le; omega] at t3
 obtain ⟨z1,z2,z3⟩:_/\_/\_:=by simpa only [Prod.mk.injEq] using size w
 have t:topFrom ml p w N ⟨lA w.params,ij [],mS,boot_toks,os⟩=iI s:=by
  unfold topFrom
  dsimp only
  rw [z1,z2,z3,t3]
  show (match staticsOk (l6 p.main.body) (lA w.params) s.heap&&namesBound p s.heap&&gensDone s&&laidKept (lA w.params) s.heap with | true=>_ | false=>_)=_
  rw [l1]
 unfold openEnds
 rw [a]
 show (topFrom ml p w N _).map _=_
 rw [t]
 exact congrArg iI (im l2 hY)
end
end Kx
noncomputable section
open PySem PySem.W PyProof.Rows
noncomputable def Kx.vq:iU:=view PySem.Challenge.pw_lookwords_k34_whole_orders_and_counts [0,2,3,4,5,6,7,8,9,11,12,13,14,15,16,17,18,19,20,21,22,23,24,25,26,27,28,30,31,32,33,34,35,37,38,39,40,41,42,43,44,45,46,47,48,49,50,51,53,54,55,56,57,58,59,60,61,62,64,66,67,68,70,71,72,73,74,75,76,77]
noncomputable def Kx.xt (s:iO):Bool:=xlAt Kx.vq [] s&&recOk (RowW.records (OpenRow.toRowW (OpenLaw.row PySem.Challenge.rw_lookwords_k34_whole_orders_and_counts))) s
theorem Kx.m0:∀ (w:iV) (os:lK),(Kx.GL PySem.Challenge.pw_lookwords_k34_whole_orders_and_counts w 15000 os).map (Kx.qe7 PySem.Challenge.pw_lookwords_k34_whole_orders_and_counts w)=iI (.next,Kx.cdP PySem.Challenge.pw_lookwords_k34_whole_orders_and_counts,iM):=by intro w os; kernel_rfl
theorem Kx.m1:∀ (w:iV) (os:lK),(Kx.GL PySem.Challenge.pw_lookwords_k34_whole_orders_and_counts w 15000 os).map (λx=>(Kx.VJ PySem.Challenge.pw_lookwords_k34_whole_orders_and_counts Kx.vq [] Kx.xt x).1)=iI (l4 Kx.vq []).1:=by intro w os; kernel_rfl
theorem Kx.m3:∀ (w:iV) (os:lK),(Kx.GL PySem.Challenge.pw_lookwords_k34_whole_orders_and_counts w 15000 os).map (λx=>(Kx.VJ PySem.Challenge.pw_lookwords_k34_whole_orders_and_counts Kx.vq [] Kx.xt x).2.1)=iI (l4 Kx.vq []).2.1:=by intro w os; kernel_rfl
theorem Kx.m4:∀ (w:iV) (os:lK),(Kx.GL PySem.Challenge.pw_lookwords_k34_whole_orders_and_counts w 15000 os).map (λx=>(Kx.VJ PySem.Challenge.pw_lookwords_k34_whole_orders_and_counts Kx.vq [] Kx.xt x).2.2.1)=iI (l4 Kx.vq []).2.2.1:=by intro w os; kernel_rfl
theorem Kx.m5:∀ (w:iV) (os:lK),(Kx.GL PySem.Challenge.pw_lookwords_k34_whole_orders_and_counts w 15000 os).map (λx=>(Kx.VJ PySem.Challenge.pw_lookwords_k34_whole_orders_and_counts Kx.vq [] Kx.xt x).2.2.2)=iI (l4 Kx.vq []).2.2.2:=by intro w os; kernel_rfl
local macro_rules | `(tactic| o_head $H) => `(tactic| (refine holds_open (q := Kx.vq) (loose := []) (Xt := Kx.xt) (XP := XL Kx.vq []) (Yf := Hook.obs $H) (Ya := Hook.val $H) (YP := Hook.says $H) (N := 20000) ?hl (Hook.of $H) (Hook.keeps $H) (fun s e => xl_of s (Bool.and_eq_true_iff.mp e).1) XL.keeps (by rfl) (by rfl) (by rfl) (fun s e => recFacts_of (Bool.and_eq_true_iff.mp e).2) (by rfl) (by first | assumption | decide +kernel) (by decide +kernel) ⟨rfl, rfl, rfl, rfl, rfl, by decide +kernel⟩ ?hw ?hc; (case hl => refine Kx.left_T (p := PySem.Challenge.pw_lookwords_k34_whole_orders_and_counts) (M := 15000) ?e rfl ?f ?s ?p ?b rfl Kx.m0 Kx.m1 Kx.m3 Kx.m4 Kx.m5 ?m; (case e => kernel_rfl); (case f => intro s; kernel_rfl); (case s => intro w; kernel_rfl); (case p => intro w os; kernel_rfl); (case b => intro w os; kernel_rfl); (case m => intro w os; kernel_rfl))))
set_option maxHeartbeats 0 in
open_top Kx.hd for PySem.Challenge.rw_lookwords_k34_whole_orders_and_counts
end
namespace L2
open PySem PySem.Spec PyProof.Rows
abbrev Key:=Sum Int Str
noncomputable def Ql:Key->iL->Bool
 | .inl k,v=>e7 k v
 | .inr x,v=>fN x v
noncomputable def qml (w:iV):Key->Int
 | .inl k=>hashInt k
 | .inr x=>hashStr w x
theorem jr:∀ {k:Key} {v:iL},Ql k v=iM->(∃ i t,k=eZ i/\v=eu i t)\/(∃ x t,k=bf x/\v=eV x t)
 | .inl i,v,h=>by obtain ⟨t,e⟩:=Value.isInt_shape (k:=i) (v:=v) h;exact .inl ⟨i,t,rfl,e⟩
 | .inr x,v,h=>by obtain ⟨t,e⟩:=cY (x:=x) (v:=v) h;exact .inr ⟨x,t,rfl,e⟩
theorem VL (i:Int) (t:Tok):Ql (.inl i) (.int i t)=true:=by simp [Ql,e7]
theorem VM (x:Str) (t:Tok):Ql (.inr x) (.str x t)=true:=by simp [Ql,fN]
theorem qht (a b:Int):decide ((eZ a:Key)=eZ b)=(a == b):=by
 by_cases e:a=b;·subst e; simp
 ·have h:¬(eZ a:Key)=eZ b:=λq=>e (eZ.inj q);rw [Ac h];exact (beq_eq_false_iff_ne.mpr e).symm
theorem qhu (a b:Str):decide ((bf a:Key)=bf b)=decide (a=b):=by
 by_cases e:a=b;·subst e; simp
 ·have h:¬(bf a:Key)=bf b:=λq=>e (bf.inj q);rw [Ac h,Ac e]
theorem qhv (a:Int) (b:Str):decide ((eZ a:Key)=bf b)=false:=Ac (λq=>nomatch q)
theorem qhw (a:Str) (b:Int):decide ((bf a:Key)=eZ b)=false:=Ac (λq=>nomatch q)
noncomputable def ji (prog:iU) (w:iV):PySem.KeyKind prog w Key where
 is:=Ql
 hash:=qml w
 inj:=λv a b f hb=>by
  rcases jr f with ⟨i,t,rfl,rfl⟩ | ⟨x,t,rfl,rfl⟩
  ·rcases jr hb with ⟨j,u,rfl,e⟩ | ⟨y,u,rfl,e⟩
   ·injection e with e1 _; rw [e1]
   ·exact nomatch e
  ·rcases jr hb with ⟨j,u,rfl,e⟩ | ⟨y,u,rfl,e⟩
   ·exact nomatch e
   ·injection e with e1 _; rw [e1]
 byValue:=λk v h=>by rcases jr h with ⟨i,t,rfl,rfl⟩ | ⟨x,t,rfl,rfl⟩ <;> rfl
 pyHash:=λc h=>by
  rcases jr c with ⟨i,t,rfl,rfl⟩ | ⟨x,t,rfl,rfl⟩
  ·exact wpAny_pyHash_int h
  ·exact wpAny_pyHash_str h
 eqBool:=λd c h=>by
  rcases jr d with ⟨i,t,rfl,rfl⟩ | ⟨x,t,rfl,rfl⟩
  ·rcases jr c with ⟨j,u,rfl,rfl⟩ | ⟨y,u,rfl,rfl⟩
   ·rw [qht] at h; exact wpAny_eqBool_int h
   ·rw [qhv] at h; exact SeqAt.EqAt.int_str i t y u _ _ _ _ h
  ·rcases jr c with ⟨j,u,rfl,rfl⟩ | ⟨y,u,rfl,rfl⟩
   ·rw [qhw] at h; exact SeqAt.EqAt.str_int x t j u _ _ _ _ h
   ·rw [qhu] at h; exact wpAny_eqBool_str h
 «strs»:=λk x t v h=>by
  rcases jr h with ⟨i,u,rfl,e⟩ | ⟨y,u,rfl,e⟩
  ·exact nomatch e
  ·injection e with e1 _;subst e1;cases v <;> rfl
theorem UB (prog:iU) (w:iV) (i:Int) (t:Tok):(ji prog w).is (.inl i) (.int i t)=true:=VL i t
theorem UC (prog:iU) (w:iV) (x:Str) (t:Tok):(ji prog w).is (.inr x) (.str x t)=true:=VM x t
inductive V where
 | non | bl (b:Bool) | int (i:Int) | str (x:Str) | byt (b:Array UInt8) | flt (b:UInt64) | ref (a:Addr) | ty (n:String)
 deriving DecidableEq
def RelV:V->iL->Prop
 | .non,u=>u=cj
 | .bl b,u=>u=dm b
 | .int i,u=>∃ t,u=eu i t
 | .str x,u=>∃ t,u=eV x t
 | .byt b,u=>∃ t,u=Value.bytes b t
 | .flt b,u=>∃ t,u=Value.float b t
 | .ref a,u=>u=bu a
 | .ty n,u=>u=fZ n
abbrev Vals:List V->List iL->Prop:=mT RelV
variable {xs:List V} {us:List iL}
theorem Vals.length (r:Vals xs us):xs.length=us.length:=fO r
theorem Vals.get:∀ {xs:List V} {us:List iL} {i:Nat} {x:V},Vals xs us->xs[i]?=iI x->∃ u,us[i]?=iI u/\RelV x u
 | _,_,_,_,.nil,e=>by simp at e
 | _,_,0,_,.cons r _,e=>by simp at e; subst e; exact ⟨_,rfl,r⟩
 | _,_,i+1,x,.cons _ t,e=>by obtain ⟨u,h1,h2⟩:=Vals.get (i:=i) (x:=x) t (by simpa using e);exact ⟨u,by simpa using h1,h2⟩
variable {u:iL}
theorem Vals.set {x:V} (r:RelV x u):∀ {xs:List V} {us:List iL} (i:Nat),Vals xs us->Vals (xs.set i x) (us.set i u)
 | _,_,_,.nil=>.nil
 | _,_,0,.cons _ t=>.cons r t
 | _,_,i+1,.cons q t=>.cons q (Vals.set r i t)
theorem Vals.append:∀ {xs ys:List V} {us ws:List iL},Vals xs us->Vals ys ws->Vals (xs++ys) (us++ws)
 | _,_,_,_,.nil,s=>s
 | _,_,_,_,.cons r t,s=>.cons r (Vals.append t s)
theorem Vals.take:∀ {xs:List V} {us:List iL} (n:Nat),Vals xs us->Vals (xs.take n) (us.take n)
 | _,_,0,_=>.nil
 | _,_,_+1,.nil=>.nil
 | _,_,n+1,.cons r t=>.cons r (Vals.take n t)
theorem Vals.drop:∀ {xs:List V} {us:List iL} (n:Nat),Vals xs us->Vals (xs.drop n) (us.drop n)
 | _,_,0,r=>r
 | _,_,_+1,.nil=>.nil
 | _,_,n+1,.cons _ t=>Vals.drop n t
def RelO:Option V->Option iL->Prop
 | some v,iI u=>RelV v u
 | none,iK=>True
 | _,_=>False
def KV {κ:Type}:List (κ×V)->List (κ×iL)->Prop:=mT λ(p:κ×V) (q:κ×iL)=>p.1=q.1/\RelV p.2 q.2
noncomputable def kV:Key->V
 | .inl i=>.int i
 | .inr x=>.str x
inductive HO where
 /-- a list -/
 | lst (xs:List V)
 /-- a tuple (never changes) -/
 | tup (xs:List V)
 /-- a dict whose keys are ints and texts; one whose keys are tuples of ints and texts (the empty one is both) -/
 | dK (kvs:List (Key×V)) | dT (kvs:List (List Key×V))
 /-- a set of ints: its members,its size -/
 | set (S:Int->Bool) (n:Nat)
 /-- an instance of the class at C,its dict at dx,its attributes -/
 | ins (C dx:Addr) (fs:List (Str×V))
 /-- the dict of the instance at x -/
 | own (x:Addr)
 /-- the dict of an exception -/
 | xd (fs:List (Str×V))
 /-- a bound method,f of x -/
 | met (f x:Addr)
 /-- a range object lo,lo+1,.. below hi -/
 | rng (lo hi:Int)
 /-- a thing that is known to the object (the script; a dict while a loop walks it): read,never written while it is so -/
 | frz (o:Obj) (u:HO)
 /-- a code object's table -/
 | tbl (ps:Array iL)
 /-- any other thing,by what is iM of its one object (a def of one's own: SetO a S n:=HO.ext λh=>..) -/
 | ext (φ:Heap->Prop)
abbrev Hp:=Addr->Option HO
noncomputable def upd (H:Hp) (a:Addr) (o:HO):Hp:=λb=>if b=a then iI o else H b
variable {H:Hp} {a:Addr} {o:HO}
theorem qm:upd H a o a=iI o:=by unfold upd; rw [Aa rfl]
variable {b:Addr}
theorem qx (h:b≠a):upd H a o b=H b:=by unfold upd; rw [Ab h]
theorem qkw {u:HO} (h:H a=iI o) (h':H b=iI u) (d:o≠u):a≠b:=by intro e; subst e; rw [h] at h'; exact d (aL.inj h')
theorem qF (h:H a=iI o) (h':H b=iK):a≠b:=by intro e; subst e; rw [h] at h'; cases h'
section
variable (P:iU) (w:iV)
def ObjOk (H:Hp) (h:Heap) (a:Addr):HO->Prop
 | .lst xs=>xs.length<=sizeLine/\∃ (its:List iL) (n:Nat),Vals xs its/\h.get? a=iI { cls:=.type "list",data:=.seq its.toArray n }
 | .tup xs=>(xs.length<=sizeLine/\∃ o,h.get? a=iI o/\o.dict=iK)/\∃ its:List iL,Vals xs its/\IsTup h a its.toArray
 | .dK kvs=>kvs.length<=sizeLine/\(a == lj)=iN/\∃ vs,KV kvs vs/\h.DictOf (ji P w) a vs
 | .dT kvs=>kvs.length<=sizeLine/\(a == lj)=iN/\∃ xs:List (List Key×Addr×iL),mT (λ(p:List Key×V) (q:List Key×Addr×iL)=>p.1=q.1/\H q.2.1=iI (.tup (p.1.map kV))/\RelV p.2 q.2.2) kvs xs /\
   ∃ o es ep,h.get? a=iI o/\o.ExactDict/\o.data=.dict es ep/\es.toList=xs.map (entryOfKey (mD (ji P w)))/\(xs.map (·.1)).Nodup
 | .set S n=>h.SetOf (intKind P w) a S n
 | .ins C dx fs=>H dx=iI (.own a)/\fs.length<=1000/\dx≠a/\h.get? a=iI (cy C dx) /\
   ∃ mA,h.Ns1 dx mA/\(∀ f,RelO (fs.lookup f) (mA f))/\ip mA (fs.map (·.1))
 | .own _=>∃ o,h.get? a=iI o
 | .xd fs=>∃ mA,h.Ns1 a mA/\∀ f,RelO (fs.lookup f) (mA f)
 | .rng lo hi=>∃ t u v,h.get? a=iI { cls:=.type "range",data:=.fields #[.int lo t,.int hi u,.int 1 v] }
 | .frz o u=>h.get? a=iI o/\ObjOk H h a u
 | .tbl ps=>h.get? a=iI { cls:=.none,data:=.fields ps }
 | .met f x=>h.get? a=iI (fF (.ref f) (.ref x))
 | .ext φ=>φ h/\(∃ o,h.get? a=iI o)/\∀ h1 h2:Heap,φ h1->(∀ o,h1.get? a=iI o->h2.get? a=iI o)->φ h2
def HOk (H:Hp) (h:Heap):Prop:=∀ a o,H a=iI o->ObjOk P w H h a o
end
variable {P:iU} {w:iV} {H':Hp} {h h':Heap} {α:Type}
section
theorem ObjOk.lt (x:ObjOk P w H h a o):a < h.objs.size:=by
 cases o with
 | lst xs=>obtain ⟨_,_,_,_,e⟩:=x; exact aC e
 | tup xs=>obtain ⟨_,_,_,p⟩:=x; exact p.lt
 | dK kvs=>obtain ⟨_,_,_,_,o,_,_,e,_⟩:=x; exact aC e
 | dT kvs=>obtain ⟨_,_,_,_,o,_,_,e,_⟩:=x; exact aC e
 | set S n=>obtain ⟨o,_,_,_,e,_⟩:=x; exact aC e
 | ins C dx fs=>obtain ⟨_,_,_,e,_⟩:=x; exact aC e
 | own y=>obtain ⟨_,e⟩:=x; exact aC e
 | xd fs=>obtain ⟨_,⟨_,_,_,e,_⟩,_⟩:=x; exact aC e
 | rng lo hi=>obtain ⟨_,_,_,e⟩:=x; exact aC e
 | frz b u=>obtain ⟨e,_⟩:=x; exact aC e
 | tbl ps=>exact aC (show h.get? a=iI _ from x)
 | met f y=>exact aC (show h.get? a=iI _ from x)
 | ext φ=>obtain ⟨_,⟨_,e⟩,_⟩:=x; exact aC e
theorem Paired.mapP {β:Type} {F G:α->β->Prop}:∀ {c:List α} {l:List β},mT F c l->(∀ a b,F a b->G a b)->mT G c l
 | _,_,.nil,_=>.nil
 | _,_,.cons r t,f=>.cons (f _ _ r) (Paired.mapP t f)
theorem ObjOk.stay (x:ObjOk P w H h a o) (k:∀ b u,(b=a\/H b=iI (.own a))->h.get? b=iI u->h'.get? b=iI u)
  (l:∀ b,H b=iI (.own a)->H' b=iI (.own a)) (ht:∀ b xs,H b=iI (.tup xs)->H' b=iI (.tup xs)):ObjOk P w H' h' a o:=by
 induction o with
 | lst xs=>obtain ⟨z,its,n,r,e⟩:=x; exact ⟨z,its,n,r,k _ _ (.inl rfl) e⟩
 | tup xs=>obtain ⟨⟨z,o2,i,d2⟩,its,r,g,e,c⟩:=x; exact ⟨⟨z,o2,k _ _ (.inl rfl) i,d2⟩,its,r,g,k _ _ (.inl rfl) e,c⟩
 | dK kvs=>obtain ⟨z,y,vs,r,g,es,ep,e,c⟩:=x; exact ⟨z,y,vs,r,g,es,ep,k _ _ (.inl rfl) e,c⟩
 | dT kvs=>obtain ⟨z,y,xs,r,g,es,ep,e,c⟩:=x;exact ⟨z,y,xs,Paired.mapP r λp q z=>⟨z.1,ht _ _ z.2.1,z.2.2⟩,g,es,ep,k _ _ (.inl rfl) e,c⟩
 | set S n=>obtain ⟨g,es,ep,t,e,c⟩:=x; exact ⟨g,es,ep,t,k _ _ (.inl rfl) e,c⟩
 | ins C dx fs=>obtain ⟨d,z,ne,e,mA,⟨od,es,ep,i,c⟩,r⟩:=x;exact ⟨l _ d,z,ne,k _ _ (.inl rfl) e,mA,⟨od,es,ep,k _ _ (.inr d) i,c⟩,r⟩
 | own y=>obtain ⟨g,e⟩:=x; exact ⟨g,k _ _ (.inl rfl) e⟩
 | xd fs=>obtain ⟨mA,⟨od,es,ep,e,c⟩,r⟩:=x; exact ⟨mA,⟨od,es,ep,k _ _ (.inl rfl) e,c⟩,r⟩
 | rng lo hi=>obtain ⟨t,u,v,e⟩:=x; exact ⟨t,u,v,k _ _ (.inl rfl) e⟩
 | frz g u j=>obtain ⟨e,q⟩:=x; exact ⟨k _ _ (.inl rfl) e,j q⟩
 | tbl ps=>have e:h.get? a=iI { cls:=.none,data:=.fields ps }:=x;show h'.get? a=iI { cls:=.none,data:=.fields ps };exact k a _ (.inl rfl) e
 | met f y=>have e:h.get? a=iI (fF (.ref f) (.ref y)):=x;show h'.get? a=iI (fF (.ref f) (.ref y));exact k a _ (.inl rfl) e
 | ext φ=>obtain ⟨p,⟨o,e⟩,st⟩:=x; exact ⟨st _ _ p λo q=>k _ _ (.inl rfl) q,⟨o,k _ _ (.inl rfl) e⟩,st⟩
theorem HOk.lt (x:HOk P w H h) (e:H a=iI o):a < h.objs.size:=(x a o e).lt
theorem HOk.fresh (x:HOk P w H h) (e:h.objs.size<=a):H a=none:=by
 cases q:H a with
 | none=>rfl
 | some u=>exact absurd (aK (x.lt q) e) (cq _)
theorem HOk.kept (x:HOk P w H h) (k:∀ b u,h.get? b=iI u->h'.get? b=iI u):HOk P w H h':=λa o e=>
 (x a o e).stay (λb u _ q=>k b u q) (λ_ q=>q) λ_ _ q=>q
theorem HOk.laid (x:HOk P w H h) (k:∀ b u,h.get? b=iI u->h'.get? b=iI u) (hp:h.objs.size<=a) (new:ObjOk P w (upd H a o) h' a o):HOk P w (upd H a o) h':=λb u e=>by
 have n:=x.fresh hp;by_cases hb:b=a;·subst hb; rw [qm] at e; cases e; exact new
 ·rw [qx hb] at e;exact (x b u e).stay (λc v _ q=>k c v q) (λc q=>by rw [qx (qF q n)]; exact q) λc xs q=>by rw [qx (qF q n)]; exact q
end
def Rd (H:Hp) (a:Addr) (u:HO):Prop:=H a=iI u\/∃ o,H a=iI (.frz o u)
theorem Rd.ok {u:HO} (r:Rd H a u) (x:HOk P w H h):ObjOk P w H h a u:=by
 rcases r with r | ⟨o,r⟩
 ·exact x a u r
 ·obtain ⟨_,q⟩:=x a _ r;exact q
def Mut:Option HO->Prop
 | some (.lst _)=>True
 | some (.dK _)=>True
 | some (.dT _)=>True
 | some (.set _ _)=>True
 | some (.ins _ _ _)=>True
 | some (.ext _)=>True
 | _=>False
section
variable {x e:Addr} {o':HO}
theorem HOk.write (ok:HOk P w H h) (m:Mut (H x)) (g:e=x\/H e=iI (.own x)) (k:∀ b u,b≠e->h.get? b=iI u->h'.get? b=iI u) (o:∃ u,h'.get? e=iI u)
  (new:ObjOk P w (upd H x o') h' x o'):HOk P w (upd H x o') h':=λb u q=>by
 have n:∀ c y,H c=iI (.own y)->c≠x:=λc y r z=>by subst z; rw [r] at m; exact m
 have p:∀ c xs,H c=iI (.tup xs)->c≠x:=λc xs r z=>by subst z; rw [r] at m; exact m
 by_cases hb:b=x;·subst hb; rw [qm] at q; cases q; exact new
 ·rw [qx hb] at q;by_cases a:b=e
  ·have f:H b=iI (.own x):=by
    rcases g with z | z;·exact absurd (a.trans z) hb
    ·rw [a]; exact z
   rw [q] at f; cases f;obtain ⟨v,i⟩:=o;exact ⟨v,by rw [a]; exact i⟩
  ·refine (ok b u q).stay (λc v d r=>k c v ?_ r) (λc r=>by rw [qx (n c b r)]; exact r) λc xs r=>by rw [qx (p c xs r)]; exact r
   rcases d with rfl | d;·exact a
   ·rintro rfl;rcases g with z | z;·exact n c b d z
    ·rw [d] at z; cases z; exact hb rfl
end
structure Un (fs ex:List Addr) (H H':Hp) (h h':Heap):Prop where
 keep:∀ b o,h.get? b=iI o->H b=iK->b∉fs->b∉ex->h'.get? b=iI o
 slot:∀ b o,h.get? b=iI o->H b=iK->b∈fs->b∉ex->∃ sl,h'.get? b=iI { o with slots:=sl }
 free:∀ b o,h.get? b=iI o->H b=iK->b∉ex->H' b=iK
 there:∀ b o,h.get? b=iI o->b∉ex->∃ o',h'.get? b=iI o'
 tups:∀ b xs,H b=iI (.tup xs)->H' b=iI (.tup xs)
 frzs:∀ b o u,H b=iI (.frz o u)->H' b=iI (.frz o u)
 tbls:∀ b ps,H b=iI (.tbl ps)->∃ more,H' b=iI (.tbl (ps++more))
section
variable {fs fs' ex ex':List Addr} {H1 H2:Hp} {h1 h2:Heap} {x e:Addr}
theorem Un.any (u:Un fs ex H H1 h h1) {o:Obj} (q:h.get? b=iI o) (n:H b=iK) (hx:b∉ex):∃ sl,h1.get? b=iI { o with slots:=sl }:=by
 by_cases hb:b∈fs;·exact u.slot b o q n hb hx
 ·exact ⟨o.slots,u.keep b o q n hb hx⟩
theorem Un.kept (k:∀ b u,h.get? b=iI u->h'.get? b=iI u):Un fs ex H H h h':=
 ⟨λb o q _ _ _=>k b o q,λb o q _ _ _=>⟨o.slots,k b o q⟩,λ_ _ _ n _=>n,λb o q _=>⟨o,k b o q⟩,λ_ _ q=>q,λ_ _ _ q=>q,λ_ ps q=>⟨#[],by rw [q]; simp⟩⟩
theorem Un.refl:Un fs ex H H h h:=Un.kept λ_ _ q=>q
theorem Un.laid (k:∀ b u,h.get? b=iI u->h'.get? b=iI u) (hp:h.objs.size<=a) (c:H a=iK):Un fs ex H (upd H a o) h h' where
 keep:=λb u q _ _ _=>k b u q
 slot:=λb u q _ _ _=>⟨u.slots,k b u q⟩
 free:=λb u q n _=>by rw [qx (aF (aK (aC q) hp))]; exact n
 there:=λb u q _=>⟨u,k b u q⟩
 tups:=λb xs q=>by rw [qx (qF q c)]; exact q
 frzs:=λb u xs q=>by rw [qx (qF q c)]; exact q
 tbls:=λb ps q=>⟨#[],by rw [qx (qF q c),q]; simp⟩
theorem Un.write (m:Mut (H x)) (g:e=x\/H e=iI (.own x)) (k:∀ b u,b≠e->h.get? b=iI u->h'.get? b=iI u) (c:∃ u,h'.get? e=iI u):Un fs ex H (upd H x o) h h':=by
 have hx:∀ b,H b=iK->b≠x:=λb n z=>by subst z; rw [n] at m; exact m
 have hb:∀ b,H b=iK->b≠e:=λb n z=>by
  subst z;rcases g with r | r;·exact hx b n r
  ·rw [n] at r; cases r
 have hm:∀ b u,H b=iI u->¬Mut (iI u)->b≠x:=λb u q nm z=>by subst z; rw [q] at m; exact nm m
 refine ⟨λb u q n _ _=>k b u (hb b n) q,λb u q n _ _=>⟨u.slots,k b u (hb b n) q⟩,λb u q n _=>by rw [qx (hx b n)]; exact n,λb u q _=>?_,λb xs q=>by rw [qx (hm b _ q λz=>z)]; exact q,λb u xs q=>by rw [qx (hm b _ q λz=>z)]; exact q,λb ps q=>⟨#[],by rw [qx (hm b _ q λz=>z),q]; simp⟩⟩;by_cases a:b=e;·subst a; exact c
 ·exact ⟨u,k b u a q⟩
end
noncomputable def trk (h:Heap) (H:Hp):List Addr:=(aN h.objs.size).filter λa=>(H a).isSome
noncomputable def qcH (h:Heap) (H:Hp):Heap:=ci h (trk h H)
theorem GM (h:Heap) (H:Hp):(qcH h H).objs.size=h.objs.size:=PySem.W.hideAll_size _ _
theorem qcI {o:Obj} (e:h.get? b=iI o) (n:H b=iK):(qcH h H).get? b=iI o:=
 fj _ e λhm=>by have q:(H b).isSome=true:=(br.mp hm).2;rw [n] at q; simp at q
theorem qe8 {o:Obj} (e:(qcH h H).get? b=iI o):h.get? b=iI o/\H b=none:=by
 have a:h.get? b=iI o:=PySem.W.of_hideAll (trk h H) e;refine ⟨a,?_⟩;cases q:H b with
 | none=>rfl
 | some x=>have hm:b∈trk h H:=br.mpr ⟨aX.mpr (aC a),by simp [q]⟩;have z:(qcH h H).get? b=none:=e8 (trk h H) hm;rw [z] at e; cases e
structure Mod (K:Frag) (mg:Str->Option iL) (base:Heap):Prop where
 kin:K.In base
 glob:base.Ns iT mg
 blt:∃ mb,base.Ns builtinsNs mb/\∀ x:Str,x ≠ "__name__"->mb x=iS x
 nolimit:base.NoLimit
abbrev Pns:=List (Addr×Obj)
structure Cx where
 prog:iU
 w:iV
 K:Frag
 mg:Str->Option iL
 base:Heap
 A:iZ
 N:List Str
 s₀:iO
 H₀:Hp
 env:Env
 outer:List Env
 stack:List Env
 ex:List Addr
 fn:Str->Bool
 calm:Bool
 pn:Pns
 xe:iL->iO->Prop
noncomputable def frs (l:List Env):List Addr:=l.filterMap (·.frame)
abbrev Cx.fs (X:Cx):List Addr:=frs X.outer
def Vis (sc:lY) (x:Str):Prop:=sc.names.lookup x=iI .local\/sc.names.lookup x=iI .cell\/sc.names.lookup x=iI .free
def Loc (sc:lY) (x:Str):Prop:=sc.names.lookup x=iI .local\/sc.names.lookup x=iI .cell
def UD (env:Env) (h:Heap) (m:Str->Option iL) (x:Str) (u:iL):Prop:=
 (env.kindOf x=iI .local/\m x=iI u)\/((env.kindOf x=iI .cell\/env.kindOf x=iI .free)/\∃ c,env.cells.lookup x=iI c/\h.IsCell c (iI u))
structure Cx.Ok (X:Cx):Prop where
 mod:Mod X.K X.mg X.base
 kind:X.env.scope.kind=.function
 glob:X.env.globals=iT
 blt:X.env.builtins=builtinsNs
 above:X.s₀.heap.objs.size<=X.env.locals
 inj:∀ x y c,X.env.cells.lookup x=iI c->X.env.cells.lookup y=iI c->x=y
 has:∀ x,(X.env.kindOf x=iI .cell\/X.env.kindOf x=iI .free)->∃ c,X.env.cells.lookup x=iI c
 cab:∀ x c,X.fn x=iM->X.env.cells.lookup x=iI c->X.s₀.heap.objs.size<=c
 hd:X.calm=iM->X.A.handled=iK
 frames:X.A.frames=iI X.stack
 stk:X.stack=X.outer\/(X.stack=X.env::X.outer/\X.env.frame=iI X.env.locals)
 exf:∀ b∈X.ex,b≠X.env.locals/\∀ x c,X.env.cells.lookup x=iI c->c≠b
 bs:∀ b o,X.base.get? b=iI o->X.s₀.heap.get? b=iI o/\X.H₀ b=iK
 bsz:X.base.objs.size<=X.s₀.heap.objs.size
 noex:∀ b o,X.base.get? b=iI o->b∉X.ex
 exfs:∀ b∈X.ex,b∉X.fs
 funs:X.s₀.heap.FunFrames X.base X.outer
 frf:∀ b∈X.fs,X.H₀ b=iK
structure Inv (X:Cx) (pins:Pns) (σ:List (Option V)) (H:Hp) (s:iO):Prop where
 ok:X.Ok
 os:s.os=X.s₀.os
 bare:mj s.gens
 base:Un X.fs X.ex X.H₀ H X.s₀.heap s.heap
 loc:∃ m,s.heap.Ns X.env.locals m/\∀ (i:Nat) (x:Str) (v:V),X.N[i]?=iI x->σ[i]?=iI (iI v)->Vis X.env.scope x->∃ u,RelV v u/\UD X.env s.heap m x u
 cell:∀ x c,X.env.cells.lookup x=iI c->∃ v,s.heap.IsCell c v
 free:H X.env.locals=iK
 freeC:∀ x c,X.env.cells.lookup x=iI c->H c=iK
 pin:∀ p∈X.pn++pins,s.heap.get? p.1=iI p.2/\H p.1=iK/\p.1≠X.env.locals/\p.1∉X.fs/\∀ v,p.2.data≠.cell v
 hok:HOk X.prog X.w H s.heap
 len:σ.length=X.N.length
variable {x:Str} {X:Cx} {pins:Pns} {s s':iO} {t' i:Nat} {it:Addr} {v:V}
section
variable {σ:List (Option V)}
theorem Cx.Ok.nofr (ok:X.Ok) {o:Obj} (e:X.base.get? b=iI o):b∉X.fs:=λhb=>by have:=(ok.funs.mem hb).1;rw [e] at this; cases this
theorem Inv.bs (I:Inv X pins σ H s):∀ b o,X.base.get? b=iI o->s.heap.get? b=iI o/\H b=none:=λb o e=>
 ⟨I.base.keep b o (I.ok.bs b o e).1 (I.ok.bs b o e).2 (I.ok.nofr e) (I.ok.noex b o e),I.base.free b o (I.ok.bs b o e).1 (I.ok.bs b o e).2 (I.ok.noex b o e)⟩
theorem Inv.bk (I:Inv X pins σ H s):∀ b o,X.base.get? b=iI o->s.heap.get? b=iI o:=λb o e=>(I.bs b o e).1
theorem Inv.mod (I:Inv X pins σ H s):Mod X.K X.mg X.base:=I.ok.mod
theorem Inv.kIn (I:Inv X pins σ H s):X.K.In s.heap:=I.ok.mod.kin.keeps I.bk
theorem Inv.lt (I:Inv X pins σ H s):X.env.locals < s.heap.objs.size:=let ⟨_,n,_⟩:=I.loc; n.lt
theorem Inv.sz (I:Inv X pins σ H s):X.s₀.heap.objs.size<=s.heap.objs.size:=bU I.ok.above (eJ I.lt)
theorem Inv.nofs (I:Inv X pins σ H s) (h:s.heap.objs.size<=a):a∉X.fs:=λhb=>by obtain ⟨_,o,l,_⟩:=I.ok.funs.mem hb;exact absurd (aK (aC l) (bU I.sz h)) (cq _)
theorem Inv.cne (I:Inv X pins σ H s):∀ x c,X.env.cells.lookup x=iI c->c≠X.env.locals:=λx c e z=>by obtain ⟨v,o,l,hd⟩:=I.cell x c e;obtain ⟨m,⟨o',es,ep,h,a,_⟩,_⟩:=I.loc;rw [z,h] at l; cases l; rw [a] at hd; cases hd
theorem Inv.funs (I:Inv X pins σ H s):s.heap.FunFrames X.base X.outer:=by
 have all:∀ (l:List Env),(∀ b∈frs l,b∈X.fs)->X.s₀.heap.FunFrames X.base l->s.heap.FunFrames X.base l:=by
  intro l
  induction l with
  | nil=>intro _ _; trivial
  | cons env r j=>intro c hl;obtain ⟨k,⟨L,o,h,n,f,hd⟩,d⟩:=hl;have a:L∈X.fs:=c L (by unfold frs; rw [d6,h]; exact aj);obtain ⟨sl,e⟩:=I.base.slot L o f (I.ok.frf L a) a λz=>I.ok.exfs L z a;exact ⟨k,⟨L,_,h,n,e,hd⟩,j (λb hb=>c b (by unfold frs; rw [d6,h]; exact ae _ hb)) d⟩
 exact all X.outer (λ_ hb=>hb) I.ok.funs
theorem Inv.stack (I:Inv X pins σ H s):s.heap.FunFrames X.base X.stack:=by
 rcases I.ok.stk with e | ⟨e,hf⟩
 ·rw [e]; exact I.funs
 ·rw [e];obtain ⟨m,n,_⟩:=I.loc;refine .cons (by rw [I.ok.kind]; decide) hf n ?_ I.funs;exact Heap.get?_none_of_le (bU I.ok.bsz I.ok.above)
theorem Inv.stkSub (I:Inv X pins σ H s):∀ b∈frs X.stack,b∈X.env.locals::X.fs:=λb hb=>by
 rcases I.ok.stk with e | ⟨e,hf⟩
 ·rw [e] at hb; exact ae _ hb
 ·rw [e] at hb;unfold frs at hb;rw [d6,hf] at hb;exact hb
theorem Inv.stkFree (I:Inv X pins σ H s):∀ b∈frs X.stack,H b=none:=λb hb=>by
 rcases ac.mp (I.stkSub b hb) with e | hb;·rw [e]; exact I.free
 ·obtain ⟨_,o,l,_⟩:=I.ok.funs.mem hb;exact I.base.free b o l (I.ok.frf b hb) λz=>I.ok.exfs b z hb
theorem Inv.step {g':Array mX} {t':Nat} {d':Drawn} {ch:List Addr} (I:Inv X pins σ H s)
  (a:∀ b∈ch,(b∈X.ex\/X.s₀.heap.objs.size<=b)/\b≠X.env.locals/\(∀ x c,X.env.cells.lookup x=iI c->c≠b)/\∀ p∈X.pn++pins,p.1≠b)
  (keep:∀ b o,b≠X.env.locals->b∉X.fs->b∉ch->s.heap.get? b=iI o->H b=iK->h'.get? b=iI o)
  (slot:∀ b o,b≠X.env.locals->b∈X.fs->b∉ch->s.heap.get? b=iI o->H b=iK->∃ sl,h'.get? b=iI { o with slots:=sl }) (free:∀ b o,b∉ch->s.heap.get? b=iI o->H b=iK->H' b=iK)
  (there:∀ b o,b∉ch->s.heap.get? b=iI o->∃ o',h'.get? b=iI o')
  (tups:∀ b xs,H b=iI (.tup xs)->H' b=iI (.tup xs)) (frzs:∀ b o u,H b=iI (.frz o u)->H' b=iI (.frz o u)) (tbls:∀ b ps,H b=iI (.tbl ps)->∃ more,H' b=iI (.tbl (ps++more)))
  (ns:∀ m,s.heap.Ns X.env.locals m->h'.Ns X.env.locals m) (hok:HOk X.prog X.w H' h') (hg:mj g') :
  Inv X pins σ H' { s with heap:=h',gens:=g',drawn:=d',toks:=t' }:=by
 have L:∀ b o,X.s₀.heap.get? b=iI o->b≠X.env.locals:=λb o e=>aF (aK (aC e) I.ok.above);have C:∀ b o,X.s₀.heap.get? b=iI o->b∉X.ex->b∉ch:=λb o e hx hb=>by
  rcases (a b hb).1 with z | z;·exact hx z
  ·exact absurd (aK (aC e) z) (cq _)
 have K:∀ x c,X.env.cells.lookup x=iI c->∀ v,s.heap.IsCell c v->h'.IsCell c v:=λx c e v ⟨o,f,hd⟩=>by
  have h:c∉ch:=λz=>(a c z).2.2.1 x c e rfl;by_cases y:c∈X.fs;·obtain ⟨sl,q⟩:=slot c o (I.cne x c e) y h f (I.freeC x c e);exact ⟨_,q,hd⟩
  ·exact ⟨o,keep c o (I.cne x c e) y h f (I.freeC x c e),hd⟩
 refine ⟨I.ok,I.os,hg,⟨λb o e n hb hx=>?_,λb o e n hb hx=>?_,λb o e n hx=>?_,λb o e hx=>?_,λb xs e=>tups b xs (I.base.tups b xs e),λb o xs e=>frzs b o xs (I.base.frzs b o xs e),λb ps e=>?_⟩,?_,λx c e=>?_,?_,λx c e=>?_,λp hp=>?_,hok,I.len⟩;·exact keep b o (L b o e) hb (C b o e hx) (I.base.keep b o e n hb hx) (I.base.free b o e n hx)
 ·obtain ⟨sl,e1⟩:=I.base.slot b o e n hb hx;obtain ⟨j,g⟩:=slot b _ (L b o e) hb (C b o e hx) e1 (I.base.free b o e n hx);exact ⟨j,g⟩
 ·obtain ⟨o',e1⟩:=I.base.there b o e hx;exact free b o' (C b o e hx) e1 (I.base.free b o e n hx)
 ·obtain ⟨o',e1⟩:=I.base.there b o e hx;exact there b o' (C b o e hx) e1
 ·obtain ⟨m1,e1⟩:=I.base.tbls b ps e;obtain ⟨A,g⟩:=tbls b _ e1;exact ⟨m1++A,by rw [g,Array.append_assoc]⟩
 ·obtain ⟨m,B,hl⟩:=I.loc;refine ⟨m,ns m B,λi x v e1 g D=>?_⟩;obtain ⟨u,r,l⟩:=hl i x v e1 g D;refine ⟨u,r,?_⟩;rcases l with l | ⟨k,c,e,z⟩
  ·exact .inl l
  ·exact .inr ⟨k,c,e,K x c e _ z⟩
 ·obtain ⟨v,z⟩:=I.cell x c e;exact ⟨v,K x c e v z⟩
 ·obtain ⟨m,⟨o,_,_,f,_⟩,_⟩:=I.loc;exact free _ o (λz=>(a _ z).2.1 rfl) f I.free
 ·obtain ⟨v,o,f,hd⟩:=I.cell x c e;exact free c o (λz=>(a c z).2.2.1 x c e rfl) f (I.freeC x c e)
 ·obtain ⟨e,n,ne,t,d⟩:=I.pin p hp;have h:p.1∉ch:=λz=>(a p.1 z).2.2.2 p hp rfl;exact ⟨keep p.1 p.2 ne t h e n,free p.1 p.2 h e n,ne,t,d⟩
theorem Inv.un (I:Inv X pins σ H s) (u:Un X.fs [] H H' s.heap h') (hok:HOk X.prog X.w H' h'):Inv X pins σ H' { s with heap:=h',toks:=t' }:=by obtain ⟨m,⟨o,es,ep,l,r⟩,_⟩:=id I.loc;obtain ⟨sl,L⟩:=u.any l I.free (by simp);exact I.step (g':=s.gens) (d':=s.drawn) (ch:=[]) (λ_ z=>nomatch z) (λb o _ hb _ e n=>u.keep b o e n hb (by simp)) (λb o _ hb _ e n=>u.slot b o e n hb (by simp)) (λb o _ e n=>u.free b o e n (by simp)) (λb o _ e=>u.there b o e (by simp)) u.tups u.frzs u.tbls (λc hm=>by obtain ⟨o',es',a,h,r'⟩:=hm;rw [l] at h; cases h;exact ⟨_,es',a,L,r'⟩) hok I.bare
theorem Inv.call {g':Array mX} {t':Nat} {d':Drawn} {ch:List Addr} (I:Inv X pins σ H s) (u:Un (frs X.stack) ch H H' s.heap h') (hok:HOk X.prog X.w H' h') (hg:mj g')
  (a:∀ b∈ch,(b∈X.ex\/X.s₀.heap.objs.size<=b)/\b≠X.env.locals/\(∀ x c,X.env.cells.lookup x=iI c->c≠b)/\∀ p∈X.pn++pins,p.1≠b) :
  Inv X pins σ H' { s with heap:=h',gens:=g',drawn:=d',toks:=t' }:=by
 obtain ⟨m,⟨o,es,ep,l,r⟩,_⟩:=id I.loc;obtain ⟨sl,L⟩:=u.any l I.free λz=>(a _ z).2.1 rfl;exact I.step (ch:=ch) a (λb o L hb d e n=>u.keep b o e n (λz=>(ac.mp (I.stkSub b z)).elim L hb) d) (λb o _ _ d e n=>u.any e n d) (λb o d e n=>u.free b o e n d) (λb o d e=>u.there b o e d) u.tups u.frzs u.tbls (λg hm=>by obtain ⟨o',es',f,h,r'⟩:=hm;rw [l] at h; cases h;exact ⟨_,es',f,L,r'⟩) hok hg
theorem Inv.turned {t':Nat} (I:Inv X pins σ H s) (k:∀ b o,b≠it->s.heap.get? b=iI o->h'.get? b=iI o) (h:H it=iK) (a:it≠X.env.locals)
  (h1:it∈X.ex\/X.s₀.heap.objs.size<=it) (h2:∀ x c,X.env.cells.lookup x=iI c->c≠it) (f:∀ p∈X.pn++pins,p.1≠it):Inv X pins σ H { s with heap:=h',toks:=t' }:=by
 have t:∀ b u,H b=iI u->b≠it:=λb u e z=>by rw [z,h] at e; cases e
 refine I.step (g':=s.gens) (d':=s.drawn) (ch:=[it]) (λb hb=>?_) (λb o _ _ d e _=>k b o (λz=>d (by simp [z])) e) (λb o _ _ d e _=>⟨o.slots,k b o (λz=>d (by simp [z])) e⟩) (λ_ _ _ _ n=>n)
  (λb o d e=>⟨o,k b o (λz=>d (by simp [z])) e⟩) (λ_ _ e=>e) (λ_ _ _ e=>e) (λb ps e=>⟨#[],by rw [e]; simp⟩) (λm hm=>?_) (λb u e=>?_) I.bare
 ·have e:b=it:=by simpa using hb
  subst e;exact ⟨h1,a,h2,f⟩
 ·obtain ⟨o,es,ep,l,r⟩:=hm;exact ⟨o,es,ep,k _ o (be a) l,r⟩
 ·refine (I.hok b u e).stay (λc v d q=>k c v ?_ q) (λ_ q=>q) λ_ _ q=>q;rcases d with z | z;·rw [z]; exact t b u e
  ·exact t c _ z
theorem Inv.tok (I:Inv X pins σ H s) (t:Nat):Inv X pins σ H { s with toks:=t }:=I.un (h':=s.heap) (t':=t) Un.refl I.hok
theorem Inv.kept (I:Inv X pins σ H s) (k:∀ b u,s.heap.get? b=iI u->h'.get? b=iI u):Inv X pins σ H { s with heap:=h',toks:=t' }:=I.un (Un.kept k) (I.hok.kept k)
theorem Inv.laid {t':Nat} (I:Inv X pins σ H s) (k:∀ b u,s.heap.get? b=iI u->h'.get? b=iI u) (hp:s.heap.objs.size<=a) (new:ObjOk X.prog X.w (upd H a o) h' a o):Inv X pins σ (upd H a o) { s with heap:=h',toks:=t' }:=I.un (Un.laid k hp (I.hok.fresh hp)) (I.hok.laid k hp new)
theorem Inv.write {x e:Addr} {o:HO} {t':Nat} (I:Inv X pins σ H s) (m:Mut (H x)) (g:e=x\/H e=iI (.own x)) (k:∀ b u,b≠e->s.heap.get? b=iI u->h'.get? b=iI u) (h:∃ u,h'.get? e=iI u)
  (new:ObjOk X.prog X.w (upd H x o) h' x o):Inv X pins σ (upd H x o) { s with heap:=h',toks:=t' }:=I.un (Un.write m g k h) (I.hok.write m g k h new)
theorem Inv.pins_of {a:Pns} (I:Inv X pins σ H s) (h:∀ p∈a,s.heap.get? p.1=iI p.2/\H p.1=iK/\p.1≠X.env.locals/\p.1∉X.fs/\∀ v,p.2.data≠.cell v):Inv X a σ H s:=
 ⟨I.ok,I.os,I.bare,I.base,I.loc,I.cell,I.free,I.freeC,λp hp=>(ai.mp hp).elim (λz=>I.pin p (dO _ z)) (h p),I.hok,I.len⟩
theorem Xa {N:List Str} (h:N.Nodup) {j:Nat} (a:N[i]?=iI x) (b:N[j]?=iI x):i=j:=by obtain ⟨h1,e1⟩:=aE.mp a;obtain ⟨h2,e⟩:=aE.mp b;exact (fS h).mp (e1.trans e.symm)
theorem VN {M:Model} {A:iZ} {E:iL->iO->Prop} {Q:Unit->iO->Prop} (I:Inv X pins σ H s) (hN:X.N.Nodup) (hi:X.N[i]?=iI x) (hx:Loc X.env.scope x) (r:RelV v u)
  (h:∀ s',Inv X pins (σ.set i (iI v)) H s'->(∃ a,bK a s.heap s'.heap/\(a=X.env.locals\/X.env.cells.lookup x=iI a))->Q () s') (hf:X.fn x=iM\/X.env.scope.names.lookup x=iI .local:=by first | exact .inl rfl | exact .inr rfl | assumption):iR M A (storeName X.env x u) Q E s:=by
 obtain ⟨m,F,hl⟩:=id I.loc;have O:(X.env.scope.kind == .class||(X.env.scope.kind == .module&&X.env.locals != X.env.globals))=false:=by rw [I.ok.kind]; rfl
 have D:i < σ.length:=by rw [I.len]; exact (aE.mp hi).1
 have cne:=I.cne;have t:∀ {a:Addr} {h':Heap},(∃ o,s.heap.get? a=iI o/\H a=iK)->bK a s.heap h'->HOk X.prog X.w H h':=λ{a h'} ha f b ob e=>by
  obtain ⟨_,_,l⟩:=ha;refine (I.hok b ob e).stay (λc S g q=>(f.2 c ?_).trans q) (λ_ q=>q) λ_ _ q=>q;rintro rfl;rcases g with rfl | g;·rw [l] at e; cases e
  ·rw [l] at g; cases g
 rcases hx with C | C
 ·refine wpAny_storeName_local C F (λh' Z f=>?_) O;obtain ⟨oL,_,_,Y,_⟩:=id F;refine h _ ⟨I.ok,I.os,I.bare,⟨λb o e n hb hx=>?_,λb o e n hb hx=>?_,I.base.free,λb o e hx=>?_,I.base.tups,I.base.frzs,I.base.tbls⟩,⟨_,Z,λj y U e1 B e3=>?_⟩,λy c e=>?_,I.free,I.freeC,λp hp=>?_,t ⟨oL,Y,I.free⟩ f,by simpa using I.len⟩ ⟨_,f,.inl rfl⟩;·exact (f.2 b (aF (aK (aC e) I.ok.above))).trans (I.base.keep b o e n hb hx)
  ·obtain ⟨sl,e1⟩:=I.base.slot b o e n hb hx;exact ⟨sl,(f.2 b (aF (aK (aC e) I.ok.above))).trans e1⟩
  ·obtain ⟨o',e1⟩:=I.base.there b o e hx;exact ⟨o',(f.2 b (aF (aK (aC e) I.ok.above))).trans e1⟩
  ·by_cases G:j=i;·subst G;rw [hi] at e1; cases e1;rw [aJ D] at B;cases B;exact ⟨u,r,.inl ⟨C,by simp⟩⟩
   ·rw [ax (be G)] at B;obtain ⟨V,r',q⟩:=hl j y U e1 B e3;refine ⟨V,r',?_⟩;rcases q with ⟨k,e⟩ | ⟨k,c,e,z⟩
    ·refine .inl ⟨k,?_⟩;have:y≠x:=λe=>G (Xa hN e1 (e ▸ hi));simp [this,e]
    ·exact .inr ⟨k,c,e,z.sameBut f (cne y c e)⟩
  ·obtain ⟨S,z⟩:=I.cell y c e;exact ⟨S,z.sameBut f (cne y c e)⟩
  ·obtain ⟨e,n,ne,W,d⟩:=I.pin p hp;exact ⟨(f.2 p.1 ne).trans e,n,ne,W,d⟩
 ·have J:X.fn x=true:=by
   rcases hf with z | z;·exact z
   ·rw [z] at C; cases C
  obtain ⟨c,g⟩:=I.ok.has x (.inl C);obtain ⟨S,z⟩:=I.cell x c g;refine wpAny_storeName_cell I.ok.kind C g z (λh' R f=>?_);obtain ⟨oc,L,K⟩:=id z;refine h { s with heap:=h' } ⟨I.ok,I.os,I.bare,⟨λb o e n hb hx=>?_,λb o e n hb hx=>?_,I.base.free,λb o e hx=>?_,I.base.tups,I.base.frzs,I.base.tbls⟩,⟨m,F.sameBut f (be (cne x c g)),λj y U e1 B e3=>?_⟩,λy T e=>?_,I.free,I.freeC,λp hp=>?_,t ⟨oc,L,I.freeC x c g⟩ f,by simpa using I.len⟩ ⟨c,f,.inr g⟩;·exact (f.2 b (aF (aK (aC e) (I.ok.cab x c J g)))).trans (I.base.keep b o e n hb hx)
  ·obtain ⟨sl,e1⟩:=I.base.slot b o e n hb hx;exact ⟨sl,(f.2 b (aF (aK (aC e) (I.ok.cab x c J g)))).trans e1⟩
  ·obtain ⟨o',e1⟩:=I.base.there b o e hx;exact ⟨o',(f.2 b (aF (aK (aC e) (I.ok.cab x c J g)))).trans e1⟩
  ·by_cases G:j=i;·subst G;rw [hi] at e1; cases e1;rw [aJ D] at B;cases B;exact ⟨u,r,.inr ⟨.inl C,c,g,R⟩⟩
   ·rw [ax (be G)] at B;obtain ⟨V,r',q⟩:=hl j y U e1 B e3;refine ⟨V,r',?_⟩;rcases q with q | ⟨k,T,e,z'⟩
    ·exact .inl q
    ·refine .inr ⟨k,T,e,z'.sameBut f ?_⟩;rintro rfl;exact G (Xa hN e1 (I.ok.inj _ _ _ e g ▸ hi))
  ·by_cases P:T=c;·subst P; exact ⟨_,R⟩
   ·obtain ⟨w2,z2⟩:=I.cell y T e;exact ⟨w2,z2.sameBut f P⟩
  ·obtain ⟨e,n,ne,W,d⟩:=I.pin p hp;refine ⟨(f.2 p.1 ?_).trans e,n,ne,W,d⟩;intro q;rw [q,L] at e;have q':oc=p.2:=aL.inj e;exact d S (by rw [<-q']; exact K)
theorem Xb {M:Model} {A:iZ} {E:iL->iO->Prop} {Q:Unit->iO->Prop} (I:Inv X pins σ H s) (a:X.N.Nodup) (hi:X.N[i]?=iI x) (hx:Loc X.env.scope x) (r:RelV v u)
  (h:∀ s',Inv X pins (σ.set i (iI v)) H s'->Q () s') (f:X.fn x=iM\/X.env.scope.names.lookup x=iI .local:=by first | exact .inl rfl | exact .inr rfl | assumption):iR M A (storeName X.env x u) Q E s:=
 VN I a hi hx r (λs' b _=>h s' b) f
theorem Inv.call' {ch:List Addr} (I:Inv X pins σ H s) (l:s'.os=s.os) (u:Un (frs X.stack) ch H H' s.heap s'.heap) (hok:HOk X.prog X.w H' s'.heap) (hg:mj s'.gens)
  (a:∀ b∈ch,(b∈X.ex\/X.s₀.heap.objs.size<=b)/\b≠X.env.locals/\(∀ x c,X.env.cells.lookup x=iI c->c≠b)/\∀ p∈X.pn++pins,p.1≠b):Inv X pins σ H' s':=by
 obtain ⟨h',g',d',t',o'⟩:=s';have e:o'=s.os:=l;subst e;exact I.call (g':=g') (t':=t') (d':=d') u hok hg a
end
abbrev XK:=iL->Option Addr->Hp->Prop
abbrev St:=List (Option V)
abbrev VK:=V->Hp->Prop
abbrev TE:=St->Hp->VK->Prop
abbrev TT:=St->Hp->(Bool->Hp->Prop)->Prop
abbrev TA:=St->Hp->(List V->Hp->Prop)->Prop
structure Ends where
 nx:St->Hp->Prop
 rt:VK
 bk:St->Hp->Prop:=λ_ _=>False
 ct:St->Hp->Prop:=λ_ _=>False
abbrev TS:=Ends->St->Hp->Prop
def EP (X:Cx) (pins:Pns) (σ:St) (Q:VK) (u:iL) (s':iO):Prop:=∃ v H',Inv X pins σ H' s'/\RelV v u/\Q v H'
def TP (X:Cx) (pins:Pns) (σ:St) (Q:Bool->Hp->Prop) (b:Bool) (s':iO):Prop:=∃ H',Inv X pins σ H' s'/\Q b H'
def AP (X:Cx) (pins:Pns) (σ:St) (Q:List V->Hp->Prop) (us:List iL) (s':iO):Prop:=∃ vs H',Inv X pins σ H' s'/\Vals vs us/\Q vs H'
def SP (X:Cx) (pins:Pns) (D:Ends) (f:Flow) (s':iO):Prop:=
 match f with
 | .next=>∃ σ' H',Inv X pins σ' H' s'/\D.nx σ' H'
 | .brk=>∃ σ' H',Inv X pins σ' H' s'/\D.bk σ' H'
 | .cont=>∃ σ' H',Inv X pins σ' H' s'/\D.ct σ' H'
 | .ret u=>∃ v σ' H',Inv X pins σ' H' s'/\RelV v u/\D.rt v H'
structure PE (X:Cx) (e:Expr) (t:TE):Prop where
 run:∀ (pins:Pns) (s:iO) (σ:St) (H:Hp) (Q:VK),Inv X pins σ H s->t σ H Q->iR (model X.prog X.w) X.A (eval e X.env) (EP X pins σ Q) X.xe s
instance {X:Cx} {e:Expr} {t:TE}:CoeFun (PE X e t) (λ_=>∀ (pins:Pns) (s:iO) (σ:St) (H:Hp) (Q:VK),Inv X pins σ H s->t σ H Q->iR (model X.prog X.w) X.A (eval e X.env) (EP X pins σ Q) X.xe s):=⟨λh=>h.run⟩
structure PT (X:Cx) (e:Expr) (t:TT):Prop where
 run:∀ (pins:Pns) (s:iO) (σ:St) (H:Hp) (Q:Bool->Hp->Prop),Inv X pins σ H s->t σ H Q->iR (model X.prog X.w) X.A (isTrue e X.env (eval e X.env)) (TP X pins σ Q) X.xe s
instance {X:Cx} {e:Expr} {t:TT}:CoeFun (PT X e t) (λ_=>∀ (pins:Pns) (s:iO) (σ:St) (H:Hp) (Q:Bool->Hp->Prop),Inv X pins σ H s->t σ H Q->iR (model X.prog X.w) X.A (isTrue e X.env (eval e X.env)) (TP X pins σ Q) X.xe s):=⟨λh=>h.run⟩
structure PW (X:Cx) (e:Expr) (t:TT):Prop where
 run:∀ (whole:Sem iL) (pins:Pns) (s:iO) (σ:St) (H:Hp) (Q:Bool->Hp->Prop),Inv X pins σ H s->t σ H Q->iR (model X.prog X.w) X.A (isTrue e X.env whole) (TP X pins σ Q) X.xe s
instance {X:Cx} {e:Expr} {t:TT}:CoeFun (PW X e t) (λ_=>∀ (whole:Sem iL) (pins:Pns) (s:iO) (σ:St) (H:Hp) (Q:Bool->Hp->Prop),Inv X pins σ H s->t σ H Q->iR (model X.prog X.w) X.A (isTrue e X.env whole) (TP X pins σ Q) X.xe s):=⟨λh=>h.run⟩
variable {e:Expr}
theorem PW.pt {t:TT} (h:PW X e t):PT X e t:=⟨h.run _⟩
structure PA (X:Cx) (es:List Expr) (t:TA):Prop where
 run:∀ (pos:Pos) (pins:Pns) (s:iO) (σ:St) (H:Hp) (Q:List V->Hp->Prop),Inv X pins σ H s->t σ H Q->iR (model X.prog X.w) X.A (spliced (j3 pos (iQ es X.env))) (AP X pins σ Q) X.xe s
instance {X:Cx} {es:List Expr} {t:TA}:CoeFun (PA X es t) (λ_=>∀ (pos:Pos) (pins:Pns) (s:iO) (σ:St) (H:Hp) (Q:List V->Hp->Prop),Inv X pins σ H s->t σ H Q->iR (model X.prog X.w) X.A (spliced (j3 pos (iQ es X.env))) (AP X pins σ Q) X.xe s):=⟨λh=>h.run⟩
structure PS (X:Cx) (st:Stmt) (t:TS):Prop where
 run:∀ (pins:Pns) (s:iO) (σ:St) (H:Hp) (D:Ends),Inv X pins σ H s->t D σ H->iR (model X.prog X.w) X.A (exec st X.env) (SP X pins D) X.xe s
instance {X:Cx} {st:Stmt} {t:TS}:CoeFun (PS X st t) (λ_=>∀ (pins:Pns) (s:iO) (σ:St) (H:Hp) (D:Ends),Inv X pins σ H s->t D σ H->iR (model X.prog X.w) X.A (exec st X.env) (SP X pins D) X.xe s):=⟨λh=>h.run⟩
structure PSs (X:Cx) (st:List Stmt) (t:TS):Prop where
 run:∀ (pins:Pns) (s:iO) (σ:St) (H:Hp) (D:Ends),Inv X pins σ H s->t D σ H->iR (model X.prog X.w) X.A (execs st X.env) (SP X pins D) X.xe s
instance {X:Cx} {st:List Stmt} {t:TS}:CoeFun (PSs X st t) (λ_=>∀ (pins:Pns) (s:iO) (σ:St) (H:Hp) (D:Ends),Inv X pins σ H s->t D σ H->iR (model X.prog X.w) X.A (execs st X.env) (SP X pins D) X.xe s):=⟨λh=>h.run⟩
variable {A:iZ} {E:iL->iO->Prop}
theorem thn {t:Sem α} {Q b:α->iO->Prop} {M:Model} (h:iR M A t Q E s) (c:∀ a s,Q a s->b a s):iR M A t b E s:=lZ h c λ_ _ x=>x
variable {σ:St} {pos:Pos} {Q:iL->iO->Prop} {ta:TE} {c:Expr}
section
def qlS (i:Nat):TE:=λσ H Q=>∃ v,σ[i]?=iI (iI v)/\Q v H
def tC (v:V):TE:=λ_ H Q=>Q v H
abbrev Dbg (x:Str):Prop:=(x == ("__debug__":Str))=iN
abbrev Cdk (x:Str):Prop:=(x == ("__classdict__":Str))=iN
theorem wQ (g:X.N[i]?=iI x) (f:Vis X.env.scope x) (hd:Dbg x:=by decide) (d:Cdk x:=by decide):PE X (.Name x pos) (qlS i):=by
 refine ⟨?_⟩;intro pins s σ H Q I h;obtain ⟨v,e,h⟩:=h;obtain ⟨m,n,hl⟩:=I.loc;obtain ⟨u,r,l⟩:=hl i x v g e f;have fin:EP X pins σ Q u s:=⟨v,H,I,r,h⟩
 rcases l with ⟨k,hm⟩ | ⟨k,c,b,a⟩
 ·exact wpAny_Name (wpAny_loadName_local I.ok.kind k n hm fin) hd
 ·rcases k with k | k;·exact wpAny_Name (wpAny_loadName_cell I.ok.kind k b a fin) hd
  ·exact wpAny_Name (wpAny_loadName_free I.ok.kind k b a fin d) hd
theorem qeo {i j pos}:PE X (.Constant (.int i) j pos) (tC (.int i)):=⟨λ_ _ _ H _ I h=>wpAny_Constant_int ⟨.int i,H,I.tok _,⟨_,rfl⟩,h⟩⟩
theorem qkx {b j pos}:PE X (.Constant (.bool b) j pos) (tC (.bl b)):=⟨λ_ _ _ H _ I h=>Constant_bool ⟨.bl b,H,I,rfl,h⟩⟩
theorem qhx {j pos}:PE X (.Constant .none j pos) (tC .non):=⟨λ_ _ _ H _ I h=>Constant_none ⟨.non,H,I,rfl,h⟩⟩
theorem qep {x j pos}:PE X (.Constant (.str x) j pos) (tC (.str x)):=⟨λ_ _ _ H _ I h=>Calls.Constant_str ⟨.str x,H,I.tok _,⟨_,rfl⟩,h⟩⟩
def Gl (X:Cx) (x:Str):Prop:=X.env.kindOf x=iI .globalImplicit
theorem Qm {E:iL->iO->Prop} {pos:Pos} (I:Inv X pins σ H s) (hg:Gl X x) (hm:X.mg x=iI u) (h:Q u s)
  (hd:Dbg x:=by decide):iR (model X.prog X.w) X.A (eval (.Name x pos) X.env) Q E s:=
 Calls.Name_function_global I.ok.kind hg (Calls.loadGlobal_global (by rw [I.ok.glob]; exact I.mod.glob.keeps I.bk) hm h) hd
theorem xq {E:iL->iO->Prop} {pos:Pos} (I:Inv X pins σ H s) (hg:Gl X x) (hm:X.mg x=iK) (c:iS x=iI u) (h:Q u s)
  (n:x ≠ "__name__":=by decide) (hd:Dbg x:=by decide):iR (model X.prog X.w) X.A (eval (.Name x pos) X.env) Q E s:=by
 obtain ⟨mb,h1,h2⟩:=I.mod.blt;exact Calls.Name_function_global I.ok.kind hg (Calls.loadGlobal_builtin (by rw [I.ok.glob]; exact I.mod.glob.keeps I.bk) hm (by rw [I.ok.blt]; exact h1.keeps I.bk) ((h2 x n).trans c) h) hd
theorem qe9 (hg:Gl X x) (hm:X.mg x=iI u) (r:RelV v u) (hd:Dbg x:=by decide):PE X (.Name x pos) (tC v):=⟨λ_ _ _ H _ I h=>Qm I hg hm ⟨v,H,I,r,h⟩ hd⟩
theorem qfa (hg:Gl X x) (hm:X.mg x=iK) (c:iS x=iI u) (r:RelV v u) (n:x ≠ "__name__":=by decide) (hd:Dbg x:=by decide):PE X (.Name x pos) (tC v):=⟨λ_ _ _ H _ I h=>xq I hg hm c ⟨v,H,I,r,h⟩ n hd⟩
variable {a b:Expr} {tb:TE}
variable {tA tB':TT} {rest:List Expr}
def qmm (t u:TT):TT:=λσ H Q=>t σ H λc H1=>if c=iM then u σ H1 Q else Q iN H1
def tOr (t u:TT):TT:=λσ H Q=>t σ H λc H1=>if c=iM then Q iM H1 else u σ H1 Q
def qmn (t:TT):TT:=λσ H Q=>t σ H λc H1=>Q (!c) H1
theorem qfb (f:PT X a tA):PW X (.BoolOp .And [a] pos) tA:=by
 refine ⟨?_⟩;intro w pins s σ H Q I h;refine isTrue_and (thn (f pins s σ H Q I h) λc s1 e=>?_);cases c with
 | true=>exact isTrue_and_nil e
 | false=>exact e
theorem qhy (f:PT X a tA):PW X (.BoolOp .Or [a] pos) tA:=by
 refine ⟨?_⟩;intro w pins s σ H Q I h;refine isTrue_or (thn (f pins s σ H Q I h) λc s1 e=>?_);cases c with
 | false=>exact isTrue_or_nil e
 | true=>exact e
theorem qhz (f:PT X a tA) (hb:PW X (.BoolOp .And (b::rest) pos) tB'):PW X (.BoolOp .And (a::b::rest) pos) (qmm tA tB'):=by
 refine ⟨?_⟩;intro w pins s σ H Q I h;refine isTrue_and (thn (f pins s σ H _ I h) λc s1 ⟨H1,d,q⟩=>?_);cases c with
 | true=>exact hb w pins s1 σ H1 Q d q
 | false=>exact ⟨H1,d,q⟩
theorem qky (f:PT X a tA) (hb:PW X (.BoolOp .Or (b::rest) pos) tB'):PW X (.BoolOp .Or (a::b::rest) pos) (tOr tA tB'):=by
 refine ⟨?_⟩;intro w pins s σ H Q I h;refine isTrue_or (thn (f pins s σ H _ I h) λc s1 ⟨H1,d,q⟩=>?_);cases c with
 | true=>exact ⟨H1,d,q⟩
 | false=>exact hb w pins s1 σ H1 Q d q
theorem qhA (f:PT X a tA):PT X (.UnaryOp .Not a pos) (qmn tA):=by refine ⟨?_⟩;intro pins s σ H Q I h;exact isTrue_not (f pins s σ H (λc H1=>Q (!c) H1) I h)
def qkz (ta tb:TE):TE:=λσ H Q=>ta σ H λx H1=>∃ c,x=.bl c/\if c=iM then tb σ H1 Q else Q (.bl iN) H1
theorem qhB {op} {t:TE} (h:PE X a t):PE X (.BoolOp op [a] pos) t:=⟨λpins s σ H Q I w=>BoolOp_one (h pins s σ H Q I w)⟩
theorem qhC (f:PE X a ta) (hb:PE X (.BoolOp .And (b::rest) pos) tb):PE X (.BoolOp .And (a::b::rest) pos) (qkz ta tb):=by
 refine ⟨?_⟩;intro pins s σ H Q I h;refine BoolOp_and (thn (f pins s σ H _ I h) λv s1 ⟨x,H1,d,r1,q⟩=>?_);obtain ⟨c,rfl,q⟩:=q;cases r1;refine lh ?_;cases c with
 | true=>exact hb pins s1 σ H1 Q d q
 | false=>exact ⟨.bl iN,H1,d,rfl,q⟩
def tIf (t:TT) (ta tb:TE):TE:=λσ H Q=>t σ H λc H1=>if c=iM then ta σ H1 Q else tb σ H1 Q
theorem qcJ (f:PT X c tA) (g:PE X a ta) (hb:PE X b tb):PE X (.IfExp c a b pos) (tIf tA ta tb):=by
 refine ⟨?_⟩;intro pins s σ H Q I h;refine wpAny_IfExp (thn (f pins s σ H _ I h) λd s1 ⟨H1,e,q⟩=>?_);cases d with
 | true=>exact g pins s1 σ H1 Q e q
 | false=>exact hb pins s1 σ H1 Q e q
end
def SqL (K:Frag) (H:Hp) (a:Addr) (xs:List V):Prop:=
 Rd H a (.lst xs) \/
  ∃ (o:Obj) (its:Array iL) (n:Nat),K.lookup a=iI o/\o.cls=.type "list"/\o.dict=iK/\o.data=.seq its n/\its.size<=sizeLine/\Vals xs its.toList
def SqT (K:Frag) (H:Hp) (a:Addr) (xs:List V):Prop:=
 Rd H a (.tup xs) \/
  ∃ (o:Obj) (its:Array iL) (n:Nat),K.lookup a=iI o/\(o.cls=.type "tuple"/\o.dict=iK)/\o.data=.seq its n/\its.size<=sizeLine/\Vals xs its.toList
noncomputable def qmo:iL->Option V
 | .none=>iI .non
 | .bool b=>iI (.bl b)
 | .int i _=>iI (.int i)
 | .str x _=>iI (.str x)
 | .bytes b _=>iI (.byt b)
 | .float b _=>iI (.flt b)
 | .ref a=>iI (.ref a)
 | .type n=>iI (.ty n)
 | _=>iK
theorem RelV.abs {x:V} (r:RelV x u):qmo u=iI x:=by
 cases x with
 | non=>cases r; rfl
 | bl _=>cases r; rfl
 | int _=>obtain ⟨t,rfl⟩:=r; rfl
 | str _=>obtain ⟨t,rfl⟩:=r; rfl
 | byt _=>obtain ⟨t,rfl⟩:=r; rfl
 | flt _=>obtain ⟨t,rfl⟩:=r; rfl
 | ref _=>cases r; rfl
 | ty _=>cases r; rfl
variable {y:V}
theorem RelV.inj {x:V} (r:RelV x u) (q:RelV y u):x=y:=aL.inj (r.abs.symm.trans q.abs)
variable {ys:List V}
theorem Vals.inj (h:Vals xs us) (h':Vals ys us):xs=ys:=by
 induction h generalizing ys with
 | nil=>cases h'; rfl
 | cons r t j=>
  cases h' with
  | cons r' t'=>rw [r.inj r',j t']
variable {K:Frag}
section
theorem SqT.of (h:H a=iI (.tup xs)):SqT K H a xs:=.inl (.inl h)
theorem Inv.list (I:Inv X pins σ H s) (h:SqL X.K H a xs):∃ its:List iL,Vals xs its/\PlainL s.heap a its.toArray/\xs.length<=sizeLine:=by
 rcases h with h | ⟨o,its,n,hk,hc,hd,hs,hz,r⟩
 ·obtain ⟨z,its,n,r,e⟩:=h.ok I.hok;exact ⟨its,r,⟨_,n,e,rfl,rfl,rfl⟩,z⟩
 ·refine ⟨its.toList,r,⟨o,n,I.kIn a o hk,hc,hd,by simpa using hs⟩,?_⟩;have e:=r.length;simp only [bJ] at e
  lia
theorem Inv.tuple (I:Inv X pins σ H s) (h:SqT X.K H a xs):∃ its:List iL,Vals xs its/\IsTup s.heap a its.toArray/\xs.length<=sizeLine:=by
 rcases h with h | ⟨o,its,n,hk,hc,hs,hz,r⟩
 ·obtain ⟨⟨z,_⟩,its,r,p⟩:=h.ok I.hok;exact ⟨its,r,p,z⟩
 ·refine ⟨its.toList,r,⟨o,I.kIn a o hk,hc.1,n,by simpa using hs⟩,?_⟩;have e:=r.length;simp only [bJ] at e
  lia
theorem Inv.tupleN (I:Inv X pins σ H s) (h:SqT X.K H a xs):∃ o,s.heap.get? a=iI o/\o.dict=none:=by
 rcases h with h | ⟨o,its,n,hk,hc,hs,hz,r⟩
 ·obtain ⟨⟨z,w⟩,its,r,p⟩:=h.ok I.hok;exact w
 ·exact ⟨o,I.kIn a o hk,hc.2⟩
theorem Inv.list_inj (I:Inv X pins σ H s) (h:SqL X.K H a xs) (h':SqL X.K H a ys):xs=ys:=by
 obtain ⟨its,r,⟨o,n,e,_,_,d⟩,_⟩:=I.list h;obtain ⟨its',r',⟨o',c,b,_,_,d'⟩,_⟩:=I.list h';rw [e] at b; cases b;rw [d] at d';injection d' with d1 _;have:its=its':=by simpa using congrArg Array.toList d1
 subst this;exact r.inj r'
theorem Inv.tuple_inj (I:Inv X pins σ H s) (h:SqT X.K H a xs) (h':SqT X.K H a ys):xs=ys:=by
 obtain ⟨its,r,⟨o,e,_,n,d⟩,_⟩:=I.tuple h;obtain ⟨its',r',⟨o',b,_,c,d'⟩,_⟩:=I.tuple h';rw [e] at b; cases b;rw [d] at d';injection d' with d1 _;have:its=its':=by simpa using congrArg Array.toList d1
 subst this;exact r.inj r'
end
variable {te:TE} {tc:TT}
section
variable {st:Stmt} {rest:List Stmt} {t u:TS}
def qkA:TS:=λD σ H=>D.nx σ H
def qmp (t u:TS):TS:=λD σ H=>t { D with nx:=u D } σ H
theorem qfc:PSs X [] qkA:=⟨λ_ _ σ H _ I h=>l7 ⟨σ,H,I,h⟩⟩
theorem Kr (h1:PS X st t) (h2:PSs X rest u):PSs X (st::rest) (qmp t u):=by
 refine ⟨?_⟩;intro pins s σ H D I h;refine wpAny_execs_cons (thn (h1 pins s σ H { D with nx:=u D } I h) λf s1 q=>?_);cases f with
 | next=>obtain ⟨σ',H',b,q⟩:=q;exact h2 pins s1 σ' H' D b q
 | ret v=>exact q
 | brk=>exact q
 | cont=>exact q
theorem GN (h1:PS X st t):PSs X [st] t:=by
 refine ⟨?_⟩;intro pins s σ H D I h;refine wpAny_execs_cons (thn (h1 pins s σ H D I h) λf s1 q=>?_);cases f with
 | next=>exact l7 q
 | ret v=>exact q
 | brk=>exact q
 | cont=>exact q
theorem Inv.quiet (I:Inv X pins σ H s):interactive X.env=false:=by simp [interactive,I.ok.kind]
def qkB (te:TE):TS:=λD σ H=>te σ H λ_ H1=>D.nx σ H1
theorem qfd (g:PE X e te) (c:lm e iK pos.line X.env=pure false:=by rfl):PS X (.Expr e pos) (qkB te):=by refine ⟨?_⟩;intro pins s σ H D I h;exact wpAny_Expr_any (thn (g pins s σ H _ I h) λv s1 ⟨x,H1,d,r1,q⟩=>⟨σ,H1,d,q⟩) I.quiet c
def qmq (te:TE):TS:=λD σ H=>te σ H D.rt
theorem qhD (g:PE X e te):PS X (.Return (iI e) pos) (qmq te):=by refine ⟨?_⟩;intro pins s σ H D I h;exact wpAny_Return_some (thn (g pins s σ H _ I h) λv s1 ⟨x,H1,d,r1,q⟩=>⟨x,σ,H1,d,r1,q⟩)
def qmr (c:TT) (t u:TS):TS:=λD σ H=>c σ H λb H1=>if b=iM then t D σ H1 else u D σ H1
theorem qkC {a b:List Stmt} (f:PT X c tc) (g:PSs X a t) (hb:PSs X b u):PS X (.If c a b pos) (qmr tc t u):=by
 refine ⟨?_⟩;intro pins s σ H D I h;refine wpAny_If (thn (f pins s σ H _ I h) λd s1 ⟨H1,e,q⟩=>?_);cases d with
 | true=>exact g pins s1 σ H1 D e q
 | false=>exact hb pins s1 σ H1 D e q
end
abbrev TG:=V->St->Hp->(St->Hp->Prop)->Prop
abbrev TGs:=List V->St->Hp->(St->Hp->Prop)->Prop
structure PG (X:Cx) (target:Expr) (t:TG):Prop where
 run:∀ (pins:Pns) (s:iO) (σ:St) (H:Hp) (v:V) (u:iL) (Q:St->Hp->Prop),Inv X pins σ H s->RelV v u->t v σ H Q ->iR (model X.prog X.w) X.A (assign target X.env u) (λ_ s'=>∃ σ' H',Inv X pins σ' H' s'/\Q σ' H') X.xe s
instance {X:Cx} {target:Expr} {t:TG}:CoeFun (PG X target t) (λ_=>∀ (pins:Pns) (s:iO) (σ:St) (H:Hp) (v:V) (u:iL) (Q:St->Hp->Prop),Inv X pins σ H s->RelV v u->t v σ H Q ->iR (model X.prog X.w) X.A (assign target X.env u) (λ_ s'=>∃ σ' H',Inv X pins σ' H' s'/\Q σ' H') X.xe s):=⟨λh=>h.run⟩
structure PGs (X:Cx) (ts:List Expr) (t:TGs):Prop where
 run:∀ (pins:Pns) (s:iO) (σ:St) (H:Hp) (vs:List V) (us:List iL) (Q:St->Hp->Prop),Inv X pins σ H s->Vals vs us->t vs σ H Q ->iR (model X.prog X.w) X.A (assignInOrder ((lq ts X.env).map (·.2)) us) (λ_ s'=>∃ σ' H',Inv X pins σ' H' s'/\Q σ' H') X.xe s
instance {X:Cx} {ts:List Expr} {t:TGs}:CoeFun (PGs X ts t) (λ_=>∀ (pins:Pns) (s:iO) (σ:St) (H:Hp) (vs:List V) (us:List iL) (Q:St->Hp->Prop),Inv X pins σ H s->Vals vs us->t vs σ H Q ->iR (model X.prog X.w) X.A (assignInOrder ((lq ts X.env).map (·.2)) us) (λ_ s'=>∃ σ' H',Inv X pins σ' H' s'/\Q σ' H') X.xe s):=⟨λh=>h.run⟩
abbrev qkD:=V->V->V->Hp->(Hp->Prop)->Prop
def qlT (X:Cx) (t:qkD):Prop:=
 ∀ (pins:Pns) (s:iO) (σ:St) (H:Hp) (o i v:V) (a b u:iL) (Q:Hp->Prop),Inv X pins σ H s->RelV o a->RelV i b->RelV v u->t o i v H Q ->iR (model X.prog X.w) X.A (setItem a b u) (λ_ s'=>∃ H',Inv X pins σ H' s'/\Q H') X.xe s
variable {es:List Expr} {tg:Expr} {pos':Pos}
section
def qhE (i:Nat):TG:=λv σ H Q=>Q (σ.set i (iI v)) H
theorem qfe (a:X.N.Nodup) (hi:X.N[i]?=iI x) (hx:Loc X.env.scope x) (f:X.fn x=iM\/X.env.scope.names.lookup x=iI .local:=by first | exact .inl rfl | exact .inr rfl | assumption):PG X (.Name x pos) (qhE i):=by refine ⟨?_⟩;intro pins s σ H v u Q I r h;exact wpAny_assign_Name (Xb I a hi hx r (λs' b=>⟨_,H,b,h⟩) f)
def qms:TGs:=λvs σ H Q=>vs=[]/\Q σ H
def qkE (t:TG) (u:TGs):TGs:=λvs σ H Q=>∃ v r,vs=v::r/\t v σ H λσ' H'=>u r σ' H' Q
theorem qff:PGs X [] qms:=by refine ⟨?_⟩;intro pins s σ H vs us Q I r h;obtain ⟨e,h⟩:=h;subst e;cases r;exact assignInOrder_nil ⟨σ,H,I,h⟩
theorem qcK {t:TG} {u:TGs} (h1:PG X e t) (h2:PGs X es u)
  (c:(lq (e::es) X.env).map (·.2)=assign e X.env::(lq es X.env).map (·.2):=by rfl):PGs X (e::es) (qkE t u):=by
 refine ⟨?_⟩;intro pins s σ H vs us Q I r h;obtain ⟨v,vr,e1,h⟩:=h;subst e1;cases r with
 | cons r a=>rw [c];refine assignInOrder_cons (thn (h1 pins s σ H _ _ _ I r h) λ_ s1 ⟨σ1,H1,d,q⟩=>?_);exact h2 pins s1 σ1 H1 _ _ Q d a q
def qmt (K:Frag) (n:Nat) (t:TGs):TG:=λv σ H Q=>∃ a xs,v=.ref a/\SqT K H a xs/\xs.length=n/\t xs σ H Q
theorem qhF {k:Nat} {t:TGs} {n:Nat} (g:X.calm=iM) (h:PGs X es t)
  (f:(lq es X.env).length=n:=by rfl) (c:(lq es X.env).findIdx? (·.1)=none:=by rfl):PG X (.Tuple es k pos) (qmt X.K n t):=by
 refine ⟨?_⟩;intro pins s σ H v u Q I r w;obtain ⟨a,xs,e1,hq,hl,w⟩:=w;subst e1;cases r;obtain ⟨its,d,ht,z⟩:=I.tuple hq;refine assign_Tuple_tuple (I.ok.hd g) ht (by simp [f,<-hl,d.length]) c λh' hx=>?_;have i:Inv X pins σ H { s with heap:=h' }:=I.kept (t':=s.toks) λb o e=>hx b o (aF (aC e)) e;exact h pins _ σ H xs _ Q i (by simpa using d) w
def qmu (to a:TE) (t:qkD):TG:=λv σ H Q=>to σ H λo H1=>a σ H1 λi H2=>t o i v H2 λb=>Q σ b
theorem qhG {o i:Expr} {to c:TE} {t:qkD} (l:PE X o to) (hi:PE X i c) (f:qlT X t)
  (g:∀ v,assign (.Subscript o i pos) X.env v=(do
   let a <-holding [v] (eval o X.env)
   let b <-holding [v,a] (eval i X.env)
   mO pos
   holding [v,a,b] (setItem a b v)
   release [v,a,b] []):=by intro _; rfl):PG X (.Subscript o i pos) (qmu to c t):=by
 refine ⟨?_⟩;intro pins s σ H v u Q I r h;rw [g];refine iJ (j0 (thn (l pins s σ H _ I h) λa s1 ⟨x,H1,m,r1,e⟩=>?_));refine iJ (j0 (thn (hi pins s1 σ H1 _ m e) λb s2 ⟨y,H2,k,r2,d⟩=>?_));refine iJ (wpAny_standAt (iJ (j0 (thn (f pins s2 σ H2 x y v a b u _ k r1 r2 r d) λ_ s3 ⟨n,j,q⟩=>?_))));exact wpAny_release ⟨σ,n,j,q⟩
def qlU (te:TE) (g:TG):TS:=λD σ H=>te σ H λx H1=>g x σ H1 D.nx
theorem qhH {g:TG} (b:PE X e te) (hg:PG X tg g) (c:swapsWithSole [tg] e pos.line X.env=pure false:=by rfl) (w:swappedStores [tg] e X.env=pure none:=by rfl)
  (h1:(lq [tg] X.env).map (·.2)=[assign tg X.env]:=by rfl):PS X (.Assign [tg] e pos) (qlU te g):=by
 refine ⟨?_⟩;intro pins s σ H D I h;refine wpAny_Assign_stores (thn (b pins s σ H _ I h) λv s1 ⟨x,H1,d,r1,a⟩=>?_) c w;rw [h1];exact thn (hg pins s1 σ H1 x v _ d r1 a) λ_ s2 q=>q
theorem qeq (a:X.N.Nodup) (hi:X.N[i]?=iI x) (hx:Loc X.env.scope x) (g:PE X e te) (c:lm e (iI (.Name x pos')) pos.line X.env=pure false:=by rfl) (f:X.fn x=iM\/X.env.scope.names.lookup x=iI .local:=by first | exact .inl rfl | exact .inr rfl | assumption):PS X (.Assign [.Name x pos'] e pos) (qlU te (qhE i)):=by refine ⟨?_⟩;intro pins s σ H D I h;refine wpAny_Assign_Name (thn (g pins s σ H _ I h) λv s1 ⟨y,H1,d,r1,q⟩=>?_) c;exact Xb d a hi hx r1 (λs2 k=>⟨_,H1,k,q⟩) f
end
variable {tb:TS} {body:List Stmt}
section
def qhI (c:TT) (tb:TS):TS:=λD σ H=>∃ W:Nat->St->Hp->Prop,(∃ m,W m σ H)/\∀ m σ H,W m σ H ->c σ H λb H1=>if b=iM then ∃ N:St->Hp->Prop,(∀ σ' H',N σ' H'->∃ a,a < m/\W a σ' H')/\tb { D with nx:=N,ct:=N,bk:=D.nx } σ H1 else D.nx σ H1
theorem qcL (hp:mP (model X.prog X.w) X.A X.env X.xe) (r:PT X c tc) (hb:PSs X body tb):PS X (.While c body [] pos) (qhI tc tb):=by
 refine ⟨?_⟩;intro pins s σ H D I h;obtain ⟨W,⟨m0,p⟩,t⟩:=h;refine wpAny_While (codeAny_whileLoop (λn s'=>∃ σ' H',Inv X pins σ' H' s'/\W n σ' H') ?_ m0 ⟨σ,H,I,p⟩);rintro n s1 ⟨σ1,H1,u,o⟩;refine lv hp (thn (r pins s1 σ1 H1 _ u (t n σ1 H1 o)) λb s2 ⟨H2,l,e⟩=>?_);cases b with
 | true=>
  obtain ⟨N,k,e⟩:=e;rw [Aa rfl];refine lv hp (thn (hb pins s2 σ1 H2 _ l e) λf s3 q=>?_);cases f with
  | next=>obtain ⟨a,d,j,i⟩:=q;obtain ⟨m,hm,g⟩:=k a d i;exact ⟨m,hm,a,d,j,g⟩
  | cont=>obtain ⟨a,d,j,i⟩:=q;obtain ⟨m,hm,g⟩:=k a d i;exact ⟨m,hm,a,d,j,g⟩
  | brk=>exact q
  | ret v=>exact q
 | false=>rw [Ab bE];exact l7 ⟨σ1,H2,l,e⟩
end
structure It where
 go:Nat->Hp->Prop
 yld:Nat->Hp->V->Hp->Prop
 stop:Nat->Hp->Prop
def Uz (X:Cx) (pins:Pns) (H:Hp) (b:Addr):Prop:=
 H b=iK/\b≠X.env.locals/\b∉X.fs/\(b∈X.ex\/X.s₀.heap.objs.size<=b)/\(∀ x c,X.env.cells.lookup x=iI c->c≠b)/\∀ p∈X.pn++pins,p.1≠b
theorem Inv.fpOk (I:Inv X pins σ H s) (hb:s.heap.objs.size<=b) (n:H' b=iK):Uz X pins H' b:=by
 refine ⟨n,b8 (aK I.lt hb),I.nofs hb,.inr (bU I.sz hb),λx c e z=>?_,λp hp z=>?_⟩;·obtain ⟨v,q⟩:=I.cell x c e;exact absurd (aK q.lt (by rw [z]; exact hb)) (cq _)
 ·exact absurd (aK (aC (I.pin p hp).1) (by rw [z]; exact hb)) (cq _)
structure Turn (P:iU) (w:iV) (K:Frag) (tg:Expr) (J:It) (fp:List Addr) (it:Addr) (tn:Nat->Heap->Prop):Prop where
 mem:it∈fp
 obj:∀ i h,tn i h->∀ b∈fp,∃ o,h.get? b=iI o/\∀ v,o.data≠.cell v
 keep:∀ i h h',tn i h->(∀ b∈fp,∀ o,h.get? b=iI o->h'.get? b=iI o)->tn i h'
 item:∀ (X:Cx),X.prog=P->X.w=w->X.K=K->X.calm=iM->∀ (i:Nat) (pins:Pns) (s:iO) (σ:St) (H:Hp) (E:iL->iO->Prop),Inv X pins σ H s->(∀ b∈fp,Uz X pins H b)->tn i s.heap->J.go i H ->iR (model P w) X.A (lB (.ref it)) (λr s1=>∃ u,r=iI u /\
   iR (model P w) X.A (l8 tg (.ref it) u) (λ_ s2=>∃ x H',Inv X pins σ H' s2/\RelV x u/\J.yld i H x H'/\tn (i+1) s2.heap/\∀ b∈fp,H' b=iK) E s1) E s
 done:∀ (X:Cx),X.prog=P->X.w=w->X.K=K->X.calm=iM->∀ (i:Nat) (pins:Pns) (s:iO) (σ:St) (H:Hp) (E:iL->iO->Prop),Inv X pins σ H s->(∀ b∈fp,Uz X pins H b)->tn i s.heap->J.stop i H ->iR (model P w) X.A (lB (.ref it)) (λr s1=>r=iK/\Inv X pins σ H s1) E s
 self:∀ (A:iZ) (i:Nat) (s:iO) (Q:iL->iO->Prop) (E:iL->iO->Prop),tn i s.heap->Q (.ref it) s->iR (model P w) A (mU (.ref it)) Q E s
abbrev TI:=St->Hp->(It->Hp->Prop)->Prop
def PIE (X:Cx) (pins:Pns) (σ:St) (tg:Expr) (R:It->Hp->Prop) (i:iL) (s2:iO):Prop:=
 ∃ (it:Addr) (fp:List Addr) (tn:Nat->Heap->Prop) (J:It) (H':Hp),i=.ref it/\Inv X pins σ H' s2/\Turn X.prog X.w X.K tg J fp it tn/\tn 0 s2.heap/\(∀ b∈fp,Uz X pins H' b)/\R J H'
structure PI (X:Cx) (tg iter:Expr) (wi:TI):Prop where
 run:∀ (pins:Pns) (s:iO) (σ:St) (H:Hp) (R:It->Hp->Prop),Inv X pins σ H s->wi σ H R ->iR (model X.prog X.w) X.A (eval iter X.env) (λv s1=>iR (model X.prog X.w) X.A (mU v) (PIE X pins σ tg R) X.xe s1) X.xe s
instance {X:Cx} {tg iter:Expr} {wi:TI}:CoeFun (PI X tg iter wi) (λ_=>∀ (pins:Pns) (s:iO) (σ:St) (H:Hp) (R:It->Hp->Prop),Inv X pins σ H s->wi σ H R ->iR (model X.prog X.w) X.A (eval iter X.env) (λv s1=>iR (model X.prog X.w) X.A (mU v) (PIE X pins σ tg R) X.xe s1) X.xe s):=⟨λh=>h.run⟩
theorem GO {M:Model} {A:iZ} {E:iL->iO->Prop} {tg:Expr} {u:iL} {o:Obj} {n:String} {vs:Array iL} {Q:Unit->iO->Prop} (l:s.heap.get? it=iI o) (d:o.cls=.type n) (hd:o.data=.fields vs)
    (a:["enumerate", "zip", "dict_itemiterator", "dict_reverseitemiterator", "odict_iterator", "itertools.zip_longest", "itertools.pairwise"].contains n=iN) (c:Q () s):iR M A (l8 tg (.ref it) u) Q E s:=by
  unfold l8;cases tg <;> first
    | exact iP c
    | (cases u <;> first
        | exact iP c
        | (refine iJ (mV l ?_)
           rw [d,hd];show iR M A (if (["enumerate", "zip", "dict_itemiterator", "dict_reverseitemiterator", "odict_iterator", "itertools.zip_longest", "itertools.pairwise"].contains n&&vs[0]? == iI (j4 _))=iM then _ else _) Q E s;rw [Ab (by intro h; rw [a,Bool.false_and] at h; cases h)];exact iP c))
noncomputable def Itl (K:Frag) (a:Addr):It:=
 ⟨λi H=>∃ xs x,SqL K H a xs/\xs[i]?=iI x,λi H x H'=>H'=H/\∀ xs,SqL K H a xs->xs[i]?=iI x,λi H=>∃ xs,SqL K H a xs/\xs.length<=i⟩
noncomputable def Itt (K:Frag) (a:Addr):It:=
 ⟨λi H=>∃ xs x,SqT K H a xs/\xs[i]?=iI x,λi H x H'=>H'=H/\∀ xs,SqT K H a xs->xs[i]?=iI x,λi H=>∃ xs,SqT K H a xs/\xs.length<=i⟩
noncomputable def Itr (lo:Int) (n:Nat):It:=⟨λi _=>i < n,λi H x H'=>H'=H/\x=.int (lo+i),λi _=>n<=i⟩
theorem GP (a it:Addr):Turn P w K tg (Itl K a) [it] it (λi h=>h.IsListIter it a i) where
 mem:=by simp
 obj:=λi h st b hb=>by
  have e:b=it:=by simpa using hb
  subst e;obtain ⟨o,e,c,d⟩:=st;exact ⟨o,e,λv z=>by rw [d] at z; cases z⟩
 keep:=λi h h' st k=>st.at λo e=>k it (by simp) o e
 item:=by intro X l j m t i pins s σ H E I g st hg;subst l j m;obtain ⟨xs,x,hq,hx⟩:=hg;obtain ⟨its,r,p,B⟩:=I.list hq;obtain ⟨u,D,A⟩:=r.get hx;obtain ⟨f0,f1,f2,q,f4,n⟩:=g it (by simp);refine wpAny_pyNext_list_item st p.isList (x:=u) (by simpa using D) λh' f y=>?_;have J:Inv X pins σ H { s with heap:=h' }:=I.turned (t':=s.toks) (λb o hb e=>(y.2 b hb).trans e) f0 f1 q f4 n;obtain ⟨o,e,c,d⟩:=id f;exact ⟨u,rfl,GO (s:={ s with heap:=h' }) e c d (by decide) ⟨x,H,J,A,⟨rfl,λys C=>by rw [I.list_inj C hq]; exact hx⟩,f,λb hb=>(g b hb).1⟩⟩
 done:=by intro X l j m t i pins s σ H E I g st hg;subst l j m;obtain ⟨xs,hq,hx⟩:=hg;obtain ⟨its,r,p,B⟩:=I.list hq;obtain ⟨f0,f1,f2,q,f4,n⟩:=g it (by simp);have hl:=r.length;exact wpAny_pyNext_list_end (I.ok.hd t) st p.isList (by simp; lia) λh' G=>⟨rfl,I.turned (t':=s.toks) (λb o hb e=>G b o hb e) f0 f1 q f4 n⟩
 self:=λ_ _ _ _ _ st h=>wpAny_pyIter_listiter st h
theorem Zz (a it:Addr):Turn P w K tg (Itt K a) [it] it (λi h=>h.IsTupleIter it a i) where
 mem:=by simp
 obj:=λi h st b hb=>by
  have e:b=it:=by simpa using hb
  subst e;obtain ⟨o,e,c,d⟩:=st;exact ⟨o,e,λv z=>by rw [d] at z; cases z⟩
 keep:=λi h h' st k=>st.at λo e=>k it (by simp) o e
 item:=by intro X l j m t i pins s σ H E I g st hg;subst l j m;obtain ⟨xs,x,hq,hx⟩:=hg;obtain ⟨its,r,p,B⟩:=I.tuple hq;obtain ⟨u,D,A⟩:=r.get hx;obtain ⟨f0,f1,f2,q,f4,n⟩:=g it (by simp);refine wpAny_pyNext_tuple_item st (show s.heap.IsTuple a its.toArray from p) (x:=u) (by simpa using D) λh' f y=>?_;have J:Inv X pins σ H { s with heap:=h' }:=I.turned (t':=s.toks) (λb o hb e=>(y.2 b hb).trans e) f0 f1 q f4 n;obtain ⟨o,e,c,d⟩:=id f;exact ⟨u,rfl,GO (s:={ s with heap:=h' }) e c d (by decide) ⟨x,H,J,A,⟨rfl,λys C=>by rw [I.tuple_inj C hq]; exact hx⟩,f,λb hb=>(g b hb).1⟩⟩
 done:=by intro X l j m t i pins s σ H E I g st hg;subst l j m;obtain ⟨xs,hq,hx⟩:=hg;obtain ⟨its,r,p,B⟩:=I.tuple hq;obtain ⟨f0,f1,f2,q,f4,n⟩:=g it (by simp);have hl:=r.length;exact wpAny_pyNext_tuple_end (I.ok.hd t) st (show s.heap.IsTuple a its.toArray from p) (by simp; lia) λh' G=>⟨rfl,I.turned (t':=s.toks) (λb o hb e=>G b o hb e) f0 f1 q f4 n⟩
 self:=λ_ _ _ _ _ st h=>wpAny_pyIter_tupleiter st h
theorem ZA (it:Addr) (lo:Int) (n:Nat):Turn P w K tg (Itr lo n) [it] it (λi h=>IsRangeIter h it (lo+(i:Nat) * 1) ((n:Int) - (i:Nat)) 1) where
 mem:=by simp
 obj:=λi h st b hb=>by
  have e:b=it:=by simpa using hb
  subst e;exact ⟨_,st,λv z=>by have j:Data.fields _=Data.cell v:=z;cases j⟩
 keep:=λi h h' st k=>k it (by simp) _ st
 item:=by intro X l c m d i pins s σ H E I a st hg;subst l c m;obtain ⟨f0,f1,f2,q,f4,g⟩:=a it (by simp);have W:=Walks.range (prog:=X.prog) (w:=X.w) (I.ok.hd d) it lo 1 n;refine W.item i s _ _ hg st λv h' tk r f p=>?_;obtain ⟨t,rfl⟩:=r;have u:Inv X pins σ H { s with heap:=h',toks:=tk }:=I.turned (λb o hb e=>p b o (by simpa using hb) e) f0 f1 q f4 g;refine ⟨_,rfl,GO (s:={ s with heap:=h',toks:=tk }) (n := "range_iterator") f rfl rfl (by decide) ⟨.int (lo+i),H,u,⟨t,?_⟩,⟨rfl,rfl⟩,f,λb hb=>(a b hb).1⟩⟩;rw [Int.mul_one]
 done:=by intro X l c m d i pins s σ H E I a st hg;subst l c m;obtain ⟨f0,f1,f2,q,f4,g⟩:=a it (by simp);exact wpAny_pyNext_range_end (I.ok.hd d) st (by have:n<=i:=hg; lia) λh' G=>⟨rfl,I.turned (t':=s.toks) (λb o hb e=>G b o hb e) f0 f1 q f4 g⟩
 self:=λ_ _ _ _ _ st h=>wpAny_pyIter_rangeiter st h
variable {p:Pos} {fp:List Addr}
section
theorem qcM {R:It->Hp->Prop} {E:iL->iO->Prop} {lo hi:Int} {t u v:Tok} {tk:Nat} (I:Inv X pins σ H s) (h1:-(2 ^ 62)<=lo) (h2:lo < 2 ^ 62) (f:-(2 ^ 62)<=hi) (h:hi < 2 ^ 62)
  (q:R (Itr lo (hi - lo).toNat) H):iR (model X.prog X.w) X.A (mU (.ref s.heap.objs.size)) (PIE X pins σ tg R) E { s with heap:=s.heap.push { cls:=.type "range",data:=.fields #[.int lo t,.int hi u,.int 1 v] },toks:=tk }:=by
 refine wpAny_pyIter_range (iB ..) (small_one h1 h2 f h) ?_;have d:Inv X pins σ H { s with heap:=s.heap.push { cls:=.type "range",data:=.fields #[.int lo t,.int hi u,.int 1 v] },toks:=tk }:=I.kept λb o e=>aa _ e;refine ⟨(s.heap.push { cls:=.type "range",data:=.fields #[.int lo t,.int hi u,.int 1 v] }).objs.size,[(s.heap.push { cls:=.type "range",data:=.fields #[.int lo t,.int hi u,.int 1 v] }).objs.size],_,_,H,rfl,d.kept (t':=tk) λb o e=>aa _ e,ZA _ lo (hi - lo).toNat,?_,λb hb=>?_,q⟩
 ·have e1:lo+((0:Nat):Int) * 1=lo:=by simp
  have i:(((hi - lo).toNat:Nat):Int) - ((0:Nat):Int)=bZ lo hi 1:=by rw [rangeSize_one]; split <;> lia
  show IsRangeIter _ _ (lo+((0:Nat):Int) * 1) ((((hi - lo).toNat:Nat):Int) - ((0:Nat):Int)) 1;rw [e1,i];exact ah _ rfl
 ·have e:b=(s.heap.push { cls:=.type "range",data:=.fields #[.int lo t,.int hi u,.int 1 v] }).objs.size:=by simpa using hb
  subst e;exact d.fpOk (ay _) (d.hok.fresh (ay _))
def qkF (ta:TA):TI:=λσ H R=>ta σ H λvs H1=>∃ j:Int,vs=[.int j]/\-(2 ^ 62)<=j/\j < 2 ^ 62/\R (Itr 0 j.toNat) H1
theorem GQ {a:Expr} {ta:TA} (hg:Gl X "range") (hm:X.mg "range"=iK) (g:PA X [a] ta) (f:iQ [a] X.env=[(iN,eval a X.env)]:=by rfl):PI X tg (.Call (.Name "range" p) [a] [] pos) (qkF ta):=by
 refine ⟨?_⟩;intro pins s σ H R I h;refine Call_ (xq I hg hm boot_range (bv (thn (g pos pins s σ H _ I h) λus s1 ⟨vs,H1,i,r1,b⟩=>?_) f rfl));obtain ⟨j,e,b,d,q⟩:=b;subst e;cases r1 with
 | cons r c=>cases c;obtain ⟨t,rfl⟩:=r;exact call_range_1 (qcM i (by lia) (by lia) b d (by simpa using q))
def qmv (wi:TI) (g:TG) (tb:TS):TS:=λD σ H=>wi σ H λJ H1=>∃ W:Nat->Nat->St->Hp->Prop,(∃ m,W 0 m σ H1)/\∀ i m σ H,W i m σ H ->(J.stop i H/\D.nx σ H)\/(J.go i H/\∃ N:St->Hp->Prop,(∀ σ' H',N σ' H'->∃ c,c < m/\W (i+1) c σ' H')/\∀ x H',J.yld i H x H'->g x σ H' λa H2=>tb { D with nx:=N,ct:=N,bk:=D.nx } a H2)
noncomputable def VO (fp:List Addr) (h:Heap):Pns:=fp.filterMap λb=>(h.get? b).map λo=>(b,o)
theorem uX {o:Obj} (hb:b∈fp) (e:h.get? b=iI o):(b,o)∈VO fp h:=fA.mpr ⟨b,hb,by rw [e]; rfl⟩
theorem GR {p:Addr×Obj} (hp:p∈VO fp h):p.1∈fp/\h.get? p.1=iI p.2:=by
 obtain ⟨b,hb,e⟩:=fA.mp hp;cases q:h.get? b with
 | none=>rw [q] at e; cases e
 | some o=>rw [q] at e;have a:(b,o)=p:=aL.inj e;subst a;exact ⟨hb,q⟩
theorem Inv.pinned (I:Inv X pins σ H s) (h:∀ b∈fp,Uz X pins H b) (l:∀ b∈fp,∃ o,s.heap.get? b=iI o/\∀ v,o.data≠.cell v):Inv X (pins++VO fp s.heap) σ H s:=
 I.pins_of λp hp=>(ai.mp hp).elim (λz=>I.pin p (aY _ z)) λz=>by obtain ⟨hb,e⟩:=GR z;obtain ⟨f0,f1,f2,_⟩:=h p.1 hb;obtain ⟨o,a,d⟩:=l p.1 hb;rw [e] at a; cases a;exact ⟨e,f0,f1,f2,d⟩
theorem Inv.unpinned {pl:Pns} (I:Inv X (pins++pl) σ H s):Inv X pins σ H s:=I.pins_of λp hp=>I.pin p (aY _ (dO _ hp))
theorem qer {iter:Expr} {wi:TI} {g:TG} {pos:Pos} (hp:mP (model X.prog X.w) X.A X.env X.xe) (Q:X.calm=iM) (hi:PI X tg iter wi) (hg:PG X tg g) (hb:PSs X body tb)
  (hs:∀ x,li iter X.env x=pure x:=by intro _; rfl):PS X (.For tg iter body [] pos) (qmv wi g tb):=by
 refine ⟨?_⟩;intro pins s σ H D I h;refine wpAny_For (thn (hi pins s σ H _ I h) λv s1 h1=>thn h1 λitv s2 h2=>?_) hs;obtain ⟨it,fp,tn,J,H2,e,I2,T,K,f2,W,⟨m0,F⟩,y⟩:=h2;subst e;have t:∀ {H':Hp},(∀ b∈fp,H' b=iK)->∀ b∈fp,Uz X pins H' b:=λhn b hb=>⟨hn b hb,(f2 b hb).2⟩
 refine codeAny_forLoop_any (λn s'=>∃ i σ' H',Inv X pins σ' H' s'/\tn i s'.heap/\(∀ b∈fp,H' b=iK)/\W i n σ' H') ?_ m0 ⟨0,σ,H2,I2,K,λb hb=>(f2 b hb).1,F⟩;rintro n s3 ⟨i,c,E,R,z,C,Z⟩;rcases y i n c E Z with ⟨stop,qn⟩ | ⟨go,N,hN,step⟩
 ·refine lv hp (thn (T.done X rfl rfl rfl Q i pins s3 c E X.xe R (t C) z stop) λr s4 ⟨M,I4⟩=>?_);subst M;exact l7 ⟨c,E,I4,qn⟩
 ·refine lv hp (thn (T.item X rfl rfl rfl Q i pins s3 c E X.xe R (t C) z go) λr s4 ⟨u,M,h4⟩=>?_);subst M;refine lv hp (thn h4 λ_ s5 ⟨x,S,I5,r5,U,p,O⟩=>?_);have P:=I5.pinned (t O) (T.obj _ _ p);refine lv hp (thn (hg _ s5 c S x u _ P r5 (step x S U)) λ_ s6 ⟨G,H6,I6,q6⟩=>?_);refine lv hp (thn (hb _ s6 G H6 _ I6 q6) λf L q=>?_);have j:∀ {a:St} {l:Hp},Inv X (pins++VO fp s5.heap) a l L->N a l->∃ m,m < n/\∃ i σ' H',Inv X pins σ' H' L/\tn i L.heap/\(∀ b∈fp,H' b=iK)/\W i m σ' H':=λ{a l} k B=>by obtain ⟨m',hm,Y⟩:=hN a l B;refine ⟨m',hm,i+1,a,l,k.unpinned,T.keep _ _ _ p λb hb o e=>(k.pin (b,o) (aY _ (aY _ (uX hb e)))).1,λb hb=>?_,Y⟩;obtain ⟨o,e,d⟩:=T.obj _ _ p b hb;exact (k.pin (b,o) (aY _ (aY _ (uX hb e)))).2.1
  cases f with
  | next=>obtain ⟨a,l,k,B⟩:=q; exact j k B
  | cont=>obtain ⟨a,l,k,B⟩:=q; exact j k B
  | brk=>obtain ⟨a,l,k,q⟩:=q; exact ⟨a,l,k.unpinned,q⟩
  | ret v=>obtain ⟨V,a,l,k,r7,q⟩:=q; exact ⟨V,a,l,k.unpinned,r7,q⟩
end
abbrev R2:=V->V->Hp->VK->Prop
def OpR (X:Cx) (f:iL->iL->Sem iL) (r:R2):Prop:=
 ∀ (pins:Pns) (s:iO) (σ:St) (H:Hp) (x y:V) (v u:iL) (Q:VK),Inv X pins σ H s->RelV x v->RelV y u->r x y H Q ->iR (model X.prog X.w) X.A (f v u) (EP X pins σ Q) X.xe s
def UnR (X:Cx) (f:iL->Sem iL) (r:V->Hp->VK->Prop):Prop:=
 ∀ (pins:Pns) (s:iO) (σ:St) (H:Hp) (x:V) (v:iL) (Q:VK),Inv X pins σ H s->RelV x v->r x H Q ->iR (model X.prog X.w) X.A (f v) (EP X pins σ Q) X.xe s
def wW (X:Cx) (f:iL) (r:List V->Hp->VK->Prop):Prop:=
 ∀ (pins:Pns) (s:iO) (σ:St) (H:Hp) (xs:List V) (us:List iL) (Q:VK),Inv X pins σ H s->Vals xs us->r xs H Q ->iR (model X.prog X.w) X.A (call f us) (EP X pins σ Q) X.xe s
def qmw (X:Cx) (r:V->Hp->(Bool->Hp->Prop)->Prop):Prop:=
 ∀ (pins:Pns) (s:iO) (σ:St) (H:Hp) (x:V) (v:iL) (Q:Bool->Hp->Prop),Inv X pins σ H s->RelV x v->r x H Q ->iR (model X.prog X.w) X.A (truthy v) (TP X pins σ Q) X.xe s
def tOp (r:R2) (ta tb:TE):TE:=λσ H Q=>ta σ H λx H1=>tb σ H1 λy H2=>r x y H2 Q
def tUn (r:V->Hp->VK->Prop) (ta:TE):TE:=λσ H Q=>ta σ H λx H1=>r x H1 Q
def rI (C:Int->Int->Prop) (g:Int->Int->V):R2:=λx y H Q=>∃ i j,x=.int i/\y=.int j/\C i j/\Q (g i j) H
def rI0 (g:Int->Int->V):R2:=λx y H Q=>∃ i j,x=.int i/\y=.int j/\Q (g i j) H
def rU (g:Int->V):V->Hp->VK->Prop:=λx H Q=>∃ i,x=.int i/\Q (g i) H
variable {r:R2}
section
variable {a b:Expr} {tb tc:TE}
theorem qkG (i:PE X a ta) (hb:PE X b tb) {R:V->V->Hp->Prop} (I:Inv X pins σ H s)
  (h:ta σ H λx H1=>tb σ H1 λy H2=>R x y H2) {Q:iL->iO->Prop} {f:iL->iL->Sem iL}
  (g:∀ v u s2 x y H2,Inv X pins σ H2 s2->RelV x v->RelV y u->R x y H2->iR (model X.prog X.w) X.A (f v u) Q X.xe s2) :
  iR (model X.prog X.w) X.A (eval a X.env) (λv d=>iR (model X.prog X.w) X.A (eval b X.env) (λu c=>iR (model X.prog X.w) X.A (f v u) Q X.xe c) X.xe d) X.xe s:=by
 refine thn (i pins s σ H _ I h) λv s1 ⟨x,H1,j,r1,e⟩=>?_;refine thn (hb pins s1 σ H1 _ j e) λu s2 ⟨y,H2,k,r2,q⟩=>?_;exact g v u s2 x y H2 k r1 r2 q
theorem qkH {op:Operator} (l:OpR X (j6 op) r) (f:PE X a ta) (hb:PE X b tb):PE X (.BinOp a op b pos) (tOp r ta tb):=by refine ⟨?_⟩;intro pins s σ H Q I h;exact wpAny_BinOp (qkG f hb I h λv u s2 x y H2 k d c q=>l pins s2 σ H2 x y v u Q k d c q)
theorem qkI {op:UnaryOp} {r:V->Hp->VK->Prop} (l:UnR X (unaryOp op) r) (f:PE X a ta):PE X (.UnaryOp op a pos) (tUn r ta):=by refine ⟨?_⟩;intro pins s σ H Q I h;exact UnaryOp_ (thn (f pins s σ H _ I h) λv s1 ⟨x,H1,d,r1,q⟩=>l pins s1 σ H1 x v Q d r1 q)
theorem opI {f:iL->iL->Sem iL} {C:Int->Int->Prop} {g:Int->Int->Int}
  (r:∀ (i j:Int) (t u:Tok) (s:iO) (Q:iL->iO->Prop) (E:iL->iO->Prop),C i j->Q (.int (g i j) s.toks) { s with toks:=s.toks+1 }->iR (model X.prog X.w) X.A (f (.int i t) (.int j u)) Q E s) :
  OpR X f (rI C λi j=>.int (g i j)):=by
 intro pins s σ H x y v u Q I d c h;obtain ⟨i,j,rfl,rfl,a,q⟩:=h;obtain ⟨t,rfl⟩:=d;obtain ⟨t',rfl⟩:=c;exact r i j t t' s _ _ a ⟨.int (g i j),H,I.tok _,⟨_,rfl⟩,q⟩
theorem qlV {f:iL->iL->Sem iL} {g:Int->Int->Int}
  (r:∀ (i j:Int) (t u:Tok) (s:iO) (Q:iL->iO->Prop) (E:iL->iO->Prop),Q (.int (g i j) s.toks) { s with toks:=s.toks+1 }->iR (model X.prog X.w) X.A (f (.int i t) (.int j u)) Q E s) :
  OpR X f (rI0 λi j=>.int (g i j)):=by
 intro pins s σ H x y v u Q I d c h;obtain ⟨i,j,rfl,rfl,q⟩:=h;obtain ⟨t,rfl⟩:=d;obtain ⟨t',rfl⟩:=c;exact r i j t t' s _ _ ⟨.int (g i j),H,I.tok _,⟨_,rfl⟩,q⟩
theorem qj7 {f:iL->iL->Sem iL} {g:Int->Int->Bool}
  (r:∀ (i j:Int) (t u:Tok) (s:iO) (Q:iL->iO->Prop) (E:iL->iO->Prop),Q (.bool (g i j)) s->iR (model X.prog X.w) X.A (f (.int i t) (.int j u)) Q E s) :
  OpR X f (rI0 λi j=>.bl (g i j)):=by
 intro pins s σ H x y v u Q I d c h;obtain ⟨i,j,rfl,rfl,q⟩:=h;obtain ⟨t,rfl⟩:=d;obtain ⟨t',rfl⟩:=c;exact r i j t t' s _ _ ⟨.bl (g i j),H,I,rfl,q⟩
def qfg (i j:Int):Prop:=0 < j/\j < 1073741824
def CMul (i j:Int):Prop:=(-(2 ^ 64) < i/\i < 2 ^ 64)\/(-(2 ^ 64) < j/\j < 2 ^ 64)
theorem CMul.ok {i j:Int} (h:CMul i j):IntMulOk i j:=by
 rcases h with ⟨h1,h2⟩ | ⟨h1,h2⟩
 ·exact .of_left (intBits_le_64 h1 h2)
 ·exact .of_right (intBits_le_64 h1 h2)
theorem qhJ:OpR X (j6 .Add) (rI0 λi j=>.int (i+j)):=qlV λ_ _ _ _ _ _ _ q=>add_int q
theorem qhK:OpR X (j6 .Sub) (rI0 λi j=>.int (i - j)):=qlV λ_ _ _ _ _ _ _ q=>sub_int q
theorem qhL:OpR X (j6 .Mult) (rI CMul λi j=>.int (i * j)):=opI λ_ _ _ _ _ _ _ d q=>mul_int q d.ok
theorem qfh:OpR X (j6 .FloorDiv) (rI qfg λi j=>.int (i / j)):=opI λi j _ _ _ _ _ d q=>by have h1:(0:Int) < j:=d.1;have h2:j < 1073741824:=d.2;exact floordiv_int (by lia) (by rw [Int.fdiv_eq_ediv_of_nonneg i (by lia)]; exact q) (.inl (PyProof.noPylong_small (by lia)))
theorem qhM:OpR X (j6 .Mod) (rI (λ_ j=>0 < j) λi j=>.int (i % j)):=opI λi j _ _ _ _ _ d q=>by have h1:(0:Int) < j:=d;exact mod_int' (by lia) (by rw [Int.fmod_eq_emod_of_nonneg i (by lia)]; exact q)
theorem unI {f:iL->Sem iL} {g:Int->Int}
  (r:∀ (i:Int) (t:Tok) (s:iO) (Q:iL->iO->Prop) (E:iL->iO->Prop),Q (.int (g i) s.toks) { s with toks:=s.toks+1 }->iR (model X.prog X.w) X.A (f (.int i t)) Q E s) :
  UnR X f (rU λi=>.int (g i)):=by
 intro pins s σ H x v Q I d h;obtain ⟨i,rfl,q⟩:=h;obtain ⟨t,rfl⟩:=d;exact r i t s _ _ ⟨.int (g i),H,I.tok _,⟨_,rfl⟩,q⟩
theorem qhN:UnR X (unaryOp .USub) (rU λi=>.int (-i)):=unI λ_ _ _ _ _ q=>neg_int q
end
variable {op op':CmpOp} {r':R2}
section
variable {a b:Expr} {tb tc:TE}
theorem Xc {Q:VK} {k k':Bool} (I:Inv X pins σ H s) (q:Q (.bl k) H) (e:k=k'):EP X pins σ Q (.bool k') s:=by subst e;exact ⟨.bl k,H,I,rfl,q⟩
theorem qkJ:OpR X (iW .Lt) (rI0 λi j=>.bl (decide (i < j))):=qj7 λ_ _ _ _ _ _ _ q=>lt_int q
theorem qkK:OpR X (iW .LtE) (rI0 λi j=>.bl (decide (i<=j))):=qj7 λ_ _ _ _ _ _ _ q=>le_int q
theorem qkL:OpR X (iW .Gt) (rI0 λi j=>.bl (decide (j < i))):=qj7 λ_ _ _ _ _ _ _ q=>gt_int q
theorem qkM:OpR X (iW .GtE) (rI0 λi j=>.bl (decide (j<=i))):=qj7 λ_ _ _ _ _ _ _ q=>ge_int q
theorem GS:OpR X (iW .Lt) (λx y H Q=>∃ i j,x=.str i/\y=.str j/\Q (.bl (decide (i.cps.toList < j.cps.toList))) H):=by intro pins s σ H x y v u Q I d c h;obtain ⟨i,j,rfl,rfl,q⟩:=h;obtain ⟨t,rfl⟩:=d;obtain ⟨t',rfl⟩:=c;exact lt_str (Xc I q rfl)
theorem qhO:OpR X (iW .Is) (λx y H Q=>y=.non/\Q (.bl (decide (x=.non))) H):=by
 intro pins s σ H x y v u Q I d c h;obtain ⟨rfl,q⟩:=h;cases c;refine is_none_gen (Xc I q ?_);cases x <;> first
  | (cases d; rfl)
  | (obtain ⟨t,rfl⟩:=d; rfl)
theorem qfi:OpR X (iW .IsNot) (λx y H Q=>y=.non/\Q (.bl (!decide (x=.non))) H):=by
 intro pins s σ H x y v u Q I d c h;obtain ⟨rfl,q⟩:=h;cases c;refine isnot_none_gen (Xc I q ?_);cases x <;> first
  | (cases d; rfl)
  | (obtain ⟨t,rfl⟩:=d; rfl)
theorem qes (b:Expr) (h:op≠.In:=by decide) (h2:op≠.NotIn:=by decide):lQ op b=false:=by
 have e1:(op == CmpOp.In)=false:=by cases op <;> first | rfl | exact absurd rfl h
 have i:(op == CmpOp.NotIn)=false:=by cases op <;> first | rfl | exact absurd rfl h2
 cases b <;> simp [lQ,e1,i]
theorem qfj (l:OpR X (iW op) r) (f:PE X a ta) (hb:PE X b tb) (hm:lQ op b=iN):PE X (.Compare a [op] [b] pos) (tOp r ta tb):=by refine ⟨?_⟩;intro pins s σ H Q I h;exact wpAny_Compare1 (qkG f hb I h λv u s2 x y H2 k d c q=>l pins s2 σ H2 x y v u Q k d c q) hm
def qhP (t:TE):TT:=λσ H Q=>t σ H λx H'=>∃ k,x=.bl k/\Q k H'
theorem qfk (l:OpR X (iW op) r) (g:PE X a ta) (hb:PE X b tb) (hm:lQ op b=iN):PT X (.Compare a [op] [b] pos) (qhP (tOp r ta tb)):=by
 refine ⟨?_⟩;intro pins s σ H Q I h;refine wpAny_isTrue_Compare1 (thn (g pins s σ H _ I h) λv s1 ⟨x,H1,m,r1,f⟩=>thn (hb pins s1 σ H1 _ m f) λu s2 ⟨y,H2,i,r2,d⟩=>
  thn (l pins s2 σ H2 x y v u _ i r1 r2 d) λc s3 ⟨z,n,j,r3,k,e,q⟩=>?_) hm
 subst e;cases r3;exact lh ⟨n,j,q⟩
def GT (r r':R2) (ta tb tc:TE):TE:=λσ H Q=>ta σ H λx H1=>tb σ H1 λy H2=>r x y H2 λz b=>∃ k,z=.bl k /\
 (if k=iM then tc σ b λS a=>r' y S a Q else Q (.bl iN) b)
theorem qcN (o:OpR X (iW op) r) (f:OpR X (iW op') r') (t:PE X a ta) (hb:PE X b tb) (p:PE X c tc)
  (hm:lastMarks [op,op'] [b,c]=false:=by with_unfolding_all rfl):PE X (.Compare a [op,op'] [b,c] pos) (GT r r' ta tb tc):=by
 refine ⟨?_⟩;intro pins s σ H Q I h;refine Compare_chain (thn (t pins s σ H _ I h) λv s1 ⟨x,H1,B,r1,n⟩=>chain_link (thn (hb pins s1 σ H1 _ B n) λu s2 ⟨y,H2,A,r2,m⟩=>
  thn (o pins s2 σ H2 x y v u _ A r1 r2 m) λd s3 ⟨z,g,j,r3,k,e,q⟩=>?_)) hm
 subst e;cases r3;refine lh ?_;cases k with
 | false=>exact ite_ff ⟨.bl iN,g,j,rfl,q⟩
 | true=>exact ite_tt (chain_last (thn (p pins s3 σ g _ j q) λS s4 ⟨i,C,w,r4,l⟩=>f pins s4 σ C y i u S Q w r2 r4 l))
theorem qcO (t:OpR X (iW op) r) (f:OpR X (iW op') r') (A:PE X a ta) (hb:PE X b tb) (w:PE X c tc)
  (hm:lastMarks [op,op'] [b,c]=false:=by with_unfolding_all rfl):PT X (.Compare a [op,op'] [b,c] pos) (qhP (GT r r' ta tb tc)):=by
 refine ⟨?_⟩;intro pins s σ H Q I h;refine isTrue_chain (thn (A pins s σ H _ I h) λv s1 ⟨x,H1,J,r1,o⟩=>test_link (thn (hb pins s1 σ H1 _ J o) λu s2 ⟨y,H2,G,r2,n⟩=>
  thn (t pins s2 σ H2 x y v u _ G r1 r2 n) λd s3 ⟨z,g,j,r3,k,e,q⟩=>?_)) hm
 subst e;cases r3;refine lh ?_;cases k with
 | false=>obtain ⟨k',C,p⟩:=q;cases C;exact ite_ff ⟨g,j,p⟩
 | true=>refine ite_tt (test_last (thn (w pins s3 σ g _ j q) λS s4 ⟨i,L,E,r4,m⟩=>thn (f pins s4 σ L y i u S _ E r2 r4 m) λd' s5 ⟨z2,K,D,r5,k2,B,l⟩=>?_));subst B;cases r5;exact lh ⟨K,D,l⟩
def qkN (K:Frag) (x:V) (H:Hp) (k:Bool):Prop:=
 match x with
 | .non=>k=iN
 | .bl b=>k=b
 | .int i=>k=(i != 0)
 | .str y=>y.length<=sizeLine/\k=((y.length:Int) != 0)
 | .byt y=>y.size<=sizeLine/\k=((y.size:Int) != 0)
 | .ref p=>(∃ xs,SqL K H p xs/\k=!xs.isEmpty)\/(∃ xs,SqT K H p xs/\k=!xs.isEmpty)\/∃ kvs,H p=iI (.dK kvs)/\k=!kvs.isEmpty
 | _=>False
theorem ZC {κ:Type} {kvs:List (κ×V)} {vs:List (κ×iL)} (r:KV kvs vs):(!vs.isEmpty)=!kvs.isEmpty:=by cases r <;> rfl
theorem JO {its:List iL} (r:Vals xs its):(!its.toArray.isEmpty)=!xs.isEmpty:=by cases r <;> simp
theorem JP:(sizeLine:Nat) < 2 ^ 63:=by rw [iY]; decide
theorem qhQ:qmw X (λx H Q=>∃ k,qkN X.K x H k/\Q k H):=by
 intro pins s σ H x v Q I d h;obtain ⟨k,e,q⟩:=h;have hl:=JP;have c:sizeLine=16777216:=iY;cases x with
 | non=>cases d;have a:k=false:=e;subst a;exact truthy_none ⟨H,I,q⟩
 | bl b=>cases d;have a:k=b:=e;subst a;exact lh ⟨H,I,q⟩
 | int i=>obtain ⟨t,rfl⟩:=d;have a:k=(i != 0):=e;subst a;exact PySem.P.truthy_int ⟨H,I,q⟩
 | str y=>obtain ⟨t,rfl⟩:=d;obtain ⟨hy,a⟩:y.length<=sizeLine/\k=((y.length:Int) != 0):=e;subst a;exact PySem.P.truthy_str (by lia) ⟨H,I.tok _,q⟩
 | byt y=>obtain ⟨t,rfl⟩:=d;obtain ⟨hy,a⟩:y.size<=sizeLine/\k=((y.size:Int) != 0):=e;subst a;exact PySem.W.truthy_bytes (by lia) ⟨H,I.tok _,q⟩
 | ref p=>
  cases d;have a:(∃ xs,SqL X.K H p xs/\k=!xs.isEmpty)\/(∃ xs,SqT X.K H p xs/\k=!xs.isEmpty)\/∃ kvs,H p=iI (.dK kvs)/\k=!kvs.isEmpty:=e;rcases a with ⟨xs,hx,a⟩ | ⟨xs,hx,a⟩ | ⟨kvs,hx,a⟩
  ·subst a;obtain ⟨its,r,pl,z⟩:=I.list hx;have n:=r.length;exact wpAny_truthy_list pl.isList (by simp only [au]; lia) ⟨H,I.tok _,by rw [JO r]; exact q⟩
  ·subst a;obtain ⟨its,r,pl,z⟩:=I.tuple hx;have n:=r.length;exact truthy_tuple pl (by simp only [au]; lia) ⟨H,I.tok _,by rw [JO r]; exact q⟩
  ·subst a;obtain ⟨z,hS,vs,r,m⟩:kvs.length<=sizeLine/\(p == lj)=iN/\∃ vs,KV kvs vs/\s.heap.DictOf (ji X.prog X.w) p vs:=I.hok p _ hx;have n:kvs.length=vs.length:=fO r;exact wpAny_truthy_dict hS m (by lia) ⟨H,I.tok _,by rw [ZC r]; exact q⟩
 | _=>exact (show False from e).elim
theorem qcP (f:PE X a ta) (g:∀ whole,isTrue a X.env whole=(do let v <-whole; mO a.pos; holding [v] (truthy v))):PT X a (λσ H Q=>ta σ H λx H'=>∃ k,qkN X.K x H' k/\Q k H'):=by refine ⟨?_⟩;intro pins s σ H Q I h;exact isTrue_plain (thn (f pins s σ H _ I h) λv s1 ⟨x,H1,d,r1,q⟩=>qhQ pins s1 σ H1 x v Q d r1 q) (g _)
theorem ZD:OpR X (j6 .Add) (λx y H Q=>∃ i j,x=.str i/\y=.str j/\i.length+j.length<=sizeLine/\Q (.str (i++j)) H):=by intro pins s σ H x y v u Q I d c h;obtain ⟨i,j,rfl,rfl,z,q⟩:=h;obtain ⟨t,rfl⟩:=d;obtain ⟨t',rfl⟩:=c;exact add_str (λt' tk=>⟨.str (i++j),H,I.tok _,⟨_,rfl⟩,q⟩) z
theorem we {x:V} (r:Vals [x] us):∃ u,us=[u]/\RelV x u:=by
 cases r with
 | cons r1 r2=>cases r2; exact ⟨_,rfl,r1⟩
theorem qcQ {x:V} (r:Vals [x,y] us):∃ u S,us=[u,S]/\RelV x u/\RelV y S:=by
 cases r with
 | cons r1 r2=>
  cases r2 with
  | cons r3 r4=>cases r4; exact ⟨_,_,rfl,r1,r3⟩
theorem GU (d:X.calm=iM):wW X (.builtin "max") (λxs H Q=>∃ i j,xs=[.int i,.int j]/\Q (.int (if j > i then j else i)) H):=by
 intro pins s σ H xs us Q I r h;obtain ⟨i,j,rfl,q⟩:=h;obtain ⟨u,S,rfl,⟨t,rfl⟩,⟨t',rfl⟩⟩:=qcQ r;refine max_two_ints (I.ok.hd d) λh' tk k=>⟨_,H,I.kept k,?_,q⟩
 by_cases G:j > i;·rw [Aa G,Aa G]; exact ⟨_,rfl⟩
 ·rw [Ab G,Ab G]; exact ⟨_,rfl⟩
theorem GV (d:X.calm=iM):wW X (.builtin "min") (λxs H Q=>∃ i j,xs=[.int i,.int j]/\Q (.int (if j < i then j else i)) H):=by
 intro pins s σ H xs us Q I r h;obtain ⟨i,j,rfl,q⟩:=h;obtain ⟨u,S,rfl,⟨t,rfl⟩,⟨t',rfl⟩⟩:=qcQ r;refine min_two_ints (I.ok.hd d) λh' tk k=>⟨_,H,I.kept k,?_,q⟩
 by_cases G:j < i;·rw [Aa G,Aa G]; exact ⟨_,rfl⟩
 ·rw [Ab G,Ab G]; exact ⟨_,rfl⟩
def qmx (K:Frag) (x:V) (H:Hp) (n:Nat):Prop:=
 match x with
 | .str y=>y.length<=sizeLine/\n=y.length
 | .byt y=>y.size<=sizeLine/\n=y.size
 | .ref p=>(∃ xs,SqL K H p xs/\n=xs.length)\/∃ xs,SqT K H p xs/\n=xs.length
 | _=>False
theorem Ks:wW X (.builtin "len") (λxs H Q=>∃ x n,xs=[x]/\qmx X.K x H n/\Q (.int n) H):=by
 intro pins s σ H xs us Q I r h;obtain ⟨x,n,rfl,e,q⟩:=h;obtain ⟨u,rfl,d⟩:=we r;have hl:=JP;have c:sizeLine=16777216:=iY;cases x with
 | str y=>obtain ⟨t,rfl⟩:=d;obtain ⟨hy,b⟩:y.length<=sizeLine/\n=y.length:=e;subst b;exact len_str (by lia) ⟨.int _,H,I.tok _,⟨_,rfl⟩,q⟩
 | byt y=>obtain ⟨t,rfl⟩:=d;obtain ⟨hy,b⟩:y.size<=sizeLine/\n=y.size:=e;subst b;exact PySem.W.len_bytes (by lia) ⟨.int _,H,I.tok _,⟨_,rfl⟩,q⟩
 | ref p=>
  cases d;have b:(∃ xs,SqL X.K H p xs/\n=xs.length)\/∃ xs,SqT X.K H p xs/\n=xs.length:=e;rcases b with ⟨xs,hx,b⟩ | ⟨xs,hx,b⟩
  ·subst b;obtain ⟨its,r',pl,z⟩:=I.list hx;have a:=r'.length;exact Calls.call_len_list pl.isList (by simp only [au]; lia) ⟨.int xs.length,H,I.tok _,⟨_,by simp only [au]; rw [a]⟩,q⟩
  ·subst b;obtain ⟨its,r',pl,z⟩:=I.tuple hx;have a:=r'.length;exact len_tuple pl (by simp only [au]; lia) ⟨.int xs.length,H,I.tok _,⟨_,by simp only [au]; rw [a]⟩,q⟩
 | _=>exact (show False from e).elim
end
structure ObjM (h:Heap) (x dx C:Addr) (mA:Str->Option iL):Prop where
 obj:h.get? x=iI (cy C dx)
 ns:h.Ns1 dx mA
 ne:dx≠x
variable {dx:Addr} {mA:Str->Option iL}
theorem GW (n:h.Ns1 dx mA):∃ od,h.get? dx=iI od/\∀ name,fB name od=iI (mA name):=by
 obtain ⟨o,es,ep,l,hd,k,_,hm⟩:=n;refine ⟨o,l,λname=>?_⟩;have e:=hm name;unfold nsFind findBy at e;rw [<-Array.find?_toList] at e;unfold fB;rw [hd];dsimp only;split;·rename_i y q;rw [q] at e;exact congrArg iI e
 ·rename_i q;rw [q] at e;have a:es.toList.any (·.refKey)=false:=by rw [fG];intro y C;obtain ⟨z,t,b⟩:=k y (Array.mem_toList_iff.mp C);simp [DictEntry.refKey,b]
  have c:¬es.toList.any (·.refKey)=true:=by rw [a]; exact bE
  rw [Ab c];exact congrArg iI e
variable {C:Addr}
theorem ObjM.look {x:Addr} (I:ObjM h x dx C mA):∃ od,PySem.W.InstAt h x (cy C dx) C (iI od)/\∀ name,fB name od=iI (mA name):=
 let ⟨od,l,hl⟩:=GW I.ns
 ⟨od,⟨I.obj,rfl,rfl,l⟩,hl⟩
section
variable {prog:iU} {x f:Addr} {name:Str} {v:iL}
theorem qfl {e:Bool} {Q:iL->iO->Prop} (X:K.In s.heap) (I:ObjM s.heap x dx C mA) (hg:c8 K C name=iM) (b:dI K C=iM)
  (f:aP K (.ref C) name=iI iK) (c:mA name=iI v) (a:PySem.W.handedIn v=iM) (h:Q v { s with toks:=s.toks+1 }) :
  iR (model prog w) A (getAttr (.ref x) name e) Q E s:=by
 obtain ⟨od,J,hl⟩:=I.look;exact PySem.W.get_value X J (fk hg).1 (PySem.W.findObj_own b f rfl (by rw [hl,c])) a h
theorem qcR {pl:Sem Bool} {Q:iL×List iL->iO->Prop} (X:K.In s.heap) (I:ObjM s.heap x dx C mA) (hg:c8 K C name=iM)
  (a:aP K (.ref C) name=iI (iI (.ref f))) (ht:fz K (.ref f)=iM) (c:mA name=iK) (h:Q (.ref f,[.ref x]) s) :
  iR (model prog w) A (getMethod (.ref x) name pl) Q E s:=by
 obtain ⟨od,J,hl⟩:=I.look;exact PySem.W.method_fn X J (fk hg).1 (fk hg).2 a (beq_iff_eq.mp ht) (by show (fB name od).map (·.isSome)=iI iN; rw [hl,c]; rfl) h
theorem qfm {ns:List Str} {Q:Unit->iO->Prop} (X:K.In s.heap) (I:ObjM s.heap x dx C mA)
  (j:aP K (.ref C) "__setattr__"=iI (iI (.builtin "object.__setattr__"))) (hp:eL K C=iM) (ht:g0 K C name=iI iK) (k:dI K C=iM)
  (i:ip mA ns) (hsz:ns.length<=sizeLine)
  (h:∀ h',ObjM h' x dx C (λy=>if y=name then iI v else mA y)->bK dx s.heap h'->Q () { s with heap:=h',toks:=s.toks+2 }) :
  iR (model prog w) A (setAttr (.ref x) name v) Q E s:=by
 obtain ⟨od,J,hl⟩:=I.look;refine PySem.W.set_plain X J j (PySem.W.osa_open (s:={ s with toks:=s.toks+1 }) (r:=iK) X J hp ht λb=>?_);obtain ⟨cd,l,f⟩:=PySem.W.any_some k;have hx:s.heap.get? x=iI ⟨.ref C,iI dx,.plain,#[]⟩:=I.obj;refine iJ (iP (iJ (iJ (wpAny_loadPart hx (iJ (PySem.W.Looks.here (s:={ s with toks:=s.toks+1 }) (PySem.W.looks_clsIn X l) ?_))))));rw [f];refine iP (a:=iI dx) (iJ (iP (iJ ?_)));refine wpAny_nsSet1 (s:={ s with toks:=s.toks+1 }) I.ns λh' d c=>?_;obtain ⟨o,m,n,D,e,g⟩:=d.count (PySem.Within.cons name v i);refine iJ (wpAny_lookBehind D (by rw [e]; exact pastItsLine_dict (bU g (by rw [ao]; lia))) ?_);exact iP (h _ ⟨(c.2 _ (be I.ne)).trans I.obj,d,I.ne⟩ c)
theorem qcS {R:mK->iO->Prop} {vs:List iL} {kw:List (Str×iL)} (X:K.In s.heap) (hm:g6 K C=iM)
  (hi:aP K (.ref C) "__init__"=iI (iI (.ref f))) (a:PySem.W.typeIn K (.ref f)=iI (.type "function"))
  (h:lE (model prog w) (A.under (.builtin "type.__call__" ⟨.ref C::vs,kw⟩)) (.call (.ref f) ⟨.ref (s.heap.objs.size+1)::vs,kw⟩) (PySem.W.InitBack (s.heap.objs.size+1) R)
   { s with heap:=(s.heap.push bQ).push (cy C s.heap.objs.size) }) :
  lE (model prog w) A (.call (.ref C) ⟨vs,kw⟩) R s:=by
 obtain ⟨b,g,d,t,os⟩:=s;exact PySem.W.make_core (PySem.W.makes_of X hm) (PySem.W.looks_findIn X hi) (λself=>PySem.W.bind_fn X self a) (.inl rfl) h
end
noncomputable def Jt (f:Str) (v:V):List (Str×V)->List (Str×V)
 | []=>[(f,v)]
 | (g,x)::r=>if g=f then (g,v)::r else (g,x)::Jt f v r
theorem yA (f g:Str) (v:V):∀ fs:List (Str×V),(Jt f v fs).lookup g=if g=f then iI v else fs.lookup g
 | []=>by
  show dh g [(f,v)]=_;by_cases h:g=f;·have hb:(g == f)=true:=beq_iff_eq.mpr h;simp only [dh,hb,Aa h]
  ·have hb:(g == f)=false:=beq_eq_false_iff_ne.mpr h;simp only [dh,hb,Ab h]
 | (k,x)::r=>by
  have j:=yA f g v r;rw [show Jt f v ((k,x)::r)=(if k=f then (k,v)::r else (k,x)::Jt f v r) from rfl];by_cases a:k=f
  ·rw [Aa a];by_cases h:g=k;·have hb:(g == k)=true:=beq_iff_eq.mpr h;simp only [dh,hb,Aa (h.trans a)]
   ·have hb:(g == k)=false:=beq_eq_false_iff_ne.mpr h;simp only [dh,hb,Ab (λe:g=f=>h (e.trans a.symm))]
  ·rw [Ab a];by_cases h:g=k;·have hb:(g == k)=true:=beq_iff_eq.mpr h;simp only [dh,hb,Ab (λe:g=f=>a (h.symm.trans e))]
   ·have hb:(g == k)=false:=beq_eq_false_iff_ne.mpr h;simp only [dh,hb];exact j
theorem Qn (f:Str) (v:V):∀ fs:List (Str×V),f∈(Jt f v fs).map (·.1)/\∀ g,g∈fs.map (·.1)->g∈(Jt f v fs).map (·.1)
 | []=>⟨by simp [Jt],λg h=>by simp at h⟩
 | (k,x)::r=>by
  obtain ⟨i1,i2⟩:=Qn f v r;rw [show Jt f v ((k,x)::r)=(if k=f then (k,v)::r else (k,x)::Jt f v r) from rfl];by_cases a:k=f;·rw [Aa a];subst a;exact ⟨by simp,λg h=>by simpa using h⟩
  ·rw [Ab a];refine ⟨?_,λg h=>?_⟩;·rw [aG];exact ae _ i1
   ·rw [aG] at h ⊢;rcases ac.mp h with e | e;·exact ac.mpr (.inl e)
    ·exact ae _ (i2 g e)
theorem Qo (f:Str) (v:V):∀ fs:List (Str×V),(Jt f v fs).length<=fs.length+1
 | []=>by simp [Jt]
 | (k,x)::r=>by
  have j:=Qo f v r;rw [show Jt f v ((k,x)::r)=(if k=f then (k,v)::r else (k,x)::Jt f v r) from rfl];by_cases h:k=f;·rw [Aa h,ao,ao]; lia
  ·rw [Ab h,ao,ao]; lia
theorem RelO.some_of {o:Option iL} (r:RelO (iI v) o):∃ u,o=iI u/\RelV v u:=by
 cases o with
 | none=>exact (show False from r).elim
 | some u=>exact ⟨u,rfl,r⟩
theorem RelO.none_of {o:Option iL} (r:RelO iK o):o=none:=by
 cases o with
 | none=>rfl
 | some u=>exact (show False from r).elim
theorem GX (r:RelV v u):PySem.W.handedIn u=true:=by
 cases v with
 | non=>cases (show u=cj from r); rfl
 | bl b=>cases (show u=dm b from r); rfl
 | int i=>obtain ⟨t,e⟩:=(show ∃ t,u=eu i t from r); cases e; rfl
 | str x=>obtain ⟨t,e⟩:=(show ∃ t,u=eV x t from r); cases e; rfl
 | byt b=>obtain ⟨t,e⟩:=(show ∃ t,u=Value.bytes b t from r); cases e; rfl
 | flt b=>obtain ⟨t,e⟩:=(show ∃ t,u=Value.float b t from r); cases e; rfl
 | ref a=>cases (show u=bu a from r); rfl
 | ty n=>cases (show u=fZ n from r); rfl
section
variable {fs fs':List (Str×V)}
theorem UE (hok:HOk P w H h) (e:H a=iI (.ins C dx fs)):∃ mA,ObjM h a dx C mA/\(∀ f,RelO (fs.lookup f) (mA f))/\ip mA (fs.map (·.1))/\fs.length<=1000/\H dx=iI (.own a):=by
 obtain ⟨d,z,ne,b,mA,n,r,q⟩:=(show ObjOk P w H h a (.ins C dx fs) from hok a _ e)
 exact ⟨mA,⟨b,n,ne⟩,r,q,z,d⟩
end
structure Cls (K:Frag) (C:Addr):Prop where
 pg:c8 K C iA=iM
 hd:dI K C=iM
 po:eL K C=iM
 sa:aP K (.ref C) "__setattr__"=iI (iI (.builtin "object.__setattr__"))
theorem Cls.get (c:Cls K C) (f:Str):c8 K C f=true:=c.pg
def NoAttr (K:Frag) (C:Addr) (f:Str):Prop:=aP K (.ref C) f=iI iK
variable {f:Str}
theorem NoAttr.taker (n:NoAttr K C f):g0 K C f=iI none:=by unfold g0;rw [show aP K (.ref C) f=iI iK from n];rfl
structure Meth (K:Frag) (C:Addr) (m:Str) (f:Addr):Prop where
 at_:aP K (.ref C) m=iI (iI (.ref f))
 fn:fz K (.ref f)=iM
 kp:l9 K (.ref f)=iM
variable {m:Str}
section
variable {fs:List (Str×V)}
theorem ZE {b:Bool} {Q:iL->iO->Prop} (I:Inv X pins σ H s) (e:H a=iI (.ins C dx fs)) (c:Cls X.K C) (n:NoAttr X.K C f) (l:fs.lookup f=iI v)
  (h:∀ u s',Inv X pins σ H s'->RelV v u->Q u s'):iR (model X.prog X.w) A (getAttr (.ref a) f b) Q E s:=by
 obtain ⟨mA,O,r,_,_,_⟩:=UE I.hok e;obtain ⟨u,g,d⟩:=RelO.some_of (v:=v) (o:=mA f) (by rw [<-l]; exact r f);exact qfl I.kIn O (c.get f) c.hd n g (GX d) (h u _ (I.tok _) d)
theorem ZF {g:Addr} {pl:Sem Bool} {Q:iL×List iL->iO->Prop} (I:Inv X pins σ H s) (e:H a=iI (.ins C dx fs)) (c:Cls X.K C) (k:Meth X.K C m g) (l:fs.lookup m=iK)
  (h:Q (.ref g,[.ref a]) s):iR (model X.prog X.w) A (getMethod (.ref a) m pl) Q E s:=by
 obtain ⟨mA,O,r,_,_,_⟩:=UE I.hok e;have n:mA m=none:=RelO.none_of (by rw [<-l]; exact r m);exact qcR I.kIn O (c.get m) k.at_ k.fn n h
theorem ZG {Q:Unit->iO->Prop} (I:Inv X pins σ H s) (e:H a=iI (.ins C dx fs)) (c:Cls X.K C) (n:NoAttr X.K C f) (hl:fs.length < 1000) (j:RelV y u)
  (h:∀ s',Inv X pins σ (upd H a (.ins C dx (Jt f y fs))) s'->Q () s'):iR (model X.prog X.w) A (setAttr (.ref a) f u) Q E s:=by
 obtain ⟨mA,O,r,wi,_,l⟩:=UE I.hok e;have k:(fs.map (·.1)).length<=sizeLine:=by rw [ap,iY]; lia
 refine qfm I.kIn O c.sa c.po n.taker c.hd wi k λh' d i=>h _ ?_;have hd:∃ o,h'.get? dx=iI o:=let ⟨o,_,_,m,_⟩:=d.ns; ⟨o,m⟩
 refine I.write (x:=a) (e:=dx) (by rw [e]; exact dn) (.inr l) (λb q hb z=>(i.2 b hb).trans z) hd ?_;refine ⟨by rw [qx O.ne]; exact l,?_,O.ne,d.obj,_,d.ns,λg=>?_,λg hg=>?_⟩;·have:=Qo f y fs; lia
 ·show RelO ((Jt f y fs).lookup g) (if g=f then iI u else mA g);rw [yA];by_cases q:g=f;·rw [Aa q,Aa q]; exact j
  ·rw [Ab q,Ab q]; exact r g
 ·by_cases q:g=f;·rw [q]; exact (Qn f y fs).1
  ·refine (Qn f y fs).2 g (wi g λz=>hg ?_);show (if g=f then iI u else mA g)=iK;rw [Ab q]; exact z
theorem Inv.made (I:Inv X pins σ H s):Inv X pins σ (upd (upd H s.heap.objs.size (.own (s.heap.objs.size+1))) (s.heap.objs.size+1) (.ins C s.heap.objs.size []))
  { s with heap:=(s.heap.push bQ).push (cy C s.heap.objs.size) }:=by
 have e1:(s.heap.push bQ).get? s.heap.objs.size=iI bQ:=ah s.heap rfl;have i:((s.heap.push bQ).push (cy C s.heap.objs.size)).get? (s.heap.objs.size+1)=iI (cy C s.heap.objs.size):=by have:=ah (s.heap.push bQ) (o:=cy C s.heap.objs.size) rfl;rwa [bt] at this
 have D:(s.heap.push bQ).Ns s.heap.objs.size (λ_=>iK):=⟨bQ,#[],_,e1,rfl,(λe g=>absurd g (by simp)),λ_=>rfl⟩
 have d:=I.laid (a:=s.heap.objs.size) (o:=.own (s.heap.objs.size+1)) (h':=s.heap.push bQ) (t':=s.toks) (λb u q=>aa _ q) (ay _) ⟨_,e1⟩;refine d.laid (a:=s.heap.objs.size+1) (o:=.ins C s.heap.objs.size []) (t':=s.toks) (λb u q=>aa _ q) (eM (bt _ _)) ?_;have ne:s.heap.objs.size≠s.heap.objs.size+1:=aF (eX _);refine ⟨by rw [qx ne,qm],aZ _,ne,i,λ_=>iK,(Heap.Ns1.of_empty D).at λo q=>aa _ q,λ_=>dn,λy h=>absurd rfl h⟩
theorem qfn {prog:iU} {w:iV} {env:Env} {f:Str} {pos:Pos} {s:iO} {Q:iL->iO->Prop} (hb:i7 e f env (eval e env)=eval e env)
  (h:iR (model prog w) A (eval e env) (λo d=>iR (model prog w) A (getAttr o f iM) Q E d) E s):iR (model prog w) A (eval (.Attribute e f pos) env) Q E s:=
 Attribute_any_ h (by rw [arm_eval_Attribute,hb])
end
def qmy (K:Frag) (ta:TE) (f:Str):TE:=λσ H Q=>ta σ H λx H1=>∃ a C dx fs v,x=.ref a/\H1 a=iI (.ins C dx fs)/\Cls K C/\NoAttr K C f/\fs.lookup f=iI v/\Q v H1
def qmz (K:Frag) (ta tv:TE) (f:Str):TS:=λD σ H=>tv σ H λy H1=>ta σ H1 λx H2=>∃ a C dx fs,x=.ref a/\H2 a=iI (.ins C dx fs)/\Cls K C/\NoAttr K C f/\fs.length < 1000 /\
 D.nx σ (upd H2 a (.ins C dx (Jt f y fs)))
section
variable {o value:Expr} {tpos:Pos} {tv:TE}
theorem qet (g:PE X e ta) (hb:i7 e f X.env (eval e X.env)=eval e X.env):PE X (.Attribute e f pos) (qmy X.K ta f):=by refine ⟨?_⟩;intro pins s σ H Q I h;refine qfn hb (thn (g pins s σ H _ I h) λu s1 ⟨x,H1,i,d,a,C,dx,fs,v,ex,b,c,n,l,q⟩=>?_);subst ex;obtain rfl:u=bu a:=d;exact ZE i b c n l λV s2 k A=>⟨v,H1,k,A,q⟩
theorem qeu (i:PE X o ta) (e:PE X value tv) (g:lm value (iI (.Attribute o f pos')) pos.line X.env=pure iN):PS X (.Assign [.Attribute o f pos'] value pos) (qmz X.K ta tv f):=by refine ⟨?_⟩;intro pins s σ H D I h;refine plainObj_wpAny_Assign_Attribute (thn (e pins s σ H _ I h) λu s1 ⟨y,H1,p,r,q⟩=>thn (i pins s1 σ H1 _ p q) λv s2 ⟨x,H2,m,d,a,C,dx,fs,ex,j,c,n,l,b⟩=>?_) g;subst ex;obtain rfl:v=bu a:=d;exact ZG m j c n l r λs3 k=>⟨σ,_,k,b⟩
end
structure Room (k:Nat) (A:iZ):Prop where
 hd:A.handled=iK
 dp:A.depth+3 * k+5 < recursionLimit
 un:A.units+16 * k+200 < lb
theorem Room.mono {j k:Nat} (r:Room k A) (h:j<=k):Room j A:=⟨r.hd,by have:=r.dp; lia,by have:=r.un; lia⟩
theorem Room.deeper {k:Nat} (r:Room (k+1) A) (env:Env):Room k (A.deeper env):=
 ⟨r.hd,by have:=r.dp; show A.depth+1+3 * k+5 < _; lia,by have:=r.un; show A.units+3+16 * k+200 < _; lia⟩
variable {kw:List (Str×iL)}
theorem ZH:(A.under (.builtin "type.__call__" ⟨.ref C::us,kw⟩)).depth=A.depth+1:=by first | rfl | simp [iq,Code.weight,Code.isCreation,Code.isGuard,Code.isCaller,Code.frames,ir,guardIds]
theorem ZI:(A.under (.builtin "type.__call__" ⟨.ref C::us,kw⟩)).units=A.units+1:=by first | rfl | simp [iq,Code.cUnits,Code.frames,ir]
theorem Room.make {k:Nat} (r:Room (k+1) A) (C:Addr) (us:List iL) (kw:List (Str×iL)):Room k (A.under (.builtin "type.__call__" ⟨.ref C::us,kw⟩)):=
 ⟨r.hd,by have:=r.dp; rw [ZH]; lia,by have:=r.un; rw [ZI]; lia⟩
theorem Room.depth {k:Nat} (r:Room k A):A.depth < recursionLimit:=by have:=r.dp; lia
theorem Room.units {k:Nat} (r:Room k A):A.units+64 < lb:=by have:=r.un; lia
def qhR:TA:=λ_ H Q=>Q [] H
def qcT (ta:TE) (t:TA):TA:=λσ H Q=>ta σ H λx H1=>t σ H1 λxs H2=>Q (x::xs) H2
variable {t:TA}
section
theorem jD:PA X [] qhR:=⟨λ_ _ _ _ H Q I h=>fH ⟨[],H,I,.nil,h⟩⟩
theorem qP (f:PE X e te) (r:PA X es t) (c:iQ (e::es) X.env=(iN,eval e X.env)::iQ es X.env:=by rfl):PA X (e::es) (qcT te t):=by refine ⟨?_⟩;intro pos pins s σ H Q I h;rw [c];show iR _ _ (spliced ((iN,eval e X.env)::j3 pos (iQ es X.env))) _ _ s;refine et (thn (f pins s σ H _ I h) λu s1 ⟨x,H1,a,r1,q⟩=>?_);exact thn (r pos pins s1 σ H1 _ a q) λus s2 ⟨xs,H2,k,r2,d⟩=>⟨x::xs,H2,k,.cons r1 r2,d⟩
def qmA (t:TA):TE:=λσ H Q=>t σ H λxs H1=>xs.length<=sizeLine/\∀ p,H1 p=iK->Q (.ref p) (upd H1 p (.tup xs))
def qmB (t:TA):TE:=λσ H Q=>t σ H λxs H1=>xs.length<=sizeLine/\∀ p,H1 p=iK->Q (.ref p) (upd H1 p (.lst xs))
theorem qhS {x1} (h:PA X es t):PE X (.Tuple es x1 pos) (qmA t):=by refine ⟨?_⟩;intro pins s σ H Q I hq;refine wpAny_Tuple_spliced (thn (h pos pins s σ H _ I hq) λus s1 ⟨xs,H1,d,r,z,q⟩=>⟨by rw [<-r.length]; exact z,?_⟩);have f:H1 s1.heap.objs.size=none:=d.hok.fresh (ay _);refine ⟨.ref s1.heap.objs.size,upd H1 s1.heap.objs.size (.tup xs),d.laid (t':=s1.toks) (λb u e=>aa _ e) (ay _) ?_,rfl,q _ f⟩;exact ⟨⟨z,_,ah _ rfl,rfl⟩,us,r,⟨_,ah _ rfl,rfl,_,rfl⟩⟩
theorem qhT (h:PA X es t):PE X (.List es pos) (qmB t):=by refine ⟨?_⟩;intro pins s σ H Q I hq;refine wpAny_List_spliced (thn (h pos pins s σ H _ I hq) λus s1 ⟨xs,H1,d,r,z,q⟩=>⟨by rw [<-r.length]; exact z,?_⟩);have f:H1 s1.heap.objs.size=none:=d.hok.fresh (ay _);refine ⟨.ref s1.heap.objs.size,upd H1 s1.heap.objs.size (.lst xs),d.laid (t':=s1.toks) (λb u e=>aa _ e) (ay _) ?_,rfl,q _ f⟩;exact ⟨z,us,0,r,ah _ rfl⟩
end
abbrev Sp:=List V->Hp->VK->XK->Prop
abbrev CXT:=List Env->Hp->iO->XK->iL->iO->Prop
structure Env0 (P:iU) (w:iV) (K:Frag) (mg:Str->Option iL) (base:Heap) (A:iZ) (outer:List Env) (s:iO) (H:Hp):Prop where
 frames:A.frames=iI outer
 mod:Mod K mg base
 bs:∀ b o,base.get? b=iI o->s.heap.get? b=iI o/\H b=iK
 bsz:base.objs.size<=s.heap.objs.size
 funs:s.heap.FunFrames base outer
 frf:∀ b∈frs outer,H b=iK
 hok:HOk P w H s.heap
 bare:mj s.gens
def CE (outer:List Env) (P:iU) (w:iV) (H:Hp) (s:iO) (Q:VK) (u:iL) (s':iO):Prop:=
 ∃ v H',s'.os=s.os/\mj s'.gens/\Un (frs outer) [] H H' s.heap s'.heap/\HOk P w H' s'.heap/\RelV v u/\Q v H'
def CR (CX:CXT) (outer:List Env) (P:iU) (w:iV) (H:Hp) (s:iO) (Q:VK) (E:XK) (r:mK) (s':iO):Prop:=
 match r with
 | .ok (.ret u)=>CE outer P w H s Q u s'
 | .ok _=>False
 | .error e=>CX outer H s E e s'
structure FnOk (P:iU) (w:iV) (K:Frag) (mg:Str->Option iL) (base:Heap) (CX:CXT) (k:Nat) (f:Addr) (fd:lH) (ps:List Str) (sp:Sp):Prop where
 len:∀ vs H Q E,sp vs H Q E->vs.length=ps.length
 run:∀ (A:iZ) (outer:List Env) (s:iO) (H:Hp) (args:Args) (us:List iL) (vs:List V) (Q:VK) (E:XK),Room k A->Env0 P w K mg base A outer s H->mY s fd args (ps.zip us)->Vals vs us->sp vs H Q E ->lE (model P w) A (.call (.ref f) args) (CR CX outer P w H s Q E) s
variable {mg:Str->Option iL} {base:Heap} {CX:CXT} {fd:lH} {ps:List Str} {sp:Sp}
theorem FnOk.imp {k:Nat} {f:Addr} {a:Sp} (F:FnOk P w K mg base CX k f fd ps sp)
  (h:∀ vs H Q E,a vs H Q E->sp vs H Q E):FnOk P w K mg base CX k f fd ps a:=
 ⟨λvs H Q E q=>F.len vs H Q E (h _ _ _ _ q),λA outer s H args us vs Q E d g hb c b=>F.run A outer s H args us vs Q E d g hb c (h _ _ _ _ b)⟩
theorem Env0.make {outer:List Env} (e:Env0 P w K mg base A outer s H) (C:Addr) (us:List iL) (kw:List (Str×iL)):Env0 P w K mg base (A.under (.builtin "type.__call__" ⟨.ref C::us,kw⟩)) outer s H:=⟨by first | exact e.frames | (simpa [iq,Code.envs,ir,pushEnvs] using e.frames),e.mod,e.bs,e.bsz,e.funs,e.frf,e.hok,e.bare⟩
section
theorem Inv.env0 (I:Inv X pins σ H s):Env0 X.prog X.w X.K X.mg X.base X.A X.stack s H:=
 ⟨I.ok.frames,I.ok.mod,I.bs,bU I.ok.bsz I.sz,I.stack,I.stkFree,I.hok,I.bare⟩
theorem Inv.after {Q:VK} (I:Inv X pins σ H s) (h:CE X.stack X.prog X.w H s Q u s'):EP X pins σ Q u s':=by obtain ⟨v,H',os,bare,un,hok,r,q⟩:=h;obtain ⟨a,g,d,t,o⟩:=s';obtain rfl:o=s.os:=os;exact ⟨v,H',I.call (h':=a) (g':=g) (d':=d) (t':=t) (ch:=[]) un hok bare (λb z=>absurd z (by simp)),r,q⟩
end
def qhU (sp:Sp) (dvs:List V) (E:XK) (t:TA):TE:=λσ H Q=>t σ H λvs H1=>sp (vs++dvs) H1 Q E
def qkO (C:Addr) (m:Str) (sp:Sp) (dvs:List V) (E:XK) (ta:TE) (t:TA):TE:=λσ H Q=>ta σ H λx H1=>∃ a dx fs,x=.ref a/\H1 a=iI (.ins C dx fs)/\fs.lookup m=iK /\
 t σ H1 λvs H2=>sp (x::(vs++dvs)) H2 Q E
def qkP (C:Addr) (sp:Sp) (dvs:List V) (E:XK) (t:TA):TE:=λσ H Q=>t σ H λvs H1=>∀ x dx,H1 x=iK->H1 dx=iK->dx≠x ->sp (.ref x::(vs++dvs)) (upd (upd H1 dx (.own x)) x (.ins C dx [])) (λv H2=>v=.non/\Q (.ref x) H2) E
def Binds (K:Frag) (fd:lH) (ps:List Str) (ds:List iL):Prop:=
 ∀ (s:iO) (us:List iL),K.In s.heap->(us++ds).length=ps.length->mY s fd ⟨us,[]⟩ (ps.zip (us++ds))
theorem Binds.all (h:∀ us:List iL,us.length=ps.length->lL fd ⟨us,[]⟩=pure (ps.zip us)):Binds K fd ps []:=λs us _ hl=>by rw [bj] at hl ⊢;exact .of_eq (h us hl)
def vz (CX:CXT) (X:Cx) (E:XK):Prop:=∀ (pins:Pns) (σ:St) (H:Hp) (s:iO) (e:iL) (s':iO),Inv X pins σ H s->CX X.stack H s E e s'->X.xe e s'
variable {apos:Pos}
section
variable {k:Nat} {f:Addr} {dvs:List V} {ds:List iL} {E:XK} {o:Expr}
theorem GY {pins:Pns} {σ:St} {H:Hp} {s:iO} {Q:VK} {us:List iL} {vs:List V} (F:FnOk X.prog X.w X.K X.mg X.base CX k f fd ps sp) (d:Room k X.A) (hb:Binds X.K fd ps ds) (hd:Vals dvs ds) (hx:vz CX X E)
  (I:Inv X pins σ H s) (r:Vals vs us) (h:sp (vs++dvs) H Q E):iR (model X.prog X.w) X.A (call (.ref f) us) (EP X pins σ Q) X.xe s:=by
 have r2:Vals (vs++dvs) (us++ds):=r.append hd;have hl:(us++ds).length=ps.length:=by rw [<-r2.length]; exact F.len _ _ _ _ h
 refine wpAny_call (lV (F.run X.A X.stack s H ⟨us,[]⟩ (us++ds) (vs++dvs) Q E d I.env0 (hb s us I.kIn hl) r2 h) λr s' hq=>?_);cases r with
 | error e=>exact hx pins σ H s e s' I hq
 | ok fl=>
  cases fl with
  | ret u=>exact I.after hq
  | next=>exact cG hq
  | brk=>exact cG hq
  | cont=>exact cG hq
theorem qfo (F:FnOk X.prog X.w X.K X.mg X.base CX k f fd ps sp) (a:Room k X.A) (hg:Gl X x) (hm:X.mg x=iI (.ref f)) (c:l9 X.K (.ref f)=iM) (hb:Binds X.K fd ps ds) (hd:Vals dvs ds) (hx:vz CX X E)
  (i:PA X (e::es) t) (b:Dbg x:=by decide) (g:iQ (e::es) X.env=(iN,eval e X.env)::iQ es X.env:=by rfl) (l:(j3 pos (iQ es X.env)).any (·.1)=false:=by rfl) :
  PE X (.Call (.Name x p) (e::es) [] pos) (qhU sp dvs E t):=by
 refine ⟨?_⟩;intro pins s σ H Q I h;refine lf (Qm I hg hm ?_ b);refine PySem.W.callWith_K (h₀:=X.base) I.ok.mod.kin c (thn (i pos pins s σ H _ I h) λus s1 ⟨vs,H1,d,r,q⟩=>⟨d.kIn,?_⟩) g l;exact GY F a hb hd hx d r q
theorem qcU (F:FnOk X.prog X.w X.K X.mg X.base CX k f fd ps sp) (d:Room k X.A) (hg:Gl X x) (hm:X.mg x=iI (.ref f)) (a:l9 X.K (.ref f)=iM) (hb:Binds X.K fd ps ds) (hd:Vals dvs ds) (hx:vz CX X E)
  (b:Dbg x:=by decide):PE X (.Call (.Name x p) [] [] pos) (qhU sp dvs E qhR):=by
 refine ⟨?_⟩;intro pins s σ H Q I h;refine lf (Qm I hg hm ?_ b);exact PySem.W.callWith_K0 I.kIn a (GY (us:=[]) F d hb hd hx I .nil h)
theorem qcV {pl:Sem Bool} (g:PE X o ta) (c:Cls X.K C) (hm:Meth X.K C m f) (F:FnOk X.prog X.w X.K X.mg X.base CX k f fd ps sp) (b:Room k X.A) (hb:Binds X.K fd ps ds) (hd:Vals dvs ds) (hx:vz CX X E)
  (ht:eval (.Call (.Attribute o m apos) [] [] pos) X.env=(do
   let ov <-eval o X.env
   mO apos.atName
   let (f,first) <-holding [ov] (getMethod ov m pl)
   callWith pos f first (j3 pos (iQ [] X.env)) (lI pos (j8 [] X.env))):=by rfl) :
  PE X (.Call (.Attribute o m apos) [] [] pos) (qkO C m sp dvs E ta qhR):=by
 refine ⟨?_⟩;intro pins s σ H Q I h;refine PySem.W.methodCall_KW (pl:=pl) (thn (g pins s σ H _ I h) λu s1 ⟨x,H1,d,r,a,dx,fs,ex,e,l,q⟩=>?_) ht;subst ex;obtain rfl:u=bu a:=r;refine ZF d e c hm l ?_;exact PySem.W.callWith_K0 (first:=[.ref a]) d.kIn hm.kp (GY (us:=[.ref a]) (vs:=[.ref a]) F b hb hd hx d (.cons rfl .nil) q)
structure Mk (K:Frag) (C f:Addr):Prop where
 makes:g6 K C=iM
 init:aP K (.ref C) "__init__"=iI (iI (.ref f))
 fn:fz K (.ref f)=iM
 kp:l9 K (.ref C)=iM
theorem qcW {pins:Pns} {σ:St} {H:Hp} {s:iO} {Q:VK} {us:List iL} {vs:List V} (M:Mk X.K C f) (F:FnOk X.prog X.w X.K X.mg X.base CX k f fd ps sp) (c:Room (k+1) X.A) (hb:Binds X.K fd ps ds) (hd:Vals dvs ds)
  (hx:vz CX X E) (I:Inv X pins σ H s) (r:Vals vs us)
  (h:∀ x dx,H x=iK->H dx=iK->dx≠x->sp (.ref x::(vs++dvs)) (upd (upd H dx (.own x)) x (.ins C dx [])) (λv H2=>v=.non/\Q (.ref x) H2) E) :
  iR (model X.prog X.w) X.A (call (.ref C) us) (EP X pins σ Q) X.xe s:=by
 have hq:=h (s.heap.objs.size+1) s.heap.objs.size (I.hok.fresh (eC _)) (I.hok.fresh (ay _)) (aF (eX _));have b:=Inv.made (C:=C) I;have r2:Vals (V.ref (s.heap.objs.size+1)::(vs++dvs)) (bu (s.heap.objs.size+1)::(us++ds)):=.cons rfl (r.append hd);have hl:(bu (s.heap.objs.size+1)::us++ds).length=ps.length:=by have e:=r2.length;rw [F.len _ _ _ _ hq] at e;exact e.symm
 refine wpAny_call (qcS (f:=f) I.kIn M.makes M.init (beq_iff_eq.mp M.fn) (lV (F.run _ X.stack _ _ ⟨bu (s.heap.objs.size+1)::us,[]⟩ (bu (s.heap.objs.size+1)::(us++ds)) _ _ E (c.make C us [])
  (b.env0.make C us []) (hb _ (bu (s.heap.objs.size+1)::us) b.kIn hl) r2 hq) λr s' a=>?_))
 cases r with
 | error e=>exact hx pins σ _ _ e s' b a
 | ok fl=>
  cases fl with
  | ret u=>obtain ⟨v,H',j,d,ev,q⟩:=b.after a;subst ev;exact ⟨d,⟨V.ref (s.heap.objs.size+1),H',j,rfl,q⟩⟩
  | next=>exact cG a
  | brk=>exact cG a
  | cont=>exact cG a
theorem qfp (M:Mk X.K C f) (F:FnOk X.prog X.w X.K X.mg X.base CX k f fd ps sp) (a:Room (k+1) X.A) (hg:Gl X x) (hm:X.mg x=iI (.ref C)) (hb:Binds X.K fd ps ds) (hd:Vals dvs ds) (hx:vz CX X E)
  (c:PA X (e::es) t) (b:Dbg x:=by decide) (g:iQ (e::es) X.env=(iN,eval e X.env)::iQ es X.env:=by rfl) (l:(j3 pos (iQ es X.env)).any (·.1)=false:=by rfl) :
  PE X (.Call (.Name x p) (e::es) [] pos) (qkP C sp dvs E t):=by
 refine ⟨?_⟩;intro pins s σ H Q I h;refine lf (Qm I hg hm ?_ b);refine PySem.W.callWith_K (h₀:=X.base) I.ok.mod.kin M.kp (thn (c pos pins s σ H _ I h) λus s1 ⟨vs,H1,d,r,q⟩=>⟨d.kIn,?_⟩) g l;exact qcW M F a hb hd hx d r q
end
section
variable {k:Nat} {f:Addr} {ks:List Str} {E:XK} {kpos:Pos} {o:Expr} {kws:List j9} {tk:TA} {nm:Option Str}
variable {g:List iL->List iL->List iL} {gV:List V->List V->List V}
end
structure FnScope (N P:List Str) (sc:lY):Prop where
 kind:sc.kind=.function
 co:sc.isCoroutine=iN
 gen:sc.isGenerator=iN
 nd:N.Nodup
 pre:N.take P.length=P
 par:∀ x∈P,sc.names.lookup x=iI .local\/sc.names.lookup x=iI .cell
 nofree:∀ y∈sc.names,y.2≠.free
variable {kindOf:Str->Option lC}
theorem VP:∀ {binds:List (Str×iL)} {m:Str->Option iL},(∀ v,(x,v)∉binds)->bindL kindOf binds m x=m x
 | [],_,_=>rfl
 | (n,v)::r,m,h=>by
  unfold bindL;rw [VP λw a=>h w (ae _ a)];split
  ·have:x≠n:=by rintro rfl; exact h v aj
   simp [this]
  ·rfl
theorem VQ:∀ {binds:List (Str×iL)} {m:Str->Option iL},(∀ v,(x,v)∉binds)->bindC kindOf binds m x=m x
 | [],_,_=>rfl
 | (n,v)::r,m,h=>by
  unfold bindC;rw [VQ λw a=>h w (ae _ a)];split;·rfl
  ·have:x≠n:=by rintro rfl; exact h v aj
   simp [this]
theorem VR {kindOf:Str->Option lC} {x:Str} {v:iL}:∀ {P:List Str} {vs:List iL} {i:Nat} {m:Str->Option iL},P.Nodup->P[i]?=iI x->vs[i]?=iI v->kindOf x=iI .local ->bindL kindOf (P.zip vs) m x=iI v
 | [],_,_,_,_,h,_,_=>by simp at h
 | _::_,[],_,_,_,_,h,_=>by simp at h
 | p::P,w::vs,0,m,nd,h1,h2,hk=>by simp at h1 h2; subst h1; subst h2;show bindL kindOf ((p,w)::P.zip vs) m p=_;unfold bindL;rw [VP λv c=>(aM.mp nd).1 (fh c).1,Aa hk];simp
 | p::P,w::vs,i+1,m,nd,h1,h2,hk=>by show bindL kindOf ((p,w)::P.zip vs) m x=_;unfold bindL;exact VR (i:=i) (aM.mp nd).2 (by simpa using h1) (by simpa using h2) hk
theorem VS {kindOf:Str->Option lC} {x:Str} {v:iL}:∀ {P:List Str} {vs:List iL} {i:Nat} {m:Str->Option iL},P.Nodup->P[i]?=iI x->vs[i]?=iI v->kindOf x≠iI .local ->bindC kindOf (P.zip vs) m x=iI v
 | [],_,_,_,_,h,_,_=>by simp at h
 | _::_,[],_,_,_,_,h,_=>by simp at h
 | p::P,w::vs,0,m,nd,h1,h2,hk=>by simp at h1 h2; subst h1; subst h2;show bindC kindOf ((p,w)::P.zip vs) m p=_;unfold bindC;rw [VQ λv c=>(aM.mp nd).1 (fh c).1,Ab hk];simp
 | p::P,w::vs,i+1,m,nd,h1,h2,hk=>by show bindC kindOf ((p,w)::P.zip vs) m x=_;unfold bindC;exact VS (i:=i) (aM.mp nd).2 (by simpa using h1) (by simpa using h2) hk
noncomputable def xu (N:List Str) (vs:List V):St:=vs.map iI++aS (N.length - vs.length) iK
def qfq (CX:CXT) (P:iU) (w:iV) (K:Frag) (mg:Str->Option iL) (base:Heap) (N:List Str) (qual:Str) (scope:lY) (f:Addr) (cd:iL) (A:iZ) (outer:List Env) (s:iO) (H:Hp) (E:XK):Cx where
 prog:=P
 w:=w
 K:=K
 mg:=mg
 base:=base
 A:=A.deeper (mh qual scope s.heap.objs.size f cd)
 N:=N
 s₀:=s
 H₀:=H
 env:=mh qual scope s.heap.objs.size f cd
 outer:=outer
 stack:=mh qual scope s.heap.objs.size f cd::outer
 ex:=[]
 calm:=iM
 fn:=λ_=>iM
 pn:=[]
 xe:=λe s'=>iR (model P w) (A.deeper (mh qual scope s.heap.objs.size f cd)) (leaving (mh qual scope s.heap.objs.size f cd) e) (λ_ a=>CX outer H s E e a) (λb a=>CX outer H s E b a) s'
theorem Xd {sc:lY} {n:Nat} (h:sc.names.lookup x=iI .cell):∃ c,(cellsFrom n sc.names []).lookup x=iI c:=by have q:=PySem.W.cellsFrom_some sc.names n [] (.inl h);exact Option.isSome_iff_exists.mp q
theorem GZ {CX:CXT} {P:iU} {w:iV} {K:Frag} {mg:Str->Option iL} {base:Heap} {N ps:List Str} {qual:Str} {scope:lY} {f:Addr} {cd:iL} {A:iZ} {outer:List Env} {s s1:iO} {H:Hp} {E:XK} {us:List iL} {vs:List V}
  (S:FnScope N ps scope) (hd:A.handled=iK) (e0:Env0 P w K mg base A outer s H) (hl:vs.length=ps.length) (r:Vals vs us)
  (x:InCallC s s.heap.objs.size (bindL (mh qual scope s.heap.objs.size f cd).kindOf (ps.zip us) λ_=>iK) (cellsFrom (s.heap.objs.size+1) scope.names []) (bindC (mh qual scope s.heap.objs.size f cd).kindOf (ps.zip us) λ_=>iK) s1) :
  Inv (qfq CX P w K mg base N qual scope f cd A outer s H E) [] (xu N vs) H s1:=by
 have o:ps.length<=N.length:=by have:=congrArg iC S.pre; rw [cF] at this; lia
 obtain ⟨h1,tk,rfl,l⟩:=x.done;have d:∀ b:Addr,b∉(qfq CX P w K mg base N qual scope f cd A outer s H E).ex:=λb z=>absurd (show b∈([]:List Addr) from z) (by simp);refine ⟨⟨e0.mod,S.kind,rfl,rfl,ay _,λy z c h1 h2=>?_,λy C=>?_,λy c _ h=>?_,λ_=>hd,Around.frames_deeper e0.frames,.inr ⟨rfl,rfl⟩,λb z=>absurd z (d b),e0.bs,e0.bsz,λb _ _=>d b,λb z=>absurd z (d b),e0.funs,e0.frf⟩,rfl,e0.bare,Un.kept l,⟨_,x.toInCall.ns,λi y v h1 h2 B=>?_⟩,λy c h=>⟨_,x.cell y c h⟩,e0.hok.fresh (ay _),λy c h=>?_,λp hp=>absurd (show p∈([]:Pns) from hp) (by simp),e0.hok.kept l,?_⟩;·exact name_of_addr x.apart (cZ h1) (cZ h2)
 ·have C:scope.names.lookup y=iI .cell\/scope.names.lookup y=iI .free:=C;rcases C with C | C;·exact Xd C
  ·exact absurd rfl (S.nofree _ (cZ C))
 ·exact eJ (x.above y c (cZ h))
 ·have hi:i < vs.length:=by
   unfold xu at h2;by_cases hi:i < vs.length;·exact hi
   ·rw [b9 (by simpa using hi)] at h2;rw [eD] at h2;split at h2 <;> cases h2
  have t:vs[i]?=iI v:=by
   unfold xu at h2;rw [cL (by simpa using hi),aH] at h2;cases e:vs[i]? with
   | none=>rw [e] at h2; cases h2
   | some a=>rw [e] at h2; cases h2; rfl
  obtain ⟨u,j,m⟩:=r.get t;have hp:ps[i]?=iI y:=by rw [<-S.pre,List.getElem?_take_of_lt (by lia)]; exact h1
  have g:ps.Nodup:=by rw [<-S.pre]; exact S.nd.sublist (List.take_sublist _ _)
  refine ⟨u,m,?_⟩;rcases S.par y (bg hp) with k | k;·exact .inl ⟨k,VR g hp j k⟩
  ·obtain ⟨c,e⟩:=Xd (n:=s.heap.objs.size+1) k;refine .inr ⟨.inl k,c,e,?_⟩;have q:=x.cell y c e;rw [VS g hp j (by show scope.names.lookup y≠_; rw [k]; decide)] at q;exact q
 ·exact e0.hok.fresh (eJ (x.above y c (cZ h)))
 ·unfold xu;show _=N.length;rw [aq,ap,dD]
  lia
theorem qkQ {CX:CXT} {P:iU} {w:iV} {K:Frag} {mg:Str->Option iL} {base:Heap} {k:Nat} {f:Addr} {name qual:Str} {params:Arguments} {body:List Stmt} {scope:lY} {j kV doc pm cdv ct oc:iL} {an od:Option Addr}
  {osl:Array (Option iL)} {N ps:List Str} {sp:Sp} (lk:K.lookup f=iI ⟨oc,od,.func (cr name qual params body scope j kV doc pm an cdv ct),osl⟩) (i:codeIn K cdv qual=iM) (S:FnScope N ps scope)
  (len:∀ vs H Q E,sp vs H Q E->vs.length=ps.length)
  (a:∀ (A:iZ) (outer:List Env) (s:iO) (H:Hp) (vs:List V) (Q:VK) (E:XK),Room k (A.deeper (mh qual scope s.heap.objs.size f cdv))->sp vs H Q E ->∃ t,PSs (qfq CX P w K mg base N qual scope f cdv A outer s H E) body t/\t { nx:=λ_ H'=>Q .non H',rt:=Q } (xu N vs) H) :
  FnOk P w K mg base CX (k+1) f (cr name qual params body scope j kV doc pm an cdv ct) ps sp:=by
 refine ⟨len,λA outer s H args us vs Q E g e0 hb r p=>?_⟩;have hl:=len _ _ _ _ p;have X:K.In s.heap:=e0.mod.kin.keeps λb o e=>(e0.bs b o e).1;have l:s.heap.NoLimit:=e0.mod.nolimit.keeps λb o e=>(e0.bs b o e).1;have h:∀ y∈ps.zip us,scope.names.lookup y.1=iI .local\/(scope.names.lookup y.1=iI .cell/\((cellsFrom (s.heap.objs.size+1) scope.names []).lookup y.1).isSome=iM):=λ⟨n,v⟩ C=>by
  rcases S.par n (fh C).1 with q | q;·exact .inl q
  ·exact .inr ⟨q,PySem.W.cellsFrom_some _ _ _ (.inl q)⟩
 refine codeAny_call_function g.depth (X _ _ lk) rfl S.co S.gen rfl (PySem.W.codeRec_of X i) (hb _ _ _ _ ?_);refine wpAny_newFunctionEnv_cells S.kind h λenv m s1 x=>?_;subst m;refine ⟨l.keeps x.toInCall.keep,codeAny_func ?_⟩;obtain ⟨t,ht,hq⟩:=a A outer s H vs Q E (g.deeper _) p;have I:Inv (qfq CX P w K mg base N qual scope f cdv A outer s H E) [] (xu N vs) H s1:=GZ S g.hd e0 hl r x;refine lZ (ht [] s1 (xu N vs) H _ I hq) (λfl s' c=>?_) λe s' c=>c;have fin:∀ {σ':St} {H':Hp} {v:V} {u:iL},Inv (qfq CX P w K mg base N qual scope f cdv A outer s H E) [] σ' H' s'->RelV v u->Q v H'->CE outer P w H s Q u s':=
  λ{σ' H' v u} J d q=>⟨v,H',J.os,J.bare,J.base,J.hok,d,q⟩
 cases fl with
 | ret u=>obtain ⟨v,σ',H',J,d,q⟩:=c;exact fin J d q
 | next=>obtain ⟨σ',H',J,q⟩:=c;exact fin (v:=V.non) (u:=cj) J rfl q
 | brk=>obtain ⟨_,_,_,q⟩:=c;exact cG q
 | cont=>obtain ⟨_,_,_,q⟩:=c;exact cG q
section
variable {id T:String} {r:List V->Hp->VK->Prop}
def tCB (r:List V->Hp->VK->Prop) (t:TA):TE:=λσ H Q=>t σ H λvs H1=>r vs H1 Q
theorem xw (d:wW X (.builtin id) r) (hg:Gl X x) (hm:X.mg x=iK) (c:iS x=iI (.builtin id)) (f:PA X (e::es) t) (n:x ≠ "__name__":=by decide) (b:Dbg x:=by decide)
  (g:iQ (e::es) X.env=(iN,eval e X.env)::iQ es X.env:=by rfl) (l:(j3 pos (iQ es X.env)).any (·.1)=false:=by rfl):PE X (.Call (.Name x p) (e::es) [] pos) (tCB r t):=by
 refine ⟨?_⟩;intro pins s σ H Q I h;refine lf (xq I hg hm c ?_ n b);exact PyProof.Rows.callWith_builtin1 (thn (f pos pins s σ H _ I h) λus s1 ⟨vs,H1,a,r1,q⟩=>d pins s1 σ H1 vs us Q a r1 q) g l
theorem ka (d:wW X (.type T) r) (hg:Gl X x) (hm:X.mg x=iK) (c:iS x=iI (.type T)) (f:PA X (e::es) t) (n:x ≠ "__name__":=by decide) (b:Dbg x:=by decide)
  (g:iQ (e::es) X.env=(iN,eval e X.env)::iQ es X.env:=by rfl) (l:(j3 pos (iQ es X.env)).any (·.1)=false:=by rfl):PE X (.Call (.Name x p) (e::es) [] pos) (tCB r t):=by
 refine ⟨?_⟩;intro pins s σ H Q I h;refine lf (xq I hg hm c ?_ n b);exact bv (thn (f pos pins s σ H _ I h) λus s1 ⟨vs,H1,a,r1,q⟩=>d pins s1 σ H1 vs us Q a r1 q) g l
end
end L2
namespace HT
open PySem PyProof.Rows
section
open PySem.SeqAt
open PySem.AutoSeq1 (wpAny_loadPart')
open PySem.MeetsSeq PySem.MeetsSeq2 PySem.MeetsSeq3
end
section
variable {prog:iU} {w:iV} {A:iZ} {E:iL->iO->Prop} {s:iO}
theorem cat_tup {t b:Addr} {vs ws:List iL} {Q:iL->iO->Prop} (ht:IsTup s.heap t vs.toArray) (hb:IsTup s.heap b ws.toArray) (v:vs≠[])
  (h1:ws=[]->Q (.ref t) s) (h2:ws≠[]->Q (.ref s.heap.objs.size) { s with heap:=s.heap.push { cls:=.type "tuple",data:=.seq (vs++ws).toArray } })
  (hsz:vs.length+ws.length<=sizeLine):iR (model prog w) A (j6 .Add (.ref t) (.ref b)) Q E s:=by
 obtain ⟨⟨cls,dd,data,sl⟩,l,i,n,hd⟩:=id ht;obtain ⟨⟨j,d,g,a⟩,h,c,n2,hd2⟩:=id hb;simp only at i hd c hd2;subst i hd c hd2;have e:vs.toArray++ws.toArray=(vs++ws).toArray:=by simp
 by_cases f:ws=[]
 ·exact mF ⟨_,l,rfl⟩ ⟨_,h,rfl⟩ noFill_tuple_add seq_tuple_add eN eE (d8 _ _)
   (tuple_addW1 t b vs.toArray ws.toArray n n2 dd d sl a (by simpa using v) (by simp [f])) ⟨l,h,h1 f⟩
 ·refine mF ⟨_,l,rfl⟩ ⟨_,h,rfl⟩ noFill_tuple_add seq_tuple_add eN eE (d8 _ _)
   (tuple_addW2 t b vs.toArray ws.toArray n n2 dd d sl a (by simpa using v) (by simpa using f) (by rw [au,au]; exact hsz)) ⟨l,h,?_⟩
  rw [e];exact h2 f
noncomputable def sIx (n d:Nat):Option Int->Nat
 | none=>d
 | some v=>if v < 0 then (v+(n:Int)).toNat else min v.toNat n
theorem sIx_none (n d:Nat):sIx n d iK=d:=rfl
theorem sIx_nat (n d k:Nat):sIx n d (iI (k:Int))=min k n:=by show (if (k:Int) < 0 then ((k:Int)+(n:Int)).toNat else min (k:Int).toNat n)=min k n;rw [Ab (by lia),dJ]
end
end HT
namespace L2
open PySem PySem.Spec PyProof.Rows
abbrev TO:=St->Hp->(Option Int->Hp->Prop)->Prop
def PO (X:Cx) (e:Option Expr) (t:TO):Prop:=
 ∀ (pins:Pns) (s:iO) (σ:St) (H:Hp) (Q:Option Int->Hp->Prop),Inv X pins σ H s->t σ H Q ->iR (model X.prog X.w) X.A (evalPart e X.env) (λu s'=>∃ o H',Inv X pins σ H' s'/\IsPart u o/\Q o H') X.xe s
def qfr:TO:=λ_ H Q=>Q iK H
def qkR (t:TE):TO:=λσ H Q=>t σ H λx H1=>∃ i,x=.int i/\Q (iI i) H1
variable {X:Cx} {e:Expr} {pos:Pos} {xs:List V} {us:List iL}
section
variable {te:TE} {lo hi:Option Expr} {tl th:TO} {p2:Pos}
theorem qfs:PO X iK qfr:=by intro pins s σ H Q I h;rw [evalPart_none];exact iP ⟨iK,H,I,.none,h⟩
theorem qft (h:PE X e te):PO X (iI e) (qkR te):=by intro pins s σ H Q I w;rw [evalPart_some];refine thn (h pins s σ H _ I w) λu s1 ⟨x,H1,d,r1,a⟩=>?_;obtain ⟨i,rfl,q⟩:=a;obtain ⟨t,rfl⟩:=r1;exact ⟨iI i,H1,d,.int i t,q⟩
def SlR (X:Cx) (r:V->Option Int->Option Int->Hp->VK->Prop):Prop:=
 ∀ (pins:Pns) (s:iO) (σ:St) (H:Hp) (x:V) (v vl u:iL) (lo hi:Option Int) (sl:Addr) (Q:VK),Inv X pins σ H s->RelV x v->s.heap.IsSliceOf sl vl u .none->IsPart vl lo->IsPart u hi->r x lo hi H Q ->∃ T id,mG (.type T) "__getitem__"=pure (iI (.builtin id))/\s.TypeIs v T/\iR (model X.prog X.w) X.A (getItem v (.ref sl)) (EP X pins σ Q) X.xe s
def tSl (r:V->Option Int->Option Int->Hp->VK->Prop) (te:TE) (tl th:TO):TE:=λσ H Q=>te σ H λx H1=>tl σ H1 λl H2=>th σ H2 λu b=>r x l u b Q
theorem qcX {r:V->Option Int->Option Int->Hp->VK->Prop} (j:SlR X r) (k:PE X e te) (hl:PO X lo tl) (i:PO X hi th):PE X (.Subscript e (.Slice lo hi iK p2) pos) (tSl r te tl th):=by refine ⟨?_⟩;intro pins s σ H Q I h;refine Subscript_ (thn (k pins s σ H _ I h) λv s1 ⟨x,H1,y,r1,g⟩=>?_);refine wpAny_Slice (thn (hl pins s1 σ H1 _ y g) λvl s2 ⟨l,H2,t,pl,f⟩=>thn (i pins s2 σ H2 _ t f) λa s3 ⟨u,c,o,p,d⟩=>?_);rw [evalPart_none];refine iP ?_;have n:Inv X pins σ c { s3 with heap:=s3.heap.push { cls:=.type "slice",data:=.fields #[vl,a,.none] } }:=o.kept (t':=s3.toks) λb z q=>aa _ q;obtain ⟨T,id,m,ht,hg⟩:=j pins { s3 with heap:=s3.heap.push { cls:=.type "slice",data:=.fields #[vl,a,.none] } } σ c x v vl a l u s3.heap.objs.size Q n r1 (Heap.IsSliceOf.new ..) pl p d;show iR (model X.prog X.w) X.A (subscriptTail e (.Slice lo hi iK p2) v (.ref s3.heap.objs.size)) (EP X pins σ Q) X.xe { s3 with heap:=s3.heap.push { cls:=.type "slice",data:=.fields #[vl,a,.none] } };exact tail_any (ops:=[.ref s3.heap.objs.size,v]) ht m hg (by with_unfolding_all rfl)
noncomputable def qfu (xs:List V) (lo hi:Option Int):List V:=(xs.drop (HT.sIx xs.length 0 lo)).take (HT.sIx xs.length xs.length hi - HT.sIx xs.length 0 lo)
theorem UF (xs:List V) (lo hi:Option Int):(qfu xs lo hi).length<=xs.length:=by
 unfold qfu;rw [cF,List.length_drop]
 lia
def qkS (K:Frag):R2:=λx y H Q=>∃ a b xs ys,x=.ref a/\y=.ref b/\SqT K H a xs/\SqT K H b ys/\xs≠[]/\xs.length+ys.length<=sizeLine /\
 (ys=[]->Q (.ref a) H)/\(ys≠[]->∀ p,H p=iK->Q (.ref p) (upd H p (.tup (xs++ys))))
theorem Vals.nil_iff (r:Vals xs us):us=[]↔xs=[]:=by
 cases r with
 | nil=>simp
 | cons _ _=>simp
theorem qfv:OpR X (j6 .Add) (qkS X.K):=by intro pins s σ H x y v u Q I d r h;obtain ⟨a,b,xs,ys,rfl,rfl,g,hb,hx,c,f,e⟩:=h;cases d;cases r;obtain ⟨its,r1,p1,_⟩:=I.tuple g;obtain ⟨i,r2,p2,_⟩:=I.tuple hb;refine HT.cat_tup p1 p2 (λz=>hx (r1.nil_iff.mp z)) (λz=>⟨.ref a,H,I,rfl,f (r2.nil_iff.mp z)⟩) (λz=>?_) (by rw [<-r1.length,<-r2.length]; exact c);refine ⟨.ref s.heap.objs.size,_,I.laid (t':=s.toks) (o:=.tup (xs++ys)) (λb j q=>aa _ q) (ay _) ?_,rfl,e (λw=>z (r2.nil_iff.mpr w)) _ (I.hok.fresh (ay _))⟩;exact ⟨⟨by rw [aq]; exact c,_,ah _ rfl,rfl⟩,_,r1.append r2,IsTup.new _ _⟩
end
noncomputable def ixN (n:Nat) (i:Int):Option Nat:=if 0<=i then (if i < n then iI i.toNat else iK) else if -(n:Int)<=i then iI (i+n).toNat else iK
variable {α:Type}
noncomputable def atI (xs:List α) (i:Int):Option α:=(ixN xs.length i).bind λj=>xs[j]?
variable {n:Nat} {i:Int}
theorem qaa {j:Nat} (h:ixN n i=iI j):seqIndex? i n=iI j/\j < n/\-(n:Int)<=i/\i < n:=by
 unfold ixN at h;by_cases a:0<=i
 ·rw [Aa a] at h;by_cases h1:i < n;·rw [Aa h1] at h;have e:i.toNat=j:=aL.inj h;exact ⟨by rw [seqIndex_of a h1,e],by lia,by lia,h1⟩
  ·rw [Ab h1] at h; cases h
 ·rw [Ab a] at h;by_cases h1:-(n:Int)<=i;·rw [Aa h1] at h;have e:(i+n).toNat=j:=aL.inj h;exact ⟨by rw [seqIndex_neg (by lia) h1,e],by lia,h1,by lia⟩
  ·rw [Ab h1] at h; cases h
theorem UG {xs:List α} {v:α} (h:atI xs i=iI v):∃ j,seqIndex? i xs.length=iI j/\xs[j]?=iI v/\j < xs.length/\-(xs.length:Int)<=i/\i < xs.length:=by
 unfold atI at h;cases e:ixN xs.length i with
 | none=>rw [e] at h; cases h
 | some j=>rw [e] at h;obtain ⟨h1,h2,f,a⟩:=qaa e;exact ⟨j,h1,h,h2,f,a⟩
def Kt (b:Expr):Prop:=∀ o i,subscripted b iN o i=operate [o,i] (getItem o i)
def IxR (X:Cx) (r:R2):Prop:=
 ∀ (value e:Expr) (pins:Pns) (s:iO) (σ:St) (H:Hp) (x y:V) (v u:iL) (Q:VK),Inv X pins σ H s->RelV x v->RelV y u->r x y H Q ->subscripted e iN v u=operate [v,u] (getItem v u)->iR (model X.prog X.w) X.A (subscriptTail value e v u) (EP X pins σ Q) X.xe s
def MtR (X:Cx) (id:String) (r:V->List V->Hp->VK->Prop):Prop:=
 ∀ (pins:Pns) (s:iO) (σ:St) (H:Hp) (x:V) (xs:List V) (v:iL) (us:List iL) (Q:VK),Inv X pins σ H s->RelV x v->Vals xs us->r x xs H Q ->iR (model X.prog X.w) X.A (call (.builtin id) (v::us)) (EP X pins σ Q) X.xe s
variable {pins:Pns} {σ:St} {H:Hp} {s:iO} {p:Addr} {T:String} {x:V}
section
variable {a b:Expr} {ta tb:TE}
theorem IxR.or {r r':R2} (h:IxR X r) (h':IxR X r'):IxR X (λx y H Q=>r x y H Q\/r' x y H Q):=by
 intro value e pins s σ H x y v u Q I d c q a;rcases q with q | q;·exact h value e pins s σ H x y v u Q I d c q a
 ·exact h' value e pins s σ H x y v u Q I d c q a
theorem qhV {r:R2} (f:IxR X r) (g:PE X a ta) (hb:PE X b tb) (e:Kt b):PE X (.Subscript a b pos) (tOp r ta tb):=by refine ⟨?_⟩;intro pins s σ H Q I h;exact Subscript_ (qkG g hb I h λv u s2 x y H2 k d c q=>f a b pins s2 σ H2 x y v u Q k d c q (e _ _))
def qlW (K:Frag):R2:=λx y H Q=>∃ p xs i v,x=.ref p/\y=.int i/\SqL K H p xs/\atI xs i=iI v/\Q v H
def qlX (K:Frag):R2:=λx y H Q=>∃ p xs i v,x=.ref p/\y=.int i/\SqT K H p xs/\atI xs i=iI v/\Q v H
def qlY:R2:=λx y H Q=>∃ z i c,x=.str z/\y=.int i/\z.length<=sizeLine/\atI z.cps.toList i=iI c/\Q (.str ⟨#[c]⟩) H
theorem qfw:IxR X (qlW X.K):=by
 intro value e pins s σ H x y v u Q I g f h c;obtain ⟨p,xs,i,z,rfl,rfl,hq,k,q⟩:=h;cases g;obtain ⟨t,rfl⟩:=f;obtain ⟨its,r,pl,n⟩:=I.list hq;obtain ⟨j,h1,h2,A,m,l⟩:=UG k;obtain ⟨w,d,a⟩:=r.get h2;have hl:=r.length;have o:=JP;have fin:EP X pins σ Q w s:=⟨z,H,I,a,q⟩
 by_cases b:0<=i
 ·have G:i.toNat=j:=by rw [seqIndex_of b l] at h1;exact aL.inj h1
  exact item_listR pl.isList b (by lia) (by rw [G]; simpa using d) fin c
 ·have G:(i+(its.toArray.size:Int)).toNat=j:=by rw [seqIndex_neg (by lia) m] at h1;rw [au,<-hl];exact aL.inj h1
  exact subscriptTail_builtinR (x:=w) pl.isList.typeIs slot_list_getitem.lookup
   (wpAny_getItem_list_neg (Q:=λr s'=>r=w/\EP X pins σ Q r s') pl.isList (by lia) (by rw [au] <;> lia) (by lia) (by rw [G]; simpa using d) ⟨rfl,fin⟩) c
theorem qhW:IxR X (qlX X.K):=by
 intro value e pins s σ H x y v u Q I d c h b;obtain ⟨p,xs,i,z,rfl,rfl,hq,g,q⟩:=h;cases d;obtain ⟨t,rfl⟩:=c;obtain ⟨its,r,pl,k⟩:=I.tuple hq;obtain ⟨j,h1,h2,o,m,l⟩:=UG g;obtain ⟨w,f,a⟩:=r.get h2;have hl:=r.length;have n:=JP;have fin:EP X pins σ Q w s:=⟨z,H,I,a,q⟩
 exact subscriptTail_builtinR (x:=w) pl.typeIs slot_tuple_getitem.lookup
  (getItem_tuple (j:=j) (Q:=λr s'=>r=w/\EP X pins σ Q r s') pl (by lia) (by lia) (by rw [au,<-hl]; exact h1) (by simpa using f) ⟨rfl,fin⟩) b
theorem qhX:IxR X qlY:=by
 intro value e pins s σ H x y v u Q I d r h a;obtain ⟨z,i,c,rfl,rfl,k,g,q⟩:=h;obtain ⟨t,rfl⟩:=d;obtain ⟨t',rfl⟩:=r;obtain ⟨j,h1,h2,m,b,l⟩:=UG g;have hl:z.cps.toList.length=z.length:=by simp [ig]
 rw [hl] at h1 b l;have n:=JP;exact tail_any (typeIs_str s z t) slot_str_getitem.lookup (getItem_str (c:=c) (by have e1:decide (i < -(2 ^ 63:Int))=false:=Ac (by lia);have f:decide (i ≥ 2 ^ 63)=false:=Ac (by lia);rw [e1,f,Bool.or_false]) (by rw [h1]; simpa using h2) ⟨.str ⟨#[c]⟩,H,I.tok _,⟨_,rfl⟩,q⟩) a
def rIx (K:Frag):R2:=λx y H Q=>qlW K x y H Q\/qlX K x y H Q\/qlY x y H Q
theorem qhY:IxR X (rIx X.K):=qfw.or (qhW.or qhX)
theorem ZJ (its:List iL) (n j:Nat) (u:iL):cU (·.setIfInBounds j u) { cls:=.type "list",data:=.seq its.toArray n }={ cls:=.type "list",data:=.seq (its.set j u).toArray n }:=by simp [cU]
theorem Inv.lst (I:Inv X pins σ H s) (h:H p=iI (.lst xs)):∃ (its:List iL) (n:Nat),Vals xs its/\s.heap.get? p=iI { cls:=.type "list",data:=.seq its.toArray n }/\xs.length<=sizeLine:=by obtain ⟨z,its,n,r,e⟩:=I.hok p _ h;exact ⟨its,n,r,e,z⟩
theorem Inv.lstUpd {ys:List V} {its its':List iL} {n c:Nat} {f:Obj->Obj} (I:Inv X pins σ H s) (h:H p=iI (.lst xs))
  (l:s.heap.get? p=iI { cls:=.type "list",data:=.seq its.toArray n }) (a:f { cls:=.type "list",data:=.seq its.toArray n }={ cls:=.type "list",data:=.seq its'.toArray c }) (r:Vals ys its') (z:ys.length<=sizeLine) (t:Nat) :
  Inv X pins σ (upd H p (.lst ys)) { s with heap:=s.heap.update p f,toks:=t }:=by
 have e:(s.heap.update p f).get? p=iI { cls:=.type "list",data:=.seq its'.toArray c }:=by rw [bn f l (by rw [a] <;> rfl),a]
 refine I.write (x:=p) (e:=p) (by rw [h]; trivial) (.inl rfl) (λb u hb q=>(cC _ _ (be hb)).trans q) ⟨_,e⟩ ?_;exact ⟨z,its',c,r,e⟩
def qkT:V->V->V->Hp->(Hp->Prop)->Prop:=λo i v H Q=>∃ p xs k j,o=.ref p/\i=.int k/\H p=iI (.lst xs)/\ixN xs.length k=iI j/\Q (upd H p (.lst (xs.set j v)))
theorem qcY:qlT X qkT:=by
 intro pins s σ H o i v w x u Q I g m e h;obtain ⟨p,xs,k,j,rfl,rfl,hp,G,q⟩:=h;cases g;obtain ⟨t,rfl⟩:=m;obtain ⟨its,n,r,l,z⟩:=I.lst hp;obtain ⟨h1,h2,f,b⟩:=qaa G;have hl:=r.length;have y:=JP;have d:Inv X pins σ (upd H p (.lst (xs.set j v))) { s with heap:=s.heap.update p (cU (·.setIfInBounds j u)) }:=
  I.lstUpd hp l (ZJ its n j u) (r.set e j) (by rw [dw]; exact z) s.toks
 by_cases c:0<=k
 ·have a:k.toNat=j:=by rw [seqIndex_of c b] at h1;exact aL.inj h1
  exact PySem.W.ki_setAt l c (by lia) (by rw [au,<-hl]; exact b) (by rw [a]; exact ⟨_,d,q⟩)
 ·have a:(k+(its.toArray.size:Int)).toNat=j:=by rw [seqIndex_neg (by lia) f] at h1;rw [au,<-hl];exact aL.inj h1
  exact PySem.W.ki_setBack l (by lia) (by rw [au,<-hl]; exact f) (by lia) (by rw [a]; exact ⟨_,d,q⟩)
theorem VT (lo hi:Option Int) (n:Nat):(lT lo hi iK n).1=((HT.sIx n 0 lo:Nat):Int)/\(lT lo hi iK n).2.1=((HT.sIx n n hi:Nat):Int)/\(lT lo hi iK n).2.2=1:=by
 refine ⟨?_,?_,rfl⟩
 ·cases lo with
  | none=>simp [lT,HT.sIx]
  | some i=>
   simp only [lT,HT.sIx,Option.getD_none,show (1:Int) > 0 by decide,if_true];by_cases h:i < 0;·simp only [h,if_true] <;> lia
   ·simp only [h,if_false] <;> lia
 ·cases hi with
  | none=>simp [lT,HT.sIx]
  | some i=>
   simp only [lT,HT.sIx,Option.getD_none,show (1:Int) > 0 by decide,if_true];by_cases h:i < 0;·simp only [h,if_true] <;> lia
   ·simp only [h,if_false] <;> lia
theorem Ku (its:List iL) (lo hi:Option Int):slicePick its.toArray lo hi iK=((its.drop (HT.sIx its.length 0 lo)).take (HT.sIx its.length its.length hi - HT.sIx its.length 0 lo)).toArray:=by obtain ⟨h1,h2,f⟩:=VT lo hi its.toArray.size;unfold slicePick;rw [h1,h2,f];simp only [sliceRange_one,pick_run,au] <;> rfl
def qmC (K:Frag):V->Option Int->Option Int->Hp->VK->Prop:=λx lo hi H Q=>∃ a xs,x=.ref a/\SqL K H a xs/\∀ p,H p=iK->Q (.ref p) (upd H p (.lst (qfu xs lo hi)))
theorem qfx:SlR X (qmC X.K):=by intro pins s σ H x v vl u lo hi sl Q I d c pl p h;obtain ⟨a,xs,rfl,hx,q⟩:=h;cases d;obtain ⟨its,r,ht,z⟩:=I.list hx;have n:=r.length;refine ⟨"list",_,slot_list_getitem.lookup,ht.isList.typeIs,?_⟩;refine wpAny_getItem_list_slice ht.isList c pl p .none (by simp) ?_ (by rw [au] <;> lia);rw [Ku,<-n];refine ⟨.ref s.heap.objs.size,_,I.laid (t':=s.toks) (o:=.lst (qfu xs lo hi)) (λb e q=>aa _ q) (ay _) ?_,rfl,q _ (I.hok.fresh (ay _))⟩;exact ⟨bU (UF xs lo hi) z,_,0,(r.drop (HT.sIx xs.length 0 lo)).take (HT.sIx xs.length xs.length hi - HT.sIx xs.length 0 lo),ah _ rfl⟩
theorem zZ:wW X (.type "list") (λxs H Q=>∃ p ys,xs=[.ref p]/\(SqL X.K H p ys\/SqT X.K H p ys)/\∀ l,H l=iK->Q (.ref l) (upd H l (.lst ys))):=by
 intro pins s σ H xs us Q I r h;obtain ⟨p,ys,rfl,hq,q⟩:=h;obtain ⟨u,rfl,x⟩:=we r;cases x;have fin:∀ (its:List iL),Vals ys its->ys.length<=sizeLine->∀ (h':Heap) (T:Nat),(∀ b o',s.heap.get? b=iI o'->h'.get? b=iI o') ->h'.get? s.heap.objs.size=iI { cls:=.type "list",dict:=iK,data:=.seq its.toArray T,slots:=#[] }->EP X pins σ Q (.ref s.heap.objs.size) { s with heap:=h' }:=λits r' z h' T kp e=>
  ⟨.ref s.heap.objs.size,_,I.laid (t':=s.toks) kp (ay _) (show ObjOk X.prog X.w _ h' _ (.lst ys) from ⟨z,its,T,r',e⟩),rfl,q _ (I.hok.fresh (ay _))⟩
 rcases hq with hq | hq;·obtain ⟨its,r',pl,z⟩:=I.list hq;have a:=r'.length;obtain ⟨o,c,d,n,hd⟩:=pl.isList;exact call_list_seq p (.inl rfl) c d hd (λh' T kp e=>fin its r' z h' T kp e) (by simp only [au] <;> lia)
 ·obtain ⟨its,r',pl,z⟩:=I.tuple hq;have a:=r'.length;obtain ⟨o,c,d,n,hd⟩:=pl;exact call_list_seq p (.inr rfl) c d hd (λh' T kp e=>fin its r' z h' T kp e) (by simp only [au] <;> lia)
theorem xx:wW X (.type "tuple") (λxs H Q=>∃ p ys,xs=[.ref p]/\((SqL X.K H p ys/\∀ l,H l=iK->Q (.ref l) (upd H l (.tup ys)))\/(SqT X.K H p ys/\Q (.ref p) H))):=by
 intro pins s σ H xs us Q I r h;obtain ⟨p,ys,rfl,h⟩:=h;obtain ⟨u,rfl,x⟩:=we r;cases x;rcases h with ⟨hq,q⟩ | ⟨hq,q⟩
 ·obtain ⟨its,r',pl,z⟩:=I.list hq;have n:=r'.length;refine call_tuple_list pl.isList (λh' kp=>?_) (by simp only [au] <;> lia);have d:Inv X pins σ H { s with heap:=h' }:=I.kept (t':=s.toks) kp;have k:Inv X pins σ (upd H h'.objs.size (.tup ys)) { s with heap:=h'.push { cls:=.type "tuple",data:=.seq its.toArray } }:=
   d.laid (t':=s.toks) (λb o e=>aa _ e) (ay _) (show ObjOk X.prog X.w _ _ _ (.tup ys) from ⟨⟨z,_,ah _ rfl,rfl⟩,its,r',IsTup.new _ _⟩)
  exact ⟨.ref h'.objs.size,_,k,rfl,q _ (d.hok.fresh (ay _))⟩
 ·obtain ⟨its,r',pl,z⟩:=I.tuple hq;exact call_tuple_same pl ⟨.ref p,H,I,rfl,q⟩
def tyV (K:Frag) (T:String) (x:V) (H:Hp):Prop:=match x with
 | .str _=>T = "str"
 | .int _=>T = "int"
 | .ref p=>(T = "list"/\∃ xs,SqL K H p xs)\/(T = "tuple"/\∃ o,K.lookup p=iI o/\o.cls=.type "tuple"/\o.dict=iK) \/
   (T = "dict"/\((∃ kvs,H p=iI (.dK kvs))\/∃ kvs,H p=iI (.dT kvs)))\/(T = "set"/\∃ S n,H p=iI (.set S n))
 | _=>False
theorem qhZ {v:iL} (I:Inv X pins σ H s) (r:RelV x v) (ty:tyV X.K T x H):s.TypeIs v T/\∀ a,v=.ref a->∃ d,s.heap.get? a=iI d/\d.dict=none:=by
 cases x with
 | str z=>obtain ⟨t,rfl⟩:=r;cases (show T = "str" from ty);exact ⟨typeIs_str s z t,λ_ e=>nomatch e⟩
 | int i=>obtain ⟨t,rfl⟩:=r;cases (show T = "int" from ty);exact ⟨typeIs_int s i t,λ_ e=>nomatch e⟩
 | ref p=>
  cases r;rcases ty with ⟨rfl,xs,hq⟩ | ⟨rfl,o,k,h,hd⟩ | ⟨rfl,k⟩ | ⟨rfl,S,n,k⟩
  ·obtain ⟨its,_,pl,_⟩:=I.list hq;refine ⟨pl.isList.typeIs,λa e=>?_⟩;cases e;obtain ⟨o,n,e,c,hd,_⟩:=pl;exact ⟨o,e,hd⟩
  ·refine ⟨⟨o,I.kIn p o k,h⟩,λa e=>?_⟩;cases e;exact ⟨o,I.kIn _ o k,hd⟩
  ·have z:∃ o,s.heap.get? p=iI o/\o.ExactDict:=by
    rcases k with ⟨kvs,k⟩ | ⟨kvs,k⟩
    ·obtain ⟨_,_,_,_,o,_,_,e,ex,_⟩:=I.hok p _ k;exact ⟨o,e,ex⟩
    ·obtain ⟨_,_,_,_,o,_,_,e,ex,_⟩:=I.hok p _ k;exact ⟨o,e,ex⟩
   obtain ⟨o,e,ex⟩:=z;refine ⟨⟨o,e,ex.1⟩,λa b=>?_⟩;cases b;exact ⟨o,e,ex.2.1⟩
  ·obtain ⟨o,_,_,_,e,ex,_⟩:=I.hok p _ k;refine ⟨⟨o,e,ex.1⟩,λa b=>?_⟩;cases b;exact ⟨o,e,ex.2.1⟩
 | _=>exact cG ty
def tBM (K:Frag) (T:String) (r:V->List V->Hp->VK->Prop) (to:TE) (t:TA):TE:=λσ H Q=>to σ H λx H1=>tyV K T x H1/\t σ H1 λxs H2=>r x xs H2 Q
variable {o:Expr} {es:List Expr} {to:TE} {t:TA} {name:Str} {apos cpos:Pos} {id:String} {r:V->List V->Hp->VK->Prop}
theorem qab (pa:PlainAttrs T) (slot:Slot T name id) (y:typeOf (.builtin id)=pure (.type "method_descriptor")) (hm:MtR X id r) (l:PE X o to) (g:PA X (e::es) t)
  (b:i7 o name X.env (eval o X.env)=eval o X.env:=by rfl)
  (w:((j3 cpos (iQ (e::es) X.env)).all (λx=>!x.1)&&(lI cpos (j8 [] X.env)).all (λx=>x.1.isSome)
   && decide ((e::es).length+([]:List j9).length+(if ([]:List j9).isEmpty then 0 else 1) < 30))=true:=by rfl)
  (a:(apos.endLine == cpos.line)=true:=by rfl) (f:iQ (e::es) X.env=(iN,eval e X.env)::iQ es X.env:=by rfl) (n:(j3 cpos (iQ es X.env)).any (·.1)=false:=by rfl) :
  PE X (.Call (.Attribute o name apos) (e::es) [] cpos) (tBM X.K T r to t):=by
 refine ⟨?_⟩;intro pins s σ H Q I h;refine wpAny_Call_method_late b w a rfl (thn (l pins s σ H _ I h) λv s1 ⟨x,H1,d,r1,ty,c⟩=>?_);obtain ⟨h1,h2⟩:=qhZ d r1 ty;refine ⟨T,id,pa,slot,y,h1,h2,?_⟩;have hA:=g cpos pins s1 σ H1 _ d c;rw [f] at hA ⊢;refine eO (by show (iN||(j3 cpos (iQ es X.env)).any (·.1))=iN; rw [n] <;> rfl) (dP ?_);exact thn hA λus s2 ⟨vs,H2,k,r2,q⟩=>hm pins s2 σ H2 x vs v us Q k r1 r2 q
end
def MtM (X:Cx) (id:String) (r:V->List V->Hp->VK->Prop):Prop:=
 ∀ (pins:Pns) (s:iO) (σ:St) (H:Hp) (x:V) (xs:List V) (v:iL) (us:List iL) (Q:VK),Inv X pins σ H s->RelV x v->Vals xs us->r x xs H Q ->iR (model X.prog X.w) X.A (call (.builtin id) (v::us)) (EP X pins σ Q) X.xe s
theorem Vals.one (h:Vals [x] us):∃ u,us=[u]/\RelV x u:=by
 cases h with
 | cons r t=>cases t;exact ⟨_,rfl,r⟩
theorem Vals.eraseIdx:∀ {xs:List V} {us:List iL} (i:Nat),Vals xs us->Vals (xs.eraseIdx i) (us.eraseIdx i)
 | _,_,_,.nil=>.nil
 | _,_,0,.cons _ t=>t
 | _,_,i+1,.cons r t=>.cons r (Vals.eraseIdx i t)
theorem Vals.reverse (h:Vals xs us):Vals xs.reverse us.reverse:=by
 induction h with
 | nil=>exact .nil
 | cons r t j=>rw [cw,cw]; exact Vals.append j (.cons r .nil)
theorem VU:∀ (l:List α) (i:Nat),(l.eraseIdx i).length<=l.length
 | [],_=>ay _
 | _::_,0=>eC _
 | _::r,i+1=>Nat.succ_le_succ (VU r i)
section
variable {l b:Addr} {ys zs:List V}
theorem Inv.lset {its its':List iL} {n:Nat} {f:Array iL->Array iL} {t':Nat} (I:Inv X pins σ H s) (a:H l=iI (.lst xs))
  (e:s.heap.get? l=iI { cls:=.type "list",data:=.seq its.toArray n }) (h:f its.toArray=its'.toArray) (c:Vals ys its') (z:ys.length<=sizeLine) :
  Inv X pins σ (upd H l (.lst ys)) { s with heap:=s.heap.update l (cU f),toks:=t' }:=by
 have q:=PySem.IsL.update e f;rw [h] at q;refine I.write (x:=l) (e:=l) (by rw [a]; exact trivial) (.inl rfl) (λb u hb d=>(cC s.heap (cU f) (be hb)).trans d) ⟨_,q⟩ ?_;exact ⟨z,its',_,c,q⟩
theorem Inv.lnew {its:List iL} {t':Nat} (I:Inv X pins σ H s) (c:Vals ys its) (z:ys.length<=sizeLine):Inv X pins σ (upd H s.heap.objs.size (.lst ys)) { s with heap:=s.heap.push { cls:=.type "list",data:=.seq its.toArray },toks:=t' }:=
 I.laid (λ_ _ q=>aa _ q) (ay _) ⟨z,its,0,c,ah _ rfl⟩
theorem Inv.fresh (I:Inv X pins σ H s):H s.heap.objs.size=none:=I.hok.fresh (ay _)
theorem Inv.lstM (I:Inv X pins σ H s) (a:H l=iI (.lst xs)):xs.length<=sizeLine/\∃ (its:List iL) (n:Nat),Vals xs its/\xs.length=its.length/\s.heap.get? l=iI { cls:=.type "list",data:=.seq its.toArray n }:=by obtain ⟨z,its,n,r,e⟩:=I.hok l _ a;exact ⟨z,its,n,r,r.length,e⟩
theorem qcZ (h:n<=sizeLine):cV n=false:=by unfold cV;exact Ac (by lia)
end
section
def UH:V->List V->Hp->VK->Prop:=λx vs H Q=>∃ l xs y,x=.ref l/\vs=[y]/\H l=iI (.lst xs)/\xs.length < sizeLine/\Q .non (upd H l (.lst (xs++[y])))
theorem VV:MtM X "list.append" UH:=by
 intro pins s σ H x vs v us Q I d b h;obtain ⟨l,xs,y,rfl,rfl,a,c,q⟩:=h;cases d;obtain ⟨u,rfl,A⟩:=b.one;obtain ⟨z,its,n,r,hl,e⟩:=I.lstM a;refine lM F.slot_list_append ⟨_,e,rfl⟩ F.entry_list_append (F.args_list_append_2 _ _) (PySem.list_append l its.toArray n u (by rw [au]; lia)) ⟨e,?_⟩;refine ⟨.non,_,I.lset (its':=its++[u]) a e (by simp) (r.append (.cons A .nil)) ?_,rfl,q⟩;rw [aq,List.length_singleton]
 lia
def qfy:V->List V->Hp->VK->Prop:=λx vs H Q=>∃ l b xs zs,x=.ref l/\vs=[.ref b]/\H l=iI (.lst xs)/\H b=iI (.lst zs)/\xs.length+zs.length<=sizeLine/\Q .non (upd H l (.lst (xs++zs)))
theorem qac:MtM X "list.extend" qfy:=by
 intro pins s σ H x vs v us Q I d c h;obtain ⟨l,b,xs,zs,rfl,rfl,a,B,k,q⟩:=h;cases d;obtain ⟨u,rfl,A⟩:=c.one;cases A;obtain ⟨z,its,n,r,hl,e⟩:=I.lstM a;obtain ⟨z2,i,n2,r2,f,j⟩:=I.lstM B;have hsz:its.toArray.size+i.toArray.size<=sizeLine:=by rw [au,au]; lia
 have g:¬(!its.toArray.isEmpty&&cV (its.toArray.size+i.toArray.size))=true:=by rw [qcZ hsz,Bool.and_false];exact bE
 refine lM F.slot_list_extend ⟨_,e,rfl⟩ F.entry_list_extend (F.args_list_extend_2 _ _)
  (AutoSeq1.list_extend_list_list_0 l its.toArray n b i.toArray n2 g (by rw [au]; lia) (by lia)) ⟨e,j,?_⟩
 refine ⟨.non,_,I.lset (its':=its++i) a e (by simp) (r.append r2) ?_,rfl,q⟩;rw [aq]
 lia
def qh0:V->List V->Hp->VK->Prop:=λx vs H Q=>∃ l xs i k y,x=.ref l/\vs=[.int i]/\H l=iI (.lst xs)/\-(2 ^ 63)<=i/\i < 2 ^ 63/\seqIndex? i xs.length=iI k/\xs[k]?=iI y/\Q y (upd H l (.lst (xs.eraseIdx k)))
theorem qc0:MtM X "list.pop" qh0:=by
 intro pins s σ H x vs v us Q I d c h;obtain ⟨l,xs,i,k,y,rfl,rfl,b,h1,h2,g,C,q⟩:=h;cases d;obtain ⟨u,rfl,A⟩:=c.one;obtain ⟨t,rfl⟩:=A;obtain ⟨z,its,n,r,hl,e⟩:=I.lstM b;obtain ⟨w,f,a⟩:=r.get C;refine lM F.slot_list_pop ⟨_,e,rfl⟩ F.entry_list_pop (F.args_list_pop_2 _ _)
  (MeetsSeq.list_pop_at l its.toArray n i t k w (fitsIndex_both h1 h2) (by rw [au,<-hl]; exact g) (by rw [<-bS]; exact f) (by rw [au]; lia)) ⟨e,?_⟩
 refine ⟨y,_,I.lset (its':=its.eraseIdx k) b e ?_ (r.eraseIdx k) ?_,a,q⟩;·show its.toArray.eraseIdxIfInBounds k=(its.eraseIdx k).toArray;rw [List.eraseIdxIfInBounds_toArray]
 ·have:=VU xs k
  lia
end
end L2
namespace Att
open PySem PySem.W PySem.Calls PyProof.Rows
theorem Qp {P:Params} {h:Heap}:∀ (ns:List Int) (vs:List iL),WellAll P h vs (ns.map WData.int)->IntsAre vs ns:=by
 intro ns
 induction ns with
 | nil=>intro vs w;rw [bV] at w;cases w;exact .nil
 | cons n ns j=>
  intro vs w;rw [aG] at w;cases w with
  | cons a b=>cases a;exact .cons _ _ (j _ b)
theorem qad {l:OpenLaw} {n:Nat} (s:l.most=iI n) {P:Params} {h:Heap} {args:List WData} {v:List iL}
  (e:l.row.toRowW.claim.pre args=iM) (i:WellAll P h v args) :
  ∃ a vs ns,v=[bu a]/\args=[WData.list (ns.map WData.int)]/\h.get? a=iI { cls:=.type "list",data:=.seq vs.toArray }/\IntsAre vs ns/\ns.length<=n:=by
 have j:WShape.hasAll [] args [.list .int]=true:=(pre_splitW e).1;have k:l.pre.holds [] { args:=args }=true:=(pre_splitW e).2;obtain ⟨d,r,rfl,h1,h2⟩:=hasAllW_cons j;obtain rfl:=hasAllW_nil h2;obtain ⟨xs,rfl,t⟩:=hasW_list h1;obtain ⟨ns,rfl⟩:=items_int t;have b:ns.length<=n:=by
  unfold OpenLaw.pre at k;have g:(WTm.not (.lt (.lit (.int (n:Int))) (.len (.arg 0)))).holds [] { args:=[.list (ns.map .int)] }=true:=by have g:=(holds_andW k).1;rw [s] at g;exact g
  have f:=condW_of g (w_not (w_lt w_lit (w_len_list (w_arg rfl))));rw [ap] at f;refine Nat.le_of_not_lt λq=>?_;have m:(n:Int) < ((ns.length:Nat):Int):=by omega
  first
   | (rw [Ad m] at f; exact absurd f (by decide))
   | (simp at f; omega)
 cases i with
 | cons o w=>
  cases w;cases o with
  | list p c=>exact ⟨_,_,ns,rfl,rfl,p,Qp ns _ c,b⟩
theorem qae (l:OpenLaw) (args:List WData):l.row.toRowW.claim.post args (.bool iM) args=true:=
 postW_of (r:=l.row.toRowW) (X:=(iM == iM))
  (show WShape.has [] (.bool iM) .bool=iM by first | rfl | decide | simp [WShape.has,WShape.arms,WShape.armsAll])
  (show (WTm.eq .res (.lit (.bool iM))).value [] { args:=args,res:=iI (.bool iM),after:=args }=iI (.bool (iM == iM)) from w_eq_bool (w_res rfl) w_lit) rfl
theorem attach_call {l:OpenLaw} {n:Nat} {q:iU} {loose:List Str} {XP:(Str->Option iL)->Heap->Prop} {YP:iV->Heap->Prop} {d:DefRec}
  (p:l.most=iI n) (hdf:d.params.defaults=[])
  (call:∀ (w:iV) (s₀ s:iO) (mg mb:Str->Option iL) (fa:Addr) (o:Obj) (pm cd doc:iL) (a:Addr) (vs:List iL) (ns:List Int),Ground q loose [] XP w s₀ mg mb s.heap->YP w s.heap ->s.heap.get? fa=iI o->o.data=.func (docDef d.name d.params d.body d.scope pm cd doc)->s.heap.CodeRec cd d.name->mg d.name=iI (.ref fa) ->s.heap.get? a=iI { cls:=.type "list",data:=.seq vs.toArray }->IntsAre vs ns->ns.length<=n->s.gens=#[] ->lE (model l.prog w) mQ (.call (.ref fa) ⟨[.ref a],[]⟩) (λr s'=>r=.ok (.ret (.bool iM))/\OldK s.heap s'.heap/\s'.os=s.os/\mj s'.gens) s) :
  WalkO q loose XP YP l.row.toRowW d [] (λf vs=>iG f vs):=by
 intro w s₀ s mg mb G Y fa o pm cd doc V kV m hd c D g hg args v as e y k i t;obtain rfl:V=.none:=Dflts.none D hdf;obtain rfl:kV=.none:=Dflts.noKw D;obtain ⟨a,vs,ns,rfl,rfl,j,h,b⟩:=qad p e i;refine enter_call (lV (call w s₀ s mg mb fa o pm cd doc a vs ns G Y m (fd_plain hd) c g j h b hg) λr s' hq=>?_);obtain ⟨rfl,h2,x,u⟩:=hq;exact ⟨.inl ⟨.bool iM,.bool iM,[],rfl,λ_=>rfl,.bool iM,qae l _,λ_=>⟨eQ,λ_ hm=>(nomatch hm)⟩⟩,h2,x,u⟩
end Att
namespace L2
open PySem PySem.Spec PyProof.Rows
theorem VW:∀ {vs:List iL} {ns:List Int},IntsAre vs ns->Vals (ns.map V.int) vs
 | _,_,.nil=>.nil
 | _,_,.cons n t h=>.cons ⟨t,rfl⟩ (VW h)
def qkU (H:Hp):Prop:=∀ b,H b=iK\/∃ o xs,H b=iI (.frz o (.lst xs))
theorem qc1 {P:iU} {w:iV} {K:Frag} {mg mb:Str->Option iL} {CX:CXT} {k:Nat} {fa a:Addr} {fd:lH} {x:Str} {sp:Sp} {c:iO} {vs:List iL} {ns:List Int}
  (M:K.In c.heap) (y:c.heap.Ns iT mg) (hb:c.heap.Ns builtinsNs mb) (I:∀ x:Str,x ≠ "__name__"->mb x=iS x) (A:c.heap.NoLimit) (hg:c.gens=#[])
  (C:c.heap.get? a=iI { cls:=.type "list",data:=.seq vs.toArray }) (hi:IntsAre vs ns) (hl:ns.length<=sizeLine) (Q:Room k mQ)
  (F:∀ base:Heap,K.In base->base.Ns iT mg->FnOk P w K mg base CX k fa fd [x] sp) (j:∀ (s:iO) (u:iL),mY s fd ⟨[u],[]⟩ [(x,u)])
  (E:∀ H:Hp,qkU H->SqL K H a (ns.map V.int)->sp [.ref a] H (λv _=>v=.bl iM) λ_ _ _=>False)
  (X:∀ H e s',CX [] H c (λ_ _ _=>False) e s'->False) :
  lE (model P w) mQ (.call (.ref fa) ⟨[.ref a],[]⟩) (λr s'=>r=.ok (.ret (.bool iM))/\OldK c.heap s'.heap/\s'.os=c.os/\mj s'.gens) c:=by
 have L:=VW hi;have p:=hi.length;have i:∀ H:Hp,qkU H->SqL K H a (ns.map V.int)->HOk P w H c.heap->(∀ b,H b≠iK->b=a)->(H a≠iK->K.lookup a=iK) ->lE (model P w) mQ (.call (.ref fa) ⟨[.ref a],[]⟩) (λr s'=>r=.ok (.ret (.bool iM))/\OldK c.heap s'.heap/\s'.os=c.os/\mj s'.gens) c:=by
  intro H O S hok hA T;have f:∀ {b:Addr} {o:Obj},c.heap.get? b=iI o->H b=iK->(qcH c.heap H).get? b=iI o:=λe n=>qcI e n;have D:∀ {b:Addr} {o:Obj} {es:Array DictEntry} {ep:Nat},c.heap.get? b=iI o->o.data=.dict es ep->H b=none:=λ{b o es ep} e d=>by
   cases q:H b with
   | none=>rfl
   | some u=>have J:b=a:=hA b (by rw [q]; simp);subst J;rw [C] at e; cases e;have d':Data.seq vs.toArray _=Data.dict es ep:=d;cases d'
  have g:∀ {b:Addr} {m:Str->Option iL},c.heap.Ns b m->(qcH c.heap H).Ns b m:=λ{b m} ⟨o,es,ep,e,d,r⟩=>⟨o,es,ep,f e (D e d),d,r⟩
  have B:K.In (qcH c.heap H):=λb o e=>f (M b o e) (by
   cases q:H b with
   | none=>rfl
   | some u=>have J:b=a:=hA b (by rw [q]; simp);subst J;rw [T (by rw [q]; simp)] at e; cases e)
  have R:Mod K mg (qcH c.heap H):=⟨B,g y,⟨mb,g hb,I⟩,let ⟨mc,h1,h2⟩:=A; ⟨mc,g h1,h2⟩⟩
  have e0:Env0 P w K mg (qcH c.heap H) mQ [] c H:=⟨rfl,R,λb o e=>qe8 e,eM (GM _ _),trivial,λb hb=>absurd (show b∈([]:List Addr) from hb) (by simp),hok,.of_eq hg⟩
  refine lV ((F _ B (g y)).run mQ [] c H ⟨[.ref a],[]⟩ [.ref a] [.ref a] _ _ Q e0 (j c (.ref a)) (.cons rfl .nil) (E H O S)) λr s' h=>?_;cases r with
  | error e=>exact (X H e s' h).elim
  | ok fl=>
   cases fl with
   | next=>exact cG h
   | brk=>exact cG h
   | cont=>exact cG h
   | ret u=>
    obtain ⟨v,H',os,bare,un,t,r',q⟩:=h;have N:v=.bl true:=q;subst N;obtain rfl:u=dm true:=r';refine ⟨rfl,OldK.of_keep λb o e=>?_,os,bare⟩;cases q:H b with
    | none=>exact un.keep b o e q (by intro z; exact absurd (show b∈([]:List Addr) from z) (by simp)) (by simp)
    | some u=>
     rcases O b with z | ⟨ob,xs,z⟩
     ·rw [q] at z; cases z
     ·have z2:=un.frzs b ob _ z;obtain ⟨e1,_⟩:=hok b _ z;obtain ⟨U,_⟩:=t b _ z2;rw [e] at e1; cases e1;exact U
 cases G:K.lookup a with
 | some o=>have e:=M a o G;rw [C] at e;cases e;refine i (λ_=>iK) (λ_=>.inl rfl) (.inr ⟨_,vs.toArray,_,G,rfl,rfl,rfl,by rw [au,p]; exact hl,by simpa using L⟩) (λb u z=>by have l:(iK:Option HO)=iI u:=z; cases l) (λb z=>absurd rfl z) λz=>absurd rfl z
 | none=>
  refine i (λb=>if b=a then iI (.frz { cls:=.type "list",data:=.seq vs.toArray } (.lst (ns.map V.int))) else iK) (λb=>?_) (.inl (.inr ⟨{ cls:=.type "list",data:=.seq vs.toArray },Aa rfl⟩)) (λb u z=>?_) (λb z=>?_) λ_=>G
  ·by_cases hb:b=a;·exact .inr ⟨_,_,Aa hb⟩
   ·exact .inl (Ab hb)
  ·by_cases hb:b=a;·have l:=(Aa hb).symm.trans z;cases l;subst hb;exact ⟨C,by rw [ap]; exact hl,vs,_,L,C⟩
   ·have l:=(Ab hb).symm.trans z;cases l
  ·by_cases hb:b=a;·exact hb
   ·exact absurd (Ab hb) z
theorem qfz {l:g7} {n k:Nat} {q:iU} {loose:List Str} {XP:(Str->Option iL)->Heap->Prop} {YP:iV->Heap->Prop} {d:DefRec} {K:Params->Frag} {CX:iV->CXT} {sp:iV->Sp} {x:Str}
  (A:l.most=iI n) (r:n<=sizeLine) (hdf:d.params.defaults=[]) (z:Room k mQ)
  (C:∀ (w:iV) (h:Heap),YP w h->(K w.params).In h)
  (F:∀ (w:iV) (mg:Str->Option iL) (fa:Addr) (h:Heap),(K w.params).In h->h.Ns iT mg->mg d.name=iI (.ref fa) ->∃ fd:lH,(∀ (s:iO) (u:iL),mY s fd ⟨[u],[]⟩ [(x,u)]) /\
    ∀ base:Heap,(K w.params).In base->base.Ns iT mg->FnOk l.prog w (K w.params) mg base (CX w) k fa fd [x] (sp w))
  (p:∀ (w:iV) (H:Hp) (a:Addr) (ns:List Int),ns.length<=n->qkU H->SqL (K w.params) H a (ns.map V.int)->sp w [.ref a] H (λv _=>v=.bl iM) λ_ _ _=>False)
  (X:∀ (w:iV) (H:Hp) (s:iO) (e:iL) (s':iO),CX w [] H s (λ_ _ _=>False) e s'->False) :
  PySem.W.WalkO q loose XP YP l.row.toRowW d [] (λf vs=>iG f vs):=by
 refine Att.attach_call A hdf λw s₀ j mg mb fa o pm cd doc a vs ns G Y E hd B t m i c hg=>?_;have y:=C w _ Y;obtain ⟨fd,hb,D⟩:=F w mg fa _ y G.T.g t;exact qc1 y G.T.g G.T.b G.T.builtins G.T.nolimit hg m i (bU c r) z D hb (λH O S=>p w H a ns c O S) λH e s'=>X w H j e s'
noncomputable def qaf (s:Stmt) (j:Nat):Stmt:=match s with
 | .ClassDef _ _ _ body _ _ _ _ _ _ _=>body.getD j (.Pass ⟨0,0,0,0⟩)
 | _=>.Pass ⟨0,0,0,0⟩
noncomputable def wf (s:Stmt):Arguments:=match s with
 | .FunctionDef _ a _ _ _ _ _ _ _ _=>a
 | _=>{ posonlyargs:=[],args:=[],vararg:=iK,kwonlyargs:=[],kw_defaults:=[],kwarg:=iK,defaults:=[] }
noncomputable def kb (s:Stmt):List Stmt:=match s with
 | .FunctionDef _ _ b _ _ _ _ _ _ _=>b
 | _=>[]
noncomputable def qG (s:Stmt):lY:=match s with
 | .FunctionDef _ _ _ _ _ _ sc _ _ _=>sc
 | _=>{ kind:=.function,names:=[],isGenerator:=iN,isCoroutine:=iN }
structure Fun (K:Frag) (x qual:Str) (st:Stmt) (f:Addr) (fd:lH):Prop where
 ex:∃ (oc:iL) (od:Option Addr) (kV doc pm:iL) (an:Option Addr) (cdv ct:iL) (osl:Array (Option iL)),fd=cr x qual (wf st) (kb st) (qG st) .none kV doc pm an cdv ct/\K.lookup f=iI ⟨oc,od,.func fd,osl⟩/\codeIn K cdv qual=iM
 kp:l9 K (.ref f)=iM
variable {P:iU} {w:iV} {K:Frag} {qual:Str} {st:Stmt} {f:Addr}
section
variable {mg:Str->Option iL} {base:Heap}
theorem Fun.binds {x:Str} {fd:lH} {ps:List Str} (F:Fun K x qual st f fd)
  (h:∀ (kV doc pm:iL) (an:Option Addr) (cdv ct:iL) (us:List iL),us.length=ps.length->lL (cr x qual (wf st) (kb st) (qG st) .none kV doc pm an cdv ct) ⟨us,[]⟩=pure (ps.zip us)):Binds K fd ps []:=by
 obtain ⟨oc,od,kV,doc,pm,an,cdv,ct,osl,rfl,lk,d⟩:=F.ex;exact .all (h kV doc pm an cdv ct)
theorem Qq {x:Str} {oc:iL} {od an:Option Addr} {osl:Array (Option iL)} {kV doc pm cdv ct:iL} (l:K.lookup f=iI ⟨oc,od,.func (cr x qual (wf st) (kb st) (qG st) .none kV doc pm an cdv ct),osl⟩)
  (c:codeIn K cdv qual=iM) (k:l9 K (.ref f)=iM):Fun K x qual st f (cr x qual (wf st) (kb st) (qG st) .none kV doc pm an cdv ct):=⟨⟨oc,od,kV,doc,pm,an,cdv,ct,osl,rfl,l,c⟩,k⟩
end
def Same (H H':Hp):Prop:=∀ b o,H b=iI o->H' b=iI o
theorem Same.refl (H:Hp):Same H H:=λ_ _ h=>h
variable {H:Hp}
theorem Same.trans {H1 H2:Hp} (a:Same H H1) (b:Same H1 H2):Same H H2:=λc o h=>b c o (a c o h)
variable {H':Hp}
theorem Same.free (e:Same H H') {l:Addr} (h:H' l=Option.none):H l=Option.none:=by
 cases q:H l with
 | none=>rfl
 | some o=>rw [e l o q] at h;cases h
variable {a:Addr}
theorem Same.seq {xs:List V} (e:Same H H') (h:SqL K H a xs):SqL K H' a xs:=by
 rcases h with (h | ⟨o,h⟩) | h;·exact .inl (.inl (e _ _ h))
 ·exact .inl (.inr ⟨o,e _ _ h⟩)
 ·exact .inr h
variable {o:Option V} {u:iL} {d y:V}
section
variable {κ:Type} [DecidableEq κ]
noncomputable def UI (kvs:List (κ×V)) (k:κ):Option V:=(kvs.find? λkv=>decide (kv.1=k)).map (·.2)
noncomputable def Ju (kvs:List (κ×V)) (k:κ) (v:V):List (κ×V):=
 if (kvs.any λkv=>decide (kv.1=k))=iM then kvs.map (λkv=>if kv.1=k then (kv.1,v) else kv) else kvs++[(k,v)]
theorem gY {p:κ×V} {r:List (κ×V)} {k:κ} (e:p.1=k):UI (p::r) k=iI p.2:=by simp [UI,dA,e]
theorem xy {p:κ×V} {r:List (κ×V)} {k:κ} (e:¬p.1=k):UI (p::r) k=UI r k:=by simp [UI,dA,e]
theorem Kv (k:κ):∀ kvs:List (κ×V),(kvs.any λkv=>decide (kv.1=k))=(UI kvs k).isSome
 | []=>rfl
 | p::r=>by
  rw [b7];by_cases e:p.1=k;·simp only [gY e,Ad e,Bool.true_or,Option.isSome_some]
  ·rw [xy e,Ac e,Bool.false_or]; exact Kv k r
theorem yB (kvs:List (κ×V)) (k:κ) (v:V):(Ju kvs k v).length<=kvs.length+1:=by
 unfold Ju;split;·rw [ap]; lia
 ·rw [aq,ao,aV]; lia
theorem RelO.isSome_eq {u:Option iL} (r:RelO o u):o.isSome=u.isSome:=by
 cases o with
 | none=>cases u with
  | none=>rfl
  | some _=>exact (show False from r).elim
 | some _=>cases u with
  | none=>exact (show False from r).elim
  | some _=>rfl
theorem RelO.getD {u:Option iL} {d':iL} (r:RelO o u) (rd:RelV d d'):RelV (o.getD d) (u.getD d'):=by
 cases o with
 | none=>cases u with
  | none=>exact rd
  | some _=>exact (show False from r).elim
 | some _=>cases u with
  | none=>exact (show False from r).elim
  | some _=>exact r
theorem KV.val {kvs:List (κ×V)} {vs:List (κ×iL)} (r:KV kvs vs) (k:κ):RelO (UI kvs k) (mR vs k):=by
 unfold KV at r
 induction r with
 | nil=>exact dn
 | @cons p q ps qs h t ih=>
  obtain ⟨h1,h2⟩:=h;by_cases e:p.1=k
  ·have a:q.1=k:=h1.symm.trans e;have b:mR (q::qs) k=iI q.2:=by simp [mR,dA,a]
   rw [gY e,b]; exact h2
  ·have a:¬q.1=k:=λz=>e (h1.trans z);have b:mR (q::qs) k=mR qs k:=by simp [mR,dA,a]
   rw [xy e,b]; exact ih
theorem KV.any {kvs:List (κ×V)} {vs:List (κ×iL)} (r:KV kvs vs) (k:κ):(kvs.any λkv=>decide (kv.1=k))=vs.any λkv=>decide (kv.1=k):=by
 unfold KV at r
 induction r with
 | nil=>rfl
 | cons h t j=>rw [b7,b7,j,h.1]
theorem KV.repl {kvs:List (κ×V)} {vs:List (κ×iL)} (r:KV kvs vs) (k:κ) (c:RelV y u):KV (kvs.map λkv=>if kv.1=k then (kv.1,y) else kv) (vs.map λkv=>if kv.1=k then (kv.1,u) else kv):=by
 unfold KV at r ⊢
 induction r with
 | nil=>exact .nil
 | @cons p q ps qs h t ih=>
  rw [aG,aG];refine .cons ?_ ih;obtain ⟨h1,h2⟩:=h;by_cases e:p.1=k;·rw [Aa e,Aa (h1.symm.trans e)]; exact ⟨h1,c⟩
  ·rw [Ab e,Ab (λz=>e (h1.trans z))]; exact ⟨h1,h2⟩
theorem KV.put {kvs:List (κ×V)} {vs:List (κ×iL)} (r:KV kvs vs) (k:κ) (c:RelV y u):KV (Ju kvs k y) (stored vs k u):=by
 unfold Ju stored;rw [r.any k];by_cases e:(vs.any λkv=>decide (kv.1=k))=iM;·rw [Aa e,Aa e]; exact r.repl k c
 ·rw [Ab e,Ab e]; exact Paired.snoc r ⟨rfl,c⟩
theorem KV.length {kvs:List (κ×V)} {vs:List (κ×iL)} (r:KV kvs vs):kvs.length=vs.length:=fO r
end
theorem ZK {k:Key} (r:RelV (kV k) u):(ji P w).is k u=true:=by
 cases k with
 | inl i=>obtain ⟨t,e⟩:=(show ∃ t,u=eu i t from r); subst e; exact UB P w i t
 | inr x=>obtain ⟨t,e⟩:=(show ∃ t,u=eV x t from r); subst e; exact UC P w x t
theorem VX:∀ {ks:List Key} {us:List iL},Vals (ks.map kV) us->ItemsAre (ji P w) ks us
 | [],_,r=>by rw [bV] at r; cases r; exact .nil
 | k::ks,_,r=>by
  rw [aG] at r;cases r with
  | cons h t=>exact .cons (ZK h) (VX t)
abbrev KT (H:Hp):List (List Key×V)->List (List Key×Addr×iL)->Prop:=mT λp q=>p.1=q.1/\H q.2.1=iI (.tup (p.1.map kV))/\RelV p.2 q.2.2
variable {xs:List (List Key×Addr×iL)} {kvs:List (List Key×V)}
theorem KT.val (r:KT H kvs xs) (k:List Key):RelO (UI kvs k) ((atKey xs k).map (·.2)):=by
 induction r with
 | nil=>exact dn
 | @cons p q ps qs h t ih=>
  obtain ⟨h1,_,h2⟩:=h;by_cases e:p.1=k
  ·have a:q.1=k:=h1.symm.trans e;have b:atKey (q::qs) k=iI q.2:=by simp [atKey,dA,a]
   rw [gY e,b]; exact h2
  ·have a:¬q.1=k:=λz=>e (h1.trans z);have b:atKey (q::qs) k=atKey qs k:=by simp [atKey,dA,a]
   rw [xy e,b]; exact ih
theorem KT.repl (r:KT H kvs xs) (k:List Key) (c:RelV y u):KT H (kvs.map λkv=>if kv.1=k then (kv.1,y) else kv) (xs.map (putAt k u)):=by
 induction r with
 | nil=>exact .nil
 | @cons p q ps qs h t ih=>
  rw [aG,aG];refine .cons ?_ ih;obtain ⟨h1,h2,f⟩:=h;unfold putAt;by_cases e:p.1=k;·rw [Aa e,Aa (h1.symm.trans e)]; exact ⟨h1,h2,c⟩
  ·rw [Ab e,Ab (λz=>e (h1.trans z))]; exact ⟨h1,h2,f⟩
theorem KT.put (r:KT H kvs xs) (k:List Key) {b:Addr} (hb:H b=iI (.tup (k.map kV))) (c:RelV y u):KT H (Ju kvs k y) (storedH xs k b u):=by
 have e:(kvs.any λkv=>decide (kv.1=k))=(atKey xs k).isSome:=by rw [Kv,(r.val k).isSome_eq,fI]
 unfold Ju storedH;rw [e];by_cases q:(atKey xs k).isSome=iM;·rw [Aa q,Aa q]; exact r.repl k c
 ·rw [Ab q,Ab q]; exact Paired.snoc r ⟨rfl,hb,c⟩
theorem KT.keeps (r:KT H kvs xs) (ht:∀ b ys,H b=iI (.tup ys)->H' b=iI (.tup ys)):KT H' kvs xs:=
 Paired.mapP r λ_ _ z=>⟨z.1,ht _ _ z.2.1,z.2.2⟩
section
variable {h:Heap}
theorem qh1 {u:HO} (ok:HOk P w H h) (e:Rd H a u):ObjOk P w H h a u:=e.ok ok
theorem VY {kvs:List (Key×V)} (ok:HOk P w H h) (e:Rd H a (.dK kvs)):kvs.length<=sizeLine/\(a == lj)=iN/\∃ vs,KV kvs vs/\h.DictOf (ji P w) a vs:=
 show ObjOk P w H h a (.dK kvs) from qh1 ok e
theorem qkV {kvs:List (Key×V)} (ok:HOk P w H h) (e:H a=iI (.dK kvs)):kvs.length<=sizeLine/\(a == lj)=iN/\∃ vs,KV kvs vs/\h.DictOf (ji P w) a vs:=VY ok (.inl e)
theorem ga {ks:List Key} (ok:HOk P w H h) (e:H a=iI (.tup (ks.map kV))):(mD (ji P w)).is h ks a:=by
 obtain ⟨_,its,r,o,h1,h2,n,f⟩:=(show ObjOk P w H h a (.tup (ks.map kV)) from ok a _ e)
 exact ⟨o,its.toArray,n,h1,h2,f,by simpa using VX r⟩
theorem UJ (ok:HOk P w H h) (e:Rd H a (.dT kvs)):kvs.length<=sizeLine/\(a == lj)=iN /\
  ∃ xs,KT H kvs xs/\h.DictOfH (mD (ji P w)) a xs:=by
 obtain ⟨z,y,xs,r,o,es,ep,h1,h2,f,c,b⟩:=(show ObjOk P w H h a (.dT kvs) from qh1 ok e)
 refine ⟨z,y,xs,r,o,es,ep,h1,h2,f,c,λx hx=>?_,b⟩;have all:∀ {l:List (List Key×V)} {m:List (List Key×Addr×iL)},KT H l m->∀ x∈m,(mD (ji P w)).is h x.1 x.2.1:=by
  intro l m q
  induction q with
  | nil=>intro x hx; exact nomatch hx
  | @cons p q ps qs hq t ih=>
   intro x hx;rcases ac.mp hx with e | hx
   ·subst e;exact ga ok (by rw [<-hq.1]; exact hq.2.1)
   ·exact ih x hx
 exact all r x hx
theorem qkW (ok:HOk P w H h) (e:H a=iI (.dT kvs)):kvs.length<=sizeLine/\(a == lj)=iN /\
  ∃ xs,KT H kvs xs/\h.DictOfH (mD (ji P w)) a xs:=UJ ok (.inl e)
end
def DGet (H:Hp) (a:Addr) (y:V) (r:Option V):Prop:=
 (∃ kvs k,Rd H a (.dK kvs)/\y=kV k/\r=UI kvs k)\/∃ kvs k b,Rd H a (.dT kvs)/\y=.ref b/\H b=iI (.tup (k.map kV))/\r=UI kvs k
def DPut (H:Hp) (a:Addr) (y v:V) (H':Hp):Prop:=
 (∃ kvs k,H a=iI (.dK kvs)/\y=kV k/\kvs.length < sizeLine/\H'=upd H a (.dK (Ju kvs k v))) \/
 ∃ kvs k b,H a=iI (.dT kvs)/\y=.ref b/\H b=iI (.tup (k.map kV))/\kvs.length < sizeLine/\H'=upd H a (.dT (Ju kvs k v))
theorem DGet.k {kvs:List (Key×V)} {k:Key} (e:H a=iI (.dK kvs)):DGet H a (kV k) (UI kvs k):=.inl ⟨kvs,k,.inl e,rfl,rfl⟩
variable {v:V}
theorem DPut.k {kvs:List (Key×V)} {k:Key} (e:H a=iI (.dK kvs)) (hl:kvs.length < sizeLine):DPut H a (kV k) v (upd H a (.dK (Ju kvs k v))):=.inl ⟨kvs,k,e,rfl,hl,rfl⟩
variable {X:Cx} {pins:Pns} {σ:St} {s:iO} {A:iZ} {E Q:iL->iO->Prop} {h':Heap}
section
variable {r:iL}
theorem Inv.big (I:Inv X pins σ H s):lj < s.heap.objs.size:=by have h:iT < s.heap.objs.size:=(I.mod.glob.keeps I.bk).lt;exact eR (by decide) h
theorem qag (j:A.units+1 < lb) (I:Inv X pins σ H s) (g:DGet H a y (iI v)) (i:RelV y u) (h:∀ S s',Inv X pins σ H s'->RelV v S->Q S s'):iR (model X.prog X.w) A (getItem (.ref a) u) Q E s:=by
 rcases g with ⟨kvs,k,e,f,l⟩ | ⟨kvs,k,b,e,f,G,l⟩
 ·subst f;obtain ⟨z,hd,vs,rel,dd⟩:=VY I.hok e;obtain ⟨S,c,r⟩:=RelO.some_of (v:=v) (o:=mR vs k) (by rw [l]; exact rel.val k);exact wpAny_getItem_of (ZK i) dd.mapOf c (h S _ (I.tok _) r)
 ·subst f;cases (show u=bu b from i);obtain ⟨z,hd,xs,rel,dd⟩:=UJ I.hok e;obtain ⟨S,c,r⟩:=RelO.some_of (v:=v) (o:=(atKey xs k).map (·.2)) (by rw [l]; exact rel.val k);obtain ⟨p,hp,d⟩:=aO.mp c;refine wpAny_getItem_heap (lF j) (ga I.hok G) dd hp ?_;rw [d];exact h S _ (I.tok _) r
theorem qmD (d:A.units+1 < lb) (I:Inv X pins σ H s) (g:DGet H a y o) (c:RelV y u) (h:∀ s',Inv X pins σ H s'->Q (.bool o.isSome) s'):iR (model X.prog X.w) A (iW .In u (.ref a)) Q E s:=by
 rcases g with ⟨kvs,k,e,f,l⟩ | ⟨kvs,k,b,e,f,G,l⟩
 ·subst f;obtain ⟨z,hd,vs,rel,dd⟩:=VY I.hok e;refine wpAny_in_of (ZK c) hd dd.mapOf ?_;rw [<-(rel.val k).isSome_eq,<-l];exact h _ (I.tok _)
 ·subst f;cases (show u=bu b from c);obtain ⟨z,hd,xs,rel,dd⟩:=UJ I.hok e;refine wpAny_in_heap (lF d) (ga I.hok G) hd dd ?_;have q:=(rel.val k).isSome_eq;rw [fI] at q;rw [<-q,<-l];exact h _ (I.tok _)
theorem qfA (d:A.units+1 < lb) (I:Inv X pins σ H s) (g:DGet H a y o) (c:RelV y u) (h:∀ s',Inv X pins σ H s'->Q (.bool (!o.isSome)) s'):iR (model X.prog X.w) A (iW .NotIn u (.ref a)) Q E s:=by
 rcases g with ⟨kvs,k,e,f,l⟩ | ⟨kvs,k,b,e,f,G,l⟩
 ·subst f;obtain ⟨z,hd,vs,rel,dd⟩:=VY I.hok e;refine wpAny_notIn_of (ZK c) hd dd.mapOf ?_;rw [<-(rel.val k).isSome_eq,<-l];exact h _ (I.tok _)
 ·subst f;cases (show u=bu b from c);obtain ⟨z,hd,xs,rel,dd⟩:=UJ I.hok e;refine wpAny_notIn_heap (lF d) (ga I.hok G) hd dd ?_;have q:=(rel.val k).isSome_eq;rw [fI] at q;rw [<-q,<-l];exact h _ (I.tok _)
theorem qah {t':Nat} {o:HO} (I:Inv X pins σ H s) (m:Mut (H a)) (c:bK a s.heap h') (g:∃ q,h'.get? a=iI q) (new:ObjOk X.prog X.w (upd H a o) h' a o):Inv X pins σ (upd H a o) { s with heap:=h',toks:=t' }:=
 I.write (x:=a) (e:=a) m (.inl rfl) (λb q hb z=>(c.2 b hb).trans z) g new
theorem qai {H':Hp} {kvs:List (Key×V)} {vs:List (Key×iL)} (z:kvs.length<=sizeLine) (hd:(a == lj)=iN) (rel:KV kvs vs) (dd:h'.DictOf (ji P w) a vs):ObjOk P w H' h' a (.dK kvs):=⟨z,hd,vs,rel,dd⟩
theorem qaj {Q:Unit->iO->Prop} (t:A.units+1 < lb) (I:Inv X pins σ H s) (g:DPut H a y v H') (n:RelV y u) (o:RelV v r) (h:∀ s',Inv X pins σ H' s'->Q () s'):iR (model X.prog X.w) A (setItem (.ref a) u r) Q E s:=by
 rcases g with ⟨kvs,k,e,j,l,m⟩ | ⟨kvs,k,b,e,j,G,l,m⟩
 ·subst j m;obtain ⟨z,hd,vs,rel,dd⟩:=qkV I.hok e;have f:vs.length<=sizeLine:=by rw [<-rel.length]; exact z
  have hl:(Ju kvs k v).length<=sizeLine:=by have:=yB kvs k v; lia
  refine wpAny_setItem_pairs (hsz:=f) (ZK n) dd λh' d i=>h _ ?_;have x:∃ q,h'.get? a=iI q:=let ⟨q,_,_,hq,_⟩:=d; ⟨q,hq⟩
  exact qah I (by rw [e]; exact dn) i x (qai hl hd (rel.put k o) d)
 ·subst j m;cases (show u=bu b from n);obtain ⟨z,hd,xs,rel,dd⟩:=qkW I.hok e;have f:xs.length<=sizeLine:=by rw [<-fO rel]; exact z
  have hl:(Ju kvs k v).length<=sizeLine:=by have:=yB kvs k v; lia
  refine wpAny_setItem_heap (hsz:=f) (lF t) (ga I.hok G) dd λh' d i=>h _ ?_;obtain ⟨q,es,ep,hq,h2,D,C,_,B⟩:=d;refine qah I (by rw [e]; exact dn) i ⟨q,hq⟩ ⟨hl,hd,_,(rel.put k G o).keeps λc ys p=>?_,q,es,ep,hq,h2,D,C,B⟩;rw [qx (qkw p e (λz=>nomatch z))];exact p
end
section
variable {kvs:List (Key×V)} {k:Key}
theorem qkX (I:Inv X pins σ H s) (e:Rd H a (.dK kvs)) (h:∀ t s',Inv X pins σ H s'->Q (.int kvs.length t) s'):iR (model X.prog X.w) A (call (.builtin "len") [.ref a]) Q E s:=by obtain ⟨z,hd,vs,rel,dd⟩:=VY I.hok e;refine call_len_dict hd dd (by rw [<-rel.length]; rw [iY] at z; lia) ?_;rw [<-rel.length];exact h _ _ (I.tok _)
end
theorem UK (I:Inv X pins σ H s) (g:DGet H a y o):s.TypeIs (.ref a) "dict":=by
 rcases g with ⟨kvs,k,e,_,_⟩ | ⟨kvs,k,b,e,_,_,_⟩
 ·obtain ⟨_,_,vs,_,dd⟩:=VY I.hok e;exact dd.typeIs
 ·obtain ⟨_,_,xs,_,dd⟩:=UJ I.hok e;exact dd.typeIs
def qkY (td ty tv:TE):TS:=λD σ H=>tv σ H λv H1=>td σ H1 λx H2=>ty σ H2 λy c=>∃ a b,x=.ref a/\DPut c a y v b/\D.nx σ b
variable {pos:Pos}
section
variable {o i e value:Expr} {pos' tpos:Pos} {td ty tv:TE}
theorem qfB (k:X.A.units+1 < lb) (m:PE X o td) (hi:PE X i ty) (j:PE X value tv) (l:lm value (iI (.Subscript o i pos')) pos.line X.env=pure iN):PS X (.Assign [.Subscript o i pos'] value pos) (qkY td ty tv):=by refine ⟨?_⟩;intro pins s σ H D I h;refine wpAny_Assign_Subscript (thn (j pins s σ H _ I h) λr s1 ⟨v,H1,t,b,f⟩=>thn (m pins s1 σ H1 _ t f) λu s2 ⟨x,H2,p,d,e⟩=>thn (hi pins s2 σ H2 _ p e) λB s3 ⟨y,C,n,c,a,z,ex,g,q⟩=>?_) l;subst ex;obtain rfl:u=bu a:=d;exact qaj k n g c b λs4 w=>⟨σ,z,w,q⟩
end
theorem qc2 (h:Heap) (hb:lj < h.objs.size):ObjOk P w H (h.push { cls:=.type "dict",data:=.dict #[] }) h.objs.size (.dK []):=
 ⟨aZ _,beq_eq_false_iff_ne.mpr (be (aF hb)),[],.nil,Heap.DictOf.new h⟩
def qh2:TE:=λ_ H Q=>∀ p,H p=iK->Q (.ref p) (upd H p (.dK []))
section
theorem qc3:PE X (.Dict [] [] pos) qh2:=⟨λpins s σ H Q I h=>
 wpAny_Dict_empty ⟨.ref s.heap.objs.size,_,I.laid (a:=s.heap.objs.size) (o:=.dK []) (t':=s.toks) (λ_ _ q=>aa _ q) (ay _) (qc2 s.heap I.big),rfl,h _ (I.hok.fresh (ay _))⟩⟩
end
structure M2 (X:Cx) (o:Expr) (m:Str) (apos:Pos) (e f:Expr) (cpos:Pos):Prop where
 base:i7 o m X.env (eval o X.env)=eval o X.env
 few:((j3 cpos (iQ [e,f] X.env)).all (λx=>!x.1)&&(lI cpos (j8 [] X.env)).all (λx=>x.1.isSome)
  && decide (([e,f]:List Expr).length+([]:List j9).length+(if ([]:List j9).isEmpty then 0 else 1) < 30))=iM
 line:(apos.endLine == cpos.line)=iM
 trees:j3 cpos (iQ [e,f] X.env)=[(iN,eval e X.env),(iN,eval f X.env)]
def IsD (H:Hp) (a:Addr):Prop:=(∃ kvs,Rd H a (.dK kvs))\/∃ kvs,Rd H a (.dT kvs)
theorem qh3 (I:Inv X pins σ H s) (d:IsD H a):s.TypeIs (.ref a) "dict"/\(∀ b,bu a=.ref b->∃ o,s.heap.get? b=iI o/\o.dict=iK)/\(a == lj)=false:=by
 rcases d with ⟨kvs,e⟩ | ⟨kvs,e⟩
 ·obtain ⟨_,hd,vs,_,dd⟩:=VY I.hok e;refine ⟨dd.typeIs,λb q=>?_,hd⟩;cases q;obtain ⟨o,_,_,h1,h2,_⟩:=dd;exact ⟨o,h1,h2.2.1⟩
 ·obtain ⟨_,hd,xs,_,dd⟩:=UJ I.hok e;refine ⟨dd.typeIs,λb q=>?_,hd⟩;cases q;obtain ⟨o,_,_,h1,h2,_⟩:=dd;exact ⟨o,h1,h2.2.1⟩
section
variable {r:iL}
theorem qh4 (i:A.units+1 < lb) (I:Inv X pins σ H s) (g:DGet H a y o) (c:RelV y u) (rd:RelV d r) (h:∀ S s',Inv X pins σ H s'->RelV (o.getD d) S->Q S s'):iR (model X.prog X.w) A (call (.builtin "dict.get") [.ref a,u,r]) Q E s:=by
 rcases g with ⟨kvs,k,e,f,l⟩ | ⟨kvs,k,b,e,f,G,l⟩
 ·subst f;obtain ⟨z,hd,vs,rel,dd⟩:=VY I.hok e;refine call_meetsIn eT dd.typeIs PySem.F.entry_dict_get (PySem.F.args_dict_get_3 _ _ _) (meets_dict_get_default (ji X.prog X.w) a (ZK c) hd r) ⟨_,dd.mapOf,h _ _ (I.tok _) ?_⟩;rw [l];exact (rel.val k).getD rd
 ·subst f;cases (show u=bu b from c);obtain ⟨z,hd,xs,rel,dd⟩:=UJ I.hok e;refine call_meetsIn eT dd.typeIs PySem.F.entry_dict_get (PySem.F.args_dict_get_3 _ _ _) (meetsH_dict_get_default (mD (ji X.prog X.w)) a b hd r) ⟨lF i,k,xs,ga I.hok G,dd,h _ _ (I.tok _) ?_⟩;rw [l];exact (rel.val k).getD rd
end
def qh5 (td ty tx:TE):TE:=λσ H Q=>td σ H λx H1=>∃ a,x=.ref a/\IsD H1 a/\ty σ H1 λy H2=>tx σ H2 λz b=>∃ o,DGet b a y o/\Q (o.getD z) b
section
variable {o e f:Expr} {apos cpos:Pos} {td ty tx:TE}
theorem qc4 (l:X.A.units+1 < lb) (n:PE X o td) (t:PE X e ty) (p:PE X f tx) (m:M2 X o "get" apos e f cpos):PE X (.Call (.Attribute o "get" apos) [e,f] [] cpos) (qh5 td ty tx):=by
 refine ⟨?_⟩;intro pins s σ H Q I h;refine wpAny_Call_method m.base m.few m.line PySem.F.plainAttrs_dict eT PySem.F.type_dict_get (thn (n pins s σ H _ I h) λu s1 ⟨x,H1,b,i,a,ex,d,k⟩=>?_);subst ex;obtain rfl:u=bu a:=i;obtain ⟨t1,t2,_⟩:=qh3 b d;refine ⟨t1,t2,?_⟩;rw [m.trees];refine eO rfl (dP (et (thn (t pins s1 σ H1 _ b k) λE s2 ⟨y,H2,B,c,j⟩=>
  et (thn (p pins s2 σ H2 _ B j) λfv s3 ⟨z,C,v,rz,D,g,q⟩=>fH ?_))))
 exact qh4 l v g c rz λS s4 w r=>⟨_,C,w,r,q⟩
end
section
theorem qak:wW X (.builtin "len") (λxs H Q=>∃ a kvs,xs=[V.ref a]/\H a=iI (.dK kvs)/\Q (.int kvs.length) H):=by intro pins s σ H xs us Q I r h;obtain ⟨a,kvs,rfl,f,q⟩:=h;obtain ⟨u,rfl,A⟩:=we r;cases A;exact qkX I (.inl f) λt s' b=>⟨.int kvs.length,H,b,⟨t,rfl⟩,q⟩
end
end L2
namespace L2.D2
open PySem PySem.Spec PyProof.Rows
variable {b:List Nat}
theorem va {a:List Nat} (h:(a.all λi=>decide (i∈b))=iM):∀ i∈a,i∈b:=λi hi=>Ae (aI.mp h i hi)
theorem xz {i:Nat} (h:decide (i∈b)=iN):i∉b:=of_decide_eq_false h
noncomputable def UL:Expr->Bool
 | .Starred ..=>iN
 | _=>iM
variable {e:Expr} {env:Env}
theorem jF {es:List Expr} (h:UL e=iM):iQ (e::es) env=(iN,eval e env)::iQ es env:=by cases e <;> first | rfl | cases h
theorem qD (h:UL e=iM):iQ [e] env=[(iN,eval e env)]:=jF h
theorem qc5 {a b:Expr} (h:UL a=iM) (k:UL b=iM):iQ [a,b] env=[(iN,eval a env),(iN,eval b env)]:=by rw [jF h,qD k]
variable {pos:Pos}
theorem xA:∀ {es:List Expr},es.all UL=iM->(j3 pos (iQ es env)).any (·.1)=iN
 | [],_=>rfl
 | e::es,h=>by rw [fP,aR] at h;rw [jF h.1];exact xA h.2
theorem wg (h:UL e=iM):((j3 pos (iQ [e] env)).all (λx=>!x.1)&&(lI pos (j8 [] env)).all (λx=>x.1.isSome)
   && decide ([e].length+([]:List j9).length+(if ([]:List j9).isEmpty then 0 else 1) < 30))=true:=by rw [qD h]; rfl
inductive D where
 | non | bl (b:Bool) | int (i:Int) | str (x:Str)
 | tup (xs:List D) | lst (xs:List D) | dct (kvs:List (Key×D)) | raw (v:V)
 | xcp (C:Addr) | ins (C:Addr) (fs:List (Str×D)) | at_ (a:Addr) (xs:List D)
 deriving Inhabited
abbrev Sl:=List (Option D)
inductive Out (α:Type) where
 | ok (a:α) | exc (c:Str) (o:Sl) | bad
variable {α β:Type}
noncomputable def Out.bind (o:Out α) (k:α->Out β):Out β:=match o with
 | .ok a=>k a
 | .exc c o=>.exc c o
 | .bad=>.bad
@[simp] theorem Out.oh (a:α) (k:α->Out β):(Out.ok a).bind k=k a:=rfl
@[simp] theorem Out.exc_bind (c:Str) (o:Sl) (k:α->Out β):(Out.exc c o:Out α).bind k=.exc c o:=rfl
@[simp] theorem Out.bad_bind (k:α->Out β):(Out.bad:Out α).bind k=.bad:=rfl
noncomputable def qmE (a C:Addr):HO:=.ext λh=>∃ o vs,h.get? a=iI o/\o.cls=.ref C/\o.data=.fields vs
mutual
/-- the value v is the data d,all its objects in F -/
inductive Is (K:Frag) (F:Hp):V->D->Prop
 | non:Is K F .non .non
 | bl (b:Bool):Is K F (.bl b) (.bl b)
 | int (i:Int):Is K F (.int i) (.int i)
 | str {x:Str} (h:x.length<=sizeLine):Is K F (.str x) (.str x)
 | tup {a:Addr} {xs:List V} {ds:List D} (h:SqT K F a xs) (t:IsL K F xs ds):Is K F (.ref a) (.tup ds)
 | lst {a:Addr} {xs:List V} {ds:List D} (h:SqL K F a xs) (t:IsL K F xs ds):Is K F (.ref a) (.lst ds)
 | dct {a:Addr} {kv:List (Key×V)} {kvs:List (Key×D)} (h:F a=iI (.dK kv)) (t:IsK K F kv kvs):Is K F (.ref a) (.dct kvs)
 | raw (v:V):Is K F v (.raw v)
 | xcp {a C:Addr} (h:F a=iI (qmE a C)):Is K F (.ref a) (.xcp C)
 | ins {a C dx:Addr} {fv:List (Str×V)} {fs:List (Str×D)} (h:F a=iI (.ins C dx fv)) (t:IsF K F fv fs):Is K F (.ref a) (.ins C fs)
 | at_ {a:Addr} {xs:List V} {ds:List D} (h:SqL K F a xs) (t:IsL K F xs ds):Is K F (.ref a) (.at_ a ds)
inductive IsL (K:Frag) (F:Hp):List V->List D->Prop
 | nil:IsL K F [] []
 | cons {v:V} {d:D} {vs:List V} {ds:List D} (h:Is K F v d) (t:IsL K F vs ds):IsL K F (v::vs) (d::ds)
inductive IsK (K:Frag) (F:Hp):List (Key×V)->List (Key×D)->Prop
 | nil:IsK K F [] []
 | cons {k:Key} {v:V} {d:D} {vs:List (Key×V)} {ds:List (Key×D)} (h:Is K F v d) (t:IsK K F vs ds):IsK K F ((k,v)::vs) ((k,d)::ds)
inductive IsF (K:Frag) (F:Hp):List (Str×V)->List (Str×D)->Prop
 | nil:IsF K F [] []
 | cons {k:Str} {v:V} {d:D} {vs:List (Str×V)} {ds:List (Str×D)} (h:Is K F v d) (t:IsF K F vs ds):IsF K F ((k,v)::vs) ((k,d)::ds)
end
theorem jl {K:Frag} {H H':Hp} {a:Addr} {xs:List V} (e:Same H H') (h:SqT K H a xs):SqT K H' a xs:=by
 rcases h with (h | ⟨o,h⟩) | h;·exact .inl (.inl (e _ _ h))
 ·exact .inl (.inr ⟨o,e _ _ h⟩)
 ·exact .inr h
mutual
theorem Is.mono {K:Frag} {F F':Hp} (e:Same F F'):∀ {v:V} {d:D},Is K F v d->Is K F' v d
 | _,_,.non=>.non
 | _,_,.bl b=>.bl b
 | _,_,.int i=>.int i
 | _,_,.str h=>.str h
 | _,_,.tup h t=>.tup (jl e h) (IsL.mono e t)
 | _,_,.lst h t=>.lst (e.seq h) (IsL.mono e t)
 | _,_,.dct h t=>.dct (e _ _ h) (IsK.mono e t)
 | _,_,.raw v=>.raw v
 | _,_,.xcp h=>.xcp (e _ _ h)
 | _,_,.ins h t=>.ins (e _ _ h) (IsF.mono e t)
 | _,_,.at_ h t=>.at_ (e.seq h) (IsL.mono e t)
theorem IsL.mono {K:Frag} {F F':Hp} (e:Same F F'):∀ {vs:List V} {ds:List D},IsL K F vs ds->IsL K F' vs ds
 | _,_,.nil=>.nil
 | _,_,.cons h t=>.cons (Is.mono e h) (IsL.mono e t)
theorem IsK.mono {K:Frag} {F F':Hp} (e:Same F F'):∀ {vs:List (Key×V)} {ds:List (Key×D)},IsK K F vs ds->IsK K F' vs ds
 | _,_,.nil=>.nil
 | _,_,.cons h t=>.cons (Is.mono e h) (IsK.mono e t)
theorem IsF.mono {K:Frag} {F F':Hp} (e:Same F F'):∀ {vs:List (Str×V)} {ds:List (Str×D)},IsF K F vs ds->IsF K F' vs ds
 | _,_,.nil=>.nil
 | _,_,.cons h t=>.cons (Is.mono e h) (IsF.mono e t)
end
theorem IsL.length {K:Frag} {F:Hp}:∀ {vs:List V} {ds:List D},IsL K F vs ds->vs.length=ds.length
 | _,_,.nil=>rfl
 | _,_,.cons _ t=>congrArg (·+1) (IsL.length t)
theorem IsL.get {K:Frag} {F:Hp}:∀ {vs:List V} {ds:List D} {i:Nat} {v:V},IsL K F vs ds->vs[i]?=iI v->∃ d,ds[i]?=iI d/\Is K F v d
 | _,_,_,_,.nil,e=>by simp at e
 | _,_,0,_,.cons h _,e=>by simp at e; subst e; exact ⟨_,rfl,h⟩
 | _,_,i+1,v,.cons _ t,e=>by obtain ⟨d,h1,h2⟩:=IsL.get (i:=i) (v:=v) t (by simpa using e);exact ⟨d,by simpa using h1,h2⟩
theorem IsL.getD {K:Frag} {F:Hp}:∀ {vs:List V} {ds:List D} {i:Nat} {d:D},IsL K F vs ds->ds[i]?=iI d->∃ v,vs[i]?=iI v/\Is K F v d
 | _,_,_,_,.nil,e=>by simp at e
 | _,_,0,_,.cons h _,e=>by simp at e; subst e; exact ⟨_,rfl,h⟩
 | _,_,i+1,v,.cons _ t,e=>by obtain ⟨d,h1,h2⟩:=IsL.getD (i:=i) (d:=v) t (by simpa using e);exact ⟨d,by simpa using h1,h2⟩
theorem IsL.append {K:Frag} {F:Hp}:∀ {vs ws:List V} {ds es:List D},IsL K F vs ds->IsL K F ws es->IsL K F (vs++ws) (ds++es)
 | _,_,_,_,.nil,s=>s
 | _,_,_,_,.cons h t,s=>.cons h (IsL.append t s)
theorem IsL.drop {K:Frag} {F:Hp}:∀ {vs:List V} {ds:List D} (n:Nat),IsL K F vs ds->IsL K F (vs.drop n) (ds.drop n)
 | _,_,0,r=>r
 | _,_,_+1,.nil=>.nil
 | _,_,n+1,.cons _ t=>IsL.drop n t
theorem IsL.take {K:Frag} {F:Hp}:∀ {vs:List V} {ds:List D} (n:Nat),IsL K F vs ds->IsL K F (vs.take n) (ds.take n)
 | _,_,0,_=>.nil
 | _,_,_+1,.nil=>.nil
 | _,_,n+1,.cons h t=>.cons h (IsL.take n t)
theorem IsL.set {K:Frag} {F:Hp} {v:V} {d:D} (h:Is K F v d):∀ {vs:List V} {ds:List D} (i:Nat),IsL K F vs ds->IsL K F (vs.set i v) (ds.set i d)
 | _,_,_,.nil=>.nil
 | _,_,0,.cons _ t=>.cons h t
 | _,_,i+1,.cons q t=>.cons q (IsL.set h i t)
def OwnIs (K:Frag) (F H:Hp) (a:Addr):D->Prop
 | .lst ds=>∃ xs,H a=iI (.lst xs)/\IsL K F xs ds
 | .dct kvs=>∃ kv,H a=iI (.dK kv)/\IsK K F kv kvs
 | .ins C fs=>∃ dx fv,H a=iI (.ins C dx fv)/\IsF K F fv fs
 | .at_ b ds=>b=a/\∃ xs,H a=iI (.lst xs)/\IsL K F xs ds
 | _=>False
def TopIs (K:Frag) (F H:Hp) (v:V) (d:D):Prop:=Is K F v d\/∃ a,v=.ref a/\OwnIs K F H a d
inductive Mo where
 | sh | fr | any
def MoIs (K:Frag) (m:Mo) (H0 F H:Hp) (v:V) (d:D):Prop:=match m with
 | .sh=>Is K F v d
 | .fr=>∃ a,v=.ref a/\H0 a=iK/\F a=iK/\OwnIs K F H a d
 | .any=>TopIs K F H v d
theorem MoIs.top {K:Frag} {m:Mo} {H0 F H:Hp} {v:V} {d:D} (h:MoIs K m H0 F H v d):TopIs K F H v d:=by
 cases m with
 | sh=>exact .inl h
 | fr=>obtain ⟨a,e,_,_,o⟩:=h; exact .inr ⟨a,e,o⟩
 | any=>exact h
structure Chg (A:Addr->Prop) (F H F' H':Hp):Prop where
 keep:∀ b o,H b=iI o->¬A b->H' b=iI o
 stay:∀ b,H b≠iK->H' b≠iK
 grow:Same F F'
 new:∀ b,F' b≠iK->F b≠iK\/H b=iK\/A b
theorem Chg.refl {A:Addr->Prop} {F H:Hp}:Chg A F H F H:=⟨λ_ _ e _=>e,λ_ h=>h,Same.refl _,λ_ h=>.inl h⟩
theorem Chg.trans {A A1:Addr->Prop} {F H F1 H1 c H2:Hp} (a:Chg A F H F1 H1) (b:Chg A1 F1 H1 c H2) (hA:∀ x,A1 x->A x\/H x=iK):Chg A F H c H2 where
 keep:=λx o e n=>b.keep x o (a.keep x o e n) λz=>(hA x z).elim n λq=>by rw [e] at q; cases q
 stay:=λx h=>b.stay x (a.stay x h)
 grow:=a.grow.trans b.grow
 new:=λx h=>by
  rcases b.new x h with q | q | q;·exact a.new x q
  ·refine .inr (.inl ?_);cases e:H x with
   | none=>rfl
   | some o=>exact absurd q (a.stay x (by rw [e]; simp))
  ·rcases hA x q with z | z;·exact .inr (.inr z)
   ·exact .inr (.inl z)
theorem Chg.trans' {A:Addr->Prop} {F H F1 H1 c H2:Hp} (a:Chg A F H F1 H1) (b:Chg A F1 H1 c H2):Chg A F H c H2:=a.trans b λ_ z=>.inl z
theorem Chg.mono {A c:Addr->Prop} {F H F1 H1:Hp} (a:Chg A F H F1 H1) (h:∀ x,A x->c x):Chg c F H F1 H1:=
 ⟨λb o e n=>a.keep b o e λz=>n (h b z),a.stay,a.grow,λb z=>(a.new b z).imp id (Or.imp id (h b))⟩
abbrev No:Addr->Prop:=λ_=>False
theorem Chg.ofNo {A:Addr->Prop} {F H F1 H1:Hp} (a:Chg No F H F1 H1):Chg A F H F1 H1:=a.mono λ_ z=>z.elim
structure Rep (K:Frag) (own:List Nat) (F H:Hp) (σ:St) (ρ:Sl):Prop where
 sub:Same F H
 len:σ.length=ρ.length
 val:∀ i d,i∉own->ρ[i]?=iI (iI d)->∃ v,σ[i]?=iI (iI v)/\Is K F v d
 ow:∀ i d,i∈own->ρ[i]?=iI (iI d)->∃ a,σ[i]?=iI (iI (.ref a))/\F a=iK/\OwnIs K F H a d
 opn:∀ i,i∈own->∃ d,ρ[i]?=iI (iI d)
 dis:∀ i j a,i∈own->j∈own->σ[i]?=iI (iI (V.ref a))->σ[j]?=iI (iI (V.ref a))->i=j
def OA (own:List Nat) (σ:St):Addr->Prop:=λb=>∃ i∈own,σ[i]?=iI (iI (V.ref b))
theorem OwnIs.there {K:Frag} {F H:Hp} {a:Addr} {d:D} (h:OwnIs K F H a d):H a≠none:=by
 cases d with
 | lst ds=>obtain ⟨xs,e,_⟩:=h; rw [e]; simp
 | dct ds=>obtain ⟨xs,e,_⟩:=h; rw [e]; simp
 | ins C fs=>obtain ⟨dx,xs,e,_⟩:=h; rw [e]; simp
 | at_ b ds=>obtain ⟨_,xs,e,_⟩:=h; rw [e]; simp
 | _=>exact h.elim
theorem OwnIs.grow {K:Frag} {F H F' H':Hp} {a:Addr} {d:D} (h:OwnIs K F H a d) (g:Same F F') (k:∀ o,H a=iI o->H' a=iI o):OwnIs K F' H' a d:=by
 cases d with
 | lst ds=>obtain ⟨xs,e,t⟩:=h; exact ⟨xs,k _ e,t.mono g⟩
 | dct ds=>obtain ⟨xs,e,t⟩:=h; exact ⟨xs,k _ e,t.mono g⟩
 | ins C fs=>obtain ⟨dx,xs,e,t⟩:=h; exact ⟨dx,xs,k _ e,t.mono g⟩
 | at_ b ds=>obtain ⟨G,xs,e,t⟩:=h; exact ⟨G,xs,k _ e,t.mono g⟩
 | _=>exact h.elim
theorem Rep.OA_there {K:Frag} {own:List Nat} {F H:Hp} {σ:St} {ρ:Sl} (r:Rep K own F H σ ρ) {b:Addr} (h:OA own σ b):H b≠iK/\F b=none:=by obtain ⟨i,hi,e⟩:=h;obtain ⟨d,hd⟩:=r.opn i hi;obtain ⟨a,e1,c,o⟩:=r.ow i d hi hd;rw [e] at e1;cases e1;exact ⟨o.there,c⟩
theorem Rep.grow {K:Frag} {own:List Nat} {F H F' H':Hp} {σ:St} {ρ:Sl} (r:Rep K own F H σ ρ) (c:Chg No F H F' H') (s:Same F' H'):Rep K own F' H' σ ρ where
 sub:=s
 len:=r.len
 val:=λi d hi e=>let ⟨v,h1,h2⟩:=r.val i d hi e; ⟨v,h1,h2.mono c.grow⟩
 ow:=λi d hi e=>by
  obtain ⟨a,h1,h2,f⟩:=r.ow i d hi e;refine ⟨a,h1,?_,f.grow c.grow λo q=>c.keep a o q λz=>z⟩;cases q:F' a with
  | none=>rfl
  | some o=>
   rcases c.new a (by rw [q]; simp) with z | z | z;·exact absurd h2 z
   ·exact absurd z f.there
   ·exact z.elim
 opn:=r.opn
 dis:=r.dis
theorem MoIs.grow {K:Frag} {A:Addr->Prop} {m:Mo} {H0 F H F' H':Hp} {v:V} {d:D} (h:MoIs K m H0 F H v d) (hm:m≠.any) (c:Chg A F H F' H') (hA:∀ x,A x->H0 x≠iK):MoIs K m H0 F' H' v d:=by
 cases m with
 | sh=>exact Is.mono c.grow h
 | fr=>
  obtain ⟨a,e,b,f,o⟩:=h;have n:¬A a:=λz=>hA a z b;refine ⟨a,e,b,?_,o.grow c.grow λo q=>c.keep a o q n⟩;cases q:F' a with
  | none=>rfl
  | some u=>
   rcases c.new a (by rw [q]; simp) with z | z | z;·exact absurd f z
   ·exact absurd z o.there
   ·exact absurd z n
 | any=>exact absurd rfl hm
def qcG (K:Frag) (io:List Nat) (F H:Hp) (σ:St) (ρ:Sl):Prop:=∀ i∈io,∃ d a,ρ[i]?=iI (iI d)/\σ[i]?=iI (iI (V.ref a))/\F a=iK/\OwnIs K F H a d
theorem Rep.ioIs {K:Frag} {own io:List Nat} {F H:Hp} {σ:St} {ρ:Sl} (r:Rep K own F H σ ρ) (h:∀ i∈io,i∈own):qcG K io F H σ ρ:=λi hi=>by obtain ⟨d,hd⟩:=r.opn i (h i hi);obtain ⟨a,h1,h2,f⟩:=r.ow i d (h i hi) hd;exact ⟨d,a,hd,h1,h2,f⟩
structure Ct where
 K:Frag
 cv:Str->iL
 E:XK
 io:List Nat
 mr:Mo
 ol:List Nat
 ox:List Nat
 oxs:∀ i∈ox,i∈io
abbrev VZ:=Out (D×Sl)
def Po (C:Ct) (own:List Nat) (m:Mo) (σ:St) (F H:Hp) (r:VZ) (Q:VK):Prop:=match r with
 | .ok (d,ρ')=>∀ v F' H',Rep C.K own F' H' σ ρ'->Chg (OA own σ) F H F' H'->MoIs C.K m H F' H' v d->Q v H'
 | .exc c ρ'=>∀ F' H',Same F' H'->qcG C.K C.ox F' H' σ ρ'->Chg (OA own σ) F H F' H'->C.E (C.cv c) iK H'
 | .bad=>False
abbrev qU:=Sl->VZ
def tE (C:Ct) (own:List Nat) (m:Mo) (f:qU):TE:=λσ H Q=>∃ F ρ,Rep C.K own F H σ ρ/\Po C own m σ F H (f ρ) Q
theorem MoIs.back {K:Frag} {m:Mo} {A:Addr->Prop} {H0 F H F1 H1:Hp} {f Ha:Hp} {v:V} {d:D} (c:Chg A f H0 F1 H1) (h:MoIs K m H1 F H v d):MoIs K m H0 F H v d:=by
 cases m with
 | sh=>exact h
 | fr=>
  obtain ⟨a,e,b,r⟩:=h;refine ⟨a,e,?_,r⟩;cases q:H0 a with
  | none=>rfl
  | some o=>exact absurd b (c.stay a (by rw [q]; simp))
 | any=>exact h
theorem Po.shift {C:Ct} {own:List Nat} {m:Mo} {σ:St} {F H F1 H1:Hp} {r:VZ} {Q:VK} (h:Po C own m σ F H r Q) (c:Chg (OA own σ) F H F1 H1):Po C own m σ F1 H1 r Q:=by
 cases r with
 | ok p=>exact λv F' H' a T mo=>h v F' H' a (c.trans' T) (MoIs.back (Ha:=H1) c mo)
 | exc x=>exact λF' H' s io T=>h F' H' s io (c.trans' T)
 | bad=>exact h.elim
theorem Po.bind {C:Ct} {own:List Nat} {m ma:Mo} {σ:St} {F H:Hp} {o:VZ} {k:D×Sl->VZ} {Q R:VK} (hp:Po C own m σ F H (o.bind k) Q)
  (h:∀ v F1 H1 d ρ1,Rep C.K own F1 H1 σ ρ1->Chg (OA own σ) F H F1 H1->MoIs C.K ma H F1 H1 v d->Po C own m σ F1 H1 (k (d,ρ1)) Q->R v H1):Po C own ma σ F H o R:=by
 cases o with
 | ok p=>obtain ⟨d,ρ1⟩:=p;exact λv F1 H1 a c mo=>h v F1 H1 d ρ1 a c mo (Po.shift (show Po C own m σ F H (k (d,ρ1)) Q from hp) c)
 | exc x=>exact hp
 | bad=>exact hp.elim
def PoV (C:Ct) (m:Mo) (F H:Hp) (r:Out D) (Q:VK):Prop:=match r with
 | .ok d=>∀ v F' H',Same F' H'->Chg No F H F' H'->MoIs C.K m H F' H' v d->Q v H'
 | _=>False
def OpD (X:Cx) (C:Ct) (m:Mo) (f:iL->iL->Sem iL) (g:D->D->Out D):Prop:=
 OpR X f (λx y H Q=>∃ F dx d,Same F H/\TopIs C.K F H x dx/\TopIs C.K F H y d/\PoV C m F H (g dx d) Q)
def UnD (X:Cx) (C:Ct) (m:Mo) (f:iL->Sem iL) (g:D->Out D):Prop:=
 UnR X f (λx H Q=>∃ F dx,Same F H/\TopIs C.K F H x dx/\PoV C m F H (g dx) Q)
noncomputable def Out.plain {α:Type}:Out α->Out α
 | .ok a=>.ok a
 | _=>.bad
theorem PoV.of {C:Ct} {own:List Nat} {m:Mo} {σ:St} {F H:Hp} {o:Out D} {ρ:Sl} {Q:VK} (a:Rep C.K own F H σ ρ) (h:Po C own m σ F H (o.plain.bind λd=>.ok (d,ρ)) Q):PoV C m F H o Q:=by
 cases o with
 | ok d=>exact λv F' H' s c mo=>h v F' H' (a.grow c s) c.ofNo mo
 | exc c=>exact h.elim
 | bad=>exact h.elim
noncomputable def d2 (g:D->D->Out D) (fa fb:qU):qU:=λρ=>(fa ρ).bind λp=>(fb p.2).bind λq=>(g p.1 q.1).plain.bind λd=>.ok (d,q.2)
noncomputable def d1 (g:D->Out D) (fa:qU):qU:=λρ=>(fa ρ).bind λp=>(g p.1).plain.bind λd=>.ok (d,p.2)
section
variable {X:Cx} {C:Ct} {own:List Nat} {a b:Expr} {fa fb:qU} {m ma mb:Mo} {pos:Pos}
theorem Wa {g:D->D->Out D} {σ:St} {H:Hp} {Q:VK} (f:ma≠.any) (h:tE C own m (d2 g fa fb) σ H Q):tE C own ma fa σ H λx H1=>tE C own mb fb σ H1 λy H2=>∃ F dx i,Same F H2/\TopIs C.K F H2 x dx/\TopIs C.K F H2 y i/\PoV C m F H2 (g dx i) Q:=by obtain ⟨F,ρ,p,h⟩:=h;refine ⟨F,ρ,p,Po.bind h λv F1 H1 d ρ1 a k c h1=>⟨F1,ρ1,a,Po.bind h1 λw j H2 e ρ2 r c2 b h2=>?_⟩⟩;exact ⟨j,d,e,r.sub,(c.grow f c2 λx z=>(p.OA_there z).1).top,b.top,PoV.of r h2⟩
theorem qal {g:D->Out D} {σ:St} {H:Hp} {Q:VK} (h:tE C own m (d1 g fa) σ H Q):tE C own ma fa σ H λx H1=>∃ F dx,Same F H1/\TopIs C.K F H1 x dx/\PoV C m F H1 (g dx) Q:=by obtain ⟨F,ρ,r,h⟩:=h;refine ⟨F,ρ,r,Po.bind h λv F1 H1 d ρ1 a k c h1=>?_⟩;exact ⟨F1,d,a.sub,c.top,PoV.of a h1⟩
theorem jE {e:Expr} {t t':TE} (h:PE X e t) (i:∀ σ H Q,t' σ H Q->t σ H Q):PE X e t':=⟨λpins s σ H Q I w=>h pins s σ H Q I (i σ H Q w)⟩
theorem qc6 {e:Expr} {t t':TT} (h:PT X e t) (i:∀ σ H Q,t' σ H Q->t σ H Q):PT X e t':=⟨λpins s σ H Q I w=>h pins s σ H Q I (i σ H Q w)⟩
theorem qZ {op:Operator} {g:D->D->Out D} (l:OpD X C m (j6 op) g) (c:PE X a (tE C own ma fa)) (hb:PE X b (tE C own mb fb)) (f:ma≠.any:=by decide):PE X (.BinOp a op b pos) (tE C own m (d2 g fa fb)):=
 jE (qkH l c hb) λ_ _ _ h=>Wa f h
theorem vA {op:CmpOp} {g:D->D->Out D} (l:OpD X C m (iW op) g) (c:PE X a (tE C own ma fa)) (hb:PE X b (tE C own mb fb)) (f:ma≠.any:=by decide)
  (k:lQ op b=false:=by first | exact qes _ | with_unfolding_all rfl):PE X (.Compare a [op] [b] pos) (tE C own m (d2 g fa fb)):=
 jE (qfj l c hb k) λ_ _ _ h=>Wa f h
theorem qkZ {op:UnaryOp} {g:D->Out D} (l:UnD X C m (unaryOp op) g) (f:PE X a (tE C own ma fa)):PE X (.UnaryOp op a pos) (tE C own m (d1 g fa)):=
 jE (qkI l f) λ_ _ _ h=>qal h
end
instance:DecidableEq Mo:=λa b=>by cases a <;> cases b <;> first | exact isTrue rfl | exact isFalse (by intro h; cases h)
theorem qc7 {K:Frag} {own:List Nat} {H0 F H:Hp} {σ:St} {ρ:Sl} {v:V} {d:D} (r:Rep K own F H σ ρ) (hA:∀ b,OA own σ b->H0 b≠iK) (h:MoIs K .fr H0 F H v d):∃ F',Rep K own F' H σ ρ/\Same F F'/\Is K F' v d/\∀ b,F' b≠iK->F b≠iK\/H0 b=none:=by
 obtain ⟨a,rfl,f,g,o⟩:=h;obtain ⟨u,hu⟩:∃ u,H a=iI u:=by
  cases q:H a with
  | none=>exact absurd q o.there
  | some u=>exact ⟨u,rfl⟩
 have gr:Same F (upd F a u):=λb w e=>by rw [qx (qF e g)]; exact e
 have y:Same (upd F a u) H:=λb w e=>by
  by_cases q:b=a;·subst q; rw [qm] at e; cases e; exact hu
  ·rw [qx q] at e; exact r.sub b w e
 refine ⟨upd F a u,⟨y,r.len,λi d hi e=>?_,λi d hi e=>?_,r.opn,r.dis⟩,gr,?_,λb hb=>?_⟩;·obtain ⟨v,h1,h2⟩:=r.val i d hi e;exact ⟨v,h1,h2.mono gr⟩
 ·obtain ⟨c,h1,h2,j⟩:=r.ow i d hi e;refine ⟨c,h1,?_,j.grow gr λ_ q=>q⟩;have n:c≠a:=λq=>by subst q; exact hA c ⟨i,hi,h1⟩ f
  rw [qx n]; exact h2
 ·cases d with
  | lst ds=>obtain ⟨xs,e,t⟩:=o; rw [hu] at e; cases e; exact .lst (.inl (.inl qm)) (t.mono gr)
  | dct ds=>obtain ⟨xs,e,t⟩:=o; rw [hu] at e; cases e; exact .dct qm (t.mono gr)
  | ins C fs=>obtain ⟨dx,xs,e,t⟩:=o; rw [hu] at e; cases e; exact .ins qm (t.mono gr)
  | at_ b ds=>obtain ⟨G,xs,e,t⟩:=o; rw [hu] at e; cases e; subst G; exact .at_ (.inl (.inl qm)) (t.mono gr)
  | _=>exact o.elim
 ·by_cases q:b=a;·exact .inr (by rw [q]; exact f)
  ·rw [qx q] at hb; exact .inl hb
theorem Po.toSh {C:Ct} {own:List Nat} {m:Mo} {σ:St} {F H:Hp} {d:Sl} {r:VZ} {Q:VK} (f:Rep C.K own F H σ d) (hm:m≠.any) (h:Po C own .sh σ F H r Q):Po C own m σ F H r Q:=by
 cases r with
 | ok p=>
  intro v F' H' a c mo;cases m with
  | sh=>exact h v F' H' a c mo
  | fr=>
   obtain ⟨g,e,gr,is,n⟩:=qc7 a (λb z=>(f.OA_there z).1) mo;refine h v g H' e ⟨c.keep,c.stay,c.grow.trans gr,λb hb=>?_⟩ is;rcases n b hb with z | z;·exact c.new b z
   ·exact .inr (.inl z)
  | any=>exact absurd rfl hm
 | exc x=>exact h
 | bad=>exact h.elim
section
variable {X:Cx} {C:Ct} {own:List Nat} {a b e:Expr} {f fa fb:qU} {m ma mb:Mo} {pos:Pos}
theorem wX (h:PE X e (tE C own m f)) (hm:m≠.any):PE X e (tE C own .sh f):=jE h λ_ _ _ ⟨F,ρ,a,p⟩=>⟨F,ρ,a,p.toSh a hm⟩
noncomputable def qe (i:Nat):qU:=λρ=>match ρ[i]? with
 | some (iI d)=>.ok (d,ρ)
 | _=>.bad
noncomputable def dC (d:D):qU:=λρ=>.ok (d,ρ)
theorem qh6 {i:Nat} {x:Str} (b:X.N[i]?=iI x) (c:Vis X.env.scope x) (l:i∉own) (hd:Dbg x:=by decide) (a:Cdk x:=by decide):PE X (.Name x pos) (tE C own .sh (qe i)):=by
 refine jE (wQ b c hd a) λσ H Q ⟨F,ρ,r,h⟩=>?_;unfold qe at h;cases e:ρ[i]? with
 | none=>rw [e] at h; exact h.elim
 | some o=>
  cases o with
  | none=>rw [e] at h; exact h.elim
  | some d=>rw [e] at h;obtain ⟨v,h1,h2⟩:=r.val i d l e;exact ⟨v,h1,h v F H r .refl h2⟩
theorem qfC {i:Nat} {x:Str} (f:X.N[i]?=iI x) (c:Vis X.env.scope x) (l:i∈own) (hd:Dbg x:=by decide) (b:Cdk x:=by decide):PE X (.Name x pos) (tE C own .any (qe i)):=by
 refine jE (wQ f c hd b) λσ H Q ⟨F,ρ,r,h⟩=>?_;unfold qe at h;cases e:ρ[i]? with
 | none=>rw [e] at h; exact h.elim
 | some o=>
  cases o with
  | none=>rw [e] at h; exact h.elim
  | some d=>rw [e] at h;obtain ⟨a,h1,h2,g⟩:=r.ow i d l e;exact ⟨_,h1,h _ F H r .refl (.inr ⟨a,rfl,g⟩)⟩
theorem qh7 {v:V} {d:D} (h:PE X e (tC v)) (i:∀ F,Is C.K F v d):PE X e (tE C own .sh (dC d)):=jE h λσ H Q ⟨F,ρ,a,h⟩=>h v F H a .refl (i F)
theorem qr {i j pos}:PE X (.Constant (.int i) j pos) (tE C own .sh (dC (.int i))):=qh7 qeo λ_=>.int i
theorem wY {i j pos}:PE X (.Constant (.bool i) j pos) (tE C own .sh (dC (.bl i))):=qh7 qkx λ_=>.bl i
theorem Wb {j pos}:PE X (.Constant .none j pos) (tE C own .sh (dC .non)):=qh7 qhx λ_=>.non
theorem ue {x j pos} (h:ig x<=sizeLine:=by decide):PE X (.Constant (.str x) j pos) (tE C own .sh (dC (.str x))):=qh7 qep λ_=>.str h
theorem qfD {x:Str} {v:V} {d:D} {u:iL} (hg:Gl X x) (hm:X.mg x=iI u) (r:RelV v u) (i:∀ F,Is C.K F v d) (hd:Dbg x:=by decide):PE X (.Name x pos) (tE C own .sh (dC d)):=qh7 (qe9 hg hm r hd) i
noncomputable def uc (g:Int->Int->Out D):D->D->Out D
 | .int i,.int j=>g i j
 | _,_=>.bad
theorem TopIs.int {K:Frag} {F H:Hp} {v:V} {i:Int} (h:TopIs K F H v (.int i)):v=.int i:=by
 rcases h with h | ⟨a,_,h⟩
 ·cases h; rfl
 ·exact h.elim
theorem TopIs.str {K:Frag} {F H:Hp} {v:V} {x:Str} (h:TopIs K F H v (.str x)):v=.str x/\x.length<=sizeLine:=by
 rcases h with h | ⟨a,_,h⟩
 ·cases h; exact ⟨rfl,by assumption⟩
 ·exact h.elim
theorem TopIs.bl {K:Frag} {F H:Hp} {v:V} {x:Bool} (h:TopIs K F H v (.bl x)):v=.bl x:=by
 rcases h with h | ⟨a,_,h⟩
 ·cases h; rfl
 ·exact h.elim
theorem TopIs.non {K:Frag} {F H:Hp} {v:V} (h:TopIs K F H v .non):v=.non:=by
 rcases h with h | ⟨a,_,h⟩
 ·cases h; rfl
 ·exact h.elim
theorem TopIs.lst {K:Frag} {F H:Hp} {v:V} {ds:List D} (s:Same F H) (h:TopIs K F H v (.lst ds)):∃ a xs,v=.ref a/\SqL K H a xs/\IsL K F xs ds:=by
 rcases h with h | ⟨a,e,h⟩
 ·cases h with
  | lst h t=>exact ⟨_,_,rfl,s.seq h,t⟩
 ·obtain ⟨xs,i,t⟩:=h;exact ⟨a,xs,e,.inl (.inl i),t⟩
theorem TopIs.tup {K:Frag} {F H:Hp} {v:V} {ds:List D} (s:Same F H) (h:TopIs K F H v (.tup ds)):∃ a xs,v=.ref a/\SqT K H a xs/\IsL K F xs ds:=by
 rcases h with h | ⟨a,e,h⟩
 ·cases h with
  | tup h t=>exact ⟨_,_,rfl,jl s h,t⟩
 ·exact h.elim
theorem TopIs.dct {K:Frag} {F H:Hp} {v:V} {ds:List (Key×D)} (s:Same F H) (h:TopIs K F H v (.dct ds)):∃ a kv,v=.ref a/\H a=iI (.dK kv)/\IsK K F kv ds:=by
 rcases h with h | ⟨a,e,h⟩
 ·cases h with
  | dct h t=>exact ⟨_,_,rfl,s _ _ h,t⟩
 ·obtain ⟨xs,i,t⟩:=h;exact ⟨a,xs,e,i,t⟩
theorem Xe {fn:iL->iL->Sem iL} {P:Int->Int->Prop} [∀ i j,Decidable (P i j)] {g:Int->Int->V} {d:Int->Int->D} (l:OpR X fn (rI P g)) (hg:∀ F i j,Is C.K F (g i j) (d i j)):OpD X C .sh fn (uc λi j=>if P i j then .ok (d i j) else .bad):=by
 intro pins s σ H x y v u Q I r c h;obtain ⟨F,dx,a,b,tx,ty,po⟩:=h;cases dx <;> try exact po.elim
 cases a <;> try exact po.elim
 rename_i i j;have po:PoV C .sh F H (if P i j then .ok (d i j) else .bad) Q:=po;obtain rfl:=tx.int;obtain rfl:=ty.int;by_cases q:P i j;·rw [Aa q] at po;exact l pins s σ H _ _ v u Q I r c ⟨i,j,rfl,rfl,q,po (g i j) F H b .refl (hg F i j)⟩
 ·rw [Ab q] at po; exact po.elim
theorem UM {fn:iL->iL->Sem iL} {g:Int->Int->V} {d:Int->Int->D} (l:OpR X fn (rI0 g)) (hg:∀ F i j,Is C.K F (g i j) (d i j)):OpD X C .sh fn (uc λi j=>.ok (d i j)):=by
 intro pins s σ H x y v u Q I r c h;obtain ⟨F,dx,a,b,tx,ty,po⟩:=h;cases dx <;> try exact po.elim
 cases a <;> try exact po.elim
 rename_i i j;obtain rfl:=tx.int;obtain rfl:=ty.int;exact l pins s σ H _ _ v u Q I r c ⟨i,j,rfl,rfl,po (g i j) F H b .refl (hg F i j)⟩
noncomputable def ZL:D->D->Out D:=uc λi j=>.ok (.int (i - j))
theorem xB:OpD X C .sh (j6 .Sub) ZL:=UM qhK λ_ _ _=>.int _
instance:∀ i j,Decidable (CMul i j):=λi j=>inferInstanceAs (Decidable (_\/_))
instance:∀ i j,Decidable (qfg i j):=λi j=>inferInstanceAs (Decidable (_/\_))
noncomputable def qc8:D->D->Out D:=uc λi j=>if CMul i j then .ok (.int (i * j)) else .bad
theorem Xf:OpD X C .sh (j6 .Mult) qc8:=Xe qhL λ_ _ _=>.int _
noncomputable def yC:D->D->Out D:=uc λi j=>if 0 < j then .ok (.int (i % j)) else .bad
theorem vb:OpD X C .sh (j6 .Mod) yC:=Xe qhM λ_ _ _=>.int _
noncomputable def yD:D->D->Out D:=uc λi j=>if qfg i j then .ok (.int (i / j)) else .bad
theorem Qr:OpD X C .sh (j6 .FloorDiv) yD:=Xe qfh λ_ _ _=>.int _
noncomputable def kN (x y:Str):Bool:=decide (x.cps.toList < y.cps.toList)
noncomputable def ltD:D->D->Out D
 | .int i,.int j=>.ok (.bl (decide (i < j)))
 | .str x,.str y=>.ok (.bl (kN x y))
 | _,_=>.bad
theorem qc9:OpD X C .sh (iW .Lt) ltD:=by
 intro pins s σ H x y v u Q I d c h;obtain ⟨F,dx,a,b,tx,ty,po⟩:=h;cases dx <;> try exact po.elim
 ·cases a <;> try exact po.elim
  obtain rfl:=tx.int;obtain rfl:=ty.int;exact qkJ pins s σ H _ _ v u Q I d c ⟨_,_,rfl,rfl,po _ F H b .refl (.bl _)⟩
 ·cases a <;> try exact po.elim
  obtain ⟨rfl,_⟩:=tx.str;obtain ⟨rfl,_⟩:=ty.str;exact GS pins s σ H _ _ v u Q I d c ⟨_,_,rfl,rfl,po _ F H b .refl (.bl _)⟩
end
noncomputable def eqS (a b:D):Option Bool:=match a with
 | .non=>match b with
  | .non=>iI iM
  | .bl _=>iI iN
  | .int _=>iI iN
  | .str _=>iI iN
  | .tup _=>iI iN
  | .lst _=>iI iN
  | .dct _ | .raw _ | .xcp _ | .ins _ _ | .at_ _ _=>iK
 | .bl x=>match b with
  | .non=>iI iN
  | .bl y=>iI (x == y)
  | .int y=>iI ((if x then 1 else 0) == y)
  | .str _=>iI iN
  | .tup _=>iI iN
  | .lst _=>iI iN
  | .dct _ | .raw _ | .xcp _ | .ins _ _ | .at_ _ _=>iK
 | .int x=>match b with
  | .non=>iI iN
  | .bl y=>iI (x == (if y then 1 else 0))
  | .int y=>iI (x == y)
  | .str _=>iI iN
  | .tup _=>iI iN
  | .lst _=>iI iN
  | .dct _ | .raw _ | .xcp _ | .ins _ _ | .at_ _ _=>iK
 | .str x=>match b with
  | .non=>iI iN
  | .bl _=>iI iN
  | .int _=>iI iN
  | .str y=>iI (x == y)
  | .tup _=>iI iN
  | .lst _=>iI iN
  | .dct _ | .raw _ | .xcp _ | .ins _ _ | .at_ _ _=>iK
 | .tup x=>match b with
  | .non=>iI iN
  | .bl _=>iI iN
  | .int _=>iI iN
  | .str _=>iI iN
  | .tup _=>iK
  | .lst _=>iI iN
  | .dct _ | .raw _ | .xcp _ | .ins _ _ | .at_ _ _=>iK
 | .lst x=>match b with
  | .non=>iI iN
  | .bl _=>iI iN
  | .int _=>iI iN
  | .str _=>iI iN
  | .tup _=>iI iN
  | .lst _=>iK
  | .dct _ | .raw _ | .xcp _ | .ins _ _ | .at_ _ _=>iK
 | .dct _ | .raw _ | .xcp _ | .ins _ _ | .at_ _ _=>iK
noncomputable def uY (f:D->D->Option Bool):List D->List D->Option Bool
 | x::xs,y::ys=>(f x y).bind λa=>(uY f xs ys).bind λb=>iI (a&&b)
 | _,_=>iI iM
noncomputable def eqN:Nat->D->D->Option Bool
 | n+1,.tup xs,.tup ys=>(uY (eqN n) xs ys).map λb=>b&&xs.length == ys.length
 | n+1,.lst xs,.lst ys=>if xs.length=ys.length then uY (eqN n) xs ys else iI iN
 | _,a,b=>eqS a b
theorem Xg {n:Nat} {a b:D} (h1:∀ xs ys,a=.tup xs->b≠.tup ys) (h2:∀ xs ys,a=.lst xs->b≠.lst ys):eqN n a b=eqS a b:=by
 cases n with
 | zero=>rfl
 | succ n=>
  cases a with
  | tup xs=>cases b with
   | tup ys=>exact absurd rfl (h1 xs ys rfl)
   | _=>rfl
  | lst xs=>cases b with
   | lst ys=>exact absurd rfl (h2 xs ys rfl)
   | _=>rfl
  | _=>rfl
noncomputable def itE (f:D->D->Option Bool) (xs ys:List D) (j:Nat):Bool:=((xs[j]?).bind λx=>(ys[j]?).bind λy=>f x y).getD iN
theorem vU {f:D->D->Option Bool}:∀ {xs ys:List D} {b:Bool},uY f xs ys=iI b->b=(aN (min xs.length ys.length)).all (itE f xs ys)
 | [],ys,b,h=>by simp [uY] at h ⊢; exact h
 | x::xs,[],b,h=>by simp [uY] at h ⊢; exact h
 | x::xs,y::ys,b,h=>by
  unfold uY at h;cases e:f x y with
  | none=>rw [e] at h; simp at h
  | some a=>
   cases i:uY f xs ys with
   | none=>rw [e,i] at h; simp at h
   | some c=>
    rw [e,i] at h;have h:(a&&c)=b:=by simpa using h
    have d:=vU i;have hm:min (x::xs).length (y::ys).length=min xs.length ys.length+1:=by simp only [ao]; lia
    rw [hm,List.range_succ_eq_map,fP,List.all_map];have e0:itE f (x::xs) (y::ys) 0=a:=by simp [itE,e]
    have e1:(itE f (x::xs) (y::ys)) ∘ Nat.succ=itE f xs ys:=by funext j;simp [itE]
    rw [e0,e1,<-d];exact h.symm
theorem qam {f:D->D->Option Bool}:∀ {xs ys:List D} {b:Bool},uY f xs ys=iI b->∀ (j:Nat) (x y:D),xs[j]?=iI x->ys[j]?=iI y->f x y=iI (itE f xs ys j)
 | [],ys,b,_,j,x,y,hx,_=>by simp at hx
 | x::xs,[],b,_,j,_,y,_,hy=>by simp at hy
 | x::xs,y::ys,b,h,0,x',y',hx,hy=>by
  simp at hx hy;subst hx hy;unfold uY at h;cases e:f x y with
  | none=>rw [e] at h; simp at h
  | some a=>simp [itE,e]
 | x::xs,y::ys,b,h,j+1,x',y',hx,hy=>by
  unfold uY at h;cases e:f x y with
  | none=>rw [e] at h; simp at h
  | some a=>
   cases i:uY f xs ys with
   | none=>rw [e,i] at h; simp at h
   | some c=>have q:=qam i j x' y' (by simpa using hx) (by simpa using hy);rw [q];simp [itE]
section
variable {X:Cx} {pins:Pns} {σ:St} {F H:Hp} {s:iO}
noncomputable def smp:D->Bool
 | .non | .bl _ | .int _ | .str _ | .tup _ | .lst _=>iM
 | .dct _ | .raw _ | .xcp _ | .ins _ _ | .at_ _ _=>iN
theorem qan {n:Nat} {d e:D} {b:Bool} (h:eqN n d e=iI b):smp d=true:=by cases d <;> first | rfl | (cases n <;> exact nomatch (show iK=iI b from h))
theorem qk0 {n:Nat} {d e:D} {b:Bool} (h:eqN n d e=iI b):smp e=true:=by cases e <;> first | rfl | (cases n <;> cases d <;> exact nomatch (show iK=iI b from h))
theorem qao (I:Inv X pins σ H s) (y:Same F H) {a:Addr} {xs ys:List V} (p:SqT X.K F a xs) (q:SqL X.K F a ys):False:=by obtain ⟨_,_,b,_⟩:=I.list (y.seq q);obtain ⟨_,_,d,_⟩:=I.tuple (jl y p);exact absurd rfl (PySem.SeqAt.ne_of_list_tuple b.isList d)
theorem Qs {f:D->D->Option Bool} {x y:D} {xs ys:List D} {b:Bool} (h:uY f (x::xs) (y::ys)=iI b):∃ a c,f x y=iI a/\uY f xs ys=iI c/\b=(a&&c):=by
 unfold uY at h;cases e:f x y with
 | none=>rw [e] at h; cases h
 | some a=>
  cases i:uY f xs ys with
  | none=>rw [e,i] at h; cases h
  | some c=>rw [e,i] at h; exact ⟨a,c,rfl,rfl,(aL.inj h).symm⟩
theorem UN {n:Nat} {xs ys:List D} {b:Bool} (h:eqN (n+1) (.tup xs) (.tup ys)=iI b):∃ c,uY (eqN n) xs ys=iI c/\b=(c&&xs.length == ys.length):=by
 have h:((uY (eqN n) xs ys).map λb=>b&&xs.length == ys.length)=iI b:=h;cases e:uY (eqN n) xs ys with
 | none=>rw [e] at h; cases h
 | some c=>rw [e] at h; exact ⟨c,rfl,(aL.inj h).symm⟩
theorem qap (I:Inv X pins σ H s) (y:Same F H):∀ (n:Nat) {v:V} {d e:D} {b:Bool},Is X.K F v d->Is X.K F v e->eqN n d e=iI b->b=true:=by
 have base:∀ {n:Nat} {v:V} {d e:D} {b:Bool},Is X.K F v d->Is X.K F v e->eqN n d e=iI b->(∀ a xs ds es,Is X.K F (.ref a) (.tup ds)->SqT X.K F a xs->IsL X.K F xs ds->IsL X.K F xs es->eqN n (.tup ds) (.tup es)=iI b->b=iM)->(∀ a xs ds es,SqL X.K F a xs->IsL X.K F xs ds->IsL X.K F xs es->eqN n (.lst ds) (.lst es)=iI b->b=iM)->b=true:=by
  intro n v d e b h1 h2 h ht hl;have s1:=qan h;have s2:=qk0 h;cases h1 with
  | non=>cases h2 with
   | non=>cases n <;> exact (aL.inj h).symm
   | raw=>cases s2
  | bl x=>cases h2 with
   | bl=>cases n <;> exact (aL.inj h).symm.trans (beq_self_eq_true x)
   | raw=>cases s2
  | int x=>cases h2 with
   | int=>cases n <;> exact (aL.inj h).symm.trans (beq_self_eq_true x)
   | raw=>cases s2
  | str _=>cases h2 with
   | str _=>cases n <;> exact (aL.inj h).symm.trans (beq_self_eq_true _)
   | raw=>cases s2
  | tup p1 t1=>cases h2 with
   | tup p2 t2=>have q:=I.tuple_inj (jl y p1) (jl y p2);subst q;exact ht _ _ _ _ (.tup p1 t1) p1 t1 t2 h
   | lst p2 t2=>exact (qao I y p1 p2).elim
   | _=>cases s2
  | lst p1 t1=>cases h2 with
   | lst p2 t2=>have q:=I.list_inj (y.seq p1) (y.seq p2);subst q;exact hl _ _ _ _ p1 t1 t2 h
   | tup p2 t2=>exact (qao I y p2 p1).elim
   | _=>cases s2
  | _=>cases s1
 intro n
 induction n with
 | zero=>exact λ{_ _ _ _} h1 h2 h=>base h1 h2 h (λ_ _ _ _ _ _ _ _ h=>nomatch (show iK=iI _ from h)) λ_ _ _ _ _ _ _ h=>nomatch (show iK=iI _ from h)
 | succ n j=>
  have l:∀ {xs:List V} {ds es:List D} {b:Bool},IsL X.K F xs ds->IsL X.K F xs es->uY (eqN n) ds es=iI b->b=true:=by
   intro xs
   induction xs with
   | nil=>intro ds es b h1 h2 h; cases h1; cases h2; exact (aL.inj h).symm
   | cons x xs i=>
    intro ds es b h1 h2 h;cases h1 with
    | cons k t1=>
     cases h2 with
     | cons g t2=>obtain ⟨a,c,q,f,rfl⟩:=Qs h;rw [j k g q,i t1 t2 f];rfl
  intro v d e b h1 h2 h;refine base h1 h2 h (λa xs ds es _ _ t1 t2 h=>?_) λa xs ds es _ t1 t2 h=>?_;·obtain ⟨c,q,rfl⟩:=UN h;rw [l t1 t2 q,t1.length.symm.trans t2.length,beq_self_eq_true];rfl
  ·have h:(if ds.length=es.length then uY (eqN n) ds es else iI iN)=iI _:=h;rw [Aa (t1.length.symm.trans t2.length)] at h;exact l t1 t2 h
end
open PySem.SeqAt
section
variable {X:Cx} {pins:Pns} {σ:St} {F H:Hp} {s:iO}
theorem Vals.getE {xs:List V} {us:List iL} (r:Vals xs us) {j:Nat} (h:j < us.length):∃ x,xs[j]?=iI x/\RelV x us[j]:=by
 have hl:=r.length;have G:j < xs.length:=by lia
 obtain ⟨u,e1,e⟩:=Vals.get (i:=j) (x:=xs[j]) r (by simp [G]);refine ⟨xs[j],by simp [G],?_⟩;rw [aA h] at e1;cases e1;exact e
theorem uZ {A:iZ} {n:Nat} {xs ys:List V} {ds es:List D} {us ws:List iL} {b:Bool} (g:∀ {v w:V} {d e:D} {u t:iL} {b:Bool},Is X.K F v d->Is X.K F w e->RelV v u->RelV w t->eqN n d e=iI b->EqAt A s u t b)
  (r1:Vals xs us) (r2:Vals ys ws) (i1:IsL X.K F xs ds) (i2:IsL X.K F ys es) (h:uY (eqN n) ds es=iI b) :
  ∀ j (h1:j < us.toArray.size) (h2:j < ws.toArray.size),EqAt A s us.toArray[j] ws.toArray[j] (itE (eqN n) ds es j):=by
 intro j h1 h2;have c:j < us.length:=by simpa using h1
 have a:j < ws.length:=by simpa using h2
 obtain ⟨x,ex,f⟩:=Vals.getE r1 c;obtain ⟨y,l,r⟩:=Vals.getE r2 a;obtain ⟨d,o,i⟩:=i1.get ex;obtain ⟨e,m,k⟩:=i2.get l;have q:=qam h j d e o m;simpa using g i k f r q
theorem Xh {A:iZ} {n:Nat} {a c:Addr} {xs ys:List V} {ds es:List D} {b:Bool} (I:Inv X pins σ H s) (j:∀ {v w:V} {d e:D} {u t:iL} {b:Bool},Is X.K F v d->Is X.K F w e->RelV v u->RelV w t->eqN n d e=iI b->EqAt A.in1 s u t b)
  (p1:SqT X.K H a xs) (p2:SqT X.K H c ys) (i1:IsL X.K F xs ds) (i2:IsL X.K F ys es) (h:eqN (n+1) (.tup ds) (.tup es)=iI b) (g:A.units < lb):RcAt A s (.ref a) (.ref c) b:=by
 obtain ⟨us,r1,t1,_⟩:=I.tuple p1;obtain ⟨ws,r2,t2,_⟩:=I.tuple p2;simp only [eqN] at h;cases q:uY (eqN n) ds es with
 | none=>rw [q] at h; simp at h
 | some k=>
  rw [q] at h;have f:us.toArray.size=ds.length:=by rw [au,<-r1.length,i1.length]
  have l:ws.toArray.size=es.length:=by rw [au,<-r2.length,i2.length]
  have z:=RcAt.tuples (A:=A) t1 t2 g (uZ (A:=A.in1) j r1 r2 i1 i2 q);rw [f,l,<-vU q] at z;have e:b=(k&&ds.length == es.length):=by simpa using h.symm
  rw [e]; exact z
theorem Xi {A:iZ} {n:Nat} {a c:Addr} {xs ys:List V} {ds es:List D} {b:Bool} (I:Inv X pins σ H s) (j:∀ {v w:V} {d e:D} {u t:iL} {b:Bool},Is X.K F v d->Is X.K F w e->RelV v u->RelV w t->eqN n d e=iI b->EqAt A.in1 s u t b)
  (p1:SqL X.K H a xs) (p2:SqL X.K H c ys) (i1:IsL X.K F xs ds) (i2:IsL X.K F ys es) (h:eqN (n+1) (.lst ds) (.lst es)=iI b) (g:A.units < lb):RcAt A s (.ref a) (.ref c) b:=by
 obtain ⟨us,r1,t1,_⟩:=I.list p1;obtain ⟨ws,r2,t2,_⟩:=I.list p2;have f:us.toArray.size=ds.length:=by rw [au,<-r1.length,i1.length]
 have l:ws.toArray.size=es.length:=by rw [au,<-r2.length,i2.length]
 simp only [eqN] at h;by_cases hl:ds.length=es.length;·rw [Aa hl] at h;have z:=RcAt.lists (A:=A) t1.isList t2.isList (by lia) g (uZ (A:=A.in1) j r1 r2 i1 i2 h);have e:=vU h;rw [f] at z;rw [e,show min ds.length es.length=ds.length by lia];exact z
 ·rw [Ab hl] at h;cases h;exact RcAt.lists_lengths t1.isList t2.isList (bne_iff_ne.mpr (by rw [f,l]; exact hl)) g
def Kd (s:iO):D->iL->Prop
 | .non,u=>u=.none
 | .bl b,u=>u=.bool b
 | .int i,u=>∃ t,u=.int i t
 | .str x,u=>∃ t,u=.str x t
 | .tup _,u=>∃ a its,u=.ref a/\s.heap.IsTuple a its
 | .lst _,u=>∃ a its,u=.ref a/\s.heap.IsList a its
 | _,_=>True
theorem ZM (I:Inv X pins σ H s) (y:Same F H) {v:V} {d:D} {u:iL} (t:TopIs X.K F H v d) (r:RelV v u):Kd s d u:=by
 cases d with
 | non=>obtain rfl:=t.non; exact r
 | bl=>obtain rfl:=t.bl; exact r
 | int=>obtain rfl:=t.int; exact r
 | str=>obtain ⟨rfl,_⟩:=t.str; exact r
 | tup=>obtain ⟨a,_,rfl,p,_⟩:=t.tup y; obtain ⟨_,_,q,_⟩:=I.tuple p; exact ⟨a,_,r,q⟩
 | lst=>obtain ⟨a,_,rfl,p,_⟩:=t.lst y; obtain ⟨_,_,q,_⟩:=I.list p; exact ⟨a,_,r,q.isList⟩
 | _=>trivial
theorem qh8 {A:iZ} {d e:D} {u t:iL} {b:Bool} (a:A.units < lb) (k1:Kd s d u) (k2:Kd s e t) (h:eqS d e=iI b):EqAt A s u t b:=by
 cases d <;> cases e <;> try (cases h; done)
 all_goals
  cases h;first | obtain ⟨_,_,rfl,c⟩:=k1 | obtain ⟨_,rfl⟩:=k1 | cases k1
  first | obtain ⟨_,_,rfl,q⟩:=k2 | obtain ⟨_,rfl⟩:=k2 | cases k2
  with_reducible first | exact EqAt.same _ | exact EqAt.none_bool _ | exact EqAt.none_int _ _ | exact EqAt.none_str _ _ | exact EqAt.bool_none _ | exact EqAt.bool_bool _ _ | exact EqAt.bool_int _ _ _ | exact EqAt.bool_str _ _ _ | exact EqAt.int_none _ _ | exact EqAt.int_bool _ _ _ | exact EqAt.int_int _ _ _ _ | exact EqAt.int_str _ _ _ _ | exact EqAt.str_none _ _ | exact EqAt.str_bool _ _ _ | exact EqAt.str_int _ _ _ _ | exact EqAt.str_str _ _ _ _ | exact EqAt.none_tuple q a | exact EqAt.tuple_none c a | exact EqAt.none_list q a | exact EqAt.list_none c a | exact EqAt.bool_tuple _ q a | exact EqAt.tuple_bool _ c a | exact EqAt.bool_list _ q a | exact EqAt.list_bool _ c a | exact EqAt.int_tuple _ _ q a | exact EqAt.tuple_int _ _ c a | exact EqAt.int_list _ _ q a | exact EqAt.list_int _ _ c a | exact EqAt.str_tuple _ _ q a | exact EqAt.tuple_str _ _ c a | exact EqAt.str_list _ _ q a | exact EqAt.list_str _ _ c a | exact EqAt.tuple_list c q a | exact EqAt.list_tuple c q a
theorem qaq (I:Inv X pins σ H s) (y:Same F H):∀ (n:Nat) {A:iZ} {v w:V} {d e:D} {u t:iL} {b:Bool},A.units+n < lb->Is X.K F v d->Is X.K F w e->RelV v u->RelV w t->eqN n d e=iI b->EqAt A s u t b:=by
 intro n
 induction n with
 | zero=>exact λq h1 h2 x r h=>qh8 (by lia) (ZM I y (.inl h1) x) (ZM I y (.inl h2) r) h
 | succ n l=>
  intro A v w d e u t b q h1 h2 x r h;have j:A.in1.units+n < lb:=by show A.units+1+n < lb; lia
  by_cases both:(∃ xs ys,d=.tup xs/\e=.tup ys)\/(∃ xs ys,d=.lst xs/\e=.lst ys)
  ·rcases both with ⟨ds,es,rfl,rfl⟩ | ⟨ds,es,rfl,rfl⟩
   ·have i:=h1;have f:=h2;cases h1 with
    | tup p1 t1=>
     cases h2 with
     | tup p2 t2=>
      rename_i a xs c ys;cases x;cases r;by_cases ne:a=c;·subst ne;rw [qap I y (n+1) i f h];exact EqAt.same _
      ·exact EqAt.of_refs ne (Xh I (λk g p o m=>l j k g p o m) (jl y p1) (jl y p2) t1 t2 h (by lia))
   ·have i:=h1;have f:=h2;cases h1 with
    | lst p1 t1=>
     cases h2 with
     | lst p2 t2=>
      rename_i a xs c ys;cases x;cases r;by_cases ne:a=c;·subst ne;rw [qap I y (n+1) i f h];exact EqAt.same _
      ·exact EqAt.of_refs ne (Xi I (λk g p o m=>l j k g p o m) (y.seq p1) (y.seq p2) t1 t2 h (by lia))
  ·have e1:eqN (n+1) d e=eqS d e:=Xg (λxs ys k g=>both (.inl ⟨xs,ys,k,g⟩)) (λxs ys k g=>both (.inr ⟨xs,ys,k,g⟩));have z:eqN n d e=eqS d e:=Xg (λxs ys k g=>both (.inl ⟨xs,ys,k,g⟩)) (λxs ys k g=>both (.inr ⟨xs,ys,k,g⟩));exact l (by lia) h1 h2 x r (by rw [z,<-e1]; exact h)
end
end L2.D2
namespace L2.D2
open PySem PySem.Spec PyProof.Rows
open PySem.SeqAt
variable {X:Cx} {A:iZ} {n:Nat} {b:Bool}
section
variable {pins:Pns} {σ:St} {F H:Hp} {s:iO}
theorem qda {a c:Addr} {xs ys:List V} {ds es:List D} (I:Inv X pins σ H s) (j:∀ {v w:V} {d e:D} {u t:iL} {b:Bool},Is X.K F v d->Is X.K F w e->RelV v u->RelV w t->eqN n d e=iI b->EqAt A.in1 s u t b)
  (p1:SqT X.K H a xs) (p2:SqT X.K H c ys) (i1:IsL X.K F xs ds) (i2:IsL X.K F ys es) (h:eqN (n+1) (.tup ds) (.tup es)=iI b) (g:A.units < lb):RcNeAt A s (.ref a) (.ref c) (!b):=by
 obtain ⟨us,r1,t1,_⟩:=I.tuple p1;obtain ⟨ws,r2,t2,_⟩:=I.tuple p2;simp only [eqN] at h;cases q:uY (eqN n) ds es with
 | none=>rw [q] at h; simp at h
 | some k=>
  rw [q] at h;have f:us.toArray.size=ds.length:=by rw [au,<-r1.length,i1.length]
  have l:ws.toArray.size=es.length:=by rw [au,<-r2.length,i2.length]
  have z:=RcNeAt.tuples (A:=A) t1 t2 g (uZ (A:=A.in1) j r1 r2 i1 i2 q);rw [f,l,<-vU q] at z;have e:b=(k&&ds.length == es.length):=by simpa using h.symm
  rw [e]; exact z
theorem qdb {a c:Addr} {xs ys:List V} {ds es:List D} (I:Inv X pins σ H s) (j:∀ {v w:V} {d e:D} {u t:iL} {b:Bool},Is X.K F v d->Is X.K F w e->RelV v u->RelV w t->eqN n d e=iI b->EqAt A.in1 s u t b)
  (p1:SqL X.K H a xs) (p2:SqL X.K H c ys) (i1:IsL X.K F xs ds) (i2:IsL X.K F ys es) (h:eqN (n+1) (.lst ds) (.lst es)=iI b) (g:A.units < lb):RcNeAt A s (.ref a) (.ref c) (!b):=by
 obtain ⟨us,r1,t1,_⟩:=I.list p1;obtain ⟨ws,r2,t2,_⟩:=I.list p2;have f:us.toArray.size=ds.length:=by rw [au,<-r1.length,i1.length]
 have l:ws.toArray.size=es.length:=by rw [au,<-r2.length,i2.length]
 simp only [eqN] at h;by_cases hl:ds.length=es.length;·rw [Aa hl] at h;have z:=RcNeAt.lists (A:=A) t1.isList t2.isList (by lia) g (uZ (A:=A.in1) j r1 r2 i1 i2 h);have e:=vU h;rw [f] at z;rw [e,show min ds.length es.length=ds.length by lia];exact z
 ·rw [Ab hl] at h;cases h;exact RcNeAt.lists_lengths t1.isList t2.isList (bne_iff_ne.mpr (by rw [f,l]; exact hl)) g
theorem qh9 (I:Inv X pins σ H s) (y:Same F H) {v w:V} {d e:D} {u t:iL} (i:A.units+n+1 < lb) (t1:TopIs X.K F H v d) (t2:TopIs X.K F H w e) (x:RelV v u) (r:RelV w t) (h:eqN (n+1) d e=iI b):RcAt A s u t b:=by
 have f:A.units < lb:=by lia
 have j:∀ {v w:V} {d e:D} {u t:iL} {b:Bool},Is X.K F v d->Is X.K F w e->RelV v u->RelV w t->eqN n d e=iI b->EqAt A.in1 s u t b:=λl k p o m=>qaq I y n (by show A.units+1+n < lb; lia) l k p o m;have k1:=ZM I y t1 x;have k2:=ZM I y t2 r;cases d <;> cases e <;> try (cases h; done)
 case tup.tup=>
  obtain ⟨a,xs,rfl,p1,i1⟩:=t1.tup y; obtain ⟨c,ys,rfl,p2,i2⟩:=t2.tup y; cases x; cases r;exact Xh I j p1 p2 i1 i2 h f
 case lst.lst=>
  obtain ⟨a,xs,rfl,p1,i1⟩:=t1.lst y; obtain ⟨c,ys,rfl,p2,i2⟩:=t2.lst y; cases x; cases r;exact Xi I j p1 p2 i1 i2 h f
 all_goals
  cases h;clear x r t1 t2;first | obtain ⟨_,_,rfl,g⟩:=k1 | obtain ⟨_,rfl⟩:=k1 | cases k1
  first | obtain ⟨_,_,rfl,q⟩:=k2 | obtain ⟨_,rfl⟩:=k2 | cases k2
  with_reducible first | exact RcAt.none_none | exact RcAt.none_bool _ | exact RcAt.none_int _ _ | exact RcAt.none_str _ _ | exact RcAt.bool_none _ | exact RcAt.bool_bool _ _ | exact RcAt.bool_int _ _ _ | exact RcAt.bool_str _ _ _ | exact RcAt.int_none _ _ | exact RcAt.int_bool _ _ _ | exact RcAt.int_int _ _ _ _ | exact RcAt.int_str _ _ _ _ | exact RcAt.str_none _ _ | exact RcAt.str_bool _ _ _ | exact RcAt.str_int _ _ _ _ | exact RcAt.str_str _ _ _ _ | exact RcAt.none_tuple q f | exact RcAt.tuple_none g f | exact RcAt.none_list q f | exact RcAt.list_none g f | exact RcAt.bool_tuple _ q f | exact RcAt.tuple_bool _ g f | exact RcAt.bool_list _ q f | exact RcAt.list_bool _ g f | exact RcAt.int_tuple _ _ q f | exact RcAt.tuple_int _ _ g f | exact RcAt.int_list _ _ q f | exact RcAt.list_int _ _ g f | exact RcAt.str_tuple _ _ q f | exact RcAt.tuple_str _ _ g f | exact RcAt.str_list _ _ q f | exact RcAt.list_str _ _ g f | exact RcAt.tuple_list g q f | exact RcAt.list_tuple g q f
theorem qia (I:Inv X pins σ H s) (y:Same F H) {v w:V} {d e:D} {u t:iL} (i:A.units+n+1 < lb) (t1:TopIs X.K F H v d) (t2:TopIs X.K F H w e) (x:RelV v u) (r:RelV w t) (h:eqN (n+1) d e=iI b):RcNeAt A s u t (!b):=by
 have f:A.units < lb:=by lia
 have j:∀ {v w:V} {d e:D} {u t:iL} {b:Bool},Is X.K F v d->Is X.K F w e->RelV v u->RelV w t->eqN n d e=iI b->EqAt A.in1 s u t b:=λl k p o m=>qaq I y n (by show A.units+1+n < lb; lia) l k p o m;have k1:=ZM I y t1 x;have k2:=ZM I y t2 r;cases d <;> cases e <;> try (cases h; done)
 case tup.tup=>
  obtain ⟨a,xs,rfl,p1,i1⟩:=t1.tup y; obtain ⟨c,ys,rfl,p2,i2⟩:=t2.tup y; cases x; cases r;exact qda I j p1 p2 i1 i2 h f
 case lst.lst=>
  obtain ⟨a,xs,rfl,p1,i1⟩:=t1.lst y; obtain ⟨c,ys,rfl,p2,i2⟩:=t2.lst y; cases x; cases r;exact qdb I j p1 p2 i1 i2 h f
 all_goals
  cases h;clear x r t1 t2;first | obtain ⟨_,_,rfl,g⟩:=k1 | obtain ⟨_,rfl⟩:=k1 | cases k1
  first | obtain ⟨_,_,rfl,q⟩:=k2 | obtain ⟨_,rfl⟩:=k2 | cases k2
  try simp only [Bool.not_true,Bool.not_false]
  with_reducible first | exact RcNeAt.none_none | exact RcNeAt.none_bool _ | exact RcNeAt.none_int _ _ | exact RcNeAt.none_str _ _ | exact RcNeAt.bool_none _ | exact RcNeAt.bool_bool _ _ | exact RcNeAt.bool_int _ _ _ | exact RcNeAt.bool_str _ _ _ | exact RcNeAt.int_none _ _ | exact RcNeAt.int_bool _ _ _ | exact RcNeAt.int_int _ _ _ _ | exact RcNeAt.int_str _ _ _ _ | exact RcNeAt.str_none _ _ | exact RcNeAt.str_bool _ _ _ | exact RcNeAt.str_int _ _ _ _ | exact RcNeAt.str_str _ _ _ _ | exact RcNeAt.none_tuple q f | exact RcNeAt.tuple_none g f | exact RcNeAt.none_list q f | exact RcNeAt.list_none g f | exact RcNeAt.bool_tuple _ q f | exact RcNeAt.tuple_bool _ g f | exact RcNeAt.bool_list _ q f | exact RcNeAt.list_bool _ g f | exact RcNeAt.int_tuple _ _ q f | exact RcNeAt.tuple_int _ _ g f | exact RcNeAt.int_list _ _ q f | exact RcNeAt.list_int _ _ g f | exact RcNeAt.str_tuple _ _ q f | exact RcNeAt.tuple_str _ _ g f | exact RcNeAt.str_list _ _ q f | exact RcNeAt.list_str _ _ g f | exact RcNeAt.tuple_list g q f | exact RcNeAt.list_tuple g q f | with_unfolding_all first | exact RcNeAt.bool_bool _ _ | exact RcNeAt.bool_int _ _ _ | exact RcNeAt.int_bool _ _ _ | exact RcNeAt.int_int _ _ _ _ | exact RcNeAt.str_str _ _ _ _
end
noncomputable def eqD (a b:D):Out D:=match eqN 8 a b with
 | some c=>.ok (.bl c)
 | none=>.bad
noncomputable def neD (a b:D):Out D:=match eqN 8 a b with
 | some c=>.ok (.bl (!c))
 | none=>.bad
section
variable {C:Ct}
theorem uf (m:C.K=X.K) (f:X.A.units+64 < lb):OpD X C .sh (iW .Eq) eqD:=by
 intro pins s σ H x y v u Q I d r h;obtain ⟨F,dx,a,b,tx,ty,po⟩:=h;rw [m] at tx ty;unfold eqD at po;cases e:eqN 8 dx a with
 | none=>rw [e] at po; exact po.elim
 | some c=>rw [e] at po;exact qh9 I b (n:=7) (by lia) tx ty d r e _ _ _ _ ⟨.bl c,H,I,rfl,po _ F H b .refl (.bl _)⟩
theorem ZN (m:C.K=X.K) (f:X.A.units+64 < lb):OpD X C .sh (iW .NotEq) neD:=by
 intro pins s σ H x y v u Q I d r h;obtain ⟨F,dx,a,b,tx,ty,po⟩:=h;rw [m] at tx ty;unfold neD at po;cases e:eqN 8 dx a with
 | none=>rw [e] at po; exact po.elim
 | some c=>rw [e] at po;exact qia I b (n:=7) (by lia) tx ty d r e _ _ _ _ ⟨.bl _,H,I,rfl,po _ F H b .refl (.bl _)⟩
end
end L2.D2
namespace L2.D2
open PySem PySem.Spec PyProof.Rows
open PySem.SeqAt
variable {X:Cx} {pins:Pns} {σ:St} {F H:Hp} {s:iO} {n:Nat} {v:V} {d e:D} {b:Bool}
section
theorem qfE (I:Inv X pins σ H s) (y:Same F H):∀ (n:Nat) {v:V} {d d' e:D} {b f:Bool},Is X.K F v d->Is X.K F v d'->eqN n d e=iI b->eqN n d' e=iI f->b=f:=by
 intro n
 induction n with
 | zero=>
  intro v d d' e b f h1 h2 e1 i;have s1:=qan e1;have s2:=qan i;cases h1 <;> cases h2 <;> first
   | exact aL.inj (e1.symm.trans i)
   | (cases s1; done)
   | (cases s2; done)
   | exact (qao I y (by assumption) (by assumption)).elim
   | exact aL.inj (e1.symm.trans (dQ (by cases e <;> rfl) i))
 | succ n o=>
  have l:∀ {xs:List V} {ds g es:List D} {b f:Bool},IsL X.K F xs ds->IsL X.K F xs g->uY (eqN n) ds es=iI b->uY (eqN n) g es=iI f->b=f:=by
   intro xs
   induction xs with
   | nil=>intro ds g es b f h1 h2 e1 i; cases h1; cases h2; exact aL.inj (e1.symm.trans i)
   | cons x xs k=>
    intro ds g es b f h1 h2 e1 i;cases h1 with
    | cons r t1=>
     cases h2 with
     | cons p t2=>
      cases es with
      | nil=>exact aL.inj (e1.symm.trans i)
      | cons e es=>obtain ⟨a,c,q,m,rfl⟩:=Qs e1;obtain ⟨t,T,j,h,rfl⟩:=Qs i;rw [o r p q j,k t1 t2 m h]
  intro v d d' e b f h1 h2 e1 i;have s1:=qan e1;have s2:=qan i;cases h1 with
  | tup p1 t1=>
   cases h2 with
   | tup p2 t2=>
    have q:=I.tuple_inj (jl y p1) (jl y p2);subst q;have hl:=t1.length.symm.trans t2.length;cases e with
    | tup es=>obtain ⟨c,q,rfl⟩:=UN e1;obtain ⟨T,j,rfl⟩:=UN i;rw [l t1 t2 q j,hl]
    | _=>exact aL.inj (e1.symm.trans i)
   | lst p2 t2=>exact (qao I y p1 p2).elim
   | _=>cases s2
  | lst p1 t1=>
   cases h2 with
   | lst p2 t2=>
    have q:=I.list_inj (y.seq p1) (y.seq p2);subst q;have hl:=t1.length.symm.trans t2.length;cases e with
    | lst es=>
     have e1:(if _=es.length then uY (eqN n) _ es else iI iN)=iI b:=e1;have i:(if _=es.length then uY (eqN n) _ es else iI iN)=iI f:=i;rw [hl] at e1;split at i;·rw [Aa (by assumption)] at e1; exact l t1 t2 e1 i
     ·rw [Ab (by assumption)] at e1; exact aL.inj (e1.symm.trans i)
    | _=>exact aL.inj (e1.symm.trans i)
   | tup p2 t2=>exact (qao I y p2 p1).elim
   | _=>cases s2
  | _=>cases h2 <;> first
   | exact aL.inj (e1.symm.trans i)
   | (cases s1; done)
   | (cases s2; done)
open Classical in
noncomputable def GI (X:Cx) (F:Hp) (n:Nat) (e:D) (u:iL):Bool:=decide (∃ v d,Is X.K F v d/\RelV v u/\eqN n d e=iI iM)
open Classical in
theorem qar (I:Inv X pins σ H s) (y:Same F H) {u:iL} (h:Is X.K F v d) (r:RelV v u) (q:eqN n d e=iI b):GI X F n e u=b:=by
 unfold GI;cases b with
 | true=>exact Ad ⟨v,d,h,r,q⟩
 | false=>refine Ac ?_;rintro ⟨w,d',h',r',f⟩;have e:=r.inj r';subst e;exact absurd (qfE I y n h h' q f) (by decide)
noncomputable def Qt (n:Nat) (e:D):List D->Option Bool
 | []=>iI iN
 | d::ds=>(eqN n d e).bind λa=>(Qt n e ds).bind λb=>iI (a||b)
theorem Wc {ds:List D} (h:Qt n e (d::ds)=iI b):∃ a c,eqN n d e=iI a/\Qt n e ds=iI c/\b=(a||c):=by
 unfold Qt at h;cases q:eqN n d e with
 | none=>rw [q] at h; simp at h
 | some a=>
  cases f:Qt n e ds with
  | none=>rw [q,f] at h; simp at h
  | some c=>rw [q,f] at h; exact ⟨a,c,rfl,rfl,(aL.inj h).symm⟩
theorem qas (I:Inv X pins σ H s) (y:Same F H):∀ {vs:List V} {ds:List D} {us:List iL} {b:Bool},IsL X.K F vs ds->Vals vs us->Qt n e ds=iI b->us.any (GI X F n e)=b/\∀ u∈us,∃ v d a,Is X.K F v d/\RelV v u/\eqN n d e=iI a/\GI X F n e u=a
 | _,_,_,b,.nil,.nil,h=>⟨by simpa using (aL.inj h),λu f=>nomatch f⟩
 | _,_,_,b,.cons i t,.cons r rs,h=>by
  obtain ⟨a,c,q,k,rfl⟩:=Wc h;obtain ⟨j,g⟩:=qas I y t rs k;have e1:=qar I y i r q;refine ⟨by rw [b7,e1,j],λu f=>?_⟩;rcases ac.mp f with rfl | f;·exact ⟨_,_,a,i,r,q,e1⟩
  ·exact g u f
end
noncomputable def inD (x y:D):Out Bool:=match y with
 | .lst ds=>match Qt 7 x ds with
  | some b=>.ok b
  | none=>.bad
 | .tup ds=>match Qt 7 x ds with
  | some b=>.ok b
  | none=>.bad
 | _=>.bad
noncomputable def qj8 (x y:D):Out D:=(inD x y).bind λb=>.ok (.bl b)
noncomputable def ZO (x y:D):Out D:=(inD x y).bind λb=>.ok (.bl (!b))
theorem TopIs.is {K:Frag} (s:Same F H) (h:TopIs K F H v d):∃ F',Same F F'/\Same F' H/\Is K F' v d:=by
 rcases h with h | ⟨a,rfl,o⟩
 ·exact ⟨F,Same.refl _,s,h⟩
 ·obtain ⟨u,hu⟩:∃ u,H a=iI u:=by
   cases q:H a with
   | none=>exact absurd q o.there
   | some u=>exact ⟨u,rfl⟩
  by_cases D:F a=iK
  ·have gr:Same F (upd F a u):=λb w e=>by rw [qx (qF e D)]; exact e
   refine ⟨upd F a u,gr,λb w e=>?_,?_⟩
   ·by_cases q:b=a;·subst q; rw [qm] at e; cases e; exact hu
    ·rw [qx q] at e; exact s b w e
   ·cases d with
    | lst ds=>obtain ⟨xs,e,t⟩:=o; rw [hu] at e; cases e; exact .lst (.inl (.inl qm)) (t.mono gr)
    | dct ds=>obtain ⟨xs,e,t⟩:=o; rw [hu] at e; cases e; exact .dct qm (t.mono gr)
    | ins C fs=>obtain ⟨dx,xs,e,t⟩:=o; rw [hu] at e; cases e; exact .ins qm (t.mono gr)
    | at_ b ds=>obtain ⟨G,xs,e,t⟩:=o; rw [hu] at e; cases e; subst G; exact .at_ (.inl (.inl qm)) (t.mono gr)
    | _=>exact o.elim
  ·obtain ⟨w,hw⟩:∃ w,F a=iI w:=by
    cases q:F a with
    | none=>exact absurd q D
    | some w=>exact ⟨w,rfl⟩
   have e:=s a w hw;cases d with
   | lst ds=>obtain ⟨xs,c,t⟩:=o; rw [c] at e; cases e; exact ⟨F,Same.refl _,s,.lst (.inl (.inl hw)) t⟩
   | dct ds=>obtain ⟨xs,c,t⟩:=o; rw [c] at e; cases e; exact ⟨F,Same.refl _,s,.dct hw t⟩
   | ins C fs=>obtain ⟨dx,xs,c,t⟩:=o; rw [c] at e; cases e; exact ⟨F,Same.refl _,s,.ins hw t⟩
   | at_ b ds=>obtain ⟨G,xs,c,t⟩:=o; rw [c] at e; cases e; subst G; exact ⟨F,Same.refl _,s,.at_ (.inl (.inl hw)) t⟩
   | _=>exact o.elim
section
variable {C:Ct}
theorem We {A:iZ} {y x:V} {dx:D} {ds:List D} {b:Bool} {u v:iL} {a:Addr} {us:List iL} {xs:List V} (I:Inv X pins σ H s) (l:A.units+64 < lb) (c:Same F H) (ix:Is X.K F x dx) (f:RelV x v)
  (i:IsL X.K F xs ds) (r:Vals xs us) (h:Qt 7 dx ds=iI b):us.any (GI X F 7 dx)=b/\∀ w,w∈us.toArray->EqAt A.in1 s w v (GI X F 7 dx w):=by
 obtain ⟨h1,h2⟩:=qas I c i r h;refine ⟨h1,λw g=>?_⟩;obtain ⟨j,d,k,i1,r1,q,e⟩:=h2 w (by simpa using g);rw [e];exact qaq I c 7 (by show A.units+1+7 < lb; lia) i1 ix r1 f q
theorem qk1 (m:C.K=X.K) (j:X.A.units+64 < lb):OpD X C .sh (iW .In) qj8:=by
 intro pins s σ H x y v u Q I g f h;obtain ⟨F,dx,k,d,tx,ty,po⟩:=h;rw [m] at tx ty;unfold qj8 inD at po;obtain ⟨F',g',c,ix⟩:=tx.is d;cases k with
 | lst ds=>
  cases e:Qt 7 dx ds with
  | none=>simp only [e] at po; exact po.elim
  | some b=>simp only [e] at po;obtain ⟨a,xs,rfl,p,i⟩:=ty.lst d;cases f;obtain ⟨us,r,pl,_⟩:=I.list p;obtain ⟨h1,h2⟩:=We (A:=X.A) (y:=.non) (a:=a) (u:=.none) I j c ix g (i.mono g') r e;refine in_listAt (GI X F' 7 dx) pl.isList h2 ⟨.bl b,H,I,by show _=_; rw [<-h1]; simp,po _ F H d .refl (.bl _)⟩
 | tup ds=>
  cases e:Qt 7 dx ds with
  | none=>simp only [e] at po; exact po.elim
  | some b=>simp only [e] at po;obtain ⟨a,xs,rfl,p,i⟩:=ty.tup d;cases f;obtain ⟨us,r,pl,_⟩:=I.tuple p;obtain ⟨h1,h2⟩:=We (A:=X.A) (y:=.non) (a:=a) (u:=.none) I j c ix g (i.mono g') r e;refine in_tupleAt (GI X F' 7 dx) pl h2 ⟨.bl b,H,I,by show _=_; rw [<-h1]; simp,po _ F H d .refl (.bl _)⟩
 | _=>exact po.elim
theorem qdc (m:C.K=X.K) (j:X.A.units+64 < lb):OpD X C .sh (iW .NotIn) ZO:=by
 intro pins s σ H x y v u Q I g f h;obtain ⟨F,dx,k,d,tx,ty,po⟩:=h;rw [m] at tx ty;unfold ZO inD at po;obtain ⟨F',g',c,ix⟩:=tx.is d;cases k with
 | lst ds=>
  cases e:Qt 7 dx ds with
  | none=>simp only [e] at po; exact po.elim
  | some b=>simp only [e] at po;obtain ⟨a,xs,rfl,p,i⟩:=ty.lst d;cases f;obtain ⟨us,r,pl,_⟩:=I.list p;obtain ⟨h1,h2⟩:=We (A:=X.A) (y:=.non) (a:=a) (u:=.none) I j c ix g (i.mono g') r e;refine notIn_listAt (GI X F' 7 dx) pl.isList h2 ⟨.bl (!b),H,I,by show _=_; rw [<-h1]; simp,po _ F H d .refl (.bl _)⟩
 | tup ds=>
  cases e:Qt 7 dx ds with
  | none=>simp only [e] at po; exact po.elim
  | some b=>simp only [e] at po;obtain ⟨a,xs,rfl,p,i⟩:=ty.tup d;cases f;obtain ⟨us,r,pl,_⟩:=I.tuple p;obtain ⟨h1,h2⟩:=We (A:=X.A) (y:=.non) (a:=a) (u:=.none) I j c ix g (i.mono g') r e;refine notIn_tupleAt (GI X F' 7 dx) pl h2 ⟨.bl (!b),H,I,by show _=_; rw [<-h1]; simp,po _ F H d .refl (.bl _)⟩
 | _=>exact po.elim
end
end L2.D2
namespace L2.D2
open PySem PySem.Spec PyProof.Rows
def PoT (C:Ct) (own:List Nat) (σ:St) (F H:Hp) (r:Out (Bool×Sl)) (Q:Bool->Hp->Prop):Prop:=match r with
 | .ok (b,ρ')=>∀ F' H',Rep C.K own F' H' σ ρ'->Chg (OA own σ) F H F' H'->Q b H'
 | .exc c ρ'=>∀ F' H',Same F' H'->qcG C.K C.ox F' H' σ ρ'->Chg (OA own σ) F H F' H'->C.E (C.cv c) iK H'
 | .bad=>False
abbrev ym:=Sl->Out (Bool×Sl)
def tT (C:Ct) (own:List Nat) (f:ym):TT:=λσ H Q=>∃ F ρ,Rep C.K own F H σ ρ/\PoT C own σ F H (f ρ) Q
variable {C:Ct} {own:List Nat} {σ:St} {F H F1 H1:Hp} {Q:Bool->Hp->Prop}
theorem PoT.shift {r:Out (Bool×Sl)} (h:PoT C own σ F H r Q) (c:Chg (OA own σ) F H F1 H1):PoT C own σ F1 H1 r Q:=by
 cases r with
 | ok p=>exact λF' H' a T=>h F' H' a (c.trans' T)
 | exc x=>exact λF' H' s io T=>h F' H' s io (c.trans' T)
 | bad=>exact h.elim
theorem PoT.bindV {ma:Mo} {o:VZ} {k:D×Sl->Out (Bool×Sl)} {R:VK} (hp:PoT C own σ F H (o.bind k) Q)
  (h:∀ v F1 H1 d ρ1,Rep C.K own F1 H1 σ ρ1->Chg (OA own σ) F H F1 H1->MoIs C.K ma H F1 H1 v d->PoT C own σ F1 H1 (k (d,ρ1)) Q->R v H1):Po C own ma σ F H o R:=by
 cases o with
 | ok p=>obtain ⟨d,ρ1⟩:=p;exact λv F1 H1 a c mo=>h v F1 H1 d ρ1 a c mo (PoT.shift (show PoT C own σ F H (k (d,ρ1)) Q from hp) c)
 | exc x=>exact hp
 | bad=>exact hp.elim
variable {o:Out (Bool×Sl)}
theorem PoT.bindT {k:Bool×Sl->Out (Bool×Sl)} {R:Bool->Hp->Prop} (hp:PoT C own σ F H (o.bind k) Q)
  (h:∀ F1 H1 b ρ1,Rep C.K own F1 H1 σ ρ1->Chg (OA own σ) F H F1 H1->PoT C own σ F1 H1 (k (b,ρ1)) Q->R b H1):PoT C own σ F H o R:=by
 cases o with
 | ok p=>obtain ⟨d,ρ1⟩:=p;exact λF1 H1 a c=>h F1 H1 d ρ1 a c (PoT.shift (show PoT C own σ F H (k (d,ρ1)) Q from hp) c)
 | exc x=>exact hp
 | bad=>exact hp.elim
variable {m:Mo}
theorem Po.bindT {k:Bool×Sl->VZ} {Q:VK} {R:Bool->Hp->Prop} (hp:Po C own m σ F H (o.bind k) Q)
  (h:∀ F1 H1 b ρ1,Rep C.K own F1 H1 σ ρ1->Chg (OA own σ) F H F1 H1->Po C own m σ F1 H1 (k (b,ρ1)) Q->R b H1):PoT C own σ F H o R:=by
 cases o with
 | ok p=>obtain ⟨d,ρ1⟩:=p;exact λF1 H1 a c=>h F1 H1 d ρ1 a c (Po.shift (show Po C own m σ F H (k (d,ρ1)) Q from hp) c)
 | exc x=>exact hp
 | bad=>exact hp.elim
noncomputable def GJ:D->Out Bool
 | .non=>.ok iN
 | .bl b=>.ok b
 | .int i=>.ok (i != 0)
 | .str x=>.ok ((x.length:Int) != 0)
 | .tup xs=>.ok (!xs.isEmpty)
 | .lst xs=>.ok (!xs.isEmpty)
 | .dct xs=>.ok (!xs.isEmpty)
 | .raw _=>.bad
 | .xcp _=>.bad
 | .ins _ _=>.bad
 | .at_ _ _=>.bad
noncomputable def wZ (f:qU):ym:=λρ=>(f ρ).bind λp=>(GJ p.1).bind λb=>.ok (b,p.2)
variable {K:Frag} {vs:List V} {ds:List D}
theorem IsL.isEmpty (h:IsL K F vs ds):vs.isEmpty=ds.isEmpty:=by cases h <;> rfl
theorem IsK.isEmpty {vs:List (Key×V)} {ds:List (Key×D)} (h:IsK K F vs ds):vs.isEmpty=ds.isEmpty:=by cases h <;> rfl
variable {v:V} {d:D}
theorem qfF {b:Bool} (s:Same F H) (h:TopIs K F H v d) (e:GJ d=.ok b):qkN K v H b:=by
 cases d with
 | non=>obtain rfl:=h.non; cases e; rfl
 | bl x=>obtain rfl:=h.bl; cases e; rfl
 | int x=>obtain rfl:=h.int; cases e; rfl
 | str x=>obtain ⟨rfl,q⟩:=h.str; cases e; exact ⟨q,rfl⟩
 | tup x=>obtain ⟨a,xs,rfl,p,t⟩:=h.tup s; cases e; exact .inr (.inl ⟨xs,p,by rw [t.isEmpty]⟩)
 | lst x=>obtain ⟨a,xs,rfl,p,t⟩:=h.lst s; cases e; exact .inl ⟨xs,p,by rw [t.isEmpty]⟩
 | dct x=>obtain ⟨a,xs,rfl,p,t⟩:=h.dct s; cases e; exact .inr (.inr ⟨xs,p,by rw [t.isEmpty]⟩)
 | raw x=>cases e
 | xcp x=>cases e
 | ins x y=>cases e
 | at_ x y=>cases e
noncomputable def qV (f:qU):ym:=λρ=>(f ρ).bind λp=>match p.1 with
 | .bl b=>.ok (b,p.2)
 | _=>.bad
variable {X:Cx} {c e t:Expr} {ma mb:Mo} {pos:Pos} {op op':CmpOp} {g g':D->D->Out D} {ρ:Sl}
section
variable {a b:Expr} {f fa fb fc:qU} {ft fu:ym} {mc:Mo} {rest:List Expr}
theorem qfG (i:C.K=X.K) (h:PE X e (tE C own m f)) (g:∀ whole,isTrue e X.env whole=(do let v <-whole; mO e.pos; holding [v] (truthy v))):PT X e (tT C own (wZ f)):=by
 refine qc6 (qcP h g) λσ H Q ⟨F,ρ,r,h⟩=>⟨F,ρ,r,PoT.bindV h λv F1 H1 d ρ1 a j c h1=>?_⟩
 cases q:GJ d with
 | ok k=>have h1:PoT C own σ F1 H1 ((GJ d).bind λb=>.ok (b,ρ1)) Q:=h1;rw [q] at h1;exact ⟨k,by rw [<-i]; exact qfF a.sub c.top q,h1 F1 H1 a .refl⟩
 | exc x=>have h1:PoT C own σ F1 H1 ((GJ d).bind λb=>.ok (b,ρ1)) Q:=h1;cases d <;> cases q
 | bad=>have h1:PoT C own σ F1 H1 ((GJ d).bind λb=>.ok (b,ρ1)) Q:=h1;rw [q] at h1;exact h1.elim
theorem qat (h:tT C own (qV f) σ H Q):tE C own .sh f σ H λx H'=>∃ k,x=.bl k/\Q k H':=by
 obtain ⟨F,ρ,r,h⟩:=h;refine ⟨F,ρ,r,PoT.bindV h λv F1 H1 d ρ1 a b c h1=>?_⟩;cases d with
 | bl k=>have c:Is C.K F1 v (.bl k):=c;cases c;exact ⟨k,rfl,h1 F1 H1 a .refl⟩
 | _=>exact h1.elim
theorem qO (l:OpD X C .sh (iW op) g) (c:PE X a (tE C own ma fa)) (hb:PE X b (tE C own mb fb)) (f:ma≠.any:=by decide)
  (k:lQ op b=false:=by first | exact qes _ | with_unfolding_all rfl):PT X (.Compare a [op] [b] pos) (tT C own (qV (d2 g fa fb))):=by
 refine qc6 (qfk l c hb k) λσ H Q h=>?_;exact Wa f (qat h)
noncomputable def gb (ft:ym):ym:=λρ=>(ft ρ).bind λp=>.ok (!p.1,p.2)
theorem jt (h:PT X a (tT C own ft)):PT X (.UnaryOp .Not a pos) (tT C own (gb ft)):=by refine qc6 (qhA h) λσ H Q ⟨F,ρ,p,h⟩=>⟨F,ρ,p,PoT.bindT h λF1 H1 b ρ1 r k h1=>h1 F1 H1 r .refl⟩
theorem qib {e:Expr} {t t':TT} (h:PW X e t) (i:∀ σ H Q,t' σ H Q->t σ H Q):PW X e t':=⟨λw pins s σ H Q I a=>h w pins s σ H Q I (i σ H Q a)⟩
noncomputable def qev (ft fu:ym):ym:=λρ=>(ft ρ).bind λp=>if p.1=iM then fu p.2 else .ok (iN,p.2)
noncomputable def dOr (ft fu:ym):ym:=λρ=>(ft ρ).bind λp=>if p.1=iM then .ok (iM,p.2) else fu p.2
theorem vH {op} (h:PT X a (tT C own ft)):PW X (.BoolOp op [a] pos) (tT C own ft):=by
 cases op;·exact qfb h
 ·exact qhy h
theorem UO (f:PT X a (tT C own ft)) (hb:PW X (.BoolOp .And (b::rest) pos) (tT C own fu)):PW X (.BoolOp .And (a::b::rest) pos) (tT C own (qev ft fu)):=by
 refine qib (qhz f hb) λσ H Q ⟨F,ρ,p,h⟩=>⟨F,ρ,p,PoT.bindT h λF1 H1 k ρ1 r c h1=>?_⟩
 cases k with
 | true=>exact ⟨F1,ρ1,r,h1⟩
 | false=>exact h1 F1 H1 r .refl
theorem Qu (f:PT X a (tT C own ft)) (hb:PW X (.BoolOp .Or (b::rest) pos) (tT C own fu)):PW X (.BoolOp .Or (a::b::rest) pos) (tT C own (dOr ft fu)):=by
 refine qib (qky f hb) λσ H Q ⟨F,ρ,p,h⟩=>⟨F,ρ,p,PoT.bindT h λF1 H1 k ρ1 r c h1=>?_⟩
 cases k with
 | true=>exact h1 F1 H1 r .refl
 | false=>exact ⟨F1,ρ1,r,h1⟩
noncomputable def Jv (fa fb:qU):qU:=λρ=>(fa ρ).bind λp=>match p.1 with
 | .bl iM=>fb p.2
 | .bl iN=>.ok (.bl iN,p.2)
 | _=>.bad
noncomputable def qlZ (fa fb:qU):qU:=λρ=>(fa ρ).bind λp=>match p.1 with
 | .bl iM=>.ok (.bl iM,p.2)
 | .bl iN=>fb p.2
 | _=>.bad
theorem Wf {op} (h:PE X a (tE C own m f)):PE X (.BoolOp op [a] pos) (tE C own m f):=qhB h
theorem JQ (f:PE X a (tE C own .sh fa)) (hb:PE X (.BoolOp .And (b::rest) pos) (tE C own .sh fb)):PE X (.BoolOp .And (a::b::rest) pos) (tE C own .sh (Jv fa fb)):=by
 refine jE (qhC f hb) λσ H Q ⟨F,ρ,p,h⟩=>⟨F,ρ,p,Po.bind h λv F1 H1 d ρ1 r e c h1=>?_⟩
 cases d with
 | bl k=>
  have c:Is C.K F1 v (.bl k):=c;cases c;refine ⟨k,rfl,?_⟩;cases k with
  | true=>exact ⟨F1,ρ1,r,h1⟩
  | false=>exact h1 _ F1 H1 r .refl (.bl _)
 | _=>exact h1.elim
noncomputable def dIf (ft:ym) (fa fb:qU):qU:=λρ=>(ft ρ).bind λp=>if p.1=iM then fa p.2 else fb p.2
theorem ZP (ht:PT X t (tT C own ft)) (f:PE X a (tE C own ma fa)) (hb:PE X b (tE C own mb fb)) (h1:ma≠.any:=by decide) (h2:mb≠.any:=by decide):PE X (.IfExp t a b pos) (tE C own .sh (dIf ft fa fb)):=by
 refine jE (qcJ ht (wX f h1) (wX hb h2)) λσ H Q ⟨F,ρ,p,h⟩=>⟨F,ρ,p,Po.bindT h λF1 H1 k ρ1 r c h1=>?_⟩
 cases k with
 | true=>exact ⟨F1,ρ1,r,h1⟩
 | false=>exact ⟨F1,ρ1,r,h1⟩
noncomputable def xC (g g':D->D->Out D) (fa fb fc:qU):qU:=λρ=>(fa ρ).bind λp=>(fb p.2).bind λq=>(g p.1 q.1).plain.bind λz=>match z with
 | .bl iM=>(fc q.2).bind λr=>(g' q.1 r.1).plain.bind λd=>.ok (d,r.2)
 | .bl iN=>.ok (.bl iN,q.2)
 | _=>.bad
theorem PoV.bind {o:Out D} {k:D->VZ} {Q R:VK} (a:Rep C.K own F H σ ρ) (h:Po C own m σ F H (o.plain.bind k) Q)
  (b:∀ v F1 H1 d,Rep C.K own F1 H1 σ ρ->Chg No F H F1 H1->MoIs C.K ma H F1 H1 v d->Po C own m σ F1 H1 (k d) Q->R v H1):PoV C ma F H o R:=by
 cases o with
 | ok d=>exact λv F1 H1 s c mo=>b v F1 H1 d (a.grow c s) c mo (Po.shift (show Po C own m σ F H (k d) Q from h) c.ofNo)
 | exc c=>exact h.elim
 | bad=>exact h.elim
theorem Xj {Q:VK} (s:ma≠.any) (l:mb≠.any) (h:tE C own .sh (xC g g' fa fb fc) σ H Q):GT (λx y H Q=>∃ F dx n,Same F H/\TopIs C.K F H x dx/\TopIs C.K F H y n/\PoV C .sh F H (g dx n) Q) (λx y H Q=>∃ F dx n,Same F H/\TopIs C.K F H x dx/\TopIs C.K F H y n/\PoV C .sh F H (g' dx n) Q)
   (tE C own ma fa) (tE C own mb fb) (tE C own mc fc) σ H Q:=by
 obtain ⟨F,ρ,u,h⟩:=h;refine ⟨F,ρ,u,Po.bind h λv F1 H1 d ρ1 i M q h1=>⟨F1,ρ1,i,Po.bind h1 λw L H2 e ρ2 f c2 j h2=>?_⟩⟩;have oa:∀ x,OA own σ x->H x≠none:=λx z=>(u.OA_there z).1;have o:∀ x,OA own σ x->H1 x≠none:=λx z=>(i.OA_there z).1;refine ⟨L,d,e,f.sub,(q.grow s c2 oa).top,j.top,PoV.bind (m:=.sh) f h2 λz F3 I D c G a t=>?_⟩;cases D with
 | bl k=>
  have a:Is C.K F3 z (.bl k):=a;cases a;refine ⟨k,rfl,?_⟩;cases k with
  | true=>refine ⟨F3,ρ2,c,Po.bind t λS J N r A b E p B=>?_⟩;exact ⟨J,e,r,b.sub,((j.grow l (G.ofNo) o).grow l E o).top,p.top,PoV.of b B⟩
  | false=>exact t _ F3 I c .refl (.bl _)
 | _=>exact t.elim
theorem Xk (o:OpD X C .sh (iW op) g) (d:OpD X C .sh (iW op') g') (i:PE X a (tE C own ma fa)) (hb:PE X b (tE C own mb fb)) (e:PE X c (tE C own mc fc)) (f:ma≠.any:=by decide) (l:mb≠.any:=by decide)
  (hm:lastMarks [op,op'] [b,c]=false:=by with_unfolding_all rfl):PE X (.Compare a [op,op'] [b,c] pos) (tE C own .sh (xC g g' fa fb fc)):=jE (qcN o d i hb e hm) λ_ _ _ h=>Xj f l h
theorem Wg (o:OpD X C .sh (iW op) g) (d:OpD X C .sh (iW op') g') (i:PE X a (tE C own ma fa)) (hb:PE X b (tE C own mb fb)) (e:PE X c (tE C own mc fc)) (f:ma≠.any:=by decide) (l:mb≠.any:=by decide)
  (hm:lastMarks [op,op'] [b,c]=false:=by with_unfolding_all rfl):PT X (.Compare a [op,op'] [b,c] pos) (tT C own (qV (xC g g' fa fb fc))):=qc6 (qcO o d i hb e hm) λ_ _ _ h=>Xj f l (qat h)
theorem qau:OpR X (iW .LtE) (λx y H Q=>∃ i j,x=.str i/\y=.str j/\Q (.bl (!kN j i)) H):=by intro pins s σ H x y v u Q I d c h;obtain ⟨i,j,rfl,rfl,q⟩:=h;obtain ⟨t,rfl⟩:=d;obtain ⟨t',rfl⟩:=c;exact PySem.P.le_str (Xc I q (by simp [kN]))
noncomputable def leD:D->D->Out D
 | .int i,.int j=>.ok (.bl (decide (i<=j)))
 | .str x,.str y=>.ok (.bl (!kN y x))
 | _,_=>.bad
theorem Wh:OpD X C .sh (iW .LtE) leD:=by
 intro pins s σ H x y v u Q I d c h;obtain ⟨F,dx,a,b,tx,ty,po⟩:=h;cases dx <;> try exact po.elim
 ·cases a <;> try exact po.elim
  obtain rfl:=tx.int;obtain rfl:=ty.int;exact qkK pins s σ H _ _ v u Q I d c ⟨_,_,rfl,rfl,po _ F H b .refl (.bl _)⟩
 ·cases a <;> try exact po.elim
  obtain ⟨rfl,_⟩:=tx.str;obtain ⟨rfl,_⟩:=ty.str;exact qau pins s σ H _ _ v u Q I d c ⟨_,_,rfl,rfl,po _ F H b .refl (.bl _)⟩
noncomputable def gtD:D->D->Out D:=uc λi j=>.ok (.bl (decide (j < i)))
theorem qic:OpD X C .sh (iW .Gt) gtD:=UM qkL λ_ _ _=>.bl _
noncomputable def geD:D->D->Out D:=uc λi j=>.ok (.bl (decide (j<=i)))
theorem qid:OpD X C .sh (iW .GtE) geD:=UM qkM λ_ _ _=>.bl _
noncomputable def qhj:D->D->Out D
 | .non,.non=>.ok (.bl iM)
 | .raw _,.non=>.bad
 | _,.non=>.ok (.bl iN)
 | _,_=>.bad
noncomputable def qdd:D->D->Out D
 | .non,.non=>.ok (.bl iN)
 | .raw _,.non=>.bad
 | _,.non=>.ok (.bl iM)
 | _,_=>.bad
theorem TopIs.notN (h:TopIs K F H v d) (h1:d≠.non) (h2:∀ u,d≠.raw u):v≠.non:=by
 rintro rfl;rcases h with h | ⟨a,e,_⟩
 ·cases h;·exact h1 rfl
  ·exact h2 _ rfl
 ·cases e
theorem qie:OpD X C .sh (iW .Is) qhj:=by
 intro pins s σ H x y v u Q I r c h;obtain ⟨F,dx,d,b,tx,ty,po⟩:=h;have a:d=.non:=by cases d <;> first | rfl | (cases dx <;> exact po.elim)
 subst a;obtain rfl:=ty.non;refine qhO pins s σ H x .non v u Q I r c ⟨rfl,?_⟩;cases dx with
 | non=>obtain rfl:=tx.non; exact po _ F H b .refl (.bl _)
 | raw _=>exact po.elim
 | _=>rw [Ac (tx.notN (by intro z; cases z) (by intro _ z; cases z))]; exact po _ F H b .refl (.bl _)
theorem qfH:OpD X C .sh (iW .IsNot) qdd:=by
 intro pins s σ H x y v u Q I r c h;obtain ⟨F,dx,d,b,tx,ty,po⟩:=h;have a:d=.non:=by cases d <;> first | rfl | (cases dx <;> exact po.elim)
 subst a;obtain rfl:=ty.non;refine qfi pins s σ H x .non v u Q I r c ⟨rfl,?_⟩;cases dx with
 | non=>obtain rfl:=tx.non; exact po _ F H b .refl (.bl _)
 | raw _=>exact po.elim
 | _=>rw [Ac (tx.notN (by intro z; cases z) (by intro _ z; cases z))]; exact po _ F H b .refl (.bl _)
end
inductive Fl where
 | nx | rt (d:D) | bk | ct
structure Nx (C:Ct) (own own':List Nat) (σ:St) (F H:Hp) (ρ':Sl) (σ':St) (F' H':Hp):Prop where
 rep:Rep C.K own' F' H' σ' ρ'
 chg:Chg (OA own σ) F H F' H'
 oa:∀ b,OA own' σ' b->OA own σ b\/H b=iK
 io:∀ i∈C.io,σ'[i]?=σ[i]?
def PoS (C:Ct) (own own':List Nat) (σ:St) (F H:Hp) (r:Out (Fl×Sl)) (D:Ends):Prop:=match r with
 | .ok (.nx,ρ')=>∀ σ' F' H',Nx C own own' σ F H ρ' σ' F' H'->D.nx σ' H'
 | .ok (.rt d,ρ')=>∀ v σ' F' H',Same F' H'->qcG C.K C.io F' H' σ' ρ'->Chg (OA own σ) F H F' H'->(∀ i∈C.io,σ'[i]?=σ[i]?)->MoIs C.K C.mr H F' H' v d->D.rt v H'
 | .ok (.bk,ρ')=>∀ σ' F' H',Nx C own C.ol σ F H ρ' σ' F' H'->D.bk σ' H'
 | .ok (.ct,ρ')=>∀ σ' F' H',Nx C own C.ol σ F H ρ' σ' F' H'->D.ct σ' H'
 | .exc c ρ'=>∀ F' H',Same F' H'->qcG C.K C.ox F' H' σ ρ'->Chg (OA own σ) F H F' H'->C.E (C.cv c) iK H'
 | .bad=>False
abbrev qS:=Sl->Out (Fl×Sl)
def tSt (C:Ct) (own own':List Nat) (f:qS):TS:=λD σ H=>∃ F ρ,Rep C.K own F H σ ρ/\PoS C own own' σ F H (f ρ) D
variable {o1 o2 o3:List Nat} {σ1:St} {ρ1:Sl}
theorem Nx.then {c:St} {d H2:Hp} {ρ2:Sl} (a:Nx C o1 o2 σ F H ρ1 σ1 F1 H1) (b:Nx C o2 o3 σ1 F1 H1 ρ2 c d H2):Nx C o1 o3 σ F H ρ2 c d H2 where
 rep:=b.rep
 chg:=a.chg.trans b.chg a.oa
 oa:=λx h=>by
  rcases b.oa x h with z | z;·exact a.oa x z
  ·refine .inr ?_;cases q:H x with
   | none=>rfl
   | some o=>exact absurd z (a.chg.stay x (by rw [q]; simp))
 io:=λi hi=>(b.io i hi).trans (a.io i hi)
theorem PoS.shift {r:Out (Fl×Sl)} {D:Ends} (h:PoS C o1 o3 σ F H r D) (a:Nx C o1 o2 σ F H ρ1 σ1 F1 H1):PoS C o2 o3 σ1 F1 H1 r D:=by
 cases r with
 | ok p=>
  obtain ⟨fl,ρ'⟩:=p;cases fl with
  | nx=>exact λσ' F' H' n=>h σ' F' H' (a.then n)
  | rt d=>exact λv σ' F' H' s io c e mo=>h v σ' F' H' s io (a.chg.trans c a.oa) (λi hi=>(e i hi).trans (a.io i hi)) (MoIs.back (Ha:=H1) a.chg mo)
  | bk=>exact λσ' F' H' n=>h σ' F' H' (a.then n)
  | ct=>exact λσ' F' H' n=>h σ' F' H' (a.then n)
 | exc c=>exact λF' H' s io T=>h F' H' s (λi hi=>by obtain ⟨d,b,e1,g,f⟩:=io i hi;exact ⟨d,b,e1,by rw [<-a.io i (C.oxs i hi)]; exact g,f⟩) (a.chg.trans T a.oa)
 | bad=>exact h.elim
theorem Nx.ofE (r:Rep C.K own F1 H1 σ ρ1) (c:Chg (OA own σ) F H F1 H1):Nx C own own σ F H ρ1 σ F1 H1:=⟨r,c,λ_ h=>.inl h,λ_ _=>rfl⟩
variable {own':List Nat}
theorem PoS.bindE {m:Mo} {o:VZ} {k:D×Sl->Out (Fl×Sl)} {D:Ends} {R:VK} (hp:PoS C own own' σ F H (o.bind k) D)
  (h:∀ v F1 H1 d ρ1,Rep C.K own F1 H1 σ ρ1->Chg (OA own σ) F H F1 H1->MoIs C.K m H F1 H1 v d->PoS C own own' σ F1 H1 (k (d,ρ1)) D->R v H1):Po C own m σ F H o R:=by
 cases o with
 | ok p=>obtain ⟨d,ρ1⟩:=p;exact λv F1 H1 a c mo=>h v F1 H1 d ρ1 a c mo (PoS.shift (show PoS C own own' σ F H (k (d,ρ1)) D from hp) (.ofE a c))
 | exc x=>exact hp
 | bad=>exact hp.elim
theorem PoS.bindT {k:Bool×Sl->Out (Fl×Sl)} {D:Ends} {R:Bool->Hp->Prop} (hp:PoS C own own' σ F H (o.bind k) D)
  (h:∀ F1 H1 b ρ1,Rep C.K own F1 H1 σ ρ1->Chg (OA own σ) F H F1 H1->PoS C own own' σ F1 H1 (k (b,ρ1)) D->R b H1):PoT C own σ F H o R:=by
 cases o with
 | ok p=>obtain ⟨d,ρ1⟩:=p;exact λF1 H1 a c=>h F1 H1 d ρ1 a c (PoS.shift (show PoS C own own' σ F H (k (d,ρ1)) D from hp) (.ofE a c))
 | exc x=>exact hp
 | bad=>exact hp.elim
variable {b a:Addr} {t':TS} {st:Stmt} {i:Nat} {x:Str} {pos':Pos}
section
variable {sts rest:List Stmt} {f g:qS} {fe:qU} {ft:ym}
theorem Kw {t:TS} (h:PS X st t) (i:∀ D σ H,t' D σ H->t D σ H):PS X st t':=⟨λpins s σ H D I w=>h pins s σ H D I (i D σ H w)⟩
theorem Xl {t:TS} (h:PSs X sts t) (i:∀ D σ H,t' D σ H->t D σ H):PSs X sts t':=⟨λpins s σ H D I w=>h pins s σ H D I (i D σ H w)⟩
noncomputable def jm:qS:=λρ=>.ok (.nx,ρ)
noncomputable def qM (f g:qS):qS:=λρ=>(f ρ).bind λp=>match p.1 with
 | .nx=>g p.2
 | fl=>.ok (fl,p.2)
theorem Nx.refl (r:Rep C.K own F H σ ρ):Nx C own own σ F H ρ σ F H:=.ofE r .refl
theorem qJ:PSs X [] (tSt C own own jm):=Xl qfc λD σ H ⟨F,ρ,a,h⟩=>h σ F H (.refl a)
theorem qif {D:Ends} (h:tSt C o1 o3 (qM f g) D σ H):tSt C o1 o2 f { D with nx:=tSt C o2 o3 g D } σ H:=by
 obtain ⟨F,ρ,a,h⟩:=h;refine ⟨F,ρ,a,?_⟩;unfold qM at h;cases q:f ρ with
 | ok p=>
  rw [q] at h;obtain ⟨fl,ρ1⟩:=p;cases fl with
  | nx=>exact λσ' F' H' n=>⟨F',ρ1,n.rep,PoS.shift (show PoS C o1 o3 σ F H (g ρ1) D from h) n⟩
  | rt d=>exact h
  | bk=>exact h
  | ct=>exact h
 | exc c=>rw [q] at h; exact h
 | bad=>rw [q] at h; exact h.elim
theorem qf (h1:PS X st (tSt C o1 o2 f)) (h2:PSs X rest (tSt C o2 o3 g)):PSs X (st::rest) (tSt C o1 o3 (qM f g)):=Xl (Kr h1 h2) λD σ H h=>qif h
theorem ql (h1:PS X st (tSt C o1 o2 f)):PSs X [st] (tSt C o1 o2 f):=GN h1
theorem Rep.weak {K:Frag} {F H:Hp} {σ:St} {ρ:Sl}:∀ (drop:List Nat) {own own':List Nat},(∀ i,i∈own'↔i∈own/\i∉drop)->Rep K own F H σ ρ->∃ F',Rep K own' F' H σ ρ/\Chg (OA own σ) F H F' H
 | [],own,own',hs,rp=>⟨F,⟨rp.sub,rp.len,λi d hi=>rp.val i d λz=>hi ((hs i).mpr ⟨z,by simp⟩),λi d hi=>rp.ow i d ((hs i).mp hi).1,λi hi=>rp.opn i ((hs i).mp hi).1,λi j a hi G=>rp.dis i j a ((hs i).mp hi).1 ((hs j).mp G).1⟩,.refl⟩
 | k::r,own,own',hs,rp=>by
  obtain ⟨F1,c,n⟩:=Rep.weak r (own:=own) (own':=own.filter λi=>decide (i∉r)) (λi=>by simp) rp;by_cases f:k∈own/\k∉r
  ·obtain ⟨d,hd⟩:=c.opn k (by simp [f.1,f.2]);obtain ⟨a,h1,h2,g⟩:=c.ow k d (by simp [f.1,f.2]) hd;obtain ⟨u,hu⟩:∃ u,H a=iI u:=by
    cases q:H a with
    | none=>exact absurd q g.there
    | some u=>exact ⟨u,rfl⟩
   have gr:Same F1 (upd F1 a u):=λb w e=>by rw [qx (qF e h2)]; exact e
   refine ⟨upd F1 a u,⟨λb w e=>?_,c.len,λi d' hi e=>?_,λi d' hi e=>?_,λi hi=>?_,λi j b hi G=>?_⟩,?_⟩
   ·by_cases q:b=a;·subst q; rw [qm] at e; cases e; exact hu
    ·rw [qx q] at e; exact c.sub b w e
   ·by_cases q:i=k
    ·subst q;rw [hd] at e; cases e;refine ⟨_,h1,?_⟩;cases d with
     | lst ds=>obtain ⟨xs,e,t⟩:=g; rw [hu] at e; cases e; exact .lst (.inl (.inl qm)) (t.mono gr)
     | dct ds=>obtain ⟨xs,e,t⟩:=g; rw [hu] at e; cases e; exact .dct qm (t.mono gr)
     | ins C fs=>obtain ⟨dx,xs,e,t⟩:=g; rw [hu] at e; cases e; exact .ins qm (t.mono gr)
     | at_ b ds=>obtain ⟨A,xs,e,t⟩:=g; rw [hu] at e; cases e; subst A; exact .at_ (.inl (.inl qm)) (t.mono gr)
     | _=>exact g.elim
    ·obtain ⟨v,o,p⟩:=c.val i d' (λz=>by simp at z; exact hi ((hs i).mpr ⟨z.1,by simp [q,z.2]⟩)) e;exact ⟨v,o,p.mono gr⟩
   ·have h:=(hs i).mp hi;have s:i≠k:=λz=>h.2 (by simp [z]);have m:i∉r:=λz=>h.2 (by simp [z]);obtain ⟨b,o,p,x⟩:=c.ow i d' (by simp [h.1,m]) e;refine ⟨b,o,?_,x.grow gr λ_ z=>z⟩;have y:b≠a:=λz=>by subst z; exact s (c.dis i k b (by simp [h.1,m]) (by simp [f.1,f.2]) o h1)
    rw [qx y]; exact p
   ·have h:=(hs i).mp hi;exact c.opn i (by simp [h.1]; exact λz=>h.2 (by simp [z]))
   ·have h:=(hs i).mp hi;have l:=(hs j).mp G;exact c.dis i j b (by simp [h.1]; exact λz=>h.2 (by simp [z])) (by simp [l.1]; exact λz=>l.2 (by simp [z]))
   ·refine ⟨n.keep,n.stay,n.grow.trans gr,λb hb=>?_⟩;by_cases q:b=a;·exact .inr (.inr ⟨k,f.1,by rw [q]; exact h1⟩)
    ·rw [qx q] at hb; exact n.new b hb
  ·refine ⟨F1,⟨c.sub,c.len,λi d hi=>c.val i d λz=>?_,λi d hi=>c.ow i d ?_,λi hi=>c.opn i ?_,λi j a hi G=>c.dis i j a ?_ ?_⟩,n⟩;·simp at z;refine hi ((hs i).mpr ⟨z.1,?_⟩);simp only [ac,not_or];exact ⟨λq=>f (by subst q; exact z),z.2⟩
   all_goals
    first
     | (have q:=(hs _).mp hi; simp only [br,decide_eq_true_eq]; exact ⟨q.1,λz=>q.2 (by simp [z])⟩)
     | (have q:=(hs _).mp G; simp only [br,decide_eq_true_eq]; exact ⟨q.1,λz=>q.2 (by simp [z])⟩)
theorem OA.sub (h:∀ i∈own',i∈own) (q:OA own' σ b):OA own σ b:=let ⟨i,hi,e⟩:=q; ⟨i,h i hi,e⟩
theorem Nx.drop (drop:List Nat) (h:∀ i,i∈own'↔i∈own/\i∉drop) (r:Rep C.K own F H σ ρ):∃ F',Nx C own own' σ F H ρ σ F' H:=by obtain ⟨F',a,c⟩:=Rep.weak drop h r;exact ⟨F',a,c,λb q=>.inl (OA.sub (λi hi=>((h i).mp hi).1) q),λ_ _=>rfl⟩
noncomputable def vI (own drop:List Nat):List Nat:=own.filter λi=>decide (i∉drop)
theorem jk {own drop:List Nat} (i:Nat):i∈vI own drop↔i∈own/\i∉drop:=by simp [vI]
theorem jK (drop:List Nat) (h:PSs X sts (tSt C (vI own drop) o2 f)):PSs X sts (tSt C own o2 f):=Xl h λD σ H ⟨F,ρ,a,h⟩=>by obtain ⟨F',n⟩:=Nx.drop (C:=C) drop (λi=>jk (own:=own) i) a;exact ⟨F',ρ,n.rep,h.shift n⟩
noncomputable def sIf (ft:ym) (f g:qS):qS:=λρ=>(ft ρ).bind λp=>if p.1=iM then f p.2 else g p.2
theorem ja {a b:List Stmt} (d:PT X c (tT C own ft)) (e:PSs X a (tSt C own own' f)) (hb:PSs X b (tSt C own own' g)):PS X (.If c a b pos) (tSt C own own' (sIf ft f g)):=by
 refine Kw (qkC d e hb) λD σ H ⟨F,ρ,p,h⟩=>⟨F,ρ,p,PoS.bindT h λF1 H1 k ρ1 r i h1=>?_⟩
 cases k with
 | true=>exact ⟨F1,ρ1,r,h1⟩
 | false=>exact ⟨F1,ρ1,r,h1⟩
noncomputable def kl (fe:qU):qS:=λρ=>(fe ρ).bind λp=>.ok (.nx,p.2)
theorem jn (g:PE X e (tE C own m fe)) (s:lm e iK pos.line X.env=pure false:=by rfl):PS X (.Expr e pos) (tSt C own own (kl fe)):=by refine Kw (qfd g s) λD σ H ⟨F,ρ,r,h⟩=>⟨F,ρ,r,PoS.bindE h λv F1 H1 d ρ1 a k c h1=>h1 σ F1 H1 (.refl a)⟩
noncomputable def jx (fe:qU):qS:=λρ=>(fe ρ).bind λp=>.ok (.rt p.1,p.2)
theorem qav (g:PE X e (tE C own C.mr fe)) (o:∀ i∈C.io,i∈own:=by exact va rfl):PS X (.Return (iI e) pos) (tSt C own own' (jx fe)):=by
 refine Kw (qhD g) λD σ H ⟨F,ρ,r,h⟩=>⟨F,ρ,r,?_⟩
 unfold jx at h;cases q:fe ρ with
 | ok p=>rw [q] at h;obtain ⟨d,ρ1⟩:=p;exact λv F1 H1 a k m=>h v σ F1 H1 a.sub (a.ioIs o) k (λ_ _=>rfl) m
 | exc c=>rw [q] at h; exact h
 | bad=>rw [q] at h; exact h.elim
theorem qo (g:PE X e (tE C own m fe)) (hm:m≠.any:=by decide) (d:C.mr=.sh:=by rfl) (o:∀ i∈C.io,i∈own:=by exact va rfl):PS X (.Return (iI e) pos) (tSt C own own' (jx fe)):=qav (by rw [d]; exact wX g hm) o
theorem Rep.put (r:Rep K own F H σ ρ) (hi:i < ρ.length) (is:Is K F v d):Rep K (vI own [i]) F H (σ.set i (iI v)) (ρ.set i (iI d)) where
 sub:=r.sub
 len:=by simp [r.len]
 val:=λj d' G e=>by
  by_cases q:j=i;·subst q;rw [aJ hi] at e;cases e;exact ⟨v,aJ (by rw [r.len]; exact hi),is⟩
  ·rw [ax (be q)] at e;obtain ⟨w,h1,h2⟩:=r.val j d' (λz=>G ((jk j).mpr ⟨z,by simp [q]⟩)) e;exact ⟨w,by rw [ax (be q)]; exact h1,h2⟩
 ow:=λj d' G e=>by have l:=(jk j).mp G;have q:j≠i:=λz=>l.2 (by simp [z]);rw [ax (be q)] at e;obtain ⟨a,h1,h2⟩:=r.ow j d' l.1 e;exact ⟨a,by rw [ax (be q)]; exact h1,h2⟩
 opn:=λj G=>by have l:=(jk j).mp G;have q:j≠i:=λz=>l.2 (by simp [z]);obtain ⟨d',e⟩:=r.opn j l.1;exact ⟨d',by rw [ax (be q)]; exact e⟩
 dis:=λj k a G c e1 b=>by have l:=(jk j).mp G;have h:=(jk k).mp c;rw [ax (λz=>l.2 (by simp [z]))] at e1;rw [ax (λz=>h.2 (by simp [z]))] at b;exact r.dis j k a l.1 h.1 e1 b
theorem OA.put (h:OA (vI own [i]) (σ.set i (iI v)) b):OA own σ b:=by obtain ⟨j,G,e⟩:=h;have l:=(jk j).mp G;rw [ax (λz=>l.2 (by simp [z]))] at e;exact ⟨j,l.1,e⟩
noncomputable def jv (i:Nat) (fe:qU):qS:=λρ=>(fe ρ).bind λp=>if i < p.2.length then .ok (.nx,p.2.set i (iI p.1)) else .bad
theorem qfI (k:X.N.Nodup) (hi:X.N[i]?=iI x) (hx:Loc X.env.scope x) (g:PE X e (tE C own m fe)) (hm:m≠.any:=by decide) (o:i∉C.io:=by exact xz rfl) (s:lm e (iI (.Name x pos')) pos.line X.env=pure false:=by rfl)
  (f:X.fn x=iM\/X.env.scope.names.lookup x=iI .local:=by first | exact .inl rfl | exact .inr rfl):PS X (.Assign [.Name x pos'] e pos) (tSt C own (vI own [i]) (jv i fe)):=by
 refine Kw (qeq k hi hx (wX g hm) s f) λD σ H ⟨F,ρ,r,h⟩=>⟨F,ρ,r,PoS.bindE h λv F1 H1 d ρ1 a l c h1=>?_⟩
 by_cases q:i < ρ1.length;·have h1:PoS C own (vI own [i]) σ F1 H1 (if i < ρ1.length then .ok (.nx,ρ1.set i (iI d)) else .bad) D:=h1;rw [Aa q] at h1;exact h1 _ F1 H1 ⟨a.put q c,.refl,λb z=>.inl (OA.put z),λj G=>ax λz=>o (by rw [z]; exact G)⟩
 ·have h1:PoS C own (vI own [i]) σ F1 H1 (if i < ρ1.length then .ok (.nx,ρ1.set i (iI d)) else .bad) D:=h1;rw [Ab q] at h1;exact h1.elim
theorem Rep.putO (r:Rep K own F H σ ρ) (hi:i < ρ.length) (D:F a=iK) (n:¬OA own σ a) (o:OwnIs K F H a d):Rep K (i::vI own [i]) F H (σ.set i (iI (.ref a))) (ρ.set i (iI d)) where
 sub:=r.sub
 len:=by simp [r.len]
 val:=λj d' G e=>by have q:j≠i:=λz=>G (by simp [z]);rw [ax (be q)] at e;obtain ⟨w,h1,h2⟩:=r.val j d' (λz=>G (ae _ ((jk j).mpr ⟨z,by simp [q]⟩))) e;exact ⟨w,by rw [ax (be q)]; exact h1,h2⟩
 ow:=λj d' G e=>by
  by_cases q:j=i;·subst q;rw [aJ hi] at e;cases e;exact ⟨a,aJ (by rw [r.len]; exact hi),D,o⟩
  ·have l:=(jk j).mp ((ac.mp G).resolve_left q);rw [ax (be q)] at e;obtain ⟨b,h1,h2⟩:=r.ow j d' l.1 e;exact ⟨b,by rw [ax (be q)]; exact h1,h2⟩
 opn:=λj G=>by
  by_cases q:j=i;·subst q; exact ⟨d,aJ hi⟩
  ·have l:=(jk j).mp ((ac.mp G).resolve_left q);obtain ⟨d',e⟩:=r.opn j l.1;exact ⟨d',by rw [ax (be q)]; exact e⟩
 dis:=λj k b G p e1 f=>by
  have m:i < σ.length:=by rw [r.len]; exact hi
  by_cases g:j=i
  ·by_cases c:k=i;·rw [g,c]
   ·subst g;have h:=(jk k).mp ((ac.mp p).resolve_left c);rw [aJ m] at e1;cases e1;rw [ax (be c)] at f;exact absurd ⟨k,h.1,f⟩ n
  ·have l:=(jk j).mp ((ac.mp G).resolve_left g);by_cases c:k=i;·subst c;rw [aJ m] at f;cases f;rw [ax (be g)] at e1;exact absurd ⟨j,l.1,e1⟩ n
   ·have h:=(jk k).mp ((ac.mp p).resolve_left c);rw [ax (be g)] at e1;rw [ax (be c)] at f;exact r.dis j k b l.1 h.1 e1 f
theorem qde (w:X.N.Nodup) (hi:X.N[i]?=iI x) (hx:Loc X.env.scope x) (u:PE X e (tE C own .fr fe)) (f:i∉C.io:=by exact xz rfl) (s:lm e (iI (.Name x pos')) pos.line X.env=pure false:=by rfl)
  (t:X.fn x=iM\/X.env.scope.names.lookup x=iI .local:=by first | exact .inl rfl | exact .inr rfl):PS X (.Assign [.Name x pos'] e pos) (tSt C own (i::vI own [i]) (jv i fe)):=by
 refine Kw (qeq w hi hx u s t) λD σ H ⟨F,ρ,k,h⟩=>⟨F,ρ,k,?_⟩
 unfold jv at h;cases q:fe ρ with
 | ok p=>
  rw [q] at h;obtain ⟨d,ρ1⟩:=p;intro v F1 H1 r B m;obtain ⟨a,rfl,n,A,o⟩:=m;by_cases z:i < ρ1.length
  ·have h1:PoS C own (i::vI own [i]) σ F H (if i < ρ1.length then .ok (.nx,ρ1.set i (iI d)) else .bad) D:=h;rw [Aa z] at h1;refine h1 _ F1 H1 ⟨r.putO z A (λy=>(k.OA_there y).1 n) o,B,λb y=>?_,λj G=>ax λy=>f (by rw [y]; exact G)⟩;obtain ⟨j,G,e⟩:=y;by_cases g:j=i;·subst g;rw [aJ (by rw [r.len]; exact z)] at e;cases e;exact .inr n
   ·have l:=(jk j).mp ((ac.mp G).resolve_left g);rw [ax (be g)] at e;exact .inl ⟨j,l.1,e⟩
  ·have h1:PoS C own (i::vI own [i]) σ F H (if i < ρ1.length then .ok (.nx,ρ1.set i (iI d)) else .bad) D:=h;rw [Ab z] at h1;exact h1.elim
 | exc c=>rw [q] at h; exact h
 | bad=>rw [q] at h; exact h.elim
end
inductive AK where
 | vl | sl (i:Nat) | fr
 deriving DecidableEq
def ArgV (K:Frag) (H0 F H:Hp) (σ:St):List AK->List V->List D->Prop
 | [],[],[]=>True
 | .vl::as,v::vs,d::ds=>Is K F v d/\ArgV K H0 F H σ as vs ds
 | .sl i::as,v::vs,d::ds=>σ[i]?=iI (iI v)/\d=.non/\ArgV K H0 F H σ as vs ds
 | .fr::as,v::vs,d::ds=>MoIs K .fr H0 F H v d/\ArgV K H0 F H σ as vs ds
 | _,_,_=>False
variable {A:Addr->Prop} {H0 H':Hp}
theorem ArgV.grow {F':Hp} (c:Chg A F H F' H') (hA:∀ x,A x->H0 x≠iK):∀ {as:List AK} {vs:List V} {ds:List D},ArgV K H0 F H σ as vs ds->ArgV K H0 F' H' σ as vs ds
 | [],[],[],h=>trivial
 | .vl::as,v::vs,d::ds,h=>⟨h.1.mono c.grow,ArgV.grow c hA h.2⟩
 | .sl i::as,v::vs,d::ds,h=>⟨h.1,h.2.1,ArgV.grow c hA h.2.2⟩
 | .fr::as,v::vs,d::ds,h=>⟨h.1.grow (by decide) c hA,ArgV.grow c hA h.2⟩
 | [],_::_,_,h=>h.elim
 | [],[],_::_,h=>h.elim
 | .vl::_,[],_,h=>h.elim
 | .vl::_,_::_,[],h=>h.elim
 | .sl _::_,[],_,h=>h.elim
 | .sl _::_,_::_,[],h=>h.elim
 | .fr::_,[],_,h=>h.elim
 | .fr::_,_::_,[],h=>h.elim
theorem ArgV.back {F0:Hp} (c:Chg A F0 H0 F1 H1):∀ {as:List AK} {vs:List V} {ds:List D},ArgV K H1 F H σ as vs ds->ArgV K H0 F H σ as vs ds
 | [],[],[],h=>trivial
 | .vl::as,v::vs,d::ds,h=>⟨h.1,ArgV.back c h.2⟩
 | .sl i::as,v::vs,d::ds,h=>⟨h.1,h.2.1,ArgV.back c h.2.2⟩
 | .fr::as,v::vs,d::ds,h=>⟨MoIs.back (Ha:=H1) c h.1,ArgV.back c h.2⟩
 | [],_::_,_,h=>h.elim
 | [],[],_::_,h=>h.elim
 | .vl::_,[],_,h=>h.elim
 | .vl::_,_::_,[],h=>h.elim
 | .sl _::_,[],_,h=>h.elim
 | .sl _::_,_::_,[],h=>h.elim
 | .fr::_,[],_,h=>h.elim
 | .fr::_,_::_,[],h=>h.elim
def PoA (C:Ct) (own:List Nat) (as:List AK) (σ:St) (F H:Hp) (r:Out (List D×Sl)) (Q:List V->Hp->Prop):Prop:=match r with
 | .ok (ds,ρ')=>∀ vs F' H',Rep C.K own F' H' σ ρ'->Chg (OA own σ) F H F' H'->ArgV C.K H F' H' σ as vs ds->Q vs H'
 | .exc c ρ'=>∀ F' H',Same F' H'->qcG C.K C.ox F' H' σ ρ'->Chg (OA own σ) F H F' H'->C.E (C.cv c) iK H'
 | .bad=>False
abbrev vB:=Sl->Out (List D×Sl)
def tAr (C:Ct) (own:List Nat) (as:List AK) (f:vB):TA:=λσ H Q=>∃ F ρ,Rep C.K own F H σ ρ/\PoA C own as σ F H (f ρ) Q
variable {as:List AK}
theorem PoA.bindV {ma:Mo} {o:VZ} {k:D×Sl->Out (List D×Sl)} {Q:List V->Hp->Prop} {R:VK} (hp:PoA C own as σ F H (o.bind k) Q)
  (h:∀ v F1 H1 d ρ1,Rep C.K own F1 H1 σ ρ1->Chg (OA own σ) F H F1 H1->MoIs C.K ma H F1 H1 v d->PoA C own as σ F H (k (d,ρ1)) Q->R v H1):Po C own ma σ F H o R:=by
 cases o with
 | ok p=>obtain ⟨d,ρ1⟩:=p;exact λv F1 H1 a c mo=>h v F1 H1 d ρ1 a c mo hp
 | exc x=>exact hp
 | bad=>exact hp.elim
theorem Po.bindA {as:List AK} {o:Out (List D×Sl)} {k:List D×Sl->VZ} {Q:VK} {R:List V->Hp->Prop} (hp:Po C own m σ F H (o.bind k) Q)
  (h:∀ vs F1 H1 ds ρ1,Rep C.K own F1 H1 σ ρ1->Chg (OA own σ) F H F1 H1->ArgV C.K H F1 H1 σ as vs ds->Po C own m σ F1 H1 (k (ds,ρ1)) Q->R vs H1):PoA C own as σ F H o R:=by
 cases o with
 | ok p=>obtain ⟨d,ρ1⟩:=p;exact λvs F1 H1 a c v=>h vs F1 H1 d ρ1 a c v (Po.shift (show Po C own m σ F H (k (d,ρ1)) Q from hp) c)
 | exc x=>exact hp
 | bad=>exact hp.elim
noncomputable def qA:vB:=λρ=>.ok ([],ρ)
noncomputable def qd (fe:qU) (fr:vB):vB:=λρ=>(fe ρ).bind λp=>(fr p.2).bind λq=>.ok (p.1::q.1,q.2)
noncomputable def wj (fr:vB):vB:=λρ=>(fr ρ).bind λq=>.ok (D.non::q.1,q.2)
variable {es:List Expr} {p:Addr} {u:HO}
section
variable {fe:qU} {fr:vB}
theorem qfJ {t t':TA} (h:PA X es t) (i:∀ σ H Q,t' σ H Q->t σ H Q):PA X es t':=⟨λpos pins s σ H Q I w=>h pos pins s σ H Q I (i σ H Q w)⟩
theorem qg:PA X [] (tAr C own [] qA):=qfJ jD λσ H Q ⟨F,ρ,a,h⟩=>h [] F H a .refl trivial
theorem Wi {a:AK} {Q:List V->Hp->Prop} {v:V} (h:∀ x,OA own σ x->H x≠iK) (e:Rep C.K own F1 H1 σ ρ1) (k:Chg (OA own σ) F H F1 H1) (hp:PoA C own (a::as) σ F H ((fr ρ1).bind λq=>.ok (d::q.1,q.2)) Q)
  (f:∀ b H2 vs ds,Chg (OA own σ) F1 H1 b H2->ArgV C.K H b H2 σ as vs ds->ArgV C.K H b H2 σ (a::as) (v::vs) (d::ds)):tAr C own as fr σ H1 λxs H2=>Q (v::xs) H2:=by
 refine ⟨F1,ρ1,e,?_⟩;cases q:fr ρ1 with
 | ok p=>rw [q] at hp;obtain ⟨ds,ρ2⟩:=p;exact λvs b H2 r c2 g=>hp (v::vs) b H2 r (k.trans' c2) (f b H2 vs ds c2 (ArgV.back k g))
 | exc c=>rw [q] at hp; exact λF' H' s io T=>hp F' H' s io (k.trans' T)
 | bad=>rw [q] at hp; exact hp.elim
theorem qc (f:PE X e (tE C own m fe)) (b:PA X es (tAr C own as fr)) (hm:m≠.any:=by decide) (s:iQ (e::es) X.env=(iN,eval e X.env)::iQ es X.env:=by exact jF rfl):PA X (e::es) (tAr C own (.vl::as) (qd fe fr)):=by
 refine qfJ (qP (wX f hm) b s) λσ H Q ⟨F,ρ,r,h⟩=>⟨F,ρ,r,PoA.bindV h λv F1 H1 d ρ1 a k c h1=>?_⟩
 exact Wi (λx z=>(r.OA_there z).1) a k h1 λi H2 vs ds c2 g=>⟨Is.mono c2.grow c,g⟩
theorem Ky {px:Pos} (f:X.N[i]?=iI x) (c:Vis X.env.scope x) (l:i∈own) (e:PA X es (tAr C own as fr)) (s:iQ (.Name x px::es) X.env=(iN,eval (.Name x px) X.env)::iQ es X.env:=by rfl)
  (hd:Dbg x:=by decide) (b:Cdk x:=by decide):PA X (.Name x px::es) (tAr C own (.sl i::as) (wj fr)):=by
 refine qfJ (qP (wQ f c hd b) e s) λσ H Q ⟨F,ρ,r,h⟩=>?_;obtain ⟨d,hd⟩:=r.opn i l;obtain ⟨a,h1,h2,g⟩:=r.ow i d l hd;exact ⟨_,h1,Wi (λx z=>(r.OA_there z).1) r .refl h λj H2 vs ds c2 v=>⟨h1,rfl,v⟩⟩
theorem ArgV.isL:∀ {as:List AK} {vs:List V} {ds:List D},(as.all λa=>decide (a=.vl))=iM->ArgV K H0 F H σ as vs ds->IsL K F vs ds
 | [],[],[],_,_=>.nil
 | .vl::as,v::vs,d::ds,h,a=>.cons a.1 (ArgV.isL (by simpa using h) a.2)
 | .sl i::as,_,_,h,a=>by simp at h
 | .fr::as,_,_,h,a=>by simp at h
 | [],_::_,_,_,h=>h.elim
 | [],[],_::_,_,h=>h.elim
 | .vl::_,[],_,_,h=>h.elim
 | .vl::_,_::_,[],_,h=>h.elim
noncomputable def Qv (fr:vB):qU:=λρ=>(fr ρ).bind λp=>if p.1.length<=sizeLine then .ok (.tup p.1,p.2) else .bad
noncomputable def xD (fr:vB):qU:=λρ=>(fr ρ).bind λp=>if p.1.length<=sizeLine then .ok (.lst p.1,p.2) else .bad
theorem qig (a:Rep C.K own F H σ ρ) (hp:H p=iK):Rep C.K own (upd F p u) (upd H p u) σ ρ/\Chg No F H (upd F p u) (upd H p u):=by
 have D:F p=none:=by
  cases q:F p with
  | none=>rfl
  | some o=>rw [a.sub p o q] at hp; cases hp
 have c:Chg No F H (upd F p u) (upd H p u):=⟨λb o e _=>by rw [qx (qF e hp)]; exact e,λb e=>by
  by_cases q:b=p;·rw [q,qm]; simp
  ·rw [qx q]; exact e,λb o e=>by rw [qx (qF e D)]; exact e,λb e=>by
  by_cases q:b=p;·exact .inr (.inl (by rw [q]; exact hp))
  ·rw [qx q] at e; exact .inl e⟩
 refine ⟨a.grow c λb o e=>?_,c⟩;by_cases q:b=p;·subst q; rw [qm] at e ⊢; exact e
 ·rw [qx q] at e ⊢; exact a.sub b o e
theorem qaw (a:Rep C.K own F H σ ρ) (hp:H p=iK):Rep C.K own F (upd H p u) σ ρ/\Chg No F H F (upd H p u)/\F p=none:=by
 have D:F p=none:=by
  cases q:F p with
  | none=>rfl
  | some o=>rw [a.sub p o q] at hp; cases hp
 have c:Chg No F H F (upd H p u):=⟨λb o e _=>by rw [qx (qF e hp)]; exact e,λb e=>by
  by_cases q:b=p;·rw [q,qm]; simp
  ·rw [qx q]; exact e,Same.refl _,λb e=>.inl e⟩
 exact ⟨a.grow c λb o e=>by rw [qx (qF e D)]; exact a.sub b o e,c,D⟩
theorem wR {x1} (h:PA X es (tAr C own as fr)) (f:(as.all λa=>decide (a=.vl))=true:=by decide):PE X (.Tuple es x1 pos) (tE C own .sh (Qv fr)):=by
 refine jE (qhS h) λσ H Q ⟨F,ρ,c,h⟩=>⟨F,ρ,c,Po.bindA h λvs F1 H1 ds ρ1 b k v h1=>?_⟩
 have i:=v.isL f;have h1:Po C own .sh σ F1 H1 (if ds.length<=sizeLine then .ok (.tup ds,ρ1) else .bad) Q:=h1;by_cases z:ds.length<=sizeLine;·rw [Aa z] at h1;refine ⟨by rw [i.length]; exact z,λp hp=>?_⟩;obtain ⟨r,c2⟩:=qig (u:=.tup vs) b hp;exact h1 _ _ _ r c2.ofNo (.tup (.inl (.inl qm)) (i.mono c2.grow))
 ·rw [Ab z] at h1; exact h1.elim
theorem jV (h:PA X es (tAr C own as fr)) (f:(as.all λa=>decide (a=.vl))=true:=by decide):PE X (.List es pos) (tE C own .fr (xD fr)):=by
 refine jE (qhT h) λσ H Q ⟨F,ρ,c,h⟩=>⟨F,ρ,c,Po.bindA h λvs F1 H1 ds ρ1 b k v h1=>?_⟩
 have i:=v.isL f;have h1:Po C own .fr σ F1 H1 (if ds.length<=sizeLine then .ok (.lst ds,ρ1) else .bad) Q:=h1;by_cases z:ds.length<=sizeLine;·rw [Aa z] at h1;refine ⟨by rw [i.length]; exact z,λp hp=>?_⟩;obtain ⟨r,c2,D⟩:=qaw (u:=.lst vs) b hp;exact h1 _ _ _ r c2.ofNo ⟨p,rfl,hp,D,vs,qm,i⟩
 ·rw [Ab z] at h1; exact h1.elim
theorem gZ:PE X (.Dict [] [] pos) (tE C own .fr (dC (.dct []))):=by refine jE qc3 λσ H Q ⟨F,ρ,a,h⟩ p hp=>?_;obtain ⟨r,c2,D⟩:=qaw (u:=.dK []) a hp;exact h _ _ _ r c2.ofNo ⟨p,rfl,hp,D,[],qm,.nil⟩
noncomputable def ixD:D->D->Out D
 | .lst xs,.int i=>match atI xs i with
  | some d=>.ok d
  | none=>.bad
 | .tup xs,.int i=>match atI xs i with
  | some d=>.ok d
  | none=>.bad
 | .str x,.int i=>match atI x.cps.toList i with
  | some c=>.ok (.str ⟨#[c]⟩)
  | none=>.bad
 | .dct kvs,.str x=>match (kvs.find? λkv=>decide (kv.1=bf x)) with
  | some kv=>.ok kv.2
  | none=>.bad
 | .dct kvs,.int x=>match (kvs.find? λkv=>decide (kv.1=eZ x)) with
  | some kv=>.ok kv.2
  | none=>.bad
 | _,_=>.bad
theorem IsL.atI {i:Int} (h:IsL K F vs ds) (e:L2.atI ds i=iI d):∃ v,L2.atI vs i=iI v/\Is K F v d:=by
 unfold L2.atI at e ⊢;rw [h.length];cases q:ixN ds.length i with
 | none=>rw [q] at e; cases e
 | some j=>rw [q] at e;exact h.getD e
theorem IsK.find {k:Key}:∀ {vs:List (Key×V)} {ds:List (Key×D)} {d:Key×D},IsK K F vs ds->(ds.find? λkv=>decide (kv.1=k))=iI d->∃ v,UI vs k=iI v/\Is K F v d.2
 | _,_,_,.nil,e=>by simp at e
 | _,_,d,.cons (k:=k') (vs:=vs) h t,e=>by
  by_cases q:k'=k;·rw [bM (by simp [q])] at e;cases e;exact ⟨_,gY q,h⟩
  ·rw [bF (by simp [q])] at e;obtain ⟨v,h1,h2⟩:=IsK.find t e;exact ⟨v,by rw [xy q]; exact h1,h2⟩
theorem Xm (c:Nat):(⟨#[c]⟩:Str).length<=sizeLine:=by show 1<=sizeLine;rw [iY]; decide
def ql0 (K:Frag):R2:=λx y H Q=>rIx K x y H Q\/∃ a v,x=.ref a/\DGet H a y (iI v)/\Q v H
theorem qew (b:X.A.units+1 < lb):IxR X (ql0 X.K):=by
 refine IxR.or qhY ?_;intro value e pins s σ H x y v u Q I d c h f;obtain ⟨a,w,rfl,g,q⟩:=h;cases d;obtain ⟨T,ht⟩:∃ T,s.TypeIs (.ref a) T/\T = "dict":=⟨_,UK I g,rfl⟩
 obtain ⟨ht,rfl⟩:=ht;exact tail_any ht PySem.slot_dict_getitem.lookup (qag b I g c λS s' i r=>⟨w,H,i,r,q⟩) f
end
variable {T:String}
section
variable {a b:Expr} {f fa fb:qU}
theorem qex {σ:St} {x y:V} {dx b:D} {Q:VK} (m:C.K=X.K) (s:Same F H) (tx:TopIs C.K F H x dx) (ty:TopIs C.K F H y b) (po:PoV C .sh F H (ixD dx b) Q):ql0 X.K x y H Q:=by
 rw [m] at tx ty;cases dx with
 | lst xs=>
  cases b <;> try exact po.elim
  rename_i i;obtain rfl:=ty.int;obtain ⟨a,vs,rfl,p,t⟩:=tx.lst s;unfold ixD at po;cases e:L2.atI xs i with
  | none=>simp only [e] at po; exact po.elim
  | some d=>simp only [e] at po;obtain ⟨v,h1,h2⟩:=t.atI e;exact .inl (.inl ⟨a,vs,i,v,rfl,rfl,p,h1,po v F H s .refl (by rw [m]; exact h2)⟩)
 | tup xs=>
  cases b <;> try exact po.elim
  rename_i i;obtain rfl:=ty.int;obtain ⟨a,vs,rfl,p,t⟩:=tx.tup s;unfold ixD at po;cases e:L2.atI xs i with
  | none=>simp only [e] at po; exact po.elim
  | some d=>simp only [e] at po;obtain ⟨v,h1,h2⟩:=t.atI e;exact .inl (.inr (.inl ⟨a,vs,i,v,rfl,rfl,p,h1,po v F H s .refl (by rw [m]; exact h2)⟩))
 | str z=>
  cases b <;> try exact po.elim
  rename_i i;obtain rfl:=ty.int;obtain ⟨rfl,h⟩:=tx.str;unfold ixD at po;cases e:L2.atI z.cps.toList i with
  | none=>simp only [e] at po; exact po.elim
  | some c=>simp only [e] at po;exact .inl (.inr (.inr ⟨z,i,c,rfl,rfl,h,e,po _ F H s .refl (.str (Xm c))⟩))
 | dct kvs=>
  obtain ⟨a,kv,rfl,p,t⟩:=tx.dct s;cases b with
  | int i=>
   obtain rfl:=ty.int;unfold ixD at po;cases e:(kvs.find? λkv=>decide (kv.1=eZ i)) with
   | none=>simp only [e] at po; exact po.elim
   | some d=>simp only [e] at po;obtain ⟨v,h1,h2⟩:=t.find e;exact .inr ⟨a,v,rfl,by rw [<-h1]; exact DGet.k (k:=eZ i) p,po v F H s .refl (by rw [m]; exact h2)⟩
  | str z=>
   obtain ⟨rfl,_⟩:=ty.str;unfold ixD at po;cases e:(kvs.find? λkv=>decide (kv.1=bf z)) with
   | none=>simp only [e] at po; exact po.elim
   | some d=>simp only [e] at po;obtain ⟨v,h1,h2⟩:=t.find e;exact .inr ⟨a,v,rfl,by rw [<-h1]; exact DGet.k (k:=bf z) p,po v F H s .refl (by rw [m]; exact h2)⟩
  | _=>exact po.elim
 | _=>exact po.elim
theorem qk2 (o:C.K=X.K) (z:X.A.units+64 < lb) (n:PE X a (tE C own ma fa)) (hb:PE X b (tE C own mb fb)) (s:Kt b) (j:ma≠.any:=by decide):PE X (.Subscript a b pos) (tE C own .sh (d2 ixD fa fb)):=by
 refine jE (qhV (qew (by lia)) n hb s) λσ H Q h=>?_;obtain ⟨F,ρ,l,h⟩:=Wa (mb:=mb) j h;refine ⟨F,ρ,l,?_⟩;cases q:fa ρ with
 | ok p=>
  rw [q] at h;obtain ⟨d,ρ1⟩:=p;intro v F1 H1 f t i;obtain ⟨x,ρ2,e,h2⟩:=h v F1 H1 f t i;refine ⟨x,ρ2,e,?_⟩;cases g:fb ρ2 with
  | ok p=>rw [g] at h2;obtain ⟨d',k⟩:=p;intro w F3 u r G m;obtain ⟨J,dx,B,y,tx,ty,po⟩:=h2 w F3 u r G m;exact qex (σ:=σ) o y tx ty po
  | exc c=>rw [g] at h2; exact h2
  | bad=>rw [g] at h2; exact h2.elim
 | exc c=>rw [q] at h; exact h
 | bad=>rw [q] at h; exact h.elim
def Qw (X:Cx) (C:Ct) (m:Mo) (f:iL) (g:D->Out D):Prop:=wW X f (λxs H Q=>∃ x F dx,xs=[x]/\Same F H/\TopIs C.K F H x dx/\PoV C m F H (g dx) Q)
theorem yE {Q:VK} {g:D->Out D} (h:tE C own m (d1 g fa) σ H Q):qcT (tE C own ma fa) qhR σ H λxs H1=>∃ x F dx,xs=[x]/\Same F H1/\TopIs C.K F H1 x dx/\PoV C m F H1 (g dx) Q:=by
 obtain ⟨F,ρ,r,h⟩:=qal (ma:=ma) h;refine ⟨F,ρ,r,?_⟩;cases q:fa ρ with
 | ok p=>rw [q] at h;obtain ⟨d,ρ1⟩:=p;intro v F1 H1 a k b;obtain ⟨e,dx,y,tx,po⟩:=h v F1 H1 a k b;exact ⟨v,e,dx,rfl,y,tx,po⟩
 | exc c=>rw [q] at h; exact h
 | bad=>rw [q] at h; exact h.elim
theorem qw {id:String} {p:Pos} {g:D->Out D} (d:Qw X C m (.builtin id) g) (hg:Gl X x) (hm:X.mg x=iK) (c:iS x=iI (.builtin id)) (f:PE X e (tE C own ma fa)) (n:x ≠ "__name__":=by decide) (b:Dbg x:=by decide)
  (a:iQ [e] X.env=[(iN,eval e X.env)]:=by exact qD rfl):PE X (.Call (.Name x p) [e] [] pos) (tE C own m (d1 g fa)):=
 jE (xw d hg hm c (qP f jD a) n b (by rw [a]; rfl) rfl) λ_ _ _ h=>yE h
theorem kC {p:Pos} {g:D->Out D} (d:Qw X C m (.type T) g) (hg:Gl X x) (hm:X.mg x=iK) (c:iS x=iI (.type T)) (f:PE X e (tE C own ma fa)) (n:x ≠ "__name__":=by decide) (b:Dbg x:=by decide)
  (a:iQ [e] X.env=[(iN,eval e X.env)]:=by exact qD rfl):PE X (.Call (.Name x p) [e] [] pos) (tE C own m (d1 g fa)):=
 jE (ka d hg hm c (qP f jD a) n b (by rw [a]; rfl) rfl) λ_ _ _ h=>yE h
noncomputable def jW:D->Out D
 | .str x=>.ok (.int x.length)
 | .lst xs=>.ok (.int xs.length)
 | .tup xs=>.ok (.int xs.length)
 | .dct xs=>.ok (.int xs.length)
 | _=>.bad
theorem IsK.length:∀ {vs:List (Key×V)} {ds:List (Key×D)},IsK K F vs ds->vs.length=ds.length
 | _,_,.nil=>rfl
 | _,_,.cons _ t=>congrArg (·+1) (IsK.length t)
theorem je (m:C.K=X.K):Qw X C .sh (.builtin "len") jW:=by
 intro pins s σ H xs us Q I r h;obtain ⟨x,F,dx,rfl,y,tx,po⟩:=h;cases dx with
 | str z=>obtain ⟨rfl,b⟩:=tx.str;exact Ks pins s σ H _ us Q I r ⟨_,_,rfl,⟨b,rfl⟩,po _ F H y .refl (.int _)⟩
 | lst ds=>obtain ⟨a,vs,rfl,p,t⟩:=tx.lst y;exact Ks pins s σ H _ us Q I r ⟨_,ds.length,rfl,.inl ⟨vs,by rw [<-m]; exact p,t.length.symm⟩,po _ F H y .refl (.int _)⟩
 | tup ds=>obtain ⟨a,vs,rfl,p,t⟩:=tx.tup y;exact Ks pins s σ H _ us Q I r ⟨_,ds.length,rfl,.inr ⟨vs,by rw [<-m]; exact p,t.length.symm⟩,po _ F H y .refl (.int _)⟩
 | dct ds=>obtain ⟨a,vs,rfl,p,t⟩:=tx.dct y;refine qak pins s σ H _ us Q I r ⟨a,vs,rfl,p,?_⟩;rw [t.length];exact po _ F H y .refl (.int _)
 | _=>exact po.elim
noncomputable def ud:D->D->Out D
 | .int i,.int j=>.ok (.int (i+j))
 | .str x,.str y=>if x.length+y.length<=sizeLine then .ok (.str (x++y)) else .bad
 | .lst xs,.lst ys=>if xs.length+ys.length<=sizeLine then .ok (.lst (xs++ys)) else .bad
 | .tup xs,.tup ys=>if xs.length+ys.length<=sizeLine then .ok (.tup (xs++ys)) else .bad
 | _,_=>.bad
theorem yF (y:Same F H) (hp:H p=iK):Same (upd F p u) (upd H p u)/\Chg No F H (upd F p u) (upd H p u):=by
 have D:F p=none:=by
  cases q:F p with
  | none=>rfl
  | some o=>rw [y p o q] at hp; cases hp
 refine ⟨λb o e=>?_,⟨λb o e _=>by rw [qx (qF e hp)]; exact e,λb e=>?_,λb o e=>by rw [qx (qF e D)]; exact e,λb e=>?_⟩⟩
 ·by_cases q:b=p;·subst q; rw [qm] at e ⊢; exact e
  ·rw [qx q] at e ⊢; exact y b o e
 ·by_cases q:b=p;·rw [q,qm]; simp
  ·rw [qx q]; exact e
 ·by_cases q:b=p;·exact .inr (.inl (by rw [q]; exact hp))
  ·rw [qx q] at e; exact .inl e
theorem jT (y:Same F H) (hp:H p=iK):Same F (upd H p u)/\Chg No F H F (upd H p u)/\F p=none:=by
 have D:F p=none:=by
  cases q:F p with
  | none=>rfl
  | some o=>rw [y p o q] at hp; cases hp
 refine ⟨λb o e=>by rw [qx (qF e D)]; exact y b o e,⟨λb o e _=>by rw [qx (qF e hp)]; exact e,λb e=>?_,Same.refl _,λb e=>.inl e⟩,D⟩;by_cases q:b=p;·rw [q,qm]; simp
 ·rw [qx q]; exact e
theorem UP (x y:Str):(x++y).length=x.length+y.length:=by show (x.cps++y.cps).size=_;simp [ig]
theorem qfK:OpR X (j6 .Add) (λx y H Q=>∃ l b xs zs,x=.ref l/\y=.ref b/\SqL X.K H l xs/\SqL X.K H b zs/\xs.length+zs.length<=sizeLine/\∀ p,H p=iK->Q (.ref p) (upd H p (.lst (xs++zs)))):=by
 intro pins s σ H x y v u Q I k r h;obtain ⟨l,b,xs,zs,rfl,rfl,h1,h2,z,q⟩:=h;cases k;cases r;obtain ⟨its,r1,p1,_⟩:=I.list h1;obtain ⟨i,r2,p2,_⟩:=I.list h2;obtain ⟨⟨cls,dd,data,sl⟩,o,f,n,hd⟩:=id p1.isList;obtain ⟨⟨j,e,g,d⟩,a,c,n2,hd2⟩:=id p2.isList;simp only at f hd c hd2;subst f hd c hd2;have t:=r1.length;have m:=r2.length;refine mF ⟨_,o,rfl⟩ ⟨_,a,rfl⟩ noFill_list_add seq_list_add PySem.F.slot_list_add PySem.F.entry_list_add (PySem.F.args_list_add_2 _ _)
  (list_addW l b its.toArray i.toArray n n2 dd e sl d (by simp only [au]; lia)) ⟨o,a,?_⟩
 have w:its.toArray++i.toArray=(its++i).toArray:=by simp
 rw [w];exact ⟨.ref _,_,I.lnew (t':=s.toks) (r1.append r2) (by rw [aq]; exact z),rfl,q _ I.fresh⟩
theorem qfL:OpR X (j6 .Add) (λx y H Q=>∃ a b ys,x=.ref a/\y=.ref b/\SqT X.K H a []/\SqT X.K H b ys/\Q (.ref b) H):=by
 intro pins s σ H x y v u Q I m r h;obtain ⟨a,b,ys,rfl,rfl,h1,h2,q⟩:=h;cases m;cases r;obtain ⟨its,r1,p1,_⟩:=I.tuple h1;obtain ⟨i,r2,p2,_⟩:=I.tuple h2;cases r1;obtain ⟨⟨cls,dd,data,sl⟩,l,j,n,hd⟩:=id p1;obtain ⟨⟨k,f,g,e⟩,c,d,n2,hd2⟩:=id p2;simp only at j hd d hd2;subst j hd d hd2;exact mF ⟨_,l,rfl⟩ ⟨_,c,rfl⟩ noFill_tuple_add seq_tuple_add eN eE (d8 _ _)
  (tuple_addW0 a b _ _ n n2 dd f sl e rfl) ⟨l,c,⟨.ref b,H,I,rfl,q⟩⟩
theorem kD (m:C.K=X.K):OpD X C .sh (j6 .Add) ud:=by
 intro pins s σ H x y v u Q I d r h;obtain ⟨F,dx,f,c,tx,ty,po⟩:=h;cases dx with
 | int i=>
  cases f <;> try exact po.elim
  obtain rfl:=tx.int;obtain rfl:=ty.int;exact qhJ pins s σ H _ _ v u Q I d r ⟨_,_,rfl,rfl,po _ F H c .refl (.int _)⟩
 | str a=>
  cases f <;> try exact po.elim
  rename_i b;obtain ⟨rfl,_⟩:=tx.str;obtain ⟨rfl,_⟩:=ty.str;have po:PoV C .sh F H (if a.length+b.length<=sizeLine then .ok (.str (a++b)) else .bad) Q:=po;by_cases z:a.length+b.length<=sizeLine;·rw [Aa z] at po;exact ZD pins s σ H _ _ v u Q I d r ⟨_,_,rfl,rfl,z,po _ F H c .refl (.str (by rw [UP]; exact z))⟩
  ·rw [Ab z] at po; exact po.elim
 | lst xs=>
  cases f <;> try exact po.elim
  rename_i ys;obtain ⟨a,vs,rfl,p1,t1⟩:=tx.lst c;obtain ⟨b,ws,rfl,p2,t2⟩:=ty.lst c;have po:PoV C .sh F H (if xs.length+ys.length<=sizeLine then .ok (.lst (xs++ys)) else .bad) Q:=po;by_cases z:xs.length+ys.length<=sizeLine;·rw [Aa z] at po;refine qfK pins s σ H _ _ v u Q I d r ⟨a,b,vs,ws,rfl,rfl,by rw [<-m]; exact p1,by rw [<-m]; exact p2,by rw [t1.length,t2.length]; exact z,λp hp=>?_⟩;obtain ⟨s2,c2⟩:=yF (u:=.lst (vs++ws)) c hp;exact po _ _ _ s2 c2 (.lst (.inl (.inl qm)) ((t1.append t2).mono c2.grow))
  ·rw [Ab z] at po; exact po.elim
 | tup xs=>
  cases f <;> try exact po.elim
  rename_i ys;obtain ⟨a,vs,rfl,p1,t1⟩:=tx.tup c;obtain ⟨b,ws,rfl,p2,t2⟩:=ty.tup c;have po:PoV C .sh F H (if xs.length+ys.length<=sizeLine then .ok (.tup (xs++ys)) else .bad) Q:=po;by_cases z:xs.length+ys.length<=sizeLine
  ·rw [Aa z] at po;cases vs with
   | nil=>
    cases t1;rcases ty with ty | ⟨_,_,ty⟩
    ·exact qfL pins s σ H _ _ v u Q I d r ⟨a,b,ws,rfl,rfl,by rw [<-m]; exact p1,by rw [<-m]; exact p2,po _ F H c .refl ty⟩
    ·exact ty.elim
   | cons g vs=>
    refine qfv pins s σ H _ _ v u Q I d r ⟨a,b,g::vs,ws,rfl,rfl,by rw [<-m]; exact p1,by rw [<-m]; exact p2,by simp,by rw [t1.length,t2.length]; exact z,λe=>?_,λe p hp=>?_⟩
    ·subst e;cases t2;rcases tx with tx | ⟨_,_,tx⟩
     ·refine po _ F H c .refl ?_;rw [bj];exact tx
     ·exact tx.elim
    ·obtain ⟨s2,c2⟩:=yF (u:=.tup (g::vs++ws)) c hp;exact po _ _ _ s2 c2 (.tup (.inl (.inl qm)) ((t1.append t2).mono c2.grow))
  ·rw [Ab z] at po; exact po.elim
 | _=>exact po.elim
end
inductive PM where
 | val | io | tk
 deriving DecidableEq
noncomputable def xE:List PM->List V->List Addr
 | .val::ms,_::vs=>xE ms vs
 | .io::ms,.ref a::vs=>a::xE ms vs
 | .tk::ms,.ref a::vs=>a::xE ms vs
 | _::ms,_::vs=>xE ms vs
 | _,_=>[]
def ArgsIs (K:Frag) (F H:Hp):List PM->List V->List D->Prop
 | [],[],[]=>True
 | .val::ms,v::vs,d::ds=>Is K F v d/\ArgsIs K F H ms vs ds
 | .io::ms,v::vs,d::ds=>(∃ a,v=.ref a/\F a=iK/\OwnIs K F H a d)/\ArgsIs K F H ms vs ds
 | .tk::ms,v::vs,d::ds=>(∃ a,v=.ref a/\F a=iK/\OwnIs K F H a d)/\ArgsIs K F H ms vs ds
 | _,_,_=>False
def yn (K:Frag) (F H:Hp):List PM->List V->List D->Prop
 | [],_,_=>True
 | .io::ms,v::vs,d::ds=>(∃ a,v=.ref a/\F a=iK/\OwnIs K F H a d)/\yn K F H ms vs ds
 | _::ms,_::vs,_::ds=>yn K F H ms vs ds
 | _,_,_=>False
abbrev LA (ms:List PM) (vs:List V):Addr->Prop:=λb=>b∈xE ms vs
def PoG (K:Frag) (cv:Str->iL) (ms:List PM) (mr:Mo) (vs:List V) (F H:Hp) (Q:VK) (E:XK) (o:Out (D×List D)):Prop:=match o with
 | .ok (d,outs)=>∀ v F' H',Same F' H'->Chg (LA ms vs) F H F' H'->yn K F' H' ms vs outs->MoIs K mr H F' H' v d->Q v H'
 | .exc c o=>∀ F' H',Same F' H'->Chg (LA ms vs) F H F' H'->yn K F' H' ms vs (o.map (·.getD .non))->E (cv c) iK H'
 | .bad=>False
abbrev jC:=List D->Out (D×List D)
def spD (K:Frag) (cv:Str->iL) (ms:List PM) (mr:Mo) (G:jC):Sp:=λvs H Q E=>∃ F ds,Same F H/\ArgsIs K F H ms vs ds/\(xE ms vs).Nodup/\PoG K cv ms mr vs F H Q E (G ds)
theorem ArgsIs.length:∀ {ms:List PM} {vs:List V} {ds:List D},ArgsIs K F H ms vs ds->vs.length=ms.length/\ds.length=ms.length
 | [],[],[],_=>⟨rfl,rfl⟩
 | .val::ms,v::vs,d::ds,h=>by have:=ArgsIs.length h.2; simp [this]
 | .io::ms,v::vs,d::ds,h=>by have:=ArgsIs.length h.2; simp [this]
 | .tk::ms,v::vs,d::ds,h=>by have:=ArgsIs.length h.2; simp [this]
 | [],_::_,_,h=>h.elim
 | [],[],_::_,h=>h.elim
 | .val::_,[],_,h=>h.elim
 | .val::_,_::_,[],h=>h.elim
 | .io::_,[],_,h=>h.elim
 | .io::_,_::_,[],h=>h.elim
 | .tk::_,[],_,h=>h.elim
 | .tk::_,_::_,[],h=>h.elim
noncomputable def jY (n:Nat):List PM->List Nat
 | []=>[]
 | .val::ms=>jY (n+1) ms
 | _::ms=>n::jY (n+1) ms
noncomputable def UA (n:Nat):List PM->List Nat
 | []=>[]
 | .io::ms=>n::UA (n+1) ms
 | _::ms=>UA (n+1) ms
variable {n:Nat}
theorem xF:∀ {ms:List PM} {i:Nat},i∈jY n ms->n<=i/\i < n+ms.length:=by
 intro ms
 induction ms generalizing n with
 | nil=>intro i h; simp [jY] at h
 | cons m ms j=>
  intro i h;cases m with
  | val=>have:=j (n:=n+1) h; simp only [ao]; lia
  | io=>
   rcases ac.mp h with e | h;·simp only [ao]; lia
   ·have:=j (n:=n+1) h; simp only [ao]; lia
  | tk=>
   rcases ac.mp h with e | h;·simp only [ao]; lia
   ·have:=j (n:=n+1) h; simp only [ao]; lia
theorem qdf:∀ {ms:List PM} {i:Nat},i∈UA n ms->i∈jY n ms:=by
 intro ms
 induction ms generalizing n with
 | nil=>intro i h; simp [UA] at h
 | cons m ms j=>
  intro i h;cases m with
  | val=>exact j (n:=n+1) h
  | io=>
   rcases ac.mp h with e | h;·exact ac.mpr (.inl e)
   ·exact ae _ (j (n:=n+1) h)
  | tk=>exact ae _ (j (n:=n+1) h)
theorem ZQ:∀ {ms:List PM} {vs:List V} {ds:List D} {n:Nat},ArgsIs K F H ms vs ds ->(∀ j d,ds[j]?=iI d->n+j∉jY n ms->∃ v,vs[j]?=iI v/\Is K F v d) /\
  (∀ j d,ds[j]?=iI d->n+j∈jY n ms->∃ a,vs[j]?=iI (.ref a)/\F a=iK/\OwnIs K F H a d):=by
 intro ms
 induction ms with
 | nil=>intro vs ds n h; cases vs <;> cases ds <;> first | exact h.elim | (refine ⟨λj d e=>?_,λj d e=>?_⟩ <;> simp at e)
 | cons m ms i=>
  intro vs ds n h;cases vs with
  | nil=>cases m <;> exact h.elim
  | cons v vs=>
   cases ds with
   | nil=>cases m <;> exact h.elim
   | cons d ds=>
    cases m with
    | val=>
     obtain ⟨h1,h2⟩:=h;obtain ⟨i1,i2⟩:=i (n:=n+1) h2;refine ⟨λj e G b=>?_,λj e G b=>?_⟩
     ·cases j with
      | zero=>simp at G; subst G; exact ⟨v,rfl,h1⟩
      | succ j=>simpa using i1 j e (by simpa using G) (by rw [show n+1+j=n+(j+1) by lia]; exact b)
     ·cases j with
      | zero=>have:=xF (n:=n+1) b; lia
      | succ j=>simpa using i2 j e (by simpa using G) (by rw [show n+1+j=n+(j+1) by lia]; exact b)
    | io=>
     obtain ⟨⟨a,rfl,h1⟩,h2⟩:=h;obtain ⟨i1,i2⟩:=i (n:=n+1) h2;refine ⟨λj e G b=>?_,λj e G b=>?_⟩
     ·cases j with
      | zero=>exact absurd (ac.mpr (.inl rfl)) b
      | succ j=>simpa using i1 j e (by simpa using G) (λz=>b (ae _ (by rw [show n+(j+1)=n+1+j by lia]; exact z)))
     ·cases j with
      | zero=>simp at G; subst G; exact ⟨a,rfl,h1⟩
      | succ j=>
       have hm:n+1+j∈jY (n+1) ms:=by
        rcases ac.mp b with z | z
        ·lia
        ·rw [show n+1+j=n+(j+1) by lia]; exact z
       simpa using i2 j e (by simpa using G) hm
    | tk=>
     obtain ⟨⟨a,rfl,h1⟩,h2⟩:=h;obtain ⟨i1,i2⟩:=i (n:=n+1) h2;refine ⟨λj e G b=>?_,λj e G b=>?_⟩
     ·cases j with
      | zero=>exact absurd (ac.mpr (.inl rfl)) b
      | succ j=>simpa using i1 j e (by simpa using G) (λz=>b (ae _ (by rw [show n+(j+1)=n+1+j by lia]; exact z)))
     ·cases j with
      | zero=>simp at G; subst G; exact ⟨a,rfl,h1⟩
      | succ j=>
       have hm:n+1+j∈jY (n+1) ms:=by
        rcases ac.mp b with z | z
        ·lia
        ·rw [show n+1+j=n+(j+1) by lia]; exact z
       simpa using i2 j e (by simpa using G) hm
theorem qax:∀ {ms:List PM} {vs:List V} {j:Nat} {a:Addr},n+j∈jY n ms->vs[j]?=iI (.ref a)->a∈xE ms vs:=by
 intro ms
 induction ms generalizing n with
 | nil=>intro vs j a h; simp [jY] at h
 | cons m ms i=>
  intro vs j a h e;cases vs with
  | nil=>simp at e
  | cons v vs=>
   cases j with
   | zero=>
    simp at e; subst e;cases m with
    | val=>have:=xF (n:=n+1) h; omega
    | io=>exact ac.mpr (.inl rfl)
    | tk=>exact ac.mpr (.inl rfl)
   | succ j=>
    have b:vs[j]?=iI (.ref a):=by simpa using e
    have sub:n+1+j∈jY (n+1) ms:=by
     rw [show n+1+j=n+(j+1) by omega];cases m with
     | val=>exact h
     | io=>exact (ac.mp h).resolve_left (by omega)
     | tk=>exact (ac.mp h).resolve_left (by omega)
    have q:=i (n:=n+1) sub b;cases m <;> cases v <;> first | exact q | exact ae _ q
theorem qay:∀ {ms:List PM} {vs:List V} {a:Addr},a∈xE ms vs->∃ j,n+j∈jY n ms/\vs[j]?=iI (.ref a):=by
 intro ms
 induction ms generalizing n with
 | nil=>intro vs a h; cases vs <;> simp [xE] at h
 | cons m ms i=>
  intro vs a h;cases vs with
  | nil=>cases m <;> simp [xE] at h
  | cons v vs=>
   have up:∀ {b},b∈xE ms vs->∃ j,n+j∈jY n (m::ms)/\(v::vs)[j]?=iI (.ref b):=λhb=>by
    obtain ⟨j,h1,h2⟩:=i (n:=n+1) hb;refine ⟨j+1,?_,by simpa using h2⟩;rw [show n+(j+1)=n+1+j by lia];cases m with
    | val=>exact h1
    | io=>exact ae _ h1
    | tk=>exact ae _ h1
   cases m with
   | val=>exact up (by cases v <;> exact h)
   | io=>
    cases v with
    | ref c=>
     rcases ac.mp h with e | h;·subst e; exact ⟨0,ac.mpr (.inl rfl),rfl⟩
     ·exact up h
    | _=>exact up h
   | tk=>
    cases v with
    | ref c=>
     rcases ac.mp h with e | h;·subst e; exact ⟨0,ac.mpr (.inl rfl),rfl⟩
     ·exact up h
    | _=>exact up h
theorem qdg:∀ {ms:List PM} {vs:List V} {i j:Nat} {a:Addr},(xE ms vs).Nodup->n+i∈jY n ms->n+j∈jY n ms->vs[i]?=iI (.ref a)->vs[j]?=iI (.ref a)->i=j:=by
 intro ms
 induction ms generalizing n with
 | nil=>intro vs i j a _ h; simp [jY] at h
 | cons m ms f=>
  intro vs i j a nd hi G e1 e;cases vs with
  | nil=>simp at e1
  | cons v vs=>
   have sub:∀ {k},n+(k+1)∈jY n (m::ms)->n+1+k∈jY (n+1) ms:=λ{k} h=>by
    rw [show n+1+k=n+(k+1) by lia];cases m with
    | val=>exact h
    | io=>exact (ac.mp h).resolve_left (by lia)
    | tk=>exact (ac.mp h).resolve_left (by lia)
   have d:(xE ms vs).Nodup:=by cases m <;> cases v <;> first | exact nd | exact (aM.mp nd).2
   have c:∀ {k b},n+0∈jY n (m::ms)->v=.ref b->n+(k+1)∈jY n (m::ms)->vs[k]?=iI (.ref b)->False:=λ{k b} o g l p=>by
    subst g;have q:=qax (n:=n+1) (sub l) p;cases m with
    | val=>have:=xF (n:=n+1) o; lia
    | io=>exact (aM.mp nd).1 q
    | tk=>exact (aM.mp nd).1 q
   cases i with
   | zero=>
    cases j with
    | zero=>rfl
    | succ j=>exact (c hi (by simpa using e1) G (by simpa using e)).elim
   | succ i=>
    cases j with
    | zero=>exact (c G (by simpa using e) hi (by simpa using e1)).elim
    | succ j=>exact congrArg (·+1) (f (n:=n+1) d (sub hi) (sub G) (by simpa using e1) (by simpa using e))
noncomputable def qt (N:List Str) (ds:List D):Sl:=ds.map iI++aS (N.length - ds.length) iK
variable {α:Type} {N:List Str}
theorem jQ {xs:List α} {x:α}:(xs.map iI++aS (N.length - xs.length) iK)[i]?=iI (iI x)↔xs[i]?=iI x:=by
 by_cases h:i < xs.length
 ·rw [cL (by simpa using h),aH];cases e:xs[i]? with
  | none=>simp
  | some y=>simp
 ·rw [b9 (by simpa using h),eD];have e:xs[i]?=none:=List.getElem?_eq_none_iff.mpr (by lia);rw [e];split <;> simp
variable {ms:List PM}
theorem qaz (y:Same F H) (r:ArgsIs K F H ms vs ds) (nd:(xE ms vs).Nodup):Rep K (jY 0 ms) F H (xu N vs) (qt N ds):=by
 obtain ⟨h1,h2⟩:=ZQ (n:=0) r;obtain ⟨f,l⟩:=r.length;refine ⟨y,by simp [xu,qt,f,l],λi d hi e=>?_,λi d hi e=>?_,λi hi=>?_,λi j a hi G e1 c=>?_⟩;·obtain ⟨v,a,b⟩:=h1 i d (jQ.mp e) (by simpa using hi);exact ⟨v,jQ.mpr a,b⟩
 ·obtain ⟨v,a,b⟩:=h2 i d (jQ.mp e) (by simpa using hi);exact ⟨v,jQ.mpr a,b⟩
 ·have q:=xF hi;have hl:i < ds.length:=by lia
  exact ⟨ds[i],jQ.mpr (by simp [hl])⟩
 ·exact qdg (n:=0) nd (by simpa using hi) (by simpa using G) (jQ.mp e1) (jQ.mp c)
theorem qdh:OA (jY 0 ms) (xu N vs) b↔LA ms vs b:=by
 constructor;·rintro ⟨i,hi,e⟩;exact qax (n:=0) (by simpa using hi) (jQ.mp e)
 ·intro h;obtain ⟨j,h1,h2⟩:=qay (n:=0) h;exact ⟨j,by simpa using h1,jQ.mpr h2⟩
noncomputable def kc (ρ:Sl):Nat->List PM->List D
 | _,[]=>[]
 | n,.io::ms=>((ρ[n]?).getD iK).getD .non::kc ρ (n+1) ms
 | n,_::ms=>.non::kc ρ (n+1) ms
theorem qfM {σ:St} {N:List Str}:∀ {ms:List PM} {vs:List V} {n:Nat},vs.length=ms.length->(∀ i∈UA n ms,∃ d a,ρ[i]?=iI (iI d)/\vs[i - n]?=iI (V.ref a)/\F a=iK/\OwnIs K F H a d)->yn K F H ms vs (kc ρ n ms):=by
 intro ms
 induction ms with
 | nil=>intro vs n _ _; trivial
 | cons m ms j=>
  intro vs n hl h;cases vs with
  | nil=>simp at hl
  | cons v vs=>
   have rest:(∀ i∈UA (n+1) ms,i∈UA n (m::ms))->yn K F H ms vs (kc ρ (n+1) ms):=λc=>by refine j (by simpa using hl) λi hi=>?_;obtain ⟨d,a,e1,e,D⟩:=h i (c i hi);have q:=xF (qdf hi);refine ⟨d,a,e1,?_,D⟩;rw [show i - n=(i - (n+1))+1 by lia] at e;simpa using e
   cases m with
   | val=>exact rest λi hi=>hi
   | io=>obtain ⟨d,a,e1,e,D⟩:=h n (ac.mpr (.inl rfl));refine ⟨⟨a,by simpa using e,D.1,?_⟩,rest λi hi=>ae _ hi⟩;rw [e1];exact D.2
   | tk=>exact rest λi hi=>hi
noncomputable def Fl.val:Fl->Option D
 | .nx=>iI .non
 | .rt d=>iI d
 | _=>iK
noncomputable def jJ (N:List Str) (ms:List PM) (f:qS) (ds:List D):Out (D×List D):=match f (qt N ds) with
 | .ok (.nx,ρ)=>.ok (.non,kc ρ 0 ms)
 | .ok (.rt d,ρ)=>.ok (d,kc ρ 0 ms)
 | .ok _=>.bad
 | .exc c ρ=>.exc c ((kc ρ 0 ms).map iI)
 | .bad=>.bad
theorem Xn:∀ (l:List D),(l.map iI).map (λx:Option D=>x.getD .non)=l
 | []=>rfl
 | a::l=>congrArg (a::·) (Xn l)
def Out.le {α:Type} (a b:Out α):Prop:=a=.bad\/a=b
theorem qfN {f:qS} {Q:VK} {o:Out (D×List D)} (j:C.io=UA 0 ms) (l:C.ox=C.io) (hmr:C.mr=.sh\/∀ ρ,(f (qt N ds))≠.ok (.nx,ρ)) (g:∀ i∈UA 0 ms,i∈own') (y:Same F H) (r:ArgsIs C.K F H ms vs ds) (nd:(xE ms vs).Nodup)
  (G:Out.le o (jJ N ms f ds)) (h:PoG C.K C.cv ms C.mr vs F H Q C.E o):tSt C (jY 0 ms) own' f { nx:=λ_ H'=>Q .non H',rt:=Q } (xu N vs) H:=by
 refine ⟨F,qt N ds,qaz y r nd,?_⟩;have hl:=r.length.1;have ch:∀ {F' H'},Chg (OA (jY 0 ms) (xu N vs)) F H F' H'->Chg (LA ms vs) F H F' H':=λc=>c.mono λx z=>qdh.mp z;have b:∀ {σ':St} {ρ':Sl} {F' H':Hp},qcG C.K C.io F' H' σ' ρ'->(∀ i∈C.io,σ'[i]?=(xu N vs)[i]?)->yn C.K F' H' ms vs (kc ρ' 0 ms):=λ{σ' ρ' F' H'} io e=>by
  refine qfM (N:=N) (σ:=σ') hl λi hi=>?_;have k:i∈C.io:=by rw [j]; exact hi
  obtain ⟨d,a,e1,m,t⟩:=io i k;refine ⟨d,a,e1,?_,t⟩;rw [e i k] at m;exact jQ.mp m
 rcases G with e | e;·subst e; exact h.elim
 ·subst e;unfold jJ at h;cases q:f (qt N ds) with
  | ok p=>
   rw [q] at h;obtain ⟨fl,ρ'⟩:=p;cases fl with
   | nx=>have hm:C.mr=.sh:=hmr.resolve_right λz=>z ρ' q;exact λσ' F' H' n=>h .non F' H' n.rep.sub (ch n.chg) (b (n.rep.ioIs (by rw [j]; exact g)) n.io) (by rw [hm]; exact .non)
   | rt d=>exact λv σ' F' H' s io c e mo=>h v F' H' s (ch c) (b io e) mo
   | bk=>exact h.elim
   | ct=>exact h.elim
  | exc c ρ'=>rw [q] at h;exact λF' H' s io T=>h F' H' s (ch T) (by rw [Xn]; exact b (σ':=xu N vs) (by rw [<-l]; exact io) λ_ _=>rfl)
  | bad=>rw [q] at h; exact h.elim
def qhk (K:Frag) (cv:Str->iL) (E:XK) (ms:List PM) (mr:Mo):Ct:=⟨K,cv,E,UA 0 ms,mr,[],UA 0 ms,λ_ h=>h⟩
theorem qj9 {P:iU} {w:iV} {K:Frag} {mg:Str->Option iL} {base:Heap} {CX:CXT} {x qual:Str} {st:Stmt} {f:Addr} {fd:lH} {N ps:List Str} {k:Nat} {cv:Str->iL} {ms:List PM} {mr:Mo} {own':List Nat} {fb:qS} {G:jC}
  (F:Fun K x qual st f fd) (S:FnScope N ps (qG st)) (hl:ms.length=ps.length) (g:∀ i∈UA 0 ms,i∈own') (hmr:mr=.sh\/∀ ds ρ,(fb (qt N ds))≠.ok (.nx,ρ))
  (a:∀ (cdv:iL) (A:iZ) (outer:List Env) (s:iO) (H:Hp) (E:XK),Room k (A.deeper (mh qual (qG st) s.heap.objs.size f cdv)) ->PSs (qfq CX P w K mg base N qual (qG st) f cdv A outer s H E) (kb st) (tSt (qhk K cv E ms mr) (jY 0 ms) own' fb))
  (c:∀ ds,Out.le (G ds) (jJ N ms fb ds)):FnOk P w K mg base CX (k+1) f fd ps (spD K cv ms mr G):=by
 obtain ⟨oc,od,kV,doc,pm,an,cdv,ct,osl,rfl,lk,d⟩:=F.ex;refine qkQ lk d S (λvs H Q E h=>?_) λA outer s H vs Q E b p=>?_;·obtain ⟨F,ds,_,r,_⟩:=h;rw [r.length.1,hl]
 ·obtain ⟨F1,ds,y,r,nd,h⟩:=p;refine ⟨_,a cdv A outer s H E b,?_⟩;exact qfN (C:=qhk K cv E ms mr) rfl rfl (hmr.imp id λz ρ=>z ds ρ) g y r nd (c ds) h
noncomputable def gM:AK->PM
 | .vl=>.val
 | .sl _=>.io
 | .fr=>.tk
noncomputable def kI:List AK->List D->Sl->Option (List D)
 | [],[],_=>iI []
 | .sl i::as,_::ds,ρ=>match ρ[i]? with
  | some (iI d)=>(kI as ds ρ).map (d::·)
  | _=>iK
 | .vl::as,d::ds,ρ=>(kI as ds ρ).map (d::·)
 | .fr::as,d::ds,ρ=>(kI as ds ρ).map (d::·)
 | _,_,_=>iK
noncomputable def Qa:List AK->List D->Sl->Sl
 | .sl i::as,d::outs,ρ=>Qa as outs (ρ.set i (iI d))
 | _::as,_::outs,ρ=>Qa as outs ρ
 | _,_,ρ=>ρ
noncomputable def jy:List AK->List Nat
 | []=>[]
 | .sl i::as=>i::jy as
 | _::as=>jy as
noncomputable def frA:List AK->Nat
 | []=>0
 | .fr::as=>frA as+1
 | _::as=>frA as
section
theorem xG:∀ {as:List AK} {vs:List V} {ds g:List D},Rep K own F H σ ρ->(∀ i∈jy as,i∈own)->ArgV K H0 F H σ as vs ds->kI as ds ρ=iI g->ArgsIs K F H (as.map gM) vs g
 | [],vs,ds,g,rp,hs,av,e=>by cases vs <;> cases ds <;> first | exact av.elim | (simp [kI] at e; subst e; trivial)
 | a::as,[],ds,g,rp,hs,av,e=>by cases a <;> exact av.elim
 | a::as,v::vs,[],g,rp,hs,av,e=>by cases a <;> exact av.elim
 | .vl::as,v::vs,d::ds,g,rp,hs,av,e=>by
  cases q:kI as ds ρ with
  | none=>simp [kI,q] at e
  | some l=>
   have e:d::l=g:=by simpa [kI,q] using e
   subst e;exact ⟨av.1,xG rp hs av.2 q⟩
 | .fr::as,v::vs,d::ds,g,rp,hs,av,e=>by
  cases q:kI as ds ρ with
  | none=>simp [kI,q] at e
  | some l=>
   have e:d::l=g:=by simpa [kI,q] using e
   subst e;obtain ⟨a,h1,_,h2,f⟩:=av.1;exact ⟨⟨a,h1,h2,f⟩,xG rp hs av.2 q⟩
 | .sl i::as,v::vs,d::ds,g,rp,hs,av,e=>by
  obtain ⟨h1,_,b⟩:=av;have hi:i∈own:=hs i (ac.mpr (.inl rfl));obtain ⟨d',hd⟩:=rp.opn i hi;obtain ⟨a,e1,h,c⟩:=rp.ow i d' hi hd;rw [h1] at e1;cases e1;cases q:kI as ds ρ with
  | none=>simp [kI,q,hd] at e
  | some l=>
   have e:d'::l=g:=by simpa [kI,q,hd] using e
   subst e;exact ⟨⟨a,rfl,h,c⟩,xG rp (λj G=>hs j (ae _ G)) b q⟩
theorem vc:∀ {as:List AK} {vs:List V} {ds:List D} {b:Addr},ArgV K H0 F H σ as vs ds->b∈xE (as.map gM) vs->(∃ i∈jy as,σ[i]?=iI (iI (V.ref b)))\/(H0 b=iK/\frA as≠0/\H b≠iK/\F b=iK)
 | [],vs,ds,b,av,h=>by cases vs <;> simp [xE] at h
 | a::as,[],ds,b,av,h=>by cases a <;> exact av.elim
 | a::as,v::vs,[],b,av,h=>by cases a <;> exact av.elim
 | .vl::as,v::vs,d::ds,b,av,h=>by
  have h:b∈xE (as.map gM) vs:=by cases v <;> exact h
  exact vc (as:=as) av.2 h
 | .fr::as,v::vs,d::ds,b,av,h=>by
  obtain ⟨⟨a,rfl,g,f,o⟩,c⟩:=av;have h:b∈a::xE (as.map gM) vs:=h;rcases ac.mp h with e | h;·subst e; exact .inr ⟨g,by simp [frA],o.there,f⟩
  ·rcases vc c h with z | ⟨z,_,z2⟩
   ·exact .inl z
   ·exact .inr ⟨z,by simp [frA],z2⟩
 | .sl i::as,v::vs,d::ds,b,av,h=>by
  obtain ⟨h1,_,c⟩:=av;have up:b∈xE (as.map gM) vs->(∃ j∈jy (.sl i::as),σ[j]?=iI (iI (V.ref b)))\/(H0 b=iK/\frA (.sl i::as)≠0/\H b≠iK/\F b=iK):=λh=>by
   rcases vc c h with ⟨j,hj,e⟩ | z;·exact .inl ⟨j,ae _ hj,e⟩
   ·exact .inr z
  cases v with
  | ref a=>
   have h:b∈a::xE (as.map gM) vs:=h;rcases ac.mp h with e | h;·subst e; exact .inl ⟨i,ac.mpr (.inl rfl),h1⟩
   ·exact up h
  | _=>exact up h
theorem ya:∀ {as:List AK} {vs:List V} {ds:List D},Rep K own F H σ ρ->(∀ x,OA own σ x->H0 x≠iK)->(∀ i∈jy as,i∈own)->(jy as).Nodup->frA as<=1->ArgV K H0 F H σ as vs ds->(xE (as.map gM) vs).Nodup
 | [],vs,ds,rp,h0,hs,nd,hf,av=>by cases vs <;> simp [xE]
 | a::as,[],ds,rp,h0,hs,nd,hf,av=>by cases a <;> exact av.elim
 | a::as,v::vs,[],rp,h0,hs,nd,hf,av=>by cases a <;> exact av.elim
 | .vl::as,v::vs,d::ds,rp,h0,hs,nd,hf,av=>by have q:=ya (as:=as) rp h0 hs nd hf av.2;cases v <;> exact q
 | .fr::as,v::vs,d::ds,rp,h0,hs,nd,hf,av=>by
  have f:frA as=0:=by simp only [frA] at hf; lia
  obtain ⟨⟨a,rfl,k,l,o⟩,b⟩:=av;show (a::xE (as.map gM) vs).Nodup;refine aM.mpr ⟨λz=>?_,ya rp h0 hs nd (by lia) b⟩;rcases vc b z with ⟨i,hi,e⟩ | ⟨_,n,_⟩
  ·exact h0 a ⟨i,hs i hi,e⟩ k
  ·exact n f
 | .sl i::as,v::vs,d::ds,rp,h0,hs,nd,hf,av=>by
  obtain ⟨h1,_,b⟩:=av;have h:∀ j∈jy as,j∈own:=λj G=>hs j (ae _ G);have hi:i∈own:=hs i (ac.mpr (.inl rfl));obtain ⟨g,c⟩:=aM.mp nd;have q:=ya rp h0 h c hf b;cases v with
  | ref a=>
   show (a::xE (as.map gM) vs).Nodup;refine aM.mpr ⟨λz=>?_,q⟩;rcases vc b z with ⟨j,G,e⟩ | ⟨n,_⟩
   ·exact g (by rw [rp.dis i j a hi (h j G) h1 e]; exact G)
   ·exact h0 a ⟨i,hi,h1⟩ n
  | _=>exact q
theorem wk:∀ {as:List AK} {b:List D} {ρ:Sl} {i:Nat},i∉jy as->(Qa as b ρ)[i]?=ρ[i]?
 | [],b,ρ,i,h=>by cases b <;> rfl
 | a::as,[],ρ,i,h=>by cases a <;> rfl
 | .vl::as,d::b,ρ,i,h=>wk (as:=as) h
 | .fr::as,d::b,ρ,i,h=>wk (as:=as) h
 | .sl j::as,d::b,ρ,i,h=>by
  have h':i≠j/\i∉jy as:=by simpa [jy] using h
  show (Qa as b (ρ.set j (iI d)))[i]?=_;rw [wk h'.2,ax (be h'.1)]
theorem Qb:∀ {as:List AK} {b:List D} {ρ:Sl},(Qa as b ρ).length=ρ.length
 | [],b,ρ=>by cases b <;> rfl
 | a::as,[],ρ=>by cases a <;> rfl
 | .vl::as,d::b,ρ=>Qb (as:=as)
 | .fr::as,d::b,ρ=>Qb (as:=as)
 | .sl j::as,d::b,ρ=>by show (Qa as b (ρ.set j (iI d))).length=_;rw [Qb,dw]
theorem Kz {F' H':Hp}:∀ {as:List AK} {vs:List V} {ds b:List D} {ρ:Sl},(jy as).Nodup->(∀ i∈jy as,i < ρ.length)->ArgV K H0 F H σ as vs ds->yn K F' H' (as.map gM) vs b->∀ i∈jy as,∃ d a,(Qa as b ρ)[i]?=iI (iI d)/\σ[i]?=iI (iI (V.ref a))/\F' a=iK/\OwnIs K F' H' a d
 | [],vs,ds,b,ρ,nd,hl,av,o,i,hi=>by simp [jy] at hi
 | a::as,[],ds,b,ρ,nd,hl,av,o,i,hi=>by cases a <;> exact av.elim
 | a::as,v::vs,[],b,ρ,nd,hl,av,o,i,hi=>by cases a <;> exact av.elim
 | a::as,v::vs,d::ds,[],ρ,nd,hl,av,o,i,hi=>by cases a <;> exact o.elim
 | .vl::as,v::vs,d::ds,u::b,ρ,nd,hl,av,o,i,hi=>Kz (as:=as) nd hl av.2 o i hi
 | .fr::as,v::vs,d::ds,u::b,ρ,nd,hl,av,o,i,hi=>Kz (as:=as) nd hl av.2 o i hi
 | .sl j::as,v::vs,d::ds,u::b,ρ,nd,hl,av,o,i,hi=>by
  obtain ⟨g,n⟩:=aM.mp nd;obtain ⟨h1,_,c⟩:=av;obtain ⟨⟨a,e,f,ow⟩,o2⟩:=o;subst e;rcases ac.mp hi with e | hi;·subst e;refine ⟨u,a,?_,h1,f,ow⟩;show (Qa as b (ρ.set i (iI u)))[i]?=_;rw [wk g,aJ (hl i (ac.mpr (.inl rfl)))]
  ·exact Kz (as:=as) (ρ:=ρ.set j (iI u)) n (λk h=>by rw [dw]; exact hl k (ae _ h)) c o2 i hi
end
noncomputable def qp (as:List AK) (G:jC) (fr:vB):qU:=λρ=>(fr ρ).bind λp=>match kI as p.1 p.2 with
 | some ds=>match G ds with
  | .ok q=>.ok (q.1,Qa as q.2 p.2)
  | .exc c o=>.exc c (Qa as (o.map (·.getD .non)) p.2)
  | .bad=>.bad
 | none=>.bad
variable {mr:Mo} {f:Addr} {ps:List Str}
section
variable {G:jC} {fr:vB}
theorem Xo {F' H':Hp} {b:List D} (r:Rep C.K own F H σ ρ) (m:∀ x,OA own σ x->H0 x≠iK) (h:∀ i∈jy as,i∈own) (nd:(jy as).Nodup) (k:ArgV C.K H0 F H σ as vs ds)
  (y:Same F' H') (c:Chg (LA (as.map gM) vs) F H F' H') (o:yn C.K F' H' (as.map gM) vs b):Rep C.K own F' H' σ (Qa as b ρ):=by
 have pin:=Kz (ρ:=ρ) nd (λi hi=>by obtain ⟨d,e⟩:=r.opn i (h i hi);exact (aE.mp e).1) k o;refine ⟨y,by rw [Qb]; exact r.len,λi d hi e=>?_,λi d hi e=>?_,λi hi=>?_,r.dis⟩;·rw [wk (λz=>hi (h i z))] at e;obtain ⟨v,h1,h2⟩:=r.val i d hi e;exact ⟨v,h1,h2.mono c.grow⟩
 ·by_cases q:i∈jy as;·obtain ⟨d',a,e1,t,s,p⟩:=pin i q;rw [e1] at e;cases e;exact ⟨a,t,s,p⟩
  ·rw [wk q] at e;obtain ⟨a,h1,h2,g⟩:=r.ow i d hi e;have l:¬LA (as.map gM) vs a:=λz=>by
    rcases vc k z with ⟨j,G,w⟩ | ⟨n,_⟩
    ·exact q (by rw [r.dis i j a hi (h j G) h1 w]; exact G)
    ·exact m a ⟨i,hi,h1⟩ n
   refine ⟨a,h1,?_,g.grow c.grow λo' f=>c.keep a o' f l⟩;cases f:F' a with
   | none=>rfl
   | some u=>
    rcases c.new a (by rw [f]; simp) with z | z | z;·exact absurd h2 z
    ·exact absurd z g.there
    ·exact absurd z l
 ·by_cases q:i∈jy as;·obtain ⟨d',a,e1,_⟩:=pin i q;exact ⟨d',e1⟩
  ·rw [wk q];exact r.opn i hi
theorem qaA {Q:VK} (l:∀ i∈C.ox,i∈own) (s:∀ i∈jy as,i∈own) (nd:(jy as).Nodup) (u:frA as<=1) (h:tE C own mr (qp as G fr) σ H Q):tAr C own as fr σ H λvs H1=>spD C.K C.cv (as.map gM) mr G (vs++[]) H1 Q C.E:=by
 obtain ⟨F,ρ,t,h⟩:=h;have m:∀ x,OA own σ x->H x≠none:=λx z=>(t.OA_there z).1;refine ⟨F,ρ,t,?_⟩;unfold qp at h;cases k:fr ρ with
 | ok p=>
  rw [k] at h;obtain ⟨ds,ρ1⟩:=p;intro vs F1 H1 a r f;rw [bj];have h1:Po C own mr σ F H (match kI as ds ρ1 with | some ds=>(match G ds with | .ok q=>.ok (q.1,Qa as q.2 ρ1) | .exc c o=>.exc c (Qa as (o.map (·.getD .non)) ρ1) | .bad=>.bad) | none=>.bad) Q:=h;cases q:kI as ds ρ1 with
  | none=>simp only [q] at h1; exact h1.elim
  | some g=>
   simp only [q] at h1;have lo:∀ x,LA (as.map gM) vs x->OA own σ x\/H x=none:=λx z=>by
    rcases vc f z with ⟨i,hi,e⟩ | ⟨n,_⟩
    ·exact .inl ⟨i,s i hi,e⟩
    ·exact .inr n
   refine ⟨F1,g,a.sub,xG a s f q,ya a m s nd u f,?_⟩;cases j:G g with
   | ok p=>rw [j] at h1;obtain ⟨d,b⟩:=p;exact λv F' H' y c o mo=>h1 v F' H' (Xo a m s nd f y c o) (r.trans c lo) (MoIs.back (Ha:=H1) r mo)
   | exc x o=>rw [j] at h1; exact λF' H' y c b=>h1 F' H' y ((Xo a m s nd f y c b).ioIs l) (r.trans c lo)
   | bad=>rw [j] at h1; exact h1.elim
 | exc c=>rw [k] at h; exact h
 | bad=>rw [k] at h; exact h.elim
theorem qfO {CX:CXT} {k:Nat} {fd:lH} {p pos:Pos} (F:FnOk X.prog X.w X.K X.mg X.base CX k f fd ps (spD C.K C.cv ms mr G)) (d:Room k X.A) (hg:Gl X x) (hm:X.mg x=iI (.ref f)) (a:l9 X.K (.ref f)=iM) (hb:Binds X.K fd ps []) (hx:vz CX X C.E)
  (m:PA X (e::es) (tAr C own as fr)) (s:ms=as.map gM:=by rfl) (c:∀ i∈jy as,i∈own:=by decide) (nd:(jy as).Nodup:=by decide) (g:frA as<=1:=by decide) (o:∀ i∈C.ox,i∈own:=by exact va rfl) (b:Dbg x:=by decide) (j:iQ (e::es) X.env=(iN,eval e X.env)::iQ es X.env:=by exact jF rfl)
  (l:(j3 pos (iQ es X.env)).any (·.1)=false:=by exact xA rfl):PE X (.Call (.Name x p) (e::es) [] pos) (tE C own mr (qp as G fr)):=by
 subst s;exact jE (qfo F d hg hm a hb .nil hx m b j l) λσ H Q h=>qaA o c nd g h
end
structure ItIs (K:Frag) (F:Hp) (J:It) (ds:List D):Prop where
 go:∀ i H,i < ds.length->Same F H->J.go i H
 yld:∀ i Fi H x H' d,ds[i]?=iI d->Same F Fi->Same Fi H->J.yld i H x H'->∃ F',Chg No Fi H F' H'/\Same F' H'/\Is K F' x d
 stop:∀ i H,ds.length<=i->Same F H->J.stop i H
def PoI (C:Ct) (own:List Nat) (σ:St) (F H:Hp) (r:Out (List D×Sl)) (R:It->Hp->Prop):Prop:=match r with
 | .ok (ds,ρ')=>∀ J F' H',Rep C.K own F' H' σ ρ'->Chg (OA own σ) F H F' H'->ItIs C.K F' J ds->R J H'
 | .exc c ρ'=>∀ F' H',Same F' H'->qcG C.K C.ox F' H' σ ρ'->Chg (OA own σ) F H F' H'->C.E (C.cv c) iK H'
 | .bad=>False
def tIt (C:Ct) (own:List Nat) (f:vB):TI:=λσ H R=>∃ F ρ,Rep C.K own F H σ ρ/\PoI C own σ F H (f ρ) R
noncomputable def xH:D->Out (List D)
 | .lst xs=>.ok xs
 | .tup xs=>.ok xs
 | _=>.bad
noncomputable def qmF (f:qU):vB:=λρ=>(f ρ).bind λp=>(xH p.1).bind λds=>.ok (ds,p.2)
theorem PoI.bindV {m:Mo} {o:VZ} {k:D×Sl->Out (List D×Sl)} {Q:It->Hp->Prop} {R:VK} (hp:PoI C own σ F H (o.bind k) Q)
  (h:∀ v F1 H1 d ρ1,Rep C.K own F1 H1 σ ρ1->Chg (OA own σ) F H F1 H1->MoIs C.K m H F1 H1 v d->PoI C own σ F H (k (d,ρ1)) Q->R v H1):Po C own m σ F H o R:=by
 cases o with
 | ok p=>exact λv F1 H1 a c mo=>h v F1 H1 p.1 p.2 a c mo hp
 | exc x=>exact hp
 | bad=>exact hp.elim
variable {tg iter:Expr} {xs:List V} {gs:List D->Sl->Out Sl}
section
variable {f:qU}
theorem qaB {t t':TI} (h:PI X tg e t) (i:∀ σ H Q,t' σ H Q->t σ H Q):PI X tg e t':=⟨λpins s σ H R I w=>h pins s σ H R I (i σ H R w)⟩
theorem qih (p:SqL K F a xs) (t:IsL K F xs ds):ItIs K F (Itl K a) ds where
 go:=λi H hi s=>by
  have hx:i < xs.length:=by rw [t.length]; exact hi
  exact ⟨xs,xs[i],s.seq p,by simp [hx]⟩
 yld:=λi Fi H x H' d e s1 s2 y=>by obtain ⟨rfl,y⟩:=y;obtain ⟨v,h1,h2⟩:=t.getD e;have q:=y xs ((s1.trans s2).seq p);rw [h1] at q;cases q;exact ⟨Fi,.refl,s2,h2.mono s1⟩
 stop:=λi H hi s=>⟨xs,s.seq p,by rw [t.length]; exact hi⟩
theorem qii (p:SqT K F a xs) (t:IsL K F xs ds):ItIs K F (Itt K a) ds where
 go:=λi H hi s=>by
  have hx:i < xs.length:=by rw [t.length]; exact hi
  exact ⟨xs,xs[i],jl s p,by simp [hx]⟩
 yld:=λi Fi H x H' d e s1 s2 y=>by obtain ⟨rfl,y⟩:=y;obtain ⟨v,h1,h2⟩:=t.getD e;have q:=y xs (jl (s1.trans s2) p);rw [h1] at q;cases q;exact ⟨Fi,.refl,s2,h2.mono s1⟩
 stop:=λi H hi s=>⟨xs,jl s p,by rw [t.length]; exact hi⟩
noncomputable def Jw (lo:Int) (n:Nat):List D:=(aN n).map λk=>.int (lo+(k:Nat))
theorem qij {lo:Int}:ItIs K F (Itr lo n) (Jw lo n) where
 go:=λi H hi _=>by
  have:i < n:=by simpa [Jw] using hi
  exact this
 yld:=λi Fi H x H' d e s1 s2 y=>by
  obtain ⟨rfl,rfl⟩:=y;have e:d=.int (lo+i):=by
   unfold Jw at e;rw [aH] at e;cases q:(aN n)[i]? with
   | none=>rw [q] at e; cases e
   | some k=>
    rw [q] at e;have h:k=i:=by have:=aE.mp q;obtain ⟨_,z⟩:=this;simpa using z.symm
    subst h;exact (aL.inj e).symm
  subst e;exact ⟨Fi,.refl,s2,.int _⟩
 stop:=λi H hi _=>by
  have:n<=i:=by simpa [Jw] using hi
  exact this
noncomputable def Qx (f:qU):vB:=λρ=>(f ρ).bind λp=>match p.1 with
 | .int j=>if -(2 ^ 62)<=j/\j < 2 ^ 62 then .ok (Jw 0 j.toNat,p.2) else .bad
 | _=>.bad
theorem JR {p:Pos} (hg:Gl X "range") (hm:X.mg "range"=iK) (h:PE X e (tE C own m f)) (s:iQ [e] X.env=[(iN,eval e X.env)]:=by exact qD rfl):PI X tg (.Call (.Name "range" p) [e] [] pos) (tIt C own (Qx f)):=by
 refine qaB (GQ hg hm (qP h jD s) s) λσ H R ⟨F,ρ,r,h⟩=>⟨F,ρ,r,PoI.bindV h λv F1 H1 d ρ1 a k c h1=>?_⟩
 cases d with
 | int j=>
  obtain rfl:=c.top.int;have h1:PoI C own σ F H (if -(2 ^ 62)<=j/\j < 2 ^ 62 then .ok (Jw 0 j.toNat,ρ1) else .bad) R:=h1;by_cases z:-(2 ^ 62)<=j/\j < 2 ^ 62;·rw [Aa z] at h1;exact ⟨j,rfl,z.1,z.2,h1 _ F1 H1 a k qij⟩
  ·rw [Ab z] at h1; exact h1.elim
 | _=>exact h1.elim
def tGd (C:Ct) (own:List Nat) (g:D->Sl->Out Sl):TG:=λv σ H Q=>∃ F ρ d,Rep C.K own F H σ ρ/\Is C.K F v d/\∃ ρ',g d ρ=.ok ρ'/\∀ σ',Rep C.K own F H σ' ρ'->(∀ b,OA own σ' b->OA own σ b)->(∀ i∈C.io,σ'[i]?=σ[i]?)->Q σ' H
def qka (C:Ct) (own:List Nat) (g:List D->Sl->Out Sl):TGs:=λvs σ H Q=>∃ F ρ ds,Rep C.K own F H σ ρ/\IsL C.K F vs ds/\∃ ρ',g ds ρ=.ok ρ'/\∀ σ',Rep C.K own F H σ' ρ'->(∀ b,OA own σ' b->OA own σ b)->(∀ i∈C.io,σ'[i]?=σ[i]?)->Q σ' H
theorem qik {t t':TG} (h:PG X e t) (i:∀ v σ H Q,t' v σ H Q->t v σ H Q):PG X e t':=⟨λpins s σ H v u Q I r w=>h pins s σ H v u Q I r (i v σ H Q w)⟩
theorem qey {t t':TGs} (h:PGs X es t) (i:∀ v σ H Q,t' v σ H Q->t v σ H Q):PGs X es t':=⟨λpins s σ H v u Q I r w=>h pins s σ H v u Q I r (i v σ H Q w)⟩
noncomputable def gNm (i:Nat):D->Sl->Out Sl:=λd ρ=>if i < ρ.length then .ok (ρ.set i (iI d)) else .bad
theorem JS {own:List Nat} (h:i∉own):vI own [i]=own:=by unfold vI;rw [List.filter_eq_self];intro j G;simp only [aw,decide_eq_true_eq];exact λz=>h (by rw [<-z]; exact G)
theorem Xp (c:X.N.Nodup) (hi:X.N[i]?=iI x) (hx:Loc X.env.scope x) (l:i∉own:=by decide) (o:i∉C.io:=by exact xz rfl) (h:X.fn x=iM\/X.env.scope.names.lookup x=iI .local:=by first | exact .inl rfl | exact .inr rfl):PG X (.Name x pos) (tGd C own (gNm i)):=by
 refine qik (qfe c hi hx h) λv σ H Q ⟨F,ρ,d,a,is,ρ',e,k⟩=>?_;unfold gNm at e;by_cases z:i < ρ.length
 ·rw [Aa z] at e;cases e;have r2:=a.put z is;rw [JS l] at r2;refine k _ r2 (λb q=>?_) λj G=>ax λq=>o (by rw [q]; exact G);have f:OA (vI own [i]) (σ.set i (iI v)) b:=by rw [JS l]; exact q
  exact f.put
 ·rw [Ab z] at e; cases e
noncomputable def ki:List D->Sl->Out Sl
 | [],ρ=>.ok ρ
 | _::_,_=>.bad
noncomputable def qE (g:D->Sl->Out Sl) (gs:List D->Sl->Out Sl):List D->Sl->Out Sl
 | d::ds,ρ=>(g d ρ).bind λρ1=>gs ds ρ1
 | [],_=>.bad
theorem kO:PGs X [] (qka C own ki):=by
 refine qey qff λvs σ H Q ⟨F,ρ,ds,a,is,ρ',e,k⟩=>?_;cases is with
 | nil=>cases e; exact ⟨rfl,k σ a (λ_ z=>z) λ_ _=>rfl⟩
 | cons _ _=>cases e
theorem qR {g:D->Sl->Out Sl} (h1:PG X e (tGd C own g)) (h2:PGs X es (qka C own gs)) (s:(lq (e::es) X.env).map (·.2)=assign e X.env::(lq es X.env).map (·.2):=by rfl):PGs X (e::es) (qka C own (qE g gs)):=by
 refine qey (qcK h1 h2 s) λvs σ H Q ⟨F,ρ,ds,p,is,ρ',e,k⟩=>?_;cases is with
 | nil=>cases e
 | @cons v d vs ds a t=>
  have e:(g d ρ).bind (λρ1=>gs ds ρ1)=.ok ρ':=e;cases q:g d ρ with
  | ok ρ1=>rw [q] at e;exact ⟨v,vs,rfl,F,ρ,d,p,a,ρ1,q,λσ1 h j m=>⟨F,ρ1,ds,h,t,ρ',e,λf r o l=>k f r (λb z=>j b (o b z)) λi hi=>(l i hi).trans (m i hi)⟩⟩
  | exc c=>rw [q] at e; cases e
  | bad=>rw [q] at e; cases e
noncomputable def kj (n:Nat) (gs:List D->Sl->Out Sl):D->Sl->Out Sl
 | .tup ds,ρ=>if ds.length=n then gs ds ρ else .bad
 | _,_=>.bad
theorem wl {k:Nat} (m:C.K=X.K) (f:X.calm=iM) (h:PGs X es (qka C own gs)) (b:(lq es X.env).length=n:=by rfl) (c:(lq es X.env).findIdx? (·.1)=none:=by rfl):PG X (.Tuple es k pos) (tGd C own (kj n gs)):=by
 refine qik (qhF f h b c) λv σ H Q ⟨F,ρ,d,r,is,ρ',e,k⟩=>?_;cases is with
 | @tup a xs ds p t=>
  have e:(if ds.length=n then gs ds ρ else .bad)=.ok ρ':=e;by_cases z:ds.length=n;·rw [Aa z] at e;exact ⟨a,xs,rfl,by rw [<-m]; exact jl r.sub p,by rw [t.length]; exact z,F,ρ,ds,r,t,ρ',e,k⟩
  ·rw [Ab z] at e; cases e
 | _=>cases e
noncomputable def qmG (fe:qU) (g:D->Sl->Out Sl):qS:=λρ=>(fe ρ).bind λp=>match g p.1 p.2 with
 | .ok ρ'=>.ok (.nx,ρ')
 | _=>.bad
noncomputable def kM (g:D->Sl->Out Sl) (fb:qS):List D->qS
 | [],ρ=>.ok (.nx,ρ)
 | d::ds,ρ=>(g d ρ).plain.bind λρ1=>(fb ρ1).bind λp=>match p.1 with
  | .nx=>kM g fb ds p.2
  | .ct=>kM g fb ds p.2
  | .bk=>.ok (.nx,p.2)
  | .rt v=>.ok (.rt v,p.2)
noncomputable def Jx (fi:vB) (g:D->Sl->Out Sl) (fb:qS):qS:=λρ=>(fi ρ).bind λp=>kM g fb p.1 p.2
theorem jU {body:List Stmt} {fi:vB} {g:D->Sl->Out Sl} {fb:qS} (hp:mP (model X.prog X.w) X.A X.env X.xe) (T:X.calm=iM) (hi:PI X tg iter (tIt C own fi)) (hg:PG X tg (tGd C own g))
  (hb:PSs X body (tSt { C with ol:=own } own own fb)) (R:∀ x,li iter X.env x=pure x:=by intro _; rfl):PS X (.For tg iter body [] pos) (tSt C own own (Jx fi g fb)):=by
 refine Kw (qer hp T hi hg hb R) λD σ H ⟨F,ρ,Q,h⟩=>⟨F,ρ,Q,?_⟩
 unfold Jx at h;cases K:fi ρ with
 | exc c=>rw [K] at h; exact h
 | bad=>rw [K] at h; exact h.elim
 | ok p=>
  rw [K] at h;obtain ⟨ds,ρ1⟩:=p;intro J F1 H1 E P it;have h:PoS C own own σ F H (kM g fb ds ρ1) D:=h;refine ⟨λi m σ' H'=>m=ds.length - i/\i<=ds.length/\∃ F' ρ',Nx C own own σ F H ρ' σ' F' H'/\Same F1 F'/\PoS C own own σ' F' H' (kM g fb (ds.drop i) ρ') D,⟨ds.length,by simp,aZ _,F1,ρ1,.ofE E P,Same.refl _,h.shift (.ofE E P)⟩,?_⟩;rintro i m σ' H' ⟨rfl,S,F',ρ',nx,gr,po⟩;by_cases t:i < ds.length
  ·have hd:ds.drop i=ds[i]::ds.drop (i+1):=d4 t;rw [hd] at po;have po:PoS C own own σ' F' H' ((g ds[i] ρ').plain.bind λρ1=>(fb ρ1).bind λp=>match p.1 with | .nx=>kM g fb (ds.drop (i+1)) p.2 | .ct=>kM g fb (ds.drop (i+1)) p.2 | .bk=>.ok (.nx,p.2) | .rt v=>.ok (.rt v,p.2)) D:=po;refine .inr ⟨it.go i H' t (gr.trans nx.rep.sub),λr H2=>ds.length - (i+1)=ds.length - (i+1)/\i+1<=ds.length/\∃ F' ρ',Nx C own own σ F H ρ' r F' H2/\Same F1 F'/\PoS C own own r F' H2 (kM g fb (ds.drop (i+1)) ρ') D,λr H2 q=>⟨ds.length - (i+1),by omega,q⟩,λx H2 y=>?_⟩;obtain ⟨u,c2,s2,N⟩:=it.yld i F' H' x H2 ds[i] (by simp [t]) gr nx.rep.sub y;cases G:g ds[i] ρ' with
   | exc c=>rw [G] at po; exact po.elim
   | bad=>rw [G] at po; exact po.elim
   | ok ρ2=>
    rw [G] at po;refine ⟨u,ρ',ds[i],nx.rep.grow c2 s2,N,ρ2,G,λk B L O=>⟨u,ρ2,B,?_⟩⟩;have M:Nx C own own σ' F' H' ρ2 k u H2:=⟨B,c2.ofNo,λb z=>.inl (L b z),O⟩
    have a:=PoS.shift (show PoS C own own σ' F' H' ((fb ρ2).bind λp=>match p.1 with | .nx=>kM g fb (ds.drop (i+1)) p.2 | .ct=>kM g fb (ds.drop (i+1)) p.2 | .bk=>.ok (.nx,p.2) | .rt v=>.ok (.rt v,p.2)) D from po) M;have up:∀ {j f l o},Nx { C with ol:=own } own own k u H2 j f l o->Nx C own own k u H2 j f l o:=λz=>⟨z.rep,z.chg,z.oa,z.io⟩
    cases I:fb ρ2 with
    | exc c=>rw [I] at a; exact a
    | bad=>rw [I] at a; exact a.elim
    | ok p=>
     rw [I] at a;obtain ⟨fl,j⟩:=p;cases fl with
     | nx=>exact λf l o n=>⟨rfl,t,l,j,(nx.then M).then (up n),(gr.trans c2.grow).trans n.chg.grow,PoS.shift (show PoS C own own k u H2 (kM g fb (ds.drop (i+1)) j) D from a) (up n)⟩
     | ct=>exact λf l o n=>⟨rfl,t,l,j,(nx.then M).then (up n),(gr.trans c2.grow).trans n.chg.grow,PoS.shift (show PoS C own own k u H2 (kM g fb (ds.drop (i+1)) j) D from a) (up n)⟩
     | bk=>exact λf l o n=>a f l o (up n)
     | rt d=>exact λv f l o s io c e mo=>a v f l o s io c e mo
  ·have e:i=ds.length:=by omega
   subst e;rw [fU] at po;exact .inl ⟨it.stop _ H' (ay _) (gr.trans nx.rep.sub),po σ' F' H' (.refl nx.rep)⟩
noncomputable def jO (ft:ym) (fb:qS):Nat->qS
 | 0,_=>.bad
 | n+1,ρ=>(ft ρ).bind λq=>if q.1=iM then (fb q.2).bind λp=>match p.1 with
  | .nx=>jO ft fb n p.2
  | .ct=>jO ft fb n p.2
  | .bk=>.ok (.nx,p.2)
  | .rt v=>.ok (.rt v,p.2)
  else .ok (.nx,q.2)
theorem Wj {body:List Stmt} {ft:ym} {fb:qS} (n:Nat) (hp:mP (model X.prog X.w) X.A X.env X.xe) (ht:PT X t (tT C own ft)) (hb:PSs X body (tSt { C with ol:=own } own own fb)):PS X (.While t body [] pos) (tSt C own own (jO ft fb n)):=by
 refine Kw (qcL hp ht hb) λD σ H ⟨F,ρ,x,h⟩=>?_;refine ⟨λm σ' H'=>∃ F' ρ',Rep C.K own F' H' σ' ρ'/\PoS C own own σ' F' H' (jO ft fb m ρ') D,⟨n,F,ρ,x,h⟩,?_⟩;rintro m σ1 H1 ⟨F1,ρ1,l,po⟩;refine ⟨F1,ρ1,l,?_⟩;cases m with
 | zero=>exact po.elim
 | succ m=>
  have po:PoS C own own σ1 F1 H1 ((ft ρ1).bind λq=>if q.1=iM then (fb q.2).bind λp=>match p.1 with | .nx=>jO ft fb m p.2 | .ct=>jO ft fb m p.2 | .bk=>.ok (.nx,p.2) | .rt v=>.ok (.rt v,p.2) else .ok (.nx,q.2)) D:=po;refine PoS.bindT po λj H2 k ρ2 r c2 h2=>?_;cases k with
  | false=>exact h2 σ1 j H2 (.refl r)
  | true=>
   refine ⟨λg u=>∃ F' ρ',Rep C.K own F' u g ρ'/\PoS C own own g F' u (jO ft fb m ρ') D,λg u q=>⟨m,by omega,q⟩,j,ρ2,r,?_⟩;have h2:PoS C own own σ1 j H2 ((fb ρ2).bind λp=>match p.1 with | .nx=>jO ft fb m p.2 | .ct=>jO ft fb m p.2 | .bk=>.ok (.nx,p.2) | .rt v=>.ok (.rt v,p.2)) D:=h2;have up:∀ {a f J b},Nx { C with ol:=own } own own σ1 j H2 a f J b->Nx C own own σ1 j H2 a f J b:=λz=>⟨z.rep,z.chg,z.oa,z.io⟩
   cases o:fb ρ2 with
   | exc c=>rw [o] at h2; exact h2
   | bad=>rw [o] at h2; exact h2.elim
   | ok p=>
    rw [o] at h2;obtain ⟨fl,a⟩:=p;cases fl with
    | nx=>exact λf J b i=>⟨J,a,i.rep,PoS.shift (show PoS C own own σ1 j H2 (jO ft fb m a) D from h2) (up i)⟩
    | ct=>exact λf J b i=>⟨J,a,i.rep,PoS.shift (show PoS C own own σ1 j H2 (jO ft fb m a) D from h2) (up i)⟩
    | bk=>exact λf J b i=>h2 f J b (up i)
    | rt d=>exact λv f J b s io c e mo=>h2 v f J b s io c e mo
end
noncomputable def VH (cells:List (Str×Addr)):List (Str×lC)->List (Str×Addr)->List (Str×Addr)
 | [],acc=>acc
 | (n,k)::r,acc=>if (k == .free)=iM then VH cells r ((n,(cells.lookup n).getD 0)::acc) else VH cells r acc
variable {env:Env}
theorem ug:∀ (names:List (Str×lC)) (acc:List (Str×Addr)),(∀ x∈names,x.2=.free->∃ c,env.cells.lookup x.1=iI c) ->(forIn names acc λ(x:Str×lC) (cs:List (Str×Addr))=>if (x.2 == bH)=iM then (do let a <-cellOf env x.1; pure (cz ((x.1,a)::cs))) else pure (cz cs):Sem (List (Str×Addr)))=pure (VH env.cells names acc)
 | [],acc,_=>rfl
 | (n,k)::r,acc,h=>by
  rw [g8];by_cases q:(k == bH)=iM
  ·obtain ⟨c,d⟩:=h (n,k) aj (by simpa using q);have e:cellOf env n=pure c:=by unfold cellOf; rw [d]
   simp only [q,if_true,e];have j:=ug r ((n,c)::acc) (λx hx=>h x (ae _ hx));simp only [VH,q,if_true,d,Option.getD_some];exact j
  ·simp only [q,if_false,VH];exact ug r acc (λx hx=>h x (ae _ hx))
variable {scope:lY}
theorem JT (h:∀ x∈scope.names,x.2=.free->∃ c,env.cells.lookup x.1=iI c):closureFor scope env=pure (VH env.cells scope.names []):=by have:=ug scope.names [] h;unfold closureFor;simp only [bind_pure];exact this
variable {cells:List (Str×Addr)}
theorem yG:∀ {names:List (Str×lC)} {acc:List (Str×Addr)} {x:Str} {c:Addr},(∀ y∈names,y.2=.free->∃ c,cells.lookup y.1=iI c)->(VH cells names acc).lookup x=iI c->cells.lookup x=iI c\/acc.lookup x=iI c
 | [],acc,x,c,_,h=>.inr h
 | (n,k)::r,acc,x,c,hf,h=>by
  unfold VH at h;by_cases q:(k == bH)=iM
  ·rw [Aa q] at h;obtain ⟨T,d⟩:=hf (n,k) aj (by simpa using q);rcases yG (λy C=>hf y (ae _ C)) h with z | z;·exact .inl z
   ·rw [c9] at z;have d:cells.lookup n=iI T:=d;by_cases e:(x == n)=iM
    ·rw [e] at z;simp only [d,Option.getD_some] at z;have:x=n:=by simpa using e
     subst this;rw [d]; exact .inl z
    ·have e:(x == n)=false:=by simpa using e
     rw [e] at z;exact .inr z
  ·rw [Ab q] at h;exact yG (λy C=>hf y (ae _ C)) h
theorem KA:∀ {names:List (Str×lC)} {acc:List (Str×Addr)} {x:Str},(∃ c,acc.lookup x=iI c)->∃ c,(VH cells names acc).lookup x=iI c
 | [],_,_,h=>h
 | (n,k)::r,acc,x,h=>by
  unfold VH;by_cases q:(k == bH)=iM
  ·rw [Aa q];refine KA ?_;obtain ⟨c,d⟩:=h;rw [c9];by_cases e:(x == n)=iM;·rw [e]; exact ⟨_,rfl⟩
   ·have e:(x == n)=false:=by simpa using e
    rw [e]; exact ⟨c,d⟩
  ·rw [Ab q]; exact KA h
theorem Qc:∀ {names:List (Str×lC)} {acc:List (Str×Addr)} {x:Str},(x,bH)∈names->∃ c,(VH cells names acc).lookup x=iI c
 | (n,k)::r,acc,x,h=>by
  unfold VH;rcases ac.mp h with e | h
  ·cases e;rw [Aa (by rfl)];refine KA ?_;rw [c9,beq_self_eq_true];exact ⟨_,rfl⟩
  ·by_cases q:(k == bH)=iM;·rw [Aa q]; exact Qc h
   ·rw [Ab q]; exact Qc h
noncomputable def jB (X:Cx) (scope:lY) (N:List Str) (fp:List Addr) (L:Addr) (s:iO) (H:Hp):Cx:=
 { X with N:=N,s₀:=s,H₀:=H,env:=compEnvC scope (VH X.env.cells scope.names []) L X.env,outer:=X.stack,stack:=X.stack,ex:=fp,fn:=λ_=>iN,pn:=[],xe:=λ_ _=>False }
structure ScOk (X:Cx) (scope:lY):Prop where
 kind:scope.kind=.function
 nocell:∀ y∈scope.names,y.2≠.cell
 names:∀ y∈scope.names,y.2=.local->scope.names.lookup y.1=iI .local
 free:∀ y∈scope.names,y.2=.free->X.env.kindOf y.1=iI .cell\/X.env.kindOf y.1=iI .free
 frl:∀ y∈scope.names,y.2=.free->scope.names.lookup y.1=iI .free
theorem yb {a:α}:∀ {l:List (Str×α)},l.lookup x=iI a->(x,a)∈l
 | [],h=>by simp at h
 | (n,k)::r,h=>by
  rw [c9] at h;by_cases e:(x == n)=iM
  ·rw [e] at h;have h:iI k=iI a:=h;cases h;have:x=n:=by simpa using e
   subst this;exact aj
  ·have e:(x == n)=false:=by simpa using e
   rw [e] at h;exact ae _ (yb h)
theorem gc {k:lC} (h:(relabel scope env).names.lookup x=iI k) (b:k=.cell\/k=.free) (a:∀ y∈scope.names,y.2≠.cell):(x,bH)∈scope.names:=by
 have m:=yb h;obtain ⟨⟨n,k'⟩,hm,e⟩:=af.mp m;dsimp only at e;by_cases q:(k' == bH&&env.scope.kind == .function&&env.kindOf n == iI .cell)=iM
 ·rw [Aa q] at e;cases e;have:k'=.free:=by rw [aR,aR] at q;simpa using q.1.1
  subst this;exact hm
 ·rw [Ab q] at e;cases e;rcases b with rfl | rfl;·exact absurd rfl (a _ hm)
  ·exact hm
theorem Wl (h:Vis (relabel scope env) x):∃ k,(x,k)∈scope.names:=by
 have go:∀ {k:lC},(relabel scope env).names.lookup x=iI k->∃ k,(x,k)∈scope.names:=λ{k} h=>by
  obtain ⟨⟨n,k'⟩,hm,e⟩:=af.mp (yb h);dsimp only at e;by_cases q:(k' == bH&&env.scope.kind == .function&&env.kindOf n == iI .cell)=iM;·rw [Aa q] at e;cases e;exact ⟨_,hm⟩
  ·rw [Ab q] at e;cases e;exact ⟨_,hm⟩
 rcases h with h | h | h <;> exact go h
variable {pins:Pns} {σc:St} {s s':iO} {fp:List Addr} {h':Heap}
section
theorem Qy (I:Inv X pins σ H s) (S:ScOk X scope):∀ y∈scope.names,y.2=.free->∃ c,X.env.cells.lookup y.1=iI c:=λy C e=>I.ok.has y.1 (S.free y C e)
theorem qdi (I:Inv X pins σ H s) (S:ScOk X scope) (G:∀ b∈fp,Uz X pins H b) (R:∀ b∈fp,b < s.heap.objs.size) (B:h'.Ns s.heap.objs.size (λ_=>iK))
  (l:∀ b o,s.heap.get? b=iI o->h'.get? b=iI o) (hl:σc.length=N.length)
  (A:∀ (j:Nat) (x:Str) (v:V),N[j]?=iI x->σc[j]?=iI (iI v)->(∃ k,(x,k)∈scope.names)->∃ i:Nat,X.N[i]?=iI x/\σ[i]?=iI (iI v)/\Vis X.env.scope x/\(x,bH)∈scope.names) {t:Nat} :
  Inv (jB X scope N fp s.heap.objs.size s H) [] σc H { s with heap:=h',toks:=t }:=by
 have E:=Qy I S;have cl:∀ x c,(VH X.env.cells scope.names []).lookup x=iI c->X.env.cells.lookup x=iI c:=λx c e=>(yG E e).resolve_right (by simp);have w:∀ b∈fp,b∉frs X.stack:=λb hb z=>by
  obtain ⟨f0,f1,f2,_⟩:=G b hb;rcases ac.mp (I.stkSub b z) with e | e;·exact f1 e
  ·exact f2 e
 refine ⟨⟨I.ok.mod,?_,I.ok.glob,I.ok.blt,ay _,λx y c h1 h2=>I.ok.inj x y c (cl x c h1) (cl y c h2),λx hx=>?_,λx c h=>absurd h (by show ¬(iN=iM); exact bE),I.ok.hd,I.ok.frames,.inl rfl,λb hb=>⟨aF (R b hb),λx c e z=>?_⟩,I.bs,bU I.ok.bsz I.sz,λb o e hb=>?_,w,I.stack,I.stkFree⟩,rfl,I.bare,Un.kept l,⟨_,B,λj x v e1 g P=>?_⟩,λx c e=>?_,I.hok.fresh (ay _),λx c e=>I.freeC x c (cl x c e),λp hp=>absurd (show p∈([]:Pns) from hp) (by simp),I.hok.kept l,hl⟩;·exact S.kind
 ·refine Qc ?_;rcases hx with hx | hx;·exact gc hx (.inl rfl) S.nocell
  ·exact gc hx (.inr rfl) S.nocell
 ·exact (G b hb).2.2.2.2.1 x c (cl x c e) z
 ·rcases (G b hb).2.2.2.1 with z | z;·exact I.ok.noex b o e z
  ·have C:=aC e;exact absurd (aK C (bU I.ok.bsz z)) (cq _)
 ·obtain ⟨i,g1,U,T,K⟩:=A j x v e1 g (Wl P);obtain ⟨m,W,D⟩:=I.loc;obtain ⟨u,r,look⟩:=D i x v g1 U T;refine ⟨u,r,?_⟩;obtain ⟨L,f⟩:=Qc (cells:=X.env.cells) (acc:=[]) K;have J:=cl x L f;have kd:(jB X scope N fp s.heap.objs.size s H).env.kindOf x=iI .cell\/(jB X scope N fp s.heap.objs.size s H).env.kindOf x=iI .free\/(jB X scope N fp s.heap.objs.size s H).env.kindOf x=iI .local:=by
   rcases P with z | z | z;·exact .inr (.inr z)
   ·exact .inl z
   ·exact .inr (.inl z)
  rcases look with ⟨k,_⟩ | ⟨k,c,O,z⟩
  ·rcases S.free _ K rfl with q | q;·have q:X.env.kindOf x=iI .cell:=q;rw [k] at q; cases q
   ·have q:X.env.kindOf x=iI .free:=q;rw [k] at q; cases q
  ·rw [J] at O;cases O;obtain ⟨oc,d,a⟩:=z;rcases kd with q | q | q;·exact .inr ⟨.inl q,L,f,⟨oc,l _ _ d,a⟩⟩
   ·exact .inr ⟨.inr q,L,f,⟨oc,l _ _ d,a⟩⟩
   ·refine absurd q ?_;intro q;have Q:=yb (show (relabel scope X.env).names.lookup x=iI .local from q);obtain ⟨⟨n,k'⟩,hm,e⟩:=af.mp Q;dsimp only at e;by_cases M:(k' == bH&&X.env.scope.kind == .function&&X.env.kindOf n == iI .cell)=iM;·rw [Aa M] at e; cases e
    ·rw [Ab M] at e;cases e;have e1:=S.names _ hm rfl;have g:=S.frl _ K rfl;have e1:scope.names.lookup x=iI .local:=e1;have g:scope.names.lookup x=iI .free:=g;rw [e1] at g;cases g
 ·obtain ⟨v,oc,d,a⟩:=I.cell x c (cl x c e);exact ⟨v,oc,l _ _ d,a⟩
theorem qdj {H1:Hp} {s1:iO} {L:Addr} (I:Inv X pins σ H s) (h:∀ b∈fp,Uz X pins H b) (J:Inv (jB X scope N fp s.heap.objs.size s H) [] σc H' s') (y:bK s.heap.objs.size s'.heap h'):Inv X pins σ H' { s' with heap:=h' }:=by
 have a:H' s.heap.objs.size=none:=J.free;have ne:∀ b o,s.heap.get? b=iI o->b≠s.heap.objs.size:=λb o e=>aF (aC e);have U:Un (frs X.stack) fp H H' s.heap s'.heap:=J.base;refine I.call' (s':={ s' with heap:=h' }) (ch:=fp) J.os ⟨λb o e n h1 h2=>(y.2 b (ne b o e)).trans (U.keep b o e n h1 h2),λb o e n h1 h2=>?_,U.free,λb o e h2=>?_,U.tups,U.frzs,U.tbls⟩ (λb u e=>?_) J.bare λb hb=>?_;·obtain ⟨sl,q⟩:=U.slot b o e n h1 h2;exact ⟨sl,(y.2 b (ne b o e)).trans q⟩
 ·obtain ⟨o',q⟩:=U.there b o e h2;exact ⟨o',(y.2 b (ne b o e)).trans q⟩
 ·refine (J.hok b u e).stay (λc w d q=>(y.2 c ?_).trans q) (λ_ q=>q) λ_ _ q=>q;rintro rfl;rcases d with z | z;·rw [<-z,a] at e; cases e
  ·rw [a] at z; cases z
 ·obtain ⟨f0,f1,f2,g,f4,f⟩:=h b hb;exact ⟨g,f1,f4,f⟩
end
theorem KB {prog:iU} {w:iV} {A:iZ} {R:mK->iO->Prop} {s:iO} {elt target iter:Expr} {ifs:List Expr} {scope:lY} {pos:Pos} {it acc:iL} {env:Env} (I:Nat->iO->Prop)
  (l:∀ n s,I n s->iR (model prog w) A (lB it) (λr d=>match r with
   | none=>R (.ok .next) d
   | some v=>iR (model prog w) A (l8 target it v) (λ_ e=>iR (model prog w) A (assign target env v) (λ_ i=>
     iR (model prog w) A (forIn ifs iM λc r=>if r=iM then do let ok <-isTrue c env (eval c env); pure (cz ok) else pure (cz r)) (λok b=>
      if ok=iM then iR (model prog w) A (eval elt env) (λx g=>
       iR (model prog w) A (call (.builtin "list.append") [acc,x]) (λ_ f=>∃ m,m < n/\I m f) (λ_ _=>False) g) (λ_ _=>False) b
      else ∃ m,m < n/\I m b) (λ_ _=>False) i) (λ_ _=>False) e) (λ_ _=>False) d) (λ_ _=>False) s)
  (n:Nat) (h:I n s):lE (model prog w) A (.compLoop (.ListComp elt [⟨target,iter,ifs,0⟩] scope pos) 0 it acc env) R s:=by
 have no:∀ {α:Type} {t:Sem α} {Q y:α->iO->Prop} {E:iL->iO->Prop} {s:iO},iR (model prog w) A t Q (λ_ _=>False) s->(∀ a s,Q a s->y a s)->iR (model prog w) A t y E s:=λh k=>lZ h k λ_ _ z=>z.elim;refine codeAny_loop rfl I (λn s B=>?_) n h;show iR _ A ((compTurn (.ListComp elt [⟨target,iter,ifs,0⟩] scope pos) 0 it acc env).onRaise (λx=>do noteFrame x env; theTreesLotGoes x)) _ _ s;refine wpAny_noted ?_;rw [compTurn_list];refine iJ (wpAny_standAt (iJ (no (l n s B) λr d h₁=>?_)));cases r with
 | none=>exact iP h₁
 | some v=>
  refine iJ (no h₁ λ_ e o=>iJ (no o λ_ i u=>iJ (no u λok b j=>?_)));cases ok with
  | false=>exact iP ⟨rfl,j⟩
  | true=>exact iJ (iJ (no j λx g q=>iJ (no q λ_ f p=>iP (iP ⟨rfl,p⟩))))
structure PTs (Y:Cx) (ifs:List Expr) (t:TT):Prop where
 run:∀ (pins:Pns) (s:iO) (σ:St) (H:Hp) (Q:Bool->Hp->Prop),Inv Y pins σ H s->t σ H Q ->iR (model Y.prog Y.w) Y.A (forIn ifs iM λc r=>if r=iM then do let ok <-isTrue c Y.env (eval c Y.env); pure (cz ok) else pure (cz r)) (TP Y pins σ Q) Y.xe s
instance {Y:Cx} {ifs:List Expr} {t:TT}:CoeFun (PTs Y ifs t) (λ_=>∀ (pins:Pns) (s:iO) (σ:St) (H:Hp) (Q:Bool->Hp->Prop),Inv Y pins σ H s->t σ H Q ->iR (model Y.prog Y.w) Y.A (forIn ifs iM λc r=>if r=iM then do let ok <-isTrue c Y.env (eval c Y.env); pure (cz ok) else pure (cz r)) (TP Y pins σ Q) Y.xe s):=⟨λh=>h.run⟩
variable {Y:Cx}
theorem qfP:PTs Y [] (λ_ H Q=>Q iM H):=⟨λ_ _ _ H _ I h=>wpAny_tests_nil ⟨H,I,h⟩⟩
theorem zo {t:TT} (h:PT Y c t):PTs Y [c] t:=⟨λpins s σ H Q I q=>wpAny_tests_one (h pins s σ H Q I q)⟩
variable {ifs:List Expr}
section
variable {it:Addr} {tn:Nat->Heap->Prop} {J:It} {elt:Expr} {g:TG} {tt:TT} {te:TE} {E:iL->iO->Prop}
theorem qdk (I:Inv X pins σ H s) (O:X.calm=iM) (S:ScOk X scope) (T:Turn X.prog X.w X.K tg J fp it tn) (st0:tn 0 s.heap) (hf:∀ b∈fp,Uz X pins H b)
  (hg:∀ fp L s' H',PG (jB X scope N fp L s' H') tg g) (ht:∀ fp L s' H',PTs (jB X scope N fp L s' H') ifs tt) (he:∀ fp L s' H',PE (jB X scope N fp L s' H') elt te) (hl:σc.length=N.length)
  (hσ:∀ (j:Nat) (x:Str) (v:V),N[j]?=iI x->σc[j]?=iI (iI v)->(∃ k,(x,k)∈scope.names)->∃ i:Nat,X.N[i]?=iI x/\σ[i]?=iI (iI v)/\Vis X.env.scope x/\(x,bH)∈scope.names)
  (W:Addr->Nat->Nat->St->Hp->Prop) (Fin:Addr->Hp->Prop) (w0:∀ p,H p=iK->∃ m,W p 0 m σc (upd H p (.lst [])))
  (Z:∀ p i m σ1 H1,W p i m σ1 H1->(J.stop i H1/\Fin p H1)\/(J.go i H1/\∀ x H2,J.yld i H1 x H2->g x σ1 H2 λz H3=>tt z H3 λb H4=>if b=iM then te z H4 λy H5=>∃ xs,H5 p=iI (.lst xs)/\xs.length < sizeLine/\∃ c,c < m/\W p (i+1) c z (upd H5 p (.lst (xs++[y]))) else ∃ c,c < m/\W p (i+1) c z H4))
  (RR:iL->Addr->mK->iO->Prop)
  (hRR:∀ p L H' s',Fin p H'->(∃ m,s'.heap.Ns L m)->Uz X pins H' L->(∀ h',bK L s'.heap h'->Inv X pins σ H' { s' with heap:=h' })->RR (.ref p) L (.ok .next) s') :
  iR (model X.prog X.w) X.A (mZ []) (λacc s₃=>iR (model X.prog X.w) X.A (newFunctionEnv scope X.env.globals (VH X.env.cells scope.names []) [] X.env.qual iK .none (iI X.env)) (λD F=>
   lE (model X.prog X.w) X.A (.compStart (.ListComp elt [⟨tg,iter,ifs,0⟩] scope pos) 0 (.ref it) acc { D with scope:=relabel scope X.env }) (RR acc D.locals) F) E s₃) E s:=by
 have hfo:∀ b∈fp,b < s.heap.objs.size:=λb hb=>let ⟨o,e,_⟩:=T.obj 0 _ st0 b hb; aC e;have B:=I.fresh;have I3:Inv X pins σ (upd H s.heap.objs.size (.lst [])) { s with heap:=s.heap.push { cls:=.type "list",data:=.seq ([]:List iL).toArray } }:=I.lnew (t':=s.toks) (ys:=[]) (its:=[]) .nil (aZ _);have M:∀ b∈fp,Uz X pins (upd H s.heap.objs.size (.lst [])) b:=λb hb=>⟨by rw [qx (aF (hfo b hb))]; exact (hf b hb).1,(hf b hb).2⟩
 have st3:tn 0 (s.heap.push { cls:=.type "list",data:=.seq ([]:List iL).toArray }):=T.keep 0 _ _ st0 λb hb o e=>aa _ e;refine iX (wpAny_newFunctionEnv S.nocell (λy hy=>by simp at hy) (λh₁ a h=>?_) S.kind);dsimp only at a h ⊢;generalize hs3:({ s with heap:=s.heap.push { cls:=.type "list",data:=.seq ([]:List iL).toArray } }:iO)=s3 at I3;have e3:s3.heap=s.heap.push { cls:=.type "list",data:=.seq ([]:List iL).toArray }:=by rw [<-hs3]
 rw [<-e3] at a h st3 ⊢;have keep:∀ b o,s3.heap.get? b=iI o->h₁.get? b=iI o:=λb o e=>(h.2 b (aF (aC e))).trans (aa _ e);have ho3:∀ b∈fp,b < s3.heap.objs.size:=λb hb=>by rw [e3,bt]; exact cQ (hfo b hb)
 have J1:Inv (jB X scope N fp s3.heap.objs.size s3 (upd H s.heap.objs.size (.lst []))) [] σc (upd H s.heap.objs.size (.lst [])) { s3 with heap:=h₁,toks:=s.toks+0 }:=
  qdi I3 S M ho3 (by simpa using a) keep hl hσ
 have st4:tn 0 h₁:=T.keep 0 _ _ st3 λb hb o e=>keep b o e;have loop:∀ s4:iO,s4={ s3 with heap:=h₁,toks:=s.toks+0 }->lE (model X.prog X.w) X.A (.compLoop (.ListComp elt [⟨tg,iter,ifs,0⟩] scope pos) 0 (.ref it) (.ref s.heap.objs.size) (compEnvC scope (VH X.env.cells scope.names []) s3.heap.objs.size X.env)) (RR (.ref s.heap.objs.size) s3.heap.objs.size) s4:=by
  rintro s4 rfl;generalize C:jB X scope N fp s3.heap.objs.size s3 (upd H s.heap.objs.size (.lst []))=Y at J1;have eP:Y.prog=X.prog:=by rw [<-C]; rfl
  have ew:Y.w=X.w:=by rw [<-C]; rfl
  have eA:Y.A=X.A:=by rw [<-C]; rfl
  have ee:Y.env=compEnvC scope (VH X.env.cells scope.names []) s3.heap.objs.size X.env:=by rw [<-C]; rfl
  have eK:Y.K=X.K:=by rw [<-C]; rfl
  have ec:Y.calm=true:=by rw [<-C]; exact O
  have ex:Y.xe=λ_ _=>False:=by rw [<-C]; rfl
  have hgY:PG Y tg g:=by rw [<-C]; exact hg fp _ _ _
  have htY:PTs Y ifs tt:=by rw [<-C]; exact ht fp _ _ _
  have heY:PE Y elt te:=by rw [<-C]; exact he fp _ _ _
  have t:∀ {H1:Hp},(∀ b∈fp,H1 b=iK)->∀ b∈fp,Uz Y [] H1 b:=λhn b hb=>by have q:=J1.ok.exf b (by rw [<-C]; exact hb);refine ⟨hn b hb,q.1,J1.ok.exfs b (by rw [<-C]; exact hb),.inl (by rw [<-C]; exact hb),q.2,λp hp=>?_⟩;rw [<-C] at hp;exact absurd (show p∈([]:Pns) from hp) (by simp)
  obtain ⟨m0,hm0⟩:=w0 s.heap.objs.size B;refine KB (λn s'=>∃ i σ1 H1,Inv Y [] σ1 H1 s'/\tn i s'.heap/\(∀ b∈fp,H1 b=iK)/\W s.heap.objs.size i n σ1 H1) ?_ m0 ⟨0,σc,_,J1,st4,λb hb=>(M b hb).1,hm0⟩;rintro n s5 ⟨i,σ1,H1,J5,st5,fr5,w5⟩;rw [<-eP,<-ew,<-eA,<-ee];have TY:Turn Y.prog Y.w Y.K tg J fp it tn:=by rw [eP,ew,eK]; exact T
  rcases Z _ i n σ1 H1 w5 with ⟨stop,fin⟩ | ⟨go,step⟩
  ·refine thn (TY.done Y rfl rfl rfl ec i [] s5 σ1 H1 _ J5 (t fr5) st5 stop) λr s6 ⟨hr,J6⟩=>?_;subst hr;have P:Inv (jB X scope N fp s3.heap.objs.size s3 (upd H s.heap.objs.size (.lst []))) [] σ1 H1 s6:=by rw [C]; exact J6
   exact hRR _ _ H1 s6 fin (let ⟨m,hn,_⟩:=P.loc; ⟨m,hn⟩) (I3.fpOk (ay _) P.free) λh' sb=>qdj (s1:=s6) (H1:=H1) (L:=0) I3 M P sb
  ·refine thn (TY.item Y rfl rfl rfl ec i [] s5 σ1 H1 _ J5 (t fr5) st5 go) λr s6 ⟨u,hr,h6⟩=>?_;subst hr;refine thn h6 λ_ s7 ⟨x,H7,J7,r7,y7,G,fr7⟩=>?_;have J7':=J7.pinned (t fr7) (TY.obj _ _ G);have back:∀ {f:St} {U:Hp} {Q:iO},Inv Y ([]++VO fp s7.heap) f U Q->(∃ c,c < n/\W s.heap.objs.size (i+1) c f U)->∃ m,m < n/\∃ i σ1 H1,Inv Y [] σ1 H1 Q/\tn i Q.heap/\(∀ b∈fp,H1 b=iK)/\W s.heap.objs.size i m σ1 H1:=λ{f U Q} R ⟨c,hm,w9⟩=>by refine ⟨c,hm,i+1,f,U,R.unpinned,TY.keep _ _ _ G λb hb o e=>(R.pin (b,o) (aY _ (aY _ (uX hb e)))).1,λb hb=>?_,w9⟩;obtain ⟨o,e,d⟩:=TY.obj _ _ G b hb;exact (R.pin (b,o) (aY _ (aY _ (uX hb e)))).2.1
   rw [<-ex];refine thn (hgY _ s7 σ1 H7 x u _ J7' r7 (step x H7 y7)) λ_ s8 ⟨l,H8,J8,q8⟩=>?_;refine thn (htY _ s8 l H8 _ J8 q8) λok Q ⟨U,R,q9⟩=>?_;cases ok with
   | false=>exact back R q9
   | true=>refine thn (heY _ Q l U _ R q9) λv s10 ⟨y,H10,J10,r10,xs,hx,hlen,q10⟩=>?_;exact thn (VV _ s10 l H10 (.ref s.heap.objs.size) [y] (.ref s.heap.objs.size) [v] (λ_ H11=>∃ c,c < n/\W s.heap.objs.size (i+1) c l H11) J10 rfl (.cons r10 .nil) ⟨_,xs,y,rfl,rfl,hx,hlen,q10⟩) λ_ s11 ⟨_,H11,J11,_,q11⟩=>back J11 q11
 have e4:({ heap:=h₁,gens:=s.gens,drawn:=s.drawn,toks:=s.toks+([]:List (Str×iL)).length,os:=s.os }:iO)={ s3 with heap:=h₁,toks:=s.toks+0 }:=by rw [<-hs3]; rfl
 exact codeAny_compStart_list (loop _ e4) (T.self _ 0 _ _ _ st4 (loop _ e4))
end
noncomputable def kJ (nt:Nat) (cap:List Nat) (ρ:List (Option α)):List (Option α):=aS nt iK++cap.map λk=>(ρ[k]?).getD iK
noncomputable def ua (own:List Nat):Nat->List Nat->List Nat
 | _,[]=>[]
 | n,k::cap=>if k∈own then n::ua own (n+1) cap else ua own (n+1) cap
noncomputable def ioC (nt len:Nat):List Nat:=(aN len).map (nt + ·)
noncomputable def jR (own:List Nat) (ρc:Sl):Nat->List Nat->Sl->Sl
 | _,[],ρ=>ρ
 | n,k::cap,ρ=>if k∈own then jR own ρc (n+1) cap (ρ.set k ((ρc[n]?).getD iK)) else jR own ρc (n+1) cap ρ
variable {nt:Nat} {cap:List Nat}
theorem vd {ρ:List (Option α)} {d:α}:(kJ nt cap ρ)[i]?=iI (iI d)↔∃ j k,i=nt+j/\cap[j]?=iI k/\ρ[k]?=iI (iI d):=by
 unfold kJ;constructor
 ·intro h;by_cases hi:i < nt;·rw [cL (by simpa using hi),eD] at h;split at h <;> cases h
  ·rw [b9 (by simpa using hi),dD,aH] at h;cases q:cap[i - nt]? with
   | none=>rw [q] at h; cases h
   | some k=>
    rw [q] at h;have h:(ρ[k]?).getD iK=iI d:=aL.inj h;refine ⟨i - nt,k,by lia,q,?_⟩;cases a:ρ[k]? with
    | none=>rw [a] at h; cases h
    | some o=>rw [a] at h; exact congrArg iI h
 ·rintro ⟨j,k,rfl,h1,h2⟩;rw [b9 (by simp),dD,aH,show nt+j - nt=j by lia,h1];simp [h2]
theorem ke {own:List Nat}:∀ {n:Nat} {cap:List Nat} {i:Nat},i∈ua own n cap↔∃ j k,i=n+j/\cap[j]?=iI k/\k∈own
 | n,[],i=>by simp [ua]
 | n,k::cap,i=>by
  have a:=@ke own (n+1) cap i;unfold ua;by_cases h:k∈own
  ·rw [Aa h,ac,a];constructor
   ·rintro (rfl | ⟨j,k',e,h1,h2⟩);·exact ⟨0,k,rfl,rfl,h⟩
    ·exact ⟨j+1,k',by lia,by simpa using h1,h2⟩
   ·rintro ⟨j,k',e,h1,h2⟩;cases j with
    | zero=>exact .inl (by lia)
    | succ j=>exact .inr ⟨j,k',by lia,by simpa using h1,h2⟩
  ·rw [Ab h,a];constructor;·rintro ⟨j,k',e,h1,h2⟩;exact ⟨j+1,k',by lia,by simpa using h1,h2⟩
   ·rintro ⟨j,k',e,h1,h2⟩;cases j with
    | zero=>simp at h1; subst h1; exact absurd h2 h
    | succ j=>exact ⟨j,k',by lia,by simpa using h1,h2⟩
theorem KC {len:Nat}:i∈ioC nt len↔∃ j,j < len/\i=nt+j:=by
 unfold ioC;rw [af];constructor;·rintro ⟨j,h1,h2⟩; exact ⟨j,aX.mp h1,h2.symm⟩
 ·rintro ⟨j,h1,h2⟩; exact ⟨j,aX.mpr h1,h2.symm⟩
variable {ρc:Sl}
theorem zp:∀ {n:Nat} {cap:List Nat} {ρ:Sl},(jR own ρc n cap ρ).length=ρ.length
 | _,[],_=>rfl
 | n,k::cap,ρ=>by
  unfold jR;by_cases h:k∈own;·rw [Aa h,zp,dw]
  ·rw [Ab h,zp]
theorem kX:∀ {n:Nat} {cap:List Nat} {ρ:Sl} {i:Nat},¬(i∈cap/\i∈own)->(jR own ρc n cap ρ)[i]?=ρ[i]?
 | _,[],_,_,_=>rfl
 | n,k::cap,ρ,i,h=>by
  unfold jR;have h':¬(i∈cap/\i∈own):=λz=>h ⟨ae _ z.1,z.2⟩;by_cases a:k∈own;·rw [Aa a,kX h',ax (λe=>h ⟨ac.mpr (.inl e.symm),by rw [<-e]; exact a⟩)]
  ·rw [Ab a,kX h']
theorem xI:∀ {n:Nat} {cap:List Nat} {ρ:Sl} {j k:Nat} {d:D},cap.Nodup->cap[j]?=iI k->k∈own->k < ρ.length->ρc[n+j]?=iI (iI d)->(jR own ρc n cap ρ)[k]?=iI (iI d)
 | _,[],_,_,_,_,_,h,_,_,_=>by simp at h
 | n,k0::cap,ρ,0,k,d,nd,h,hk,hl,e=>by simp at h; subst h;obtain ⟨n1,n2⟩:=aM.mp nd;unfold jR;rw [Aa hk,kX (λz=>n1 z.1),aJ hl];have e:ρc[n]?=iI (iI d):=e;rw [e]; rfl
 | n,k0::cap,ρ,j+1,k,d,nd,h,hk,hl,e=>by
  obtain ⟨n1,n2⟩:=aM.mp nd;have h:cap[j]?=iI k:=by simpa using h
  have e:ρc[n+1+j]?=iI (iI d):=by rw [show n+1+j=n+(j+1) by lia]; exact e
  unfold jR;by_cases a:k0∈own;·rw [Aa a]; exact xI n2 h hk (by rw [dw]; exact hl) e
  ·rw [Ab a]; exact xI n2 h hk hl e
section
theorem UQ {ρ:List (Option α)}:(kJ nt cap ρ).length=nt+cap.length:=by simp [kJ]
theorem qaC {l:List Nat} (h:l.Nodup) {j k:Nat} (a:l[i]?=iI k) (b:l[j]?=iI k):i=j:=by obtain ⟨h1,e1⟩:=aE.mp a;obtain ⟨h2,e⟩:=aE.mp b;exact (fS h).mp (e1.trans e.symm)
theorem qfQ (r:Rep K own F H σ ρ) (nd:cap.Nodup):Rep K (ua own nt cap) F H (kJ nt cap σ) (kJ nt cap ρ) where
 sub:=r.sub
 len:=by rw [UQ,UQ]
 val:=λi d hi e=>by obtain ⟨j,k,rfl,h1,h2⟩:=vd.mp e;obtain ⟨v,g1,U⟩:=r.val k d (λz=>hi (ke.mpr ⟨j,k,rfl,h1,z⟩)) h2;exact ⟨v,vd.mpr ⟨j,k,rfl,h1,g1⟩,U⟩
 ow:=λi d hi e=>by
  obtain ⟨j,k,rfl,h1,h2⟩:=vd.mp e;obtain ⟨f,k',m,c,h⟩:=ke.mp hi;have:j=f:=by lia
  subst this;rw [h1] at c; cases c;obtain ⟨a,g1,U⟩:=r.ow k d h h2;exact ⟨a,vd.mpr ⟨j,k,rfl,h1,g1⟩,U⟩
 opn:=λi hi=>by obtain ⟨j,k,rfl,h1,h2⟩:=ke.mp hi;obtain ⟨d,e⟩:=r.opn k h2;exact ⟨d,vd.mpr ⟨j,k,rfl,h1,e⟩⟩
 dis:=λi u a hi g e m=>by
  obtain ⟨j,k,rfl,h1,h2⟩:=ke.mp hi;obtain ⟨f,k',rfl,c,h⟩:=ke.mp g;obtain ⟨x,y,t,l,o⟩:=vd.mp e;obtain ⟨n,s,p,q,b⟩:=vd.mp m;have:x=j:=by lia
  subst this;have:n=f:=by lia
  subst this;rw [h1] at l; cases l;rw [c] at q; cases q;have e:=r.dis k k' a h2 h o b;subst e;rw [qaC nd h1 c]
theorem qaD (o:∀ i∈ioC nt cap.length,σ1[i]?=(kJ nt cap σ)[i]?) (h:OA (ua own nt cap) σ1 b):OA own σ b:=by
 obtain ⟨i,hi,e⟩:=h;obtain ⟨j,k,rfl,h1,h2⟩:=ke.mp hi;rw [o _ (KC.mpr ⟨j,(aE.mp h1).1,rfl⟩)] at e;obtain ⟨x,y,a,d,q⟩:=vd.mp e;have:x=j:=by lia
 subst this;rw [h1] at d; cases d;exact ⟨k,h2,q⟩
theorem qaE {F':Hp} (p:Rep K own F H σ ρ) (nd:cap.Nodup) (r:Rep K (ua own nt cap) F' H' σ1 ρ1) (g:∀ i∈ioC nt cap.length,σ1[i]?=(kJ nt cap σ)[i]?) (c:Chg (OA (ua own nt cap) σ1) F H F' H'):Rep K own F' H' σ (jR own ρ1 nt cap ρ) where
 sub:=r.sub
 len:=by rw [zp]; exact p.len
 val:=λi d hi e=>by rw [kX (λz=>hi z.2)] at e;obtain ⟨v,h1,h2⟩:=p.val i d hi e;exact ⟨v,h1,h2.mono c.grow⟩
 ow:=λi d hi e=>by
  by_cases q:i∈cap
  ·obtain ⟨j,G⟩:=List.getElem?_of_mem q;have hm:nt+j∈ua own nt cap:=ke.mpr ⟨j,i,rfl,G,hi⟩;obtain ⟨d',h⟩:=r.opn _ hm;obtain ⟨w,b⟩:=p.opn i hi;rw [xI nd G hi (aE.mp b).1 h] at e;cases e;obtain ⟨a,h1,h2⟩:=r.ow _ _ hm h;rw [g _ (KC.mpr ⟨j,(aE.mp G).1,rfl⟩)] at h1;obtain ⟨x,y,t,f,l⟩:=vd.mp h1;have:x=j:=by lia
   subst this;rw [G] at f; cases f;exact ⟨a,l,h2⟩
  ·rw [kX (λz=>q z.1)] at e;obtain ⟨a,h1,h2,n⟩:=p.ow i d hi e;have na:¬OA (ua own nt cap) σ1 a:=λz=>by
    obtain ⟨A,m,s⟩:=z;obtain ⟨j,k,rfl,g1,U⟩:=ke.mp m;rw [g _ (KC.mpr ⟨j,(aE.mp g1).1,rfl⟩)] at s;obtain ⟨x,y,t,f,l⟩:=vd.mp s;have:x=j:=by lia
    subst this;rw [g1] at f; cases f;have e:=p.dis i k a hi U h1 l;subst e;exact q (bg g1)
   refine ⟨a,h1,?_,n.grow c.grow λo z=>c.keep a o z na⟩;cases M:F' a with
   | none=>rfl
   | some u=>
    rcases c.new a (by rw [M]; simp) with z | z | z;·exact absurd h2 z
    ·exact absurd z n.there
    ·exact absurd z na
 opn:=λi hi=>by
  by_cases q:i∈cap;·obtain ⟨j,G⟩:=List.getElem?_of_mem q;have hm:nt+j∈ua own nt cap:=ke.mpr ⟨j,i,rfl,G,hi⟩;obtain ⟨d',h⟩:=r.opn _ hm;obtain ⟨w,b⟩:=p.opn i hi;exact ⟨d',xI nd G hi (aE.mp b).1 h⟩
  ·rw [kX (λz=>q z.1)];exact p.opn i hi
 dis:=p.dis
end
noncomputable def Qz (g:D->Sl->Out Sl) (ft:ym) (fe:qU) (d:D) (ρ:Sl):Out (Option D×Sl):=
 (g d ρ).plain.bind λρ1=>(ft ρ1).plain.bind λq=>if q.1=iM then (fe q.2).plain.bind λr=>.ok (iI r.1,r.2) else .ok (iK,q.2)
noncomputable def jS (g:D->Sl->Out Sl) (ft:ym) (fe:qU):List D->vB
 | [],ρ=>.ok ([],ρ)
 | d::ds,ρ=>(Qz g ft fe d ρ).bind λp=>(jS g ft fe ds p.2).bind λq=>.ok (p.1.toList++q.1,q.2)
noncomputable def qT (own:List Nat) (nt:Nat) (cap:List Nat) (fi:vB) (g:D->Sl->Out Sl) (ft:ym) (fe:qU):qU:=λρ=>(fi ρ).bind λp=>
 if p.1.length<=sizeLine then (jS g ft fe p.1 (kJ nt cap p.2)).bind λq=>.ok (.lst q.1,jR own q.2 nt cap p.2) else .bad
noncomputable def ctC (C:Ct) (nt len:Nat):Ct:=⟨C.K,C.cv,λ_ _ _=>False,ioC nt len,.sh,[],[],λ_ h=>absurd h (by simp)⟩
noncomputable def ftT:ym:=λρ=>.ok (iM,ρ)
theorem Xq:PTs Y [] (tT C own ftT):=⟨λpins s σ H Q I ⟨F,ρ,a,h⟩=>qfP pins s σ H Q I (h F H a .refl)⟩
structure CW (C:Ct) (own:List Nat) (nt:Nat) (cap:List Nat) (σ:St) (F H F0:Hp) (g:D->Sl->Out Sl) (ft:ym) (fe:qU) (ds ys:List D) (ρe:Sl) (p:Addr) (i:Nat) (σ1:St) (H1:Hp) (F1:Hp) (ρi:Sl) (accD:List D) (xs:List V) (rest:List D):Prop where
 rep:Rep C.K (ua own nt cap) F1 H1 σ1 ρi
 io:∀ i∈ioC nt cap.length,σ1[i]?=(kJ nt cap σ)[i]?
 chg:Chg (OA (ua own nt cap) σ1) F H F1 H1
 gr:Same F0 F1
 at_:H1 p=iI (.lst xs)
 nF:F1 p=iK
 is:IsL C.K F1 xs accD
 le:accD.length<=i
 run:jS g ft fe (ds.drop i) ρi=.ok (rest,ρe)
 all:accD++rest=ys
theorem ZR {g:D->Sl->Out Sl} {ft:ym} {fe:qU} {rest:List D} {ρe:Sl} (h:jS g ft fe (d::ds) ρ=.ok (rest,ρe)):∃ ρ1,g d ρ=.ok ρ1/\∃ b ρ2,ft ρ1=.ok (b,ρ2)/\((b=iM/\∃ y k r,fe ρ2=.ok (y,k)/\jS g ft fe ds k=.ok (r,ρe)/\rest=y::r)\/(b=iN/\jS g ft fe ds ρ2=.ok (rest,ρe))):=by
 unfold jS Qz at h;cases e:g d ρ with
 | exc c=>rw [e] at h; cases h
 | bad=>rw [e] at h; cases h
 | ok ρ1=>
  rw [e] at h;refine ⟨ρ1,rfl,?_⟩;simp only [Out.plain,Out.oh] at h;cases a:ft ρ1 with
  | exc c=>rw [a] at h; cases h
  | bad=>rw [a] at h; cases h
  | ok p=>
   obtain ⟨b,ρ2⟩:=p;rw [a] at h;refine ⟨b,ρ2,rfl,?_⟩;simp only [Out.plain,Out.oh] at h;cases b with
   | true=>
    refine .inl ⟨rfl,?_⟩;simp only [if_true] at h;cases q:fe ρ2 with
    | exc c=>rw [q] at h; cases h
    | bad=>rw [q] at h; cases h
    | ok p=>
     obtain ⟨y,k⟩:=p;rw [q] at h;simp only [Out.plain,Out.oh] at h;cases l:jS g ft fe ds k with
     | exc c=>rw [l] at h; cases h
     | bad=>rw [l] at h; cases h
     | ok p=>obtain ⟨r,A⟩:=p;rw [l] at h;simp only [Out.oh] at h;cases h;exact ⟨y,k,r,rfl,l,rfl⟩
   | false=>
    refine .inr ⟨rfl,?_⟩;simp only [Bool.false_eq_true,if_false,Out.oh] at h;cases l:jS g ft fe ds ρ2 with
    | exc c=>rw [l] at h; cases h
    | bad=>rw [l] at h; cases h
    | ok p=>obtain ⟨r,A⟩:=p;rw [l] at h;simp only [Out.oh] at h;cases h;rfl
section
variable {elt:Expr} {fi:vB} {g:D->Sl->Out Sl} {ft:ym} {fe:qU} {me:Mo}
structure CapOk (X:Cx) (scope:lY) (N:List Str) (nt:Nat) (cap:List Nat):Prop where
 nd:cap.Nodup
 len:N.length=nt+cap.length
 at_:∀ (j k:Nat),cap[j]?=iI k->∃ x,N[nt+j]?=iI x/\X.N[k]?=iI x/\((Vis X.env.scope x/\(x,bH)∈scope.names)\/∀ k',(x,k')∉scope.names)
theorem Wm {F:Hp} {ρ1:Sl} {it:Addr} {fp:List Addr} {tn:Nat->Heap->Prop} {J:It} {E:iL->iO->Prop} {ds ys:List D} {ρe:Sl} (I:Inv X pins σ H s) (W:X.calm=iM) (S:ScOk X scope) (CO:CapOk X scope N nt cap)
  (T:Turn X.prog X.w X.K tg J fp it tn) (st0:tn 0 s.heap) (hf:∀ b∈fp,Uz X pins H b) (rp:Rep C.K own F H σ ρ1) (O:ItIs C.K F J ds) (hz:ds.length<=sizeLine)
  (hg:∀ fp L s' H',PG (jB X scope N fp L s' H') tg (tGd (ctC C nt cap.length) (ua own nt cap) g)) (ht:∀ fp L s' H',PTs (jB X scope N fp L s' H') ifs (tT (ctC C nt cap.length) (ua own nt cap) ft))
  (he:∀ fp L s' H',PE (jB X scope N fp L s' H') elt (tE (ctC C nt cap.length) (ua own nt cap) me fe)) (hme:me≠.any)
  (hrun:jS g ft fe ds (kJ nt cap ρ1)=.ok (ys,ρe)) (RR:iL->Addr->mK->iO->Prop)
  (hRR:∀ p L s' F' H',H p=iK->Rep C.K own F' H' σ (jR own ρe nt cap ρ1)->Chg (OA own σ) F H F' H'->F' p=iK->OwnIs C.K F' H' p (.lst ys)->(∃ m,s'.heap.Ns L m)->Uz X pins H' L->(∀ h',bK L s'.heap h'->Inv X pins σ H' { s' with heap:=h' })->RR (.ref p) L (.ok .next) s') :
  iR (model X.prog X.w) X.A (mZ []) (λacc s₃=>iR (model X.prog X.w) X.A (newFunctionEnv scope X.env.globals (VH X.env.cells scope.names []) [] X.env.qual iK .none (iI X.env)) (λG s₄=>
   lE (model X.prog X.w) X.A (.compStart (.ListComp elt [⟨tg,iter,ifs,0⟩] scope pos) 0 (.ref it) acc { G with scope:=relabel scope X.env }) (RR acc G.locals) s₄) E s₃) E s:=by
 have oaH:∀ {σ1:St} {b:Addr},(∀ i∈ioC nt cap.length,σ1[i]?=(kJ nt cap σ)[i]?)->OA (ua own nt cap) σ1 b->H b≠none:=λU z=>(rp.OA_there (qaD U z)).1;refine qdk (σc:=kJ nt cap σ) I W S T st0 hf hg ht (λfp L s' H'=>wX (he fp L s' H') hme) (by rw [UQ,CO.len]) (λj x v e1 e2 e3=>?_)
  (λp i m σ1 H1=>H p=iK/\m=ds.length - i/\i<=ds.length/\∃ F1 ρi accD xs rest,CW C own nt cap σ F H F g ft fe ds ys ρe p i σ1 H1 F1 ρi accD xs rest)
  (λp H1=>H p=iK/\∃ σ1 F1 xs,Rep C.K (ua own nt cap) F1 H1 σ1 ρe/\(∀ i∈ioC nt cap.length,σ1[i]?=(kJ nt cap σ)[i]?)/\Chg (OA (ua own nt cap) σ1) F H F1 H1/\H1 p=iI (.lst xs)/\F1 p=iK/\IsL C.K F1 xs ys) (λp hp=>?_) ?_ RR ?_
 ·obtain ⟨j',k,rfl,h1,h2⟩:=vd.mp e2;obtain ⟨y,g1,g2,g3⟩:=CO.at_ j' k h1;rw [g1] at e1; cases e1;obtain ⟨k',hk'⟩:=e3;rcases g3 with ⟨g3,g4⟩ | g3;·exact ⟨k,g2,h2,g3,g4⟩
  ·exact absurd hk' (g3 k')
 ·obtain ⟨r1,c1,hF⟩:=qaw (C:=C) (u:=.lst []) (qfQ (nt:=nt) rp CO.nd) hp;exact ⟨ds.length,hp,by simp,aZ _,F,kJ nt cap ρ1,[],[],ys,r1,λ_ _=>rfl,c1.ofNo,Same.refl _,qm,hF,.nil,ay _,by simpa using hrun,rfl⟩
 ·rintro p i m σ1 H1 ⟨hp,rfl,hle,F1,ρi,accD,xs,rest,w⟩;by_cases t:i < ds.length
  ·have hd:ds.drop i=ds[i]::ds.drop (i+1):=d4 t;have run:=w.run;rw [hd] at run;obtain ⟨ρa,ea,b,Z,eb,R⟩:=ZR run;have sub1:Same F H1:=w.gr.trans w.rep.sub;refine .inr ⟨O.go i H1 t sub1,λx H2 y=>?_⟩;obtain ⟨F2,c2,s2,is2⟩:=O.yld i F1 H1 x H2 ds[i] (by simp [t]) w.gr w.rep.sub y;have rp2:=w.rep.grow c2 s2;have M:∀ {Y:St},(∀ i∈ioC nt cap.length,Y[i]?=(kJ nt cap σ)[i]?)->¬OA (ua own nt cap) Y p:=λU z=>oaH U z hp;have P:∀ {A:Addr->Prop} {Fa Ha Fb Hb:Hp} {zs:List V},Chg A Fa Ha Fb Hb->¬A p->Ha p=iI (.lst zs)->Fa p=iK->Hb p=iI (.lst zs)/\Fb p=none:=λ{A Fa Ha Fb Hb zs} c na e1 e2=>by
    refine ⟨c.keep p _ e1 na,?_⟩;cases q:Fb p with
    | none=>rfl
    | some u=>
     rcases c.new p (by rw [q]; simp) with z | z | z;·exact absurd e2 z
     ·rw [e1] at z; cases z
     ·exact absurd z na
   obtain ⟨at2,nF2⟩:=P c2 (λz=>z) w.at_ w.nF;refine ⟨F2,ρi,ds[i],rp2,is2,ρa,ea,λl rp3 oa3 io3=>?_⟩;have f:∀ i∈ioC nt cap.length,l[i]?=(kJ nt cap σ)[i]?:=λi hi=>(io3 i hi).trans (w.io i hi);refine ⟨F2,ρa,rp3,?_⟩;rw [eb];intro F4 H4 rp4 c4;obtain ⟨at4,nF4⟩:=P c4 (M f) at2 nF2;have B:Chg (OA (ua own nt cap) l) F H F4 H4:=by
    have q1:Chg (OA own σ) F H F1 H1:=w.chg.mono λb z=>qaD w.io z;have mv:∀ {b},OA (ua own nt cap) σ1 b->OA (ua own nt cap) l b:=λ{b} z=>by obtain ⟨i',hi',e'⟩:=z;obtain ⟨j,k,rfl,g1,g2⟩:=ke.mp hi';have hm:nt+j∈ioC nt cap.length:=KC.mpr ⟨j,(aE.mp g1).1,rfl⟩;exact ⟨nt+j,hi',by rw [f _ hm,<-w.io _ hm]; exact e'⟩
    exact ((w.chg.mono λb z=>mv z).trans' c2.ofNo).trans' c4
   have gr4:Same F F4:=(w.gr.trans c2.grow).trans c4.grow;have Q:IsL C.K F4 xs accD:=(w.is.mono c2.grow).mono c4.grow;rcases R with ⟨rfl,y',ρc,r,ec,er,hr⟩ | ⟨rfl,er⟩
   ·rw [Aa rfl];refine ⟨F4,Z,rp4,?_⟩;rw [ec];intro v F5 H5 h c5 mo5;obtain ⟨at5,nF5⟩:=P c5 (M f) at4 nF4;have hlen:xs.length=accD.length:=Q.length;refine ⟨xs,at5,by have:=w.le; lia,ds.length - (i+1),by lia,hp,rfl,t,F5,ρc,accD++[y'],xs++[v],r,?_⟩;have cp:Chg (λb=>b=p) F5 H5 F5 (upd H5 p (.lst (xs++[v]))):=⟨λb o e n=>by rw [qx n]; exact e,λb e=>by
     by_cases q:b=p;·rw [q,qm]; simp
     ·rw [qx q]; exact e,Same.refl _,λb e=>.inl e⟩
    have sb5:Same F5 (upd H5 p (.lst (xs++[v]))):=λb o e=>by rw [qx (qF e nF5)]; exact h.sub b o e
    have rp6:Rep C.K (ua own nt cap) F5 (upd H5 p (.lst (xs++[v]))) l ρc:=by
     refine ⟨sb5,h.len,h.val,λi d hi e=>?_,h.opn,h.dis⟩;obtain ⟨a,h1,h2,h3⟩:=h.ow i d hi e;have na:a≠p:=λz=>by subst z; exact M f ⟨i,hi,h1⟩
     exact ⟨a,h1,h2,h3.grow (Same.refl _) λo z=>by rw [qx na]; exact z⟩
    refine ⟨rp6,f,?_,(gr4.trans c5.grow),qm,nF5,(Q.mono c5.grow).append (.cons mo5 .nil),by simp only [aq,ao,aV]; have:=w.le; lia,er,?_⟩;·exact (B.trans' c5).trans cp λb z=>.inr (by rw [z]; exact hp)
    ·rw [ba,<-w.all,hr]; rfl
   ·rw [Ab bE];exact ⟨ds.length - (i+1),by lia,hp,rfl,t,F4,Z,accD,xs,rest,rp4,f,B,gr4,at4,nF4,Q,by have:=w.le; lia,er,w.all⟩
  ·have e:i=ds.length:=by lia
   subst e;have run:=w.run;rw [fU] at run;unfold jS at run;cases run;have ha:=w.all;rw [bj] at ha;subst ha;exact .inl ⟨O.stop _ H1 (ay _) (w.gr.trans w.rep.sub),hp,σ1,F1,xs,w.rep,w.io,w.chg,w.at_,w.nF,w.is⟩
 ·rintro p L H' s' ⟨hp,σ1,F1,xs,r1,io1,c1,e1,n1,is1⟩ hns hfp hinv;exact hRR p L s' F1 H' hp (qaE rp CO.nd r1 io1 c1) (c1.mono λb z=>qaD io1 z) n1 ⟨xs,e1,is1⟩ hns hfp hinv
theorem UR:∀ (ds:List D) (ρ:Sl) (c:Str) (o:Sl),jS g ft fe ds ρ≠.exc c o:=by
 intro ds
 induction ds with
 | nil=>intro ρ c o z; cases z
 | cons d ds j=>
  intro ρ c o z;unfold jS Qz at z;cases b:g d ρ with
  | exc c=>rw [b] at z; cases z
  | bad=>rw [b] at z; cases z
  | ok ρ1=>
   rw [b] at z;simp only [Out.plain,Out.oh] at z;cases a:ft ρ1 with
   | exc c=>rw [a] at z; cases z
   | bad=>rw [a] at z; cases z
   | ok p=>
    rw [a] at z;simp only [Out.plain,Out.oh] at z;by_cases hb:p.1=iM
    ·rw [Aa hb] at z;cases q:fe p.2 with
     | exc c=>rw [q] at z; cases z
     | bad=>rw [q] at z; cases z
     | ok r=>
      rw [q] at z;simp only [Out.plain,Out.oh] at z;cases l:jS g ft fe ds r.2 with
      | exc c=>exact j _ _ _ l
      | bad=>rw [l] at z; cases z
      | ok t=>rw [l] at z; cases z
    ·rw [Ab hb] at z;simp only [Out.oh] at z;cases l:jS g ft fe ds p.2 with
     | exc c=>exact j _ _ _ l
     | bad=>rw [l] at z; cases z
     | ok t=>rw [l] at z; cases z
theorem Wn {α:Type} {Z:VZ->Prop} (r:Rep C.K own F H σ ρ) (hb:¬Z .bad) (hx:∀ c ρ',Z (.exc c ρ')->∀ F' H',Same F' H'->qcG C.K C.ox F' H' σ ρ'->Chg (OA own σ) F H F' H'->C.E (C.cv c) iK H') (h:Z (qT own nt cap fi g ft fe ρ)):tIt C own fi σ H λJ H1=>∃ ds ρ1 ys ρe F1,ds.length<=sizeLine/\jS g ft fe ds (kJ nt cap ρ1)=.ok (ys,ρe)/\Rep C.K own F1 H1 σ ρ1/\Chg (OA own σ) F H F1 H1/\ItIs C.K F1 J ds/\Z (.ok (.lst ys,jR own ρe nt cap ρ1)):=by
 refine ⟨F,ρ,r,?_⟩;unfold qT at h;cases q:fi ρ with
 | exc c=>rw [q] at h; exact hx c _ h
 | bad=>rw [q] at h; exact (hb h).elim
 | ok p=>
  obtain ⟨ds,ρ1⟩:=p;rw [q] at h;have h:Z (if ds.length<=sizeLine then (jS g ft fe ds (kJ nt cap ρ1)).bind λq=>.ok (.lst q.1,jR own q.2 nt cap ρ1) else .bad):=h;by_cases z:ds.length<=sizeLine
  ·rw [Aa z] at h;cases d:jS g ft fe ds (kJ nt cap ρ1) with
   | exc c=>exact absurd d (UR _ _ _ _)
   | bad=>rw [d] at h; exact (hb h).elim
   | ok p=>obtain ⟨ys,ρe⟩:=p;rw [d] at h;exact λJ F1 H1 a k it=>⟨ds,ρ1,ys,ρe,F1,z,d,a,k,it,h⟩
  ·rw [Ab z] at h; exact (hb h).elim
theorem qfR (O:X.calm=iM) (S:ScOk X scope) (U:CapOk X scope N nt cap) (hi:PI X tg iter (tIt C own fi))
  (hg:∀ fp L s' H',PG (jB X scope N fp L s' H') tg (tGd (ctC C nt cap.length) (ua own nt cap) g)) (ht:∀ fp L s' H',PTs (jB X scope N fp L s' H') ifs (tT (ctC C nt cap.length) (ua own nt cap) ft))
  (M:∀ fp L s' H',PE (jB X scope N fp L s' H') elt (tE (ctC C nt cap.length) (ua own nt cap) me fe)) (f:me≠.any:=by decide) (D:∀ x,li iter X.env x=pure x:=by intro _; rfl) :
  PE X (.ListComp elt [⟨tg,iter,ifs,0⟩] scope pos) (tE C own .fr (qT own nt cap fi g ft fe)):=by
 refine ⟨?_⟩;intro pins s σ H Q I ⟨F,ρ,l,h⟩;rw [eval_ListComp];have n:=Wn (α:=Unit) (Z:=λr=>Po C own .fr σ F H r Q) l (λz=>z) (λc _ z=>z) h;refine wpAny_comprehension_free (use:=iK) rfl D (JT (Qy I S)) S.kind S.names (thn (hi pins s σ H _ I n) λW s1 h1=>thn h1 λt s2 h2=>?_);obtain ⟨it,fp,tn,J,H2,e,R,T,K,f2,ds,ρ1,ys,ρe,F1,B,a,b,k,i,po⟩:=h2;subst e;refine Wm (RR:=λacc V=>compPost (model X.prog X.w) X.A X.xe iK (EP X pins σ Q) acc V) R O S U T K f2 b i B hg ht M f a λp L s' F' H' hp d P nF o y G v=>?_;obtain ⟨m,E⟩:=y;refine ⟨m,E,λh' j=>⟨.ref p,H',v h' j,rfl,?_⟩⟩;refine po (.ref p) F' H' d (k.trans' P) ⟨p,rfl,?_,nF,o⟩;cases q:H p with
 | none=>rfl
 | some u=>exact absurd hp (k.stay p (by rw [q]; simp))
theorem qdl {pos' spos:Pos} (hN:X.N.Nodup) (V:X.N[i]?=iI x) (hx:Loc X.env.scope x) (O:X.calm=iM) (S:ScOk X scope) (CO:CapOk X scope N nt cap) (hi:PI X tg iter (tIt C own fi))
  (hg:∀ fp L s' H',PG (jB X scope N fp L s' H') tg (tGd (ctC C nt cap.length) (ua own nt cap) g)) (ht:∀ fp L s' H',PTs (jB X scope N fp L s' H') ifs (tT (ctC C nt cap.length) (ua own nt cap) ft))
  (he:∀ fp L s' H',PE (jB X scope N fp L s' H') elt (tE (ctC C nt cap.length) (ua own nt cap) me fe)) (P:me≠.any:=by decide) (W:i∉C.io:=by exact xz rfl)
  (G:lm (.ListComp elt [⟨tg,iter,ifs,0⟩] scope pos) (iI (.Name x pos')) spos.line X.env=pure true:=by rfl) (hs:∀ x,li iter X.env x=pure x:=by intro _; rfl)
  (Y:X.fn x=iM\/X.env.scope.names.lookup x=iI .local:=by first | exact .inl rfl | exact .inr rfl) :
  PS X (.Assign [.Name x pos'] (.ListComp elt [⟨tg,iter,ifs,0⟩] scope pos) spos) (tSt C own (i::vI own [i]) (jv i (qT own nt cap fi g ft fe))):=by
 refine ⟨?_⟩;intro pins s σ H D I ⟨F,ρ,rp,h⟩;rw [exec_Assign_Name_used _ _ _ _ G];refine iJ (wpAny_standAt (iJ ?_));show iR _ X.A (do let _ <-comprehension (.ListComp elt [⟨tg,iter,ifs,0⟩] scope pos) scope X.env _ (mZ []) iN (eval iter X.env) (iI (assign (.Name x pos') X.env))) _ _ s;have n:=Wn (α:=Unit) (Z:=λr=>PoS C own (i::vI own [i]) σ F H (r.bind λp=>if i < p.2.length then .ok (.nx,p.2.set i (iI p.1)) else .bad) D) rp (λz=>z) (λc _ z=>z) h;refine iJ (lZ (wpAny_comprehension_free (use:=iI (assign (.Name x pos') X.env)) (Q:=λ_ s'=>SP X pins D .next s') rfl hs (JT (Qy I S)) S.kind S.names (thn (hi pins s σ H _ I n) λxv s1 h1=>thn h1 λitv s2 h2=>?_)) (λ_ s' hq=>iP (iP hq)) λ_ _ e=>e);obtain ⟨it,fp,tn,J,H2,e,I2,T,K,f2,ds,ρ1,ys,ρe,F1,hz,f,t,c1,E,po⟩:=h2;subst e;refine Wm (RR:=λacc C'=>compPost (model X.prog X.w) X.A X.xe (iI (assign (.Name x pos') X.env)) (λ_ s'=>SP X pins D .next s') acc C') I2 O S CO T K f2 t E hz hg ht he P f λp L s' F' H' hp d c' nF o M hfp k=>?_;obtain ⟨m,hn⟩:=M;have I3:Inv X pins σ H' s':=by simpa using k s'.heap (.refl ..)
 have hH:H p=none:=by
  cases q:H p with
  | none=>rfl
  | some u=>exact absurd hp (c1.stay p (by rw [q]; simp))
 show iR _ X.A (assign (.Name x pos') X.env (.ref p)) _ _ s';refine wpAny_assign_Name (VN I3 hN V hx (v:=.ref p) rfl (λs4 I4 ⟨a,l,ha⟩=>?_) Y);obtain ⟨f0,f1,f2',f3,f4,f5⟩:=hfp;have nL:L≠a:=by
  rcases ha with z | z;·rw [z]; exact f1
  ·exact λq=>f4 x a z q.symm
 refine ⟨m,hn.sameBut l nL,λh' sb=>?_⟩;have I5:Inv X pins (σ.set i (iI (.ref p))) H' { s4 with heap:=h' }:=by have:=I4.turned (h':=h') (t':=s4.toks) (it:=L) (λb o hb e=>(sb.2 b hb).trans e) f0 f1 f3 f4 f5;exact this
 refine ⟨_,H',I5,?_⟩;have po:PoS C own (i::vI own [i]) σ F H (if i < (jR own ρe nt cap ρ1).length then .ok (.nx,(jR own ρe nt cap ρ1).set i (iI (.lst ys))) else .bad) D:=po;by_cases z:i < (jR own ρe nt cap ρ1).length
 ·rw [Aa z] at po;refine po _ F' H' ⟨d.putO z nF (λy=>(rp.OA_there y).1 hH) o,c1.trans' c',λb y=>?_,λj U=>ax λy=>W (by rw [y]; exact U)⟩;obtain ⟨j,U,e⟩:=y;by_cases B:j=i;·subst B;rw [aJ (by rw [d.len]; exact z)] at e;cases e;exact .inr hH
  ·have R:=(jk j).mp ((ac.mp U).resolve_left B);rw [ax (be B)] at e;exact .inl ⟨j,R.1,e⟩
 ·rw [Ab z] at po; exact po.elim
end
def Fly (h:Heap) (ex T:Addr) (cls:iL):Prop:=∃ o vs a ts,h.get? ex=iI o/\o.cls=cls/\o.data=.fields vs/\vs[1]?=iI (.ref T)/\T≠ex/\h.get? T=iI a/\a.data=.fields ts/\ts[3]?=iI .none
def CXk (P:iU) (w:iV):CXT:=λouter H s E e s'=>∃ ex T C H',e=.ref ex/\s'.os=s.os/\mj s'.gens/\Un (frs outer) [] H H' s.heap s'.heap/\HOk P w H' s'.heap/\Fly s'.heap ex T (.ref C)/\H' ex=iK/\H' T=iK/\s.heap.get? ex=iK/\s.heap.get? T=iK/\E (.ref C) iK H'
def InB (X:Cx) (H:Hp) (s:iO) (ex:Addr) (cls:iL):Prop:=H ex=iK/\X.s₀.heap.get? ex=iK /\
 ((∃ o vs,s.heap.get? ex=iI o/\o.cls=cls/\o.data=.fields vs/\vs[1]?=iI .none)\/∃ T,Fly s.heap ex T cls/\H T=iK/\X.s₀.heap.get? T=iK)
variable {ex:Addr} {T0:Option Addr}
section
variable {cls:iL}
noncomputable def Wo (ex:Addr) (T:Option Addr) (X:Cx):List Addr:=ex::(T.toList++frs X.stack)
theorem Xr (I:Inv X pins σ H s) (hb:b∈frs X.stack):∃ o,s.heap.get? b=iI o/\∀ vs,o.data≠.fields vs:=(I.stack.mem hb).2
theorem qaF (c:X.stack=X.env::X.outer):∀ env∈X.stack,∀ b,env.frame=iI b->b∈frs X.stack:=λenv g b hb=>fA.mpr ⟨env,g,hb⟩
structure Gone (X:Cx) (H:Hp) (s:iO) (ex:Addr) (cls:iL) (h2:Heap):Prop where
 keep:∀ b o,s.heap.get? b=iI o->H b≠iK\/(X.s₀.heap.get? b≠iK/\b∉frs X.stack)->h2.get? b=iI o
 slot:∀ b o,s.heap.get? b=iI o->b∈frs X.stack->∃ sl,h2.get? b=iI { o with slots:=sl }
 ok:HOk X.prog X.w H h2
 un:Un (frs X.stack) [] H H s.heap h2\/True
theorem qaG {h2:Heap} (I:Inv X pins σ H s) (hex:H ex=iK) (m:∀ T,T0=iI T->H T=iK) (n1:X.s₀.heap.get? ex=iK) (n2:∀ T,T0=iI T->X.s₀.heap.get? T=iK)
  (st:(ci s.heap (Wo ex T0 X)).StaysIn h2) (sl:∀ b o,s.heap.get? b=iI o->(∀ vs,o.data≠.fields vs)->∃ sl,h2.get? b=iI { o with slots:=sl }):Gone X H s ex cls h2:=by
 have keep:∀ b o,s.heap.get? b=iI o->b≠ex->(∀ T,T0=iI T->b≠T)->b∉frs X.stack->h2.get? b=iI o:=λb o e h1 h2 f=>st b o (fj _ e λhm=>by
  rcases ac.mp hm with q | hm;·exact h1 q
  ·rcases ai.mp hm with q | q;·exact h2 b (Option.mem_toList.mp q) rfl
   ·exact f q)
 have k1:∀ b o,s.heap.get? b=iI o->H b≠iK->h2.get? b=iI o:=λb o e n=>keep b o e (λq=>n (by rw [q]; exact hex)) (λT h q=>n (by rw [q]; exact m T h)) λq=>n (I.stkFree b q);refine ⟨λb o e hb=>?_,λb o e hb=>?_,λb u e=>?_,.inr trivial⟩
 ·rcases hb with hb | ⟨hb,hf⟩
  ·exact k1 b o e hb
  ·exact keep b o e (λq=>hb (by rw [q]; exact n1)) (λT h q=>hb (by rw [q]; exact n2 T h)) hf
 ·obtain ⟨o',a,t⟩:=Xr I hb;rw [e] at a; cases a;exact sl b o e t
 ·refine (I.hok b u e).stay (λc v d q=>k1 c v q ?_) (λ_ q=>q) λ_ _ q=>q;rcases d with z | z;·rw [z,e]; simp
  ·rw [z]; simp
theorem Wp {h2:Heap} (I:Inv X pins σ H s) (D:∀ T,T0=iI T->H T=iK) (n2:∀ T,T0=iI T->X.s₀.heap.get? T=iK) (g:Gone X H s ex cls h2) (h:X.ex=[])
  (t:h2.Traced (ci s.heap (Wo ex T0 X)) ex cls):∃ T,Fly h2 ex T cls/\H T=iK/\X.s₀.heap.get? T=none:=by
 obtain ⟨r,vs,T,w,ts,L,K,J,G,m,l,k,j,E⟩:=t;have c:∀ o,s.heap.get? T=iI o->(∃ q,T0=iI q/\T=q):=λo e=>by
  have hm:T∈Wo ex T0 X:=by refine bB λA=>?_;rw [fj _ e A] at m;cases m
  rcases ac.mp hm with q | hm;·exact absurd q l
  ·rcases ai.mp hm with q | q;·exact ⟨T,Option.mem_toList.mp q,rfl⟩
   ·obtain ⟨o',d,x⟩:=Xr I q;obtain ⟨sl,i⟩:=g.slot T o' d q;rw [k] at i;cases i;exact absurd j (x ts)
 refine ⟨T,⟨r,vs,w,ts,L,K,J,G,l,k,j,E⟩,?_,?_⟩
 ·cases q:H T with
  | none=>rfl
  | some u=>
   have B:=I.hok.lt q;obtain ⟨o,e⟩:∃ o,s.heap.get? T=iI o:=by
    have:=(I.hok T u q)
    have st:=this.stay (H':=H) (h':=s.heap) (λb v _ z=>z) (λ_ z=>z) λ_ _ z=>z;cases z:s.heap.get? T with
    | some o=>exact ⟨o,rfl⟩
    | none=>
     exfalso;cases u with
     | lst xs=>obtain ⟨_,_,_,_,e⟩:=st; rw [z] at e; cases e
     | tup xs=>obtain ⟨_,_,_,_,e,_⟩:=st; rw [z] at e; cases e
     | dK kvs=>obtain ⟨_,_,_,_,o,_,_,e,_⟩:=st; rw [z] at e; cases e
     | dT kvs=>obtain ⟨_,_,_,_,o,_,_,e,_⟩:=st; rw [z] at e; cases e
     | set S n=>obtain ⟨o,_,_,_,e,_⟩:=st; rw [z] at e; cases e
     | ins C dx fs=>obtain ⟨_,_,_,e,_⟩:=st; rw [z] at e; cases e
     | own y=>obtain ⟨_,e⟩:=st; rw [z] at e; cases e
     | xd fs=>obtain ⟨_,⟨_,_,_,e,_⟩,_⟩:=st; rw [z] at e; cases e
     | rng lo hi=>obtain ⟨_,_,_,e⟩:=st; rw [z] at e; cases e
     | frz M u=>obtain ⟨e,_⟩:=st; rw [z] at e; cases e
     | tbl ps=>have e:s.heap.get? T=iI _:=st; rw [z] at e; cases e
     | met f y=>have e:s.heap.get? T=iI _:=st; rw [z] at e; cases e
     | ext φ=>obtain ⟨_,⟨_,e⟩,_⟩:=st; rw [z] at e; cases e
   obtain ⟨p,a,rfl⟩:=c o e;rw [D _ a] at q; cases q
 ·cases q:X.s₀.heap.get? T with
  | none=>rfl
  | some o=>obtain ⟨o',d⟩:=I.base.there T o q (by rw [h]; simp);obtain ⟨p,a,rfl⟩:=c o' d;rw [n2 _ a] at q; cases q
theorem ZT {E:iL->iO->Prop} {Q:Unit->iO->Prop} (I:Inv X pins σ H s) (h:X.stack=X.env::X.outer) (r:X.env.frame=iI X.env.locals) (a:X.ex=[]) (x:InB X H s ex cls)
  (k:∀ h2 T,Gone X H s ex cls h2->Fly h2 ex T cls->H T=iK->X.s₀.heap.get? T=iK->Q () { s with heap:=h2 }):iR (model X.prog X.w) X.A (leaving X.env (.ref ex)) Q E s:=by
 obtain ⟨hex,n1,hx⟩:=x;have D:X.A.frames=iI (X.env::X.outer):=by rw [I.ok.frames,h]
 have B:∀ as,(ci s.heap as).StaysIn s.heap:=λas b o e=>PySem.W.of_hideAll as e;have hl:∀ T0,s.heap.FunFrames (ci s.heap (Wo ex T0 X)) (X.env::X.outer):=λT0=>by rw [<-h];exact PySem.W.funFrames_hide I.stack λenv C b hb=>ae _ (aY _ (qaF h env C b hb))
 have v:∀ T0,(ci s.heap (Wo ex T0 X)).get? ex=none:=λT0=>e8 _ (ac.mpr (.inl rfl));rcases hx with ⟨u,vs,l,j,p,i⟩ | ⟨T,⟨u,vs,y,ts,l,j,p,i,M,L,K,J⟩,G,n2⟩
 ·refine wpAny_leaving_first (base:=ci s.heap (Wo ex iK X)) D (hl iK) r l (B _) (v iK) p i λh2 ⟨st,_,t,sl⟩=>?_;have g:Gone X H s ex cls h2:=qaG I hex (T0:=iK) (λ_ z=>nomatch z) n1 (λ_ z=>nomatch z) st sl;rw [j] at t;obtain ⟨m,f1,f2,q⟩:=Wp I (T0:=iK) (λ_ z=>nomatch z) (λ_ z=>nomatch z) g a t;exact k h2 m g f1 f2 q
 ·have d:∀ c,iI T=iI c->H c=none:=λc z=>by cases z; exact G
  have n:∀ c,iI T=iI c->X.s₀.heap.get? c=none:=λc z=>by cases z; exact n2
  have f:s.heap.Traced (ci s.heap (Wo ex (iI T) X)) ex cls:=⟨u,vs,T,y,ts,l,j,p,i,e8 _ (ae _ (dO _ (by simp))),M,L,K,J⟩
  refine wpAny_leaving_next (base:=ci s.heap (Wo ex (iI T) X)) D (hl (iI T)) r f (B _) (v _) λh2 ⟨st,_,t,sl⟩=>?_;have g:Gone X H s ex cls h2:=qaG I hex d n1 n st sl;obtain ⟨m,f1,f2,q⟩:=Wp I d n g a t;exact k h2 m g f1 f2 q
end
variable {P:iU} {w:iV} {mg:Str->Option iL} {base h:Heap} {qual:Str} {outer:List Env} {s0:iO}
section
variable {cd:iL} {A:iZ} {E:XK}
abbrev cxk (P:iU) (w:iV) (K:Frag) (mg:Str->Option iL) (base:Heap) (N:List Str) (qual:Str) (scope:lY) (f:Addr) (cd:iL) (A:iZ) (outer:List Env) (s0:iO) (H0:Hp) (E:XK):Cx:=qfq (CXk P w) P w K mg base N qual scope f cd A outer s0 H0 E
theorem qil {C:Addr} (I:Inv (cxk P w K mg base N qual scope f cd A outer s0 H0 E) pins σ H s) (x:InB (cxk P w K mg base N qual scope f cd A outer s0 H0 E) H s ex (.ref C)) (j:E (.ref C) iK H):(cxk P w K mg base N qual scope f cd A outer s0 H0 E).xe (.ref ex) s:=by
 refine ZT I rfl rfl rfl x λh2 T g fl m h=>?_;have a:=I.base;have L:∀ b o,s0.heap.get? b=iI o->b≠(cxk P w K mg base N qual scope f cd A outer s0 H0 E).env.locals:=λb o e=>aF (aK (aC e) I.ok.above);have t:∀ b o,s0.heap.get? b=iI o->b∉frs outer->b∉frs (cxk P w K mg base N qual scope f cd A outer s0 H0 E).stack:=λb o e hb z=>by
  rcases ac.mp (I.stkSub b z) with q | q;·exact L b o e q
  ·exact hb q
 have i:∀ b,b∈frs outer->b∈frs (cxk P w K mg base N qual scope f cd A outer s0 H0 E).stack:=λb hb=>by show b∈frs (_::outer);unfold frs;rw [d6];exact ae _ hb
 refine ⟨ex,T,C,H,rfl,I.os,I.bare,⟨λb o e n hb hx=>?_,λb o e n hb hx=>?_,a.free,λb o e hx=>?_,a.tups,a.frzs,a.tbls⟩,g.ok,fl,x.1,m,x.2.1,h,j⟩;·exact g.keep b o (a.keep b o e n hb hx) (.inr ⟨by show s0.heap.get? b≠iK; rw [e]; simp,t b o e hb⟩)
 ·obtain ⟨sl,q⟩:=a.slot b o e n hb hx;obtain ⟨c,d⟩:=g.slot b _ q (i b hb);exact ⟨c,d⟩
 ·obtain ⟨o',q⟩:=a.there b o e hx;by_cases hb:b∈frs (cxk P w K mg base N qual scope f cd A outer s0 H0 E).stack;·obtain ⟨sl,d⟩:=g.slot b o' q hb;exact ⟨_,d⟩
  ·exact ⟨o',g.keep b o' q (.inr ⟨by show s0.heap.get? b≠iK; rw [e]; simp,hb⟩)⟩
theorem qfS {e:iL} (a:X.ex=[]) (I:Inv X pins σ H s) (h:CXk X.prog X.w X.stack H s E e s'):∃ ex C H',e=.ref ex/\Inv X pins σ H' s'/\InB X H' s' ex (.ref C)/\E (.ref C) iK H':=by
 obtain ⟨ex,T,C,H',rfl,os,bare,un,hok,fl,e1,i,n1,n2,j⟩:=h;have old:∀ b,s.heap.get? b=iK->X.s₀.heap.get? b=none:=λb hb=>by
  cases q:X.s₀.heap.get? b with
  | none=>rfl
  | some o=>obtain ⟨o',c⟩:=I.base.there b o q (by rw [a]; simp);rw [hb] at c; cases c
 exact ⟨ex,C,H',rfl,I.call' (ch:=[]) os un hok bare (λb z=>absurd z (by simp)),⟨e1,old ex n1,.inr ⟨T,fl,i,old T n2⟩⟩,j⟩
theorem ZU:vz (CXk P w) (cxk P w K mg base N qual scope f cd A outer s0 H0 E) E:=λpins σ H s e s' I h=>by obtain ⟨ex,C,H',rfl,b,x,j⟩:=qfS rfl I h;exact qil b x j
theorem qfT {C:Addr} {b:List iL} {d:String} (kin:K.In h) (hm:mg x=iI (.ref C)) (q:d9 K C b d=iM):OwnCls x C b d mg h:=by
 refine ⟨hm,?_⟩;unfold d9 at q;split at q
 case h_2=>cases q
 case h_1 dd cd sl lk=>
  split at q
  case h_2=>cases q
  case h_1 C' bm a0 a1 a2 a3 n a5 em es=>
   have f:=q;simp only [aR,beq_iff_eq,Bool.not_eq_true'] at f;obtain ⟨⟨⟨⟨⟨e1,i⟩,l⟩,tl⟩,k⟩,t⟩:=f;obtain ⟨nm,bs,mro,ns,a,hd,sn,sub,ab,col,del⟩:=cd;dsimp only at em l k t;obtain ⟨s⟩:=sl;dsimp only at es;subst em l es e1 i;exact ⟨bm,ns,nm,a,bs,hd,sn,sub,ab,col,dd,a0,a1,a2,a3,a5,_,kin _ _ lk,.of_isNs (PySem.W.isNs_of_in kin k),PySem.W.nsMap_none_of_in kin k t,PySem.W.tail_of_in kin tl⟩
end
theorem qim {T:Addr} (hok:HOk P w H h) (q:H T=iI u):∃ o,h.get? T=iI o:=by
 have st:=hok T u q;cases z:h.get? T with
 | some o=>exact ⟨o,rfl⟩
 | none=>
  exfalso;cases u with
  | lst xs=>obtain ⟨_,_,_,_,e⟩:=st; rw [z] at e; cases e
  | tup xs=>obtain ⟨_,_,_,_,e,_⟩:=st; rw [z] at e; cases e
  | dK kvs=>obtain ⟨_,_,_,_,o,_,_,e,_⟩:=st; rw [z] at e; cases e
  | dT kvs=>obtain ⟨_,_,_,_,o,_,_,e,_⟩:=st; rw [z] at e; cases e
  | set S n=>obtain ⟨o,_,_,_,e,_⟩:=st; rw [z] at e; cases e
  | ins C dx fs=>obtain ⟨_,_,_,e,_⟩:=st; rw [z] at e; cases e
  | own y=>obtain ⟨_,e⟩:=st; rw [z] at e; cases e
  | xd fs=>obtain ⟨_,⟨_,_,_,e,_⟩,_⟩:=st; rw [z] at e; cases e
  | rng lo hi=>obtain ⟨_,_,_,e⟩:=st; rw [z] at e; cases e
  | frz b u=>obtain ⟨e,_⟩:=st; rw [z] at e; cases e
  | tbl ps=>have e:h.get? T=iI _:=st; rw [z] at e; cases e
  | met f y=>have e:h.get? T=iI _:=st; rw [z] at e; cases e
  | ext φ=>obtain ⟨_,⟨_,e⟩,_⟩:=st; rw [z] at e; cases e
abbrev bmV:List iL:=[.type "ValueError",.type "Exception",.type "BaseException",.type "object"]
noncomputable def km (x:Str) (fr:vB):qS:=λρ=>(fr ρ).bind λp=>.exc x p.2
theorem PoS.bindA {as:List AK} {o:Out (List D×Sl)} {k:List D×Sl->Out (Fl×Sl)} {D:Ends} {R:List V->Hp->Prop} (hp:PoS C own own' σ F H (o.bind k) D)
  (h:∀ vs F1 H1 ds ρ1,Rep C.K own F1 H1 σ ρ1->Chg (OA own σ) F H F1 H1->ArgV C.K H F1 H1 σ as vs ds->PoS C own own' σ F1 H1 (k (ds,ρ1)) D->R vs H1):PoA C own as σ F H o R:=by
 cases o with
 | ok p=>obtain ⟨ds,ρ1⟩:=p;exact λvs F1 H1 a c v=>h vs F1 H1 ds ρ1 a c v (PoS.shift (show PoS C own own' σ F H (k (ds,ρ1)) D from hp) (.ofE a c))
 | exc x=>exact hp
 | bad=>exact hp.elim
def Xu (X:Cx) (C:Ct):Prop:=∀ (pins:Pns) (σ:St) (H:Hp) (s:iO) (ex A:Addr),Inv X pins σ H s->InB X H s ex (.ref A)->C.E (.ref A) iK H->X.xe (.ref ex) s
theorem qin {cd:iL} {A:iZ}:Xu (cxk P w K mg base N qual scope f cd A outer s0 H0 C.E) C:=λpins σ H s ex A I x j=>qil I x j
section
variable {fr:vB} {Cc:Addr} {np cpos:Pos}
theorem ArgV.len:∀ {as:List AK} {vs:List V} {ds:List D},ArgV K H0 F H σ as vs ds->vs.length=as.length
 | [],[],[],_=>rfl
 | .vl::as,v::vs,d::ds,h=>congrArg (·+1) (ArgV.len h.2)
 | .sl i::as,v::vs,d::ds,h=>congrArg (·+1) (ArgV.len h.2.2)
 | .fr::as,v::vs,d::ds,h=>congrArg (·+1) (ArgV.len h.2)
 | [],_::_,_,h=>h.elim
 | [],[],_::_,h=>h.elim
 | .vl::_,[],_,h=>h.elim
 | .vl::_,_::_,[],h=>h.elim
 | .sl _::_,[],_,h=>h.elim
 | .sl _::_,_::_,[],h=>h.elim
 | .fr::_,[],_,h=>h.elim
 | .fr::_,_::_,[],h=>h.elim
theorem qaH (b:X.ex=[]) (ht:Xu X C) (O:X.calm=iM) (hg:Gl X x) (hm:X.mg x=iI (.ref Cc)) (v:C.cv x=.ref Cc) (q:d9 X.K Cc bmV "ValueError.__new__"=iM) (w:PA X (e::es) (tAr C own as fr)) (hsz:as.length<=1000:=by decide) (f:∀ i∈C.ox,i∈own:=by exact va rfl) (hd:Dbg x:=by decide)
  (g:iQ (e::es) X.env=(iN,eval e X.env)::iQ es X.env:=by exact jF rfl) (l:(j3 cpos (iQ es X.env)).any (·.1)=false:=by rfl) :
  PS X (.Raise (iI (.Call (.Name x np) (e::es) [] cpos)) iK pos) (tSt C own own' (km x fr)):=by
 refine ⟨?_⟩;intro pins s σ H D I ⟨F,ρ,r,h⟩;obtain ⟨tl,N,nm,m,bs,hdct,sn,sub,ab,col,dd,k0,k1,k2,k3,k5,mN,B,z,c,T⟩:=(qfT I.ok.mod.kin hm q).obj;refine wpAny_Raise_call_subT (C:=Cc) (nm:=nm) (q:=m) (N:=N) (bs:=bs) (bm:=tl) (hdct:=hdct) (sn:=sn) (sub:=sub) (ab:=ab) (col:=col) (dd:=dd) (k0:=k0) (k1:=k1) (k2:=k2) (k3:=k3) (k5:=k5)
  PySem.F.excBase_ValueError (mN:=mN) (T.hasType PySem.F.excBase_ValueError.hasBase) (I.ok.hd O) (by rw [g]; show (iN||(j3 cpos (iQ es X.env)).any (·.1))=iN; rw [l]; rfl) c (Qm I hg hm ⟨rfl,?_⟩ hd)
 have n:tAr C own as fr σ H λvs H1=>vs.length<=sizeLine/\C.E (.ref Cc) iK H1:=by
  refine ⟨F,ρ,r,PoS.bindA h λvs F1 H1 ds ρ1 a M G h1=>⟨?_,?_⟩⟩;·rw [G.len]; exact bU hsz (by rw [iY]; decide)
  ·rw [<-v]; exact h1 F1 H1 a.sub (a.ioIs f) .refl
 have run:=w cpos pins s σ H _ I n;rw [g] at run ⊢;refine dP (lZ run (λus s2 ⟨vs,H2,k,r2,z2,A⟩=>?_) λ_ _ y=>y);refine ⟨rfl,by rw [<-r2.length]; exact z2,k.bk _ _ B,z.keeps k.bk,T.keeps k.bk,λh' ex mk=>?_⟩;have J:Inv X pins σ H2 { s2 with heap:=h' }:=k.kept (t':=s2.toks) mk.keeps;obtain ⟨t,h1,h2,L⟩:=mk.there;refine ht pins σ H2 _ ex Cc J ⟨?_,?_,.inl ⟨_,_,h1,rfl,rfl,rfl⟩⟩ A
 ·cases d:H2 ex with
  | none=>rfl
  | some u=>have p:=k.hok.lt d;refine absurd mk.new ?_;obtain ⟨o,e⟩:=qim k.hok d;rw [e]; simp
 ·cases d:X.s₀.heap.get? ex with
  | none=>rfl
  | some o=>obtain ⟨o',j⟩:=k.base.there ex o d (by rw [b]; simp);rw [mk.new] at j; cases j
end
def ZV (P:iU) (w:iV) (K:Frag) (mg:Str->Option iL) (base:Heap) (cv:Str->iL) (k:Nat) (x:Str) (ps:List Str) (ms:List PM) (mr:Mo) (G:jC):Prop:=
 ∃ f fd,FnOk P w K mg base (CXk P w) k f fd ps (spD K cv ms mr G)/\mg x=iI (.ref f)/\l9 K (.ref f)=iM/\Binds K fd ps []
def kf (K:Frag) (mg:Str->Option iL) (x:Str) (st:Stmt) (ps:List Str):Prop:=∃ f fd,Fun K x x st f fd/\mg x=iI (.ref f)/\Binds K fd ps []
theorem qez {P:iU} {w:iV} {base:Heap} {cv:Str->iL} {k:Nat} {ms:List PM} {mr:Mo} {own':List Nat} {fb:qS} (T:kf K mg x st ps) (S:FnScope N ps (qG st))
  (a:∀ (cdv:iL) (f:Addr) (A:iZ) (outer:List Env) (s:iO) (H:Hp) (E:XK),Room k (A.deeper (mh x (qG st) s.heap.objs.size f cdv)) ->PSs (cxk P w K mg base N x (qG st) f cdv A outer s H E) (kb st) (tSt (qhk K cv E ms mr) (jY 0 ms) own' fb))
  (hl:ms.length=ps.length:=by rfl) (g:∀ i∈UA 0 ms,i∈own':=by exact va rfl) (hmr:mr=.sh\/∀ ds ρ,(fb (qt N ds))≠.ok (.nx,ρ):=by exact .inl rfl):ZV P w K mg base cv (k+1) x ps ms mr (jJ N ms fb):=by
 obtain ⟨f,fd,F,hm,hb⟩:=T;exact ⟨f,fd,qj9 F S hl g hmr (λcdv A outer s H E d=>a cdv f A outer s H E d) λ_=>.inr rfl,hm,F.kp,hb⟩
section
variable {G:jC} {fr:vB} {p:Pos} {k j:Nat} {cv:Str->iL}
theorem jb (F:ZV X.prog X.w X.K X.mg X.base cv j x ps ms mr G) (d:Room k X.A) (a:j<=k) (hx:vz (CXk X.prog X.w) X C.E) (hg:Gl X x) (q:PA X (e::es) (tAr C own as fr)) (v:C.cv=cv:=by rfl) (m:C.K=X.K:=by rfl) (s:ms=as.map gM:=by rfl) (c:∀ i∈jy as,i∈own:=by decide) (nd:(jy as).Nodup:=by decide) (g:frA as<=1:=by decide) (o:∀ i∈C.ox,i∈own:=by exact va rfl)
  (b:Dbg x:=by decide) (n:iQ (e::es) X.env=(iN,eval e X.env)::iQ es X.env:=by exact jF rfl) (l:(j3 pos (iQ es X.env)).any (·.1)=false:=by exact xA rfl):PE X (.Call (.Name x p) (e::es) [] pos) (tE C own mr (qp as G fr)):=by
 subst v;obtain ⟨f,fd,F,hm,h,hb⟩:=F;rw [<-m] at F;exact qfO (by rw [<-m]; exact F) (d.mono a) hg hm h hb hx q s c nd g o b n l
noncomputable def qmH:D->Out D
 | .int i=>.ok (.int (-i))
 | _=>.bad
theorem qio:UnD X C .sh (unaryOp .USub) qmH:=by
 intro pins s σ H x v Q I d h;obtain ⟨F,dx,y,tx,po⟩:=h;cases dx <;> try exact po.elim
 obtain rfl:=tx.int;exact qhN pins s σ H _ v Q I d ⟨_,rfl,po _ F H y .refl (.int _)⟩
end
noncomputable def yH:Option (Option D)->Bool
 | some (iI (.lst _))=>iM
 | _=>iN
noncomputable def ge (i:Nat) (g:List D->D->Out (List D)) (fe:qU):qU:=λρ=>if yH ρ[i]?=iM then (fe ρ).bind λp=>match p.2[i]? with
 | some (iI (.lst xs))=>match g xs p.1 with
  | .ok ys=>.ok (.non,p.2.set i (iI (.lst ys)))
  | _=>.bad
 | _=>.bad
 else .bad
noncomputable def Jy (xs:List D) (d:D):Out (List D):=if xs.length < sizeLine then .ok (xs++[d]) else .bad
noncomputable def qhl (xs:List D):D->Out (List D)
 | .lst ys=>if xs.length+ys.length<=sizeLine then .ok (xs++ys) else .bad
 | .tup ys=>if xs.length+ys.length<=sizeLine then .ok (xs++ys) else .bad
 | _=>.bad
section
variable {fe:qU}
theorem Rep.write (r:Rep K own F H σ ρ) (hi:i∈own) (f:σ[i]?=iI (iI (V.ref a))) (ow:OwnIs K F (upd H a u) a d):Rep K own F (upd H a u) σ (ρ.set i (iI d))/\Chg (OA own σ) F H F (upd H a u):=by
 obtain ⟨w,h⟩:=r.opn i hi;obtain ⟨k,e1,D,g⟩:=r.ow i w hi h;rw [f] at e1; cases e1;have hl:i < ρ.length:=(aE.mp h).1;refine ⟨⟨λb o e=>by rw [qx (qF e D)]; exact r.sub b o e,by simp [r.len],λj d' G e=>?_,λj d' G e=>?_,λj G=>?_,r.dis⟩,⟨λb o e n=>?_,λb e=>?_,Same.refl _,λb e=>.inl e⟩⟩;·rw [ax (λz=>G (by rw [<-z]; exact hi))] at e;exact r.val j d' G e
 ·by_cases q:j=i;·subst q;rw [aJ hl] at e;cases e;exact ⟨a,f,D,ow⟩
  ·rw [ax (be q)] at e;obtain ⟨b,h1,h2,c⟩:=r.ow j d' G e;have y:b≠a:=λz=>by subst z; exact q (r.dis j i b G hi h1 f)
   exact ⟨b,h1,h2,c.grow (Same.refl _) λo z=>by rw [qx y]; exact z⟩
 ·by_cases q:j=i;·subst q; exact ⟨d,aJ hl⟩
  ·rw [ax (be q)]; exact r.opn j G
 ·have y:b≠a:=λz=>n (by rw [z]; exact ⟨i,hi,f⟩);rw [qx y]; exact e
 ·by_cases q:b=a;·rw [q,qm]; simp
  ·rw [qx q]; exact e
theorem Xv {o:Option (Option D)} (h:yH o=iM):∃ xs,o=iI (iI (.lst xs)):=by
 unfold yH at h;split at h;·exact ⟨_,rfl⟩
 ·cases h
theorem Xw {g:List D->D->Out (List D)} {R:V->V->Hp->VK->Prop} {σ:St} {H:Hp} {Q:VK} (l:i∈own) (hm:m≠.any)
  (j:∀ (a:Addr) (xs:List V) (ds ys:List D) (v:V) (d:D) (F H:Hp),Same F H->H a=iI (.lst xs)->F a=iK->IsL C.K F xs ds->Is C.K F v d->g ds d=.ok ys->(∀ zs,IsL C.K F zs ys->Q .non (upd H a (.lst zs)))->R (.ref a) v H Q)
  (h:tE C own .sh (ge i g fe) σ H Q):∃ a xs,σ[i]?=iI (iI (V.ref a))/\H a=iI (.lst xs)/\tE C own .sh fe σ H λv H1=>R (.ref a) v H1 Q:=by
 obtain ⟨F,ρ,p,h⟩:=h;unfold ge at h;by_cases q:yH ρ[i]?=iM
 ·rw [Aa q] at h;obtain ⟨ds,hd⟩:=Xv q;obtain ⟨a,h1,h2,xs,k,w⟩:=p.ow i _ l hd;refine ⟨a,xs,h1,k,F,ρ,p,Po.bind h λv F1 H1 d ρ1 r x f po=>?_⟩;cases e:ρ1[i]? with
  | none=>simp only [e] at po; exact po.elim
  | some o=>
   cases o with
   | none=>simp only [e] at po; exact po.elim
   | some dd=>
    simp only [e] at po;cases dd with
    | lst es=>
     simp only at po;cases b:g es d with
     | ok ys=>simp only [b] at po;obtain ⟨y,e1,t,vs,s,n⟩:=r.ow i _ l e;rw [h1] at e1; cases e1;refine j a vs es ys v d F1 H1 r.sub s t n f b λzs z=>?_;obtain ⟨r2,c2⟩:=r.write (u:=.lst zs) (d:=.lst ys) l h1 ⟨zs,qm,z⟩;exact po .non F1 _ r2 c2 .non
     | exc c o=>simp only [b] at po; exact po.elim
     | bad=>simp only [b] at po; exact po.elim
    | _=>exact po.elim
 ·rw [Ab q] at h; exact h.elim
theorem vV {px apos cpos:Pos} (t:C.K=X.K) (q:X.N[i]?=iI x) (l:Vis X.env.scope x) (o:i∈own) (n:PE X e (tE C own m fe)) (hm:m≠.any:=by decide)
  (hd:Dbg x:=by decide) (f:Cdk x:=by decide)
  (c:i7 (.Name x px) "append" X.env (eval (.Name x px) X.env)=eval (.Name x px) X.env:=by rfl)
  (w:((j3 cpos (iQ [e] X.env)).all (λx=>!x.1)&&(lI cpos (j8 [] X.env)).all (λx=>x.1.isSome)
   && decide ([e].length+([]:List j9).length+(if ([]:List j9).isEmpty then 0 else 1) < 30))=true:=by exact wg rfl)
  (b:(apos.endLine == cpos.line)=true:=by rfl) (s:iQ [e] X.env=[(iN,eval e X.env)]:=by exact qD rfl) :
  PE X (.Call (.Attribute (.Name x px) "append" apos) [e] [] cpos) (tE C own .sh (ge i Jy fe)):=by
 refine jE (qab db PySem.F.slot_list_append PySem.F.type_list_append VV (wQ q l hd f) (qP (wX n hm) jD s) c w b s rfl) λσ H Q h=>?_;have p:∀ (a:Addr) (xs:List V) (ds ys:List D) (v:V) (d:D) (F H:Hp),Same F H->H a=iI (.lst xs)->F a=iK->IsL C.K F xs ds->Is C.K F v d->Jy ds d=.ok ys->(∀ zs,IsL C.K F zs ys->Q .non (upd H a (.lst zs)))->UH (.ref a) [v] H Q:=λa xs ds ys v d F H y r u ix j g k=>by
  unfold Jy at g;split at g;·cases g;exact ⟨a,xs,v,rfl,rfl,r,by rw [ix.length]; assumption,k _ (ix.append (.cons j .nil))⟩
  ·cases g
 obtain ⟨a,xs,h1,h2,k⟩:=Xw (R:=λx v H Q=>UH x [v] H Q) o hm p h;exact ⟨.ref a,h1,.inl ⟨rfl,xs,.inl (.inl h2)⟩,k⟩
theorem Wq {px apos cpos:Pos} (I:X.N[i]?=iI x) (A:Vis X.env.scope x) (l:i∈own) (B:PE X e (tE C own .fr fe))
  (hd:Dbg x:=by decide) (j:Cdk x:=by decide)
  (f:i7 (.Name x px) "extend" X.env (eval (.Name x px) X.env)=eval (.Name x px) X.env:=by rfl)
  (w:((j3 cpos (iQ [e] X.env)).all (λx=>!x.1)&&(lI cpos (j8 [] X.env)).all (λx=>x.1.isSome)
   && decide ([e].length+([]:List j9).length+(if ([]:List j9).isEmpty then 0 else 1) < 30))=true:=by exact wg rfl)
  (c:(apos.endLine == cpos.line)=true:=by rfl) (s:iQ [e] X.env=[(iN,eval e X.env)]:=by exact qD rfl) :
  PE X (.Call (.Attribute (.Name x px) "extend" apos) [e] [] cpos) (tE C own .sh (ge i qhl fe)):=by
 refine jE (qab db PySem.F.slot_list_extend PySem.F.type_list_extend qac (wQ I A hd j) (qP B jD s) f w c s rfl) λσ H Q ⟨F,ρ,p,h⟩=>?_;unfold ge at h;by_cases q:yH ρ[i]?=iM
 ·rw [Aa q] at h;obtain ⟨ds,hd⟩:=Xv q;obtain ⟨a,h1,h2,xs,J,L⟩:=p.ow i _ l hd;refine ⟨.ref a,h1,.inl ⟨rfl,xs,.inl (.inl J)⟩,F,ρ,p,Po.bind h λv F1 H1 d ρ1 r O m po=>?_⟩;obtain ⟨b,rfl,G,E,k⟩:=m;cases g:ρ1[i]? with
  | none=>simp only [g] at po; exact po.elim
  | some o=>
   cases o with
   | none=>simp only [g] at po; exact po.elim
   | some dd=>
    simp only [g] at po;cases dd with
    | lst es=>
     simp only at po;obtain ⟨P,e1,M,vs,K,t⟩:=r.ow i _ l g;rw [h1] at e1; cases e1;cases d with
     | lst ys=>
      obtain ⟨zs,y,n⟩:=k;have po:Po C own .sh σ F1 H1 (match (if es.length+ys.length<=sizeLine then .ok (es++ys) else .bad:Out (List D)) with | .ok ys=>.ok (.non,ρ1.set i (iI (.lst ys))) | _=>.bad) Q:=po;by_cases z:es.length+ys.length<=sizeLine;·rw [Aa z] at po;refine ⟨a,b,vs,zs,rfl,rfl,K,y,by rw [t.length,n.length]; exact z,?_⟩;obtain ⟨r2,c2⟩:=r.write (u:=.lst (vs++zs)) (d:=.lst (es++ys)) l h1 ⟨_,qm,t.append n⟩;exact po .non F1 _ r2 c2 .non
      ·rw [Ab z] at po; exact po.elim
     | dct ys=>exact po.elim
     | ins _ _=>exact po.elim
     | at_ _ _=>exact po.elim
     | _=>exact k.elim
    | _=>exact po.elim
 ·rw [Ab q] at h; exact h.elim
end
noncomputable def scB (names:List (Str×lC)) (scope:lY):Bool:=decide (scope.kind=.function)&&scope.names.all λy=>decide (y.2≠.cell)&&(!decide (y.2=.local)||decide (scope.names.lookup y.1=iI .local)) &&
 (!decide (y.2=.free)||((decide (names.lookup y.1=iI .cell)||decide (names.lookup y.1=iI .free))&&decide (scope.names.lookup y.1=iI .free)))
variable {names:List (Str×lC)}
theorem qip (h:X.env.scope.names=names) (b:scB names scope=iM):ScOk X scope:=by
 subst h;unfold scB at b;rw [aR,aI] at b;obtain ⟨c,a⟩:=b;refine ⟨Ae c,λy C=>?_,λy C e=>?_,λy C e=>?_,λy C e=>?_⟩;all_goals
  have q:=a y C;simp only [aR,g9,Bool.not_eq_true',decide_eq_true_eq,decide_eq_false_iff_not] at q
 ·exact q.1.1
 ·exact q.1.2.resolve_left λz=>z e
 ·exact (q.2.resolve_left λz=>z e).1
 ·exact (q.2.resolve_left λz=>z e).2
noncomputable def qkb (names:List (Str×lC)) (N:List Str) (scope:lY) (c:List Str) (nt:Nat) (cap:List Nat):Bool:=decide cap.Nodup&&decide (c.length=nt+cap.length)&&(aN cap.length).all λj=>match cap[j]? with
 | some k=>match c[nt+j]? with
  | some x=>decide (N[k]?=iI x)&&(((decide (names.lookup x=iI .local)||decide (names.lookup x=iI .cell)||decide (names.lookup x=iI .free))&&decide ((x,bH)∈scope.names))||scope.names.all λy=>decide (y.1≠x))
  | none=>iN
 | none=>iN
theorem qeA {c:List Str} (a:X.env.scope.names=names) (d:X.N=N) (b:qkb names N scope c nt cap=iM):CapOk X scope c nt cap:=by
 subst a d;unfold qkb at b;rw [aR,aR,aI] at b;obtain ⟨⟨i,g⟩,f⟩:=b;refine ⟨Ae i,Ae g,λj k G=>?_⟩;have q:=f j (aX.mpr (aE.mp G).1);rw [G] at q;cases e:c[nt+j]? with
 | none=>simp only [e] at q; cases q
 | some x=>
  simp only [e,aR,g9,decide_eq_true_eq] at q;refine ⟨x,rfl,q.1,?_⟩;rcases q.2 with ⟨z,q2⟩ | z
  ·refine .inl ⟨?_,q2⟩;rcases z with (z | z) | z;·exact .inl z
   ·exact .inr (.inl z)
   ·exact .inr (.inr z)
  ·refine .inr λk' h=>?_;rw [aI] at z;exact Ae (z (x,k') h) rfl
theorem uh:vz (CXk P w) X (λ_ _ _=>False):=λ_ _ _ _ _ _ _ h=>by obtain ⟨_,_,_,_,_,_,_,_,_,_,_,_,_,_,j⟩:=h;exact j.elim
noncomputable def qk3 (f:qU):qU:=λρ=>(qV f ρ).bind λp=>.ok (.bl (!p.1),p.2)
section
variable {i:Int}
theorem wm (h:∃ t,X.mg x=iI (.int i t)) (hg:Gl X x) (hd:Dbg x:=by decide):PE X (.Name x pos) (tE C own .sh (dC (.int i))):=by obtain ⟨t,h⟩:=h;exact qfD (v:=.int i) hg h ⟨t,rfl⟩ (λ_=>.int i) hd
end
section
variable {a b:Expr} {f fa fb:qU}
noncomputable def QA:D->Out D
 | .lst xs=>.ok (.tup xs)
 | .tup xs=>.ok (.tup xs)
 | _=>.bad
noncomputable def Wr:D->Out D
 | .lst xs=>.ok (.lst xs)
 | .tup xs=>.ok (.lst xs)
 | _=>.bad
theorem KF (m:C.K=X.K):Qw X C .sh (.type "tuple") QA:=by
 intro pins s σ H xs us Q I r h;obtain ⟨x,F,dx,rfl,y,tx,po⟩:=h;cases dx with
 | lst ds=>obtain ⟨p,vs,rfl,hq,t⟩:=tx.lst y;refine xx pins s σ H _ us Q I r ⟨p,vs,rfl,.inl ⟨by rw [<-m]; exact hq,λl hl=>?_⟩⟩;obtain ⟨s2,c2⟩:=yF (u:=.tup vs) y hl;exact po _ _ _ s2 c2 (.tup (.inl (.inl qm)) (t.mono c2.grow))
 | tup ds=>
  rcases tx with tx | ⟨_,_,tx⟩
  ·have a:=tx;cases tx with
   | tup hq t=>exact xx pins s σ H _ us Q I r ⟨_,_,rfl,.inr ⟨by rw [<-m]; exact jl y hq,po _ F H y .refl a⟩⟩
  ·exact tx.elim
 | _=>exact po.elim
theorem US (m:C.K=X.K):Qw X C .fr (.type "list") Wr:=by
 intro pins s σ H xs us Q I r h;obtain ⟨x,F,dx,rfl,y,tx,po⟩:=h;cases dx with
 | lst ds=>obtain ⟨p,vs,rfl,hq,t⟩:=tx.lst y;refine zZ pins s σ H _ us Q I r ⟨p,vs,rfl,.inl (by rw [<-m]; exact hq),λl hl=>?_⟩;obtain ⟨s2,c2,D⟩:=jT (u:=.lst vs) y hl;exact po _ _ _ s2 c2 ⟨l,rfl,hl,D,vs,qm,t⟩
 | tup ds=>obtain ⟨p,vs,rfl,hq,t⟩:=tx.tup y;refine zZ pins s σ H _ us Q I r ⟨p,vs,rfl,.inr (by rw [<-m]; exact hq),λl hl=>?_⟩;obtain ⟨s2,c2,D⟩:=jT (u:=.lst vs) y hl;exact po _ _ _ s2 c2 ⟨l,rfl,hl,D,vs,qm,t⟩
 | _=>exact po.elim
def qaI (X:Cx) (C:Ct) (m:Mo) (f:iL) (g:D->D->Out D):Prop:=wW X f (λxs H Q=>∃ x y F dx d,xs=[x,y]/\Same F H/\TopIs C.K F H x dx/\TopIs C.K F H y d/\PoV C m F H (g dx d) Q)
theorem Xx {Q:VK} (k:ma≠.any) (h:tE C own m (d2 g fa fb) σ H Q):qcT (tE C own ma fa) (qcT (tE C own mb fb) qhR) σ H λxs H1=>∃ x y F dx a,xs=[x,y]/\Same F H1/\TopIs C.K F H1 x dx/\TopIs C.K F H1 y a/\PoV C m F H1 (g dx a) Q:=by
 obtain ⟨F,ρ,n,h⟩:=Wa (mb:=mb) k h;refine ⟨F,ρ,n,?_⟩;cases q:fa ρ with
 | ok p=>
  rw [q] at h;obtain ⟨d,ρ1⟩:=p;intro v F1 H1 e o j;obtain ⟨t,ρ2,b,h2⟩:=h v F1 H1 e o j;refine ⟨t,ρ2,b,?_⟩;cases f:fb ρ2 with
  | ok p=>rw [f] at h2;obtain ⟨d',l⟩:=p;intro w F3 s r G i;obtain ⟨J,dx,a,z⟩:=h2 w F3 s r G i;exact ⟨v,w,J,dx,a,rfl,z⟩
  | exc c=>rw [f] at h2; exact h2
  | bad=>rw [f] at h2; exact h2.elim
 | exc c=>rw [q] at h; exact h
 | bad=>rw [q] at h; exact h.elim
theorem Ws {id:String} {p:Pos} (d:qaI X C m (.builtin id) g) (hg:Gl X x) (hm:X.mg x=iK) (v:iS x=iI (.builtin id)) (e:PE X a (tE C own ma fa)) (hb:PE X b (tE C own mb fb)) (f:ma≠.any:=by decide) (n:x ≠ "__name__":=by decide) (c:Dbg x:=by decide)
  (h1:iQ [a,b] X.env=(iN,eval a X.env)::iQ [b] X.env:=by rfl) (h2:iQ [b] X.env=[(iN,eval b X.env)]:=by exact qD rfl):PE X (.Call (.Name x p) [a,b] [] pos) (tE C own m (d2 g fa fb)):=
 jE (xw d hg hm v (qP e (qP hb jD h2) h1) n c (by rw [h1]) (by rw [h2]; rfl)) λ_ _ _ h=>Xx f h
noncomputable def qkc:D->D->Out D:=uc λi j=>.ok (.int (if j > i then j else i))
noncomputable def qkd:D->D->Out D:=uc λi j=>.ok (.int (if j < i then j else i))
theorem qiq (d:X.calm=iM):qaI X C .sh (.builtin "max") qkc:=by
 intro pins s σ H xs us Q I r h;obtain ⟨x,y,F,dx,a,rfl,b,tx,ty,po⟩:=h;cases dx <;> try exact po.elim
 cases a <;> try exact po.elim
 obtain rfl:=tx.int;obtain rfl:=ty.int;exact GU d pins s σ H _ us Q I r ⟨_,_,rfl,po _ F H b .refl (.int _)⟩
theorem qir (d:X.calm=iM):qaI X C .sh (.builtin "min") qkd:=by
 intro pins s σ H xs us Q I r h;obtain ⟨x,y,F,dx,a,rfl,b,tx,ty,po⟩:=h;cases dx <;> try exact po.elim
 cases a <;> try exact po.elim
 obtain rfl:=tx.int;obtain rfl:=ty.int;exact GV d pins s σ H _ us Q I r ⟨_,_,rfl,po _ F H b .refl (.int _)⟩
noncomputable def kn (a T:String):Option Bool:=if (fZ a == fZ T)=iM then iI iM else if PySem.W.kitMeta T=iM then (fastBuiltinMro a).map (·.contains (.type T)) else iK
theorem qdm (K:Frag) (a T:String):cH K (.type a) (.type T)=kn a T:=rfl
noncomputable def tyN:D->Option String
 | .non=>iI "NoneType"
 | .bl _=>iI "bool"
 | .int _=>iI "int"
 | .str _=>iI "str"
 | .tup _=>iI "tuple"
 | .lst _=>iI "list"
 | .dct _=>iI "dict"
 | _=>iK
noncomputable def Qd (T:String) (d:D):Out D:=match tyN d with
 | some a=>match kn a T with
  | some b=>.ok (.bl b)
  | none=>.bad
 | none=>.bad
theorem qdn (m:C.K=X.K):wW X (.builtin "isinstance") (λxs H Q=>∃ x F d,xs=[x,.ty T]/\Same F H/\TopIs C.K F H x d/\PoV C .sh F H (Qd T d) Q):=by
 intro pins s σ H xs us Q I r h;obtain ⟨x,F,d,rfl,f,tx,po⟩:=h;obtain ⟨u,c,rfl,A,i⟩:=qcQ r;cases i;cases q:tyN d with
 | none=>unfold Qd at po; rw [q] at po; exact po.elim
 | some a=>
  cases g:kn a T with
  | none=>unfold Qd at po; rw [q] at po; simp only [g] at po; exact po.elim
  | some b=>
   have po:PoV C .sh F H (.ok (.bl b)) Q:=by unfold Qd at po; rw [q] at po; simp only [g] at po; exact po
   have fin:∀ tk,EP X pins σ Q (.bool b) { s with toks:=tk }:=λtk=>⟨.bl b,H,I.tok tk,rfl,po _ F H f .refl (.bl b)⟩
   have e:cH X.K (.type a) (.type T)=iI b:=(qdm X.K a T).trans g;cases d with
   | non=>obtain rfl:=tx.non; cases A; cases q; exact cM PySem.W.kitx_none I.kIn dn e (λz=>nomatch z) fin
   | bl y=>obtain rfl:=tx.bl; cases A; cases q; exact cM PySem.W.kitx_bool I.kIn dn e (λz=>nomatch z) fin
   | int y=>obtain rfl:=tx.int; obtain ⟨t,rfl⟩:=A; cases q; exact cM PySem.W.kitx_int I.kIn dn e (λz=>nomatch z) fin
   | str y=>obtain ⟨rfl,_⟩:=tx.str; obtain ⟨t,rfl⟩:=A; cases q; exact cM PySem.W.kitx_str I.kIn dn e (λz=>nomatch z) fin
   | tup y=>obtain ⟨p,vs,rfl,hq,t⟩:=tx.tup f;cases A; cases q;obtain ⟨its,_,⟨o,h1,h2,_⟩,_⟩:=I.tuple (show SqT X.K H p vs by rw [<-m]; exact hq);exact cM PySem.W.kitx_tuple I.kIn ⟨o,h1,h2⟩ e (λz=>nomatch z) fin
   | lst y=>obtain ⟨p,vs,rfl,hq,t⟩:=tx.lst f;cases A; cases q;obtain ⟨its,_,⟨o,n,h1,h2,_⟩,_⟩:=I.list (show SqL X.K H p vs by rw [<-m]; exact hq);exact cM PySem.W.kitx_list I.kIn ⟨o,h1,h2⟩ e (λz=>nomatch z) fin
   | dct y=>
    obtain ⟨p,vs,rfl,hq,t⟩:=tx.dct f;cases A; cases q;obtain ⟨_,_,ws,_,o,es,ep,h1,h2,_⟩:=(show ObjOk X.prog X.w H s.heap p (.dK vs) from I.hok p _ hq)
    exact cM PySem.W.kitx_dict I.kIn ⟨o,h1,h2.1⟩ e (λz=>nomatch z) fin
   | _=>cases q
theorem xJ {tn:Str} {p t:Pos} (k:C.K=X.K) (hg:Gl X "isinstance") (hm:X.mg "isinstance"=iK) (i:iS "isinstance"=iI (.builtin "isinstance")) (ht:Gl X tn) (e:X.mg tn=iK) (b:iS tn=iI (.type T)) (j:PE X a (tE C own ma fa)) (n:tn ≠ "__name__":=by decide) (f:Dbg tn:=by decide)
  (h1:iQ [a,.Name tn t] X.env=(iN,eval a X.env)::iQ [.Name tn t] X.env:=by rfl) (h2:iQ [.Name tn t] X.env=[(iN,eval (.Name tn t) X.env)]:=by rfl):PE X (.Call (.Name "isinstance" p) [a,.Name tn t] [] pos) (tE C own .sh (d1 (Qd T) fa)):=by
 refine jE (xw (qdn (T:=T) k) hg hm i (qP j (qP (qfa (v:=.ty T) ht e b rfl n f) jD h2) h1) (by decide) (by decide) (by rw [h1]) (by rw [h2]; rfl)) λσ H Q h=>?_;obtain ⟨F,ρ,g,h⟩:=qal (ma:=ma) h;refine ⟨F,ρ,g,?_⟩;cases q:fa ρ with
 | ok p=>rw [q] at h;obtain ⟨d,ρ1⟩:=p;intro v F1 H1 r l m;obtain ⟨o,dx,z⟩:=h v F1 H1 r l m;exact ⟨v,o,dx,rfl,z⟩
 | exc c=>rw [q] at h; exact h
 | bad=>rw [q] at h; exact h.elim
noncomputable def gf:List D->Option (List Bool)
 | []=>iI []
 | .bl b::ds=>(gf ds).map (b::·)
 | _::_=>iK
noncomputable def UT:D->Out D
 | .lst ds=>match gf ds with
  | some bs=>.ok (.bl (bs.all id))
  | none=>.bad
 | _=>.bad
theorem qdo {us:List iL} {bs:List Bool} (a:IsL K F vs ds) (l:Vals vs us) (e:gf ds=iI bs):us=bs.map dm:=by
 induction ds generalizing vs us bs with
 | nil=>cases a;cases l;cases e;rfl
 | cons d ds j=>
  cases a with
  | cons i a=>
   cases l with
   | cons r l=>
    cases d with
    | bl b=>obtain ⟨c,e1,rfl⟩:=aO.mp (show (gf ds).map (b::·)=iI bs from e);cases i;cases r;rw [j a l e1];rfl
    | _=>cases e
theorem gh (m:C.K=X.K) (j:X.calm=iM):Qw X C .sh (.builtin "all") UT:=by
 intro pins s σ H xs us Q I r h;obtain ⟨x,F,dx,rfl,y,tx,po⟩:=h;cases dx <;> try exact po.elim
 rename_i ds;obtain ⟨p,vs,rfl,hq,t⟩:=tx.lst y;obtain ⟨u,rfl,g⟩:=we r;cases g;unfold UT at po;cases q:gf ds with
 | none=>simp only [q] at po; exact po.elim
 | some bs=>
  simp only [q] at po;obtain ⟨its,f,pl,z⟩:=I.list (show SqL X.K H p vs by rw [<-m]; exact hq);have G:=qdo t f q;subst G;have hp:p < s.heap.objs.size:=let ⟨o,h1,_⟩:=pl.isList; aC h1;refine call_all_walk (lW pl.isList ?_);have W:Walks X.prog X.w X.A.in1 s.heap.objs.size [s.heap.objs.size,p] [s.heap.objs.size] (bs.map dm).toArray.size (λi v=>(bs.map dm).toArray[i]?=iI v) (λi h=>h.IsListIter s.heap.objs.size p i/\h.IsList p (bs.map dm).toArray):=iH (A:=X.A.in1) (show X.A.in1.handled=iK from I.ok.hd j) s.heap.objs.size p (aF hp) _;have st:(s.heap.push { cls:=.type "list_iterator",data:=.fields #[.ref p,.int 0 0] }).IsListIter s.heap.objs.size p 0/\(s.heap.push { cls:=.type "list_iterator",data:=.fields #[.ref p,.int 0 0] }).IsList p (bs.map dm).toArray:=⟨⟨_,ah _ rfl,rfl,rfl⟩,let ⟨o,h1,h2⟩:=pl.isList; ⟨o,aa _ h1,h2⟩⟩
  refine ⟨_,_,_,_,_,_,λi=>(bs[i]?).getD iN,rfl,W,st,λi v s' k E l c=>?_,λh' tk kp=>?_⟩
  ·have l:(bs.map dm).toArray[i]?=iI v:=l;rw [eU,aH] at l;cases d:bs[i]? with
   | none=>rw [d] at l; cases l
   | some b=>have a:k ((bs[i]?).getD iN) s':=c;rw [d] at l a;cases l;exact lh a
  ·have e:(aN (bs.map dm).toArray.size).all (λi=>(bs[i]?).getD iN)=bs.all id:=by
    rw [au,ap,Bool.eq_iff_iff,aI,aI];constructor;·intro h b hb;obtain ⟨i,hi,e⟩:=dR.mp hb;have:=h i (aX.mpr hi);rw [aA hi,e] at this;exact this
    ·intro h i hi;have hi:=aX.mp hi;rw [aA hi];exact h _ (bI hi)
   rw [e];refine ⟨.bl (bs.all id),H,?_,rfl,po _ F H y .refl (.bl _)⟩;have k2:∀ b o,s.heap.get? b=iI o->h'.get? b=iI o:=λb o G=>kp b o (by simp; exact aF (aC G)) (aa _ G);exact I.kept (t':=tk) k2
end
def PoO (C:Ct) (own:List Nat) (σ:St) (F H:Hp) (r:Out (Option Int×Sl)) (Q:Option Int->Hp->Prop):Prop:=match r with
 | .ok (b,ρ')=>∀ F' H',Rep C.K own F' H' σ ρ'->Chg (OA own σ) F H F' H'->Q b H'
 | .exc c ρ'=>∀ F' H',Same F' H'->qcG C.K C.ox F' H' σ ρ'->Chg (OA own σ) F H F' H'->C.E (C.cv c) iK H'
 | .bad=>False
def tO (C:Ct) (own:List Nat) (f:Sl->Out (Option Int×Sl)):TO:=λσ H Q=>∃ F ρ,Rep C.K own F H σ ρ/\PoO C own σ F H (f ρ) Q
noncomputable def KG:Option (qU)->Sl->Out (Option Int×Sl)
 | none,ρ=>.ok (iK,ρ)
 | some f,ρ=>(f ρ).bind λp=>match p.1 with
  | .int i=>.ok (iI i,p.2)
  | _=>.bad
theorem Po.bindO {o:Out (Option Int×Sl)} {k:Option Int×Sl->VZ} {Q:VK} {R:Option Int->Hp->Prop} (hp:Po C own m σ F H (o.bind k) Q)
  (h:∀ F1 H1 b ρ1,Rep C.K own F1 H1 σ ρ1->Chg (OA own σ) F H F1 H1->Po C own m σ F1 H1 (k (b,ρ1)) Q->R b H1):PoO C own σ F H o R:=by
 cases o with
 | ok p=>obtain ⟨d,ρ1⟩:=p;exact λF1 H1 a c=>h F1 H1 d ρ1 a c (Po.shift (show Po C own m σ F H (k (d,ρ1)) Q from hp) c)
 | exc x=>exact hp
 | bad=>exact hp.elim
section
variable {a:Expr} {fa f:qU} {p2:Pos}
theorem Xy:PO X iK (tO C own (KG iK)):=by intro pins s σ H Q I ⟨F,ρ,a,h⟩;exact qfs pins s σ H Q I (h F H a .refl)
theorem Xz (h:PE X e (tE C own m f)):PO X (iI e) (tO C own (KG (iI f))):=by
 intro pins s σ H Q I ⟨F,ρ,r,hp⟩;refine qft h pins s σ H Q I ⟨F,ρ,r,?_⟩;have hp:PoO C own σ F H ((f ρ).bind λp=>match p.1 with | .int i=>.ok (iI i,p.2) | _=>.bad) Q:=hp;cases q:f ρ with
 | ok p=>
  rw [q] at hp;obtain ⟨d,ρ1⟩:=p;cases d with
  | int i=>exact λv F1 H1 a k b=>⟨i,b.top.int,hp F1 H1 a k⟩
  | _=>exact hp.elim
 | exc c=>rw [q] at hp; exact hp
 | bad=>rw [q] at hp; exact hp.elim
end
noncomputable def Its (x:Str):It:=⟨λi _=>i < x.cps.size,λi H v H'=>H'=H/\∃ c,x.cps[i]?=iI c/\v=.str ⟨#[c]⟩,λi _=>x.cps.size<=i⟩
noncomputable def Wt (x:Str):List D:=x.cps.toList.map λc=>.str ⟨#[c]⟩
theorem XA {P:iU} {w:iV} {K:Frag} {tg:Expr} (it:Addr) (x:Str) (t:Tok) (ty:String) (y:["enumerate", "zip", "dict_itemiterator", "dict_reverseitemiterator", "odict_iterator", "itertools.zip_longest", "itertools.pairwise"].contains ty=iN)
  (W:∀ A:iZ,A.handled=iK->Walks P w A it [it] [it] x.cps.size (SignAt x) (λi h=>h.IsStrIter it ty x t i)) (p:∀ (A:iZ) (i:Nat) (s:iO) (Q:iL->iO->Prop) (E:iL->iO->Prop),s.heap.IsStrIter it ty x t i->Q (.ref it) s->iR (model P w) A (mU (.ref it)) Q E s) :
  Turn P w K tg (Its x) [it] it (λi h=>h.IsStrIter it ty x t i/\i<=x.cps.size) where
 mem:=by simp
 obj:=λi h st b hb=>by
  have e:b=it:=by simpa using hb
  subst e;obtain ⟨o,e,c,d⟩:=st.1;exact ⟨o,e,λv z=>by rw [d] at z; cases z⟩
 keep:=λi h h' st k=>by obtain ⟨⟨o,e,r⟩,hi⟩:=st;exact ⟨⟨o,k it (by simp) o e,r⟩,hi⟩
 item:=by
  intro X l g m j i pins s σ H E I a st hg;subst l g m;obtain ⟨f0,f1,f2,q,f4,n⟩:=a it (by simp);refine (W X.A (I.ok.hd j)).item i s _ _ hg st.1 λv h' tk l f kp=>?_;have B:Inv X pins σ H { s with heap:=h',toks:=tk }:=I.turned (t':=tk) (λb o hb e=>kp b o (by simpa using hb) e) f0 f1 q f4 n;obtain ⟨o,e,c,d⟩:=id f;obtain ⟨T,u,h1,h2⟩:∃ T u,x.cps[i]?=iI T/\v=eV ⟨#[T]⟩ u:=by
   unfold SignAt at l;first
    | exact l
    | (obtain ⟨T,u,h1,h2⟩:=l; exact ⟨T,u,h1,h2⟩)
    | (obtain ⟨T,h1,u,h2⟩:=l; exact ⟨T,u,h1,h2⟩)
    | (obtain ⟨u,T,h1,h2⟩:=l; exact ⟨T,u,h1,h2⟩)
  subst h2;exact ⟨_,rfl,GO (s:={ s with heap:=h',toks:=tk }) e c d y ⟨.str ⟨#[T]⟩,H,B,⟨u,rfl⟩,⟨rfl,T,h1,rfl⟩,⟨f,hg⟩,λb hb=>(a b hb).1⟩⟩
 done:=by intro X l g m j i pins s σ H E I a st hg;subst l g m;obtain ⟨f0,f1,f2,q,f4,n⟩:=a it (by simp);have hi:i=x.cps.size:=hJ st.2 hg;subst hi;exact (W X.A (I.ok.hd j)).done s _ _ st.1 λh' tk kp=>⟨rfl,I.turned (t':=tk) (λb o hb e=>kp b o (by simpa using hb) e) f0 f1 q f4 n⟩
 self:=λA i s Q E st h=>p A i s Q E st.1 h
theorem qis:ItIs K F (Its x) (Wt x) where
 go:=λi H hi _=>by
  have:i < x.cps.size:=by simpa [Wt] using hi
  exact this
 yld:=λi Fi H v H' d e s1 s2 y=>by
  obtain ⟨rfl,c,h1,rfl⟩:=y;have e:d=.str ⟨#[c]⟩:=by
   unfold Wt at e;rw [aH] at e;have h1:x.cps.toList[i]?=iI c:=by simpa using h1
   rw [h1] at e;exact (aL.inj e).symm
  subst e;exact ⟨Fi,.refl,s2,.str (Xm c)⟩
 stop:=λi H hi _=>by
  have:x.cps.size<=i:=by simpa [Wt] using hi
  exact this
noncomputable def jo:D->Out (List D)
 | .lst xs=>.ok xs
 | .tup xs=>.ok xs
 | .str x=>.ok (Wt x)
 | _=>.bad
noncomputable def jw (f:qU):vB:=λρ=>(f ρ).bind λp=>(jo p.1).bind λds=>.ok (ds,p.2)
section
variable {f:qU}
theorem qit {l:Expr} {tl:TE} (hl:PE X l tl):PI X tg l (λσ H R=>tl σ H λx H1=>(∃ a,x=.ref a/\(((∃ xs,SqL X.K H1 a xs)/\R (Itl X.K a) H1)\/((∃ xs,SqT X.K H1 a xs)/\R (Itt X.K a) H1)))\/∃ z,x=.str z/\R (Its z) H1):=by
 refine ⟨?_⟩;intro pins s σ H R I h;refine thn (hl pins s σ H _ I h) λv s1 ⟨x,H1,d,r1,c⟩=>?_;have fp:∀ b∈[s1.heap.objs.size],Uz X pins H1 b:=λb hb=>by
  have e:b=s1.heap.objs.size:=by simpa using hb
  subst e;exact d.fpOk (ay _) (d.hok.fresh (ay _))
 rcases c with ⟨a,rfl,q⟩ | ⟨z,rfl,q⟩
 ·cases r1;rcases q with ⟨⟨xs,hq⟩,q⟩ | ⟨⟨xs,hq⟩,q⟩
  ·obtain ⟨its,r,p,g⟩:=d.list hq;refine lW p.isList ?_;exact ⟨s1.heap.objs.size,[s1.heap.objs.size],_,_,H1,rfl,d.kept (t':=s1.toks) λb o e=>aa _ e,GP a _,⟨_,ah _ rfl,rfl,rfl⟩,fp,q⟩
  ·obtain ⟨its,r,p,g⟩:=d.tuple hq;refine lG (show s1.heap.IsTuple a its.toArray from p) ?_;exact ⟨s1.heap.objs.size,[s1.heap.objs.size],_,_,H1,rfl,d.kept (t':=s1.toks) λb o e=>aa _ e,Zz a _,⟨_,ah _ rfl,rfl,rfl⟩,fp,q⟩
 ·obtain ⟨t,rfl⟩:=r1;cases f:z.cps.all (· < 128) with
  | true=>refine wpAny_pyIter_ascii f ?_;exact ⟨s1.heap.objs.size,[s1.heap.objs.size],_,_,H1,rfl,d.kept (t':=s1.toks) λb o e=>aa _ e,XA _ z t "str_ascii_iterator" (by decide) (λA hA=>Walks.strAscii hA _ z t) (λA i s Q E st h=>wpAny_pyIter_striter_ascii st h),⟨⟨_,ah _ rfl,rfl,rfl⟩,aZ _⟩,fp,q⟩
  | false=>refine wpAny_pyIter_wide f ?_;exact ⟨s1.heap.objs.size,[s1.heap.objs.size],_,_,H1,rfl,d.kept (t':=s1.toks) λb o e=>aa _ e,XA _ z t "str_iterator" (by decide) (λA hA=>Walks.strWide hA _ z t) (λA i s Q E st h=>wpAny_pyIter_striter_wide st h),⟨⟨_,ah _ rfl,rfl,rfl⟩,aZ _⟩,fp,q⟩
theorem qH (b:C.K=X.K) (h:PE X e (tE C own m f)) (hm:m≠.any:=by decide):PI X tg e (tIt C own (jw f)):=by
 refine qaB (qit (wX h hm)) λσ H R ⟨F,ρ,r,h⟩=>⟨F,ρ,r,PoI.bindV h λv F1 H1 d ρ1 a k c h1=>?_⟩
 have c:Is C.K F1 v d:=c;cases c with
 | lst p t=>exact .inl ⟨_,rfl,.inl ⟨⟨_,by rw [<-b]; exact a.sub.seq p⟩,by rw [<-b]; exact h1 _ F1 H1 a k (qih p t)⟩⟩
 | tup p t=>exact .inl ⟨_,rfl,.inr ⟨⟨_,by rw [<-b]; exact jl a.sub p⟩,by rw [<-b]; exact h1 _ F1 H1 a k (qii p t)⟩⟩
 | str z=>exact .inr ⟨_,rfl,h1 _ F1 H1 a k qis⟩
 | _=>exact h1.elim
end
end L2.D2
namespace L2.D2
open PySem PySem.Spec PySem.Calls PyProof.Rows PySem.W Builtin Builtin.ObjectAttr Builtin.Getset_descriptor
noncomputable def xcB (K:Frag) (C:Addr):Bool:=decide (subIn K (.ref C) (.type "BaseException")=iI iM)&&decide (findIn K (.ref C) "__getattribute__"=iI (iI (.builtin "BaseException.__getattribute__")))&&decide (findIn K (.ref C) "__getattr__"=iI iK) &&
 decide (findIn K (.ref C) "__class__"=iI (iI (.builtin "object.__class__")))&&decide (mroIn K C (.type "object")=iI iM)&&(clsIn K C).isSome
end L2.D2
namespace L2.D2
open PySem PySem.Spec PyProof.Rows
variable {P:iU} {w:iV} {K:Frag} {N:List Str} {A:iZ} {C:Ct}
theorem qiu {mg:Str->Option iL} {base:Heap} {qual:Str} {scope:lY} {f:Addr} {cd:iL} {outer:List Env} {s0:iO} {H0:Hp} {E:XK} (h:C.E=E):Xu (cxk P w K mg base N qual scope f cd A outer s0 H0 E) C:=by subst h;exact qin
structure Xs (K:Frag) (cv:Str->iL) (ca:Str->Addr) (cs:List Str) (top:Str):Prop where
 val:∀ c∈cs,cv c=.ref (ca c)
 own:∀ c∈cs,fC K (.ref (ca c)) (cv top)=iI iM
 cls:∀ c∈cs,xcB K (ca c)=iM
 kit:∀ c∈cs,∀ d∈cs,cH K (.ref (ca c)) (.ref (ca d))=iI (decide (ca c=ca d))
 ve:∀ c∈cs,cH K (.ref (ca c)) (.type "ValueError")=iI iM
inductive SK where
 | l | t
noncomputable def SK.itc:SK->String
 | .l => "list_iterator"
 | .t => "tuple_iterator"
def SeqK (h:Heap) (a:Addr):SK->Array iL->Prop
 | .l,xs=>h.IsList a xs
 | .t,xs=>h.IsTuple a xs
def ItK (h:Heap) (it a:Addr):SK->Nat->Prop
 | .l,i=>h.IsListIter it a i
 | .t,i=>h.IsTupleIter it a i
def SqK (K:Frag) (H:Hp) (a:Addr):SK->List V->Prop
 | .l,xs=>SqL K H a xs
 | .t,xs=>SqT K H a xs
variable {h h':Heap} {a:Addr} {xs:Array iL}
theorem SeqK.at:∀ {k:SK},SeqK h a k xs->(∀ o,h.get? a=iI o->h'.get? a=iI o)->SeqK h' a k xs
 | .l,⟨o,e,c⟩,k=>⟨o,k _ e,c⟩
 | .t,⟨o,e,c⟩,k=>⟨o,k _ e,c⟩
theorem SeqK.lt:∀ {k:SK},SeqK h a k xs->a < h.objs.size
 | .l,⟨o,e,c⟩=>aC e
 | .t,⟨o,e,c⟩=>aC e
variable {it:Addr} {i:Nat}
theorem ItK.obj:∀ {k:SK},ItK h it a k i->∃ o,h.get? it=iI o/\o.cls=.type k.itc/\o.data=.fields #[.ref a,.int i 0]
 | .l,⟨o,e,c,d⟩=>⟨o,e,c,d⟩
 | .t,⟨o,e,c,d⟩=>⟨o,e,c,d⟩
theorem ItK.of:∀ {k:SK},(∃ o,h.get? it=iI o/\o.cls=.type k.itc/\o.data=.fields #[.ref a,.int i 0])->ItK h it a k i
 | .l,⟨o,e,c,d⟩=>⟨o,e,c,d⟩
 | .t,⟨o,e,c,d⟩=>⟨o,e,c,d⟩
variable {E:iL->iO->Prop} {prog:iU} {s:iO} {Q:Option iL->iO->Prop} {l:Addr} {items:Array iL} {x:iL} {o:Obj} {n:Nat}
section
theorem qdp {k:SK} {Q:iL->iO->Prop} (h:SeqK s.heap a k xs) (c:Q (.ref s.heap.objs.size) { s with heap:=s.heap.push { cls:=.type k.itc,data:=.fields #[.ref a,.int 0 0] } }):iR (model prog w) A (mU (.ref a)) Q E s:=by
 cases k with
 | l=>exact lW h c
 | t=>exact lG h c
noncomputable def SK.cl:SK->String
 | .l => "list"
 | .t => "tuple"
theorem qaJ {k:SK} (b:A.handled=iK) (hi:ItK s.heap it l k i) (hl:SeqK s.heap l k items) (hx:items[i]?=iK) (c:∀ h',h8 it s.heap h'->Q iK { s with heap:=h' }):iR (model prog w) A (lB (.ref it)) Q E s:=by
 cases k with
 | l=>exact wpAny_pyNext_list_end b hi hl hx c
 | t=>exact wpAny_pyNext_tuple_end b hi hl hx c
theorem ZW {k:SK} (hi:ItK s.heap it l k i) (hl:SeqK s.heap l k items) (hx:items[i]?=iI x) (c:∀ h',ItK h' it l k (i+1)->bK it s.heap h'->Q (iI x) { s with heap:=h' }):iR (model prog w) A (lB (.ref it)) Q E s:=by
 cases k with
 | l=>exact wpAny_pyNext_list_item hi hl hx c
 | t=>exact wpAny_pyNext_tuple_item hi hl hx c
theorem SeqK.of (e:h.get? a=iI o) (d:o.data=.seq xs n):∀ {k:SK},o.cls=.type k.cl->SeqK h a k xs
 | .l,c=>⟨o,e,c,n,d⟩
 | .t,c=>⟨o,e,c,n,d⟩
end
variable {sk:SK}
section
theorem ZX:mG (.type "tuple") "keys"=pure none:=by rw [lJ,lc]; kernel_rfl
theorem Jz {k:Nat} {Q:Option iL->iO->Prop} (n:A.handled=iK) (hx:s.heap.get? a=iI o) (l:o.cls=.type "tuple") (t:o.data=.seq xs k) (hd:o.dict=iK)
  (h:∀ h' tk,(∀ b j,s.heap.get? b=iI j->h'.get? b=iI j)->Q iK { s with heap:=h',toks:=tk }):iR (model prog w) A (m6 (.ref a) "keys") Q E s:=by
 obtain ⟨c,dct,q,sl⟩:=o;simp only at l t hd;subst l t hd;obtain ⟨hp,g,d,tk,os⟩:=s;have T:∀ f,(⟨hp,g,d,f,os⟩:iO).TypeIs (.ref a) "tuple":=λ_=>⟨_,hx,rfl⟩
 have f1:=sub_AttributeError;have v:=d5.lookup;have f4:=d5.bind (.ref a);have u:=am_tuple_getattr_none;have p:=ZX;have m:(["__module__", "__name__", "__qualname__", "__doc__", "__annotations__"]:List Str).contains ("keys":Str)=false:=by decide +kernel
 have hsz:("keys":Str).length+100<=sizeLine:=by rw [iY]; decide +kernel
 unfold m6 getAttrBy?;refine iJ (wpAny_mkText (iJ (lw ?_)));unfold getAttrBy;repeat (any_goals (first | assumption | exact T _ | ((with_reducible show iR _ _ (call (Value.builtin "tuple.__getattribute__") _ _) _ _ _); refine lM d5 (T _) am_entry_tuple_getattribute (F.args_tuple_getattribute_2 _ _) (meets_getattribute_miss_tuple a xs k sl "keys" _ p m hsz) ⟨hx,n,λh' f e i=>?_⟩) | wp_step))
 obtain ⟨t',V,r⟩:=i.there;show iR _ _ (lR _ _ _ _ _ _ _) _ _ _;unfold lR;repeat (any_goals (first | assumption | wp_step))
 exact h h' f i.keeps
theorem ZY:mG (.type "list") "keys"=pure none:=by rw [lJ,lc]; kernel_rfl
theorem QB {k:Nat} {Q:Option iL->iO->Prop} (n:A.handled=iK) (hx:s.heap.get? a=iI o) (l:o.cls=.type "list") (t:o.data=.seq xs k) (hd:o.dict=iK)
  (h:∀ h' tk,(∀ b j,s.heap.get? b=iI j->h'.get? b=iI j)->Q iK { s with heap:=h',toks:=tk }):iR (model prog w) A (m6 (.ref a) "keys") Q E s:=by
 obtain ⟨c,dct,q,sl⟩:=o;simp only at l t hd;subst l t hd;obtain ⟨hp,g,d,tk,os⟩:=s;have T:∀ f,(⟨hp,g,d,f,os⟩:iO).TypeIs (.ref a) "list":=λ_=>⟨_,hx,rfl⟩
 have f1:=sub_AttributeError;have v:=eh.lookup;have f4:=eh.bind (.ref a);have u:=am_list_getattr_none;have p:=ZY;have m:(["__module__", "__name__", "__qualname__", "__doc__", "__annotations__"]:List Str).contains ("keys":Str)=false:=by decide +kernel
 have hsz:("keys":Str).length+100<=sizeLine:=by rw [iY]; decide +kernel
 unfold m6 getAttrBy?;refine iJ (wpAny_mkText (iJ (lw ?_)));unfold getAttrBy;repeat (any_goals (first | assumption | exact T _ | ((with_reducible show iR _ _ (call (Value.builtin "list.__getattribute__") _ _) _ _ _); refine lM eh (T _) am_entry_list_getattribute (F.args_list_getattribute_2 _ _) (meets_getattribute_miss_list a xs k sl "keys" _ p m hsz) ⟨hx,n,λh' f e i=>?_⟩) | wp_step))
 obtain ⟨t',V,r⟩:=i.there;show iR _ _ (lR _ _ _ _ _ _ _) _ _ _;unfold lR;repeat (any_goals (first | assumption | wp_step))
 exact h h' f i.keeps
theorem gi:entryFor table "dict.update.loop"=iI Builtin.«dict.update.loop»:=entryFor_of_tree (by kernel_rfl)
theorem ky:plainId "dict.update.loop"=true:=by decide +kernel
def qaK (h:Heap) (v key val:iL):Prop:=∃ p o n,v=.ref p/\h.get? p=iI o/\o.cls=.type "tuple"/\o.data=.seq #[key,val] n
theorem qdq {sk:SK} {R:mK->iO->Prop} {d t:Addr} (hh:A.in1.handled=iK) (Q:d≠t) (u:d≠it) (M:t≠it):∀ (n i:Nat) (s:iO) (kvs:List (Key×iL)) (ps:List (Key×iL×iL)),items.size - i=n->i<=items.size ->ItK s.heap it t sk i->SeqK s.heap t sk items->s.heap.DictOf (ji prog w) d kvs->ps.length=n->(∀ j p,ps[j]?=iI p->∃ v,items[i+j]?=iI v/\Ql p.1 p.2.1=iM/\qaK s.heap v p.2.1 p.2.2)->kvs.length+n<=sizeLine ->(∀ h' tk,h'.DictOf (ji prog w) d (ps.foldl (λl p=>stored l p.1 p.2.2) kvs)->(∀ b o,b≠d->b≠it->s.heap.get? b=iI o->h'.get? b=iI o)->R (.ok (.ret .none)) { s with heap:=h',toks:=tk }) ->lE (model prog w) A (.builtin "dict.update.loop" ⟨[.ref d,.ref it,j4 i,.none],[]⟩) R s:=by
 intro n
 induction n with
 | zero=>intro i s kvs ps hn hi st ht hd hl hp hz V;have e:ps=[]:=List.length_eq_zero_iff.mp hl;subst e;refine i6 gi ?_;rw [bh ky _];show iR _ A.in1 (lB (.ref it) >>= _) _ _ s;refine iJ (qaJ hh st ht (by simp; lia) λh' Y=>?_);show iR _ A.in1 (ret cj) _ _ _;refine iP (V h' s.toks ?_ λb o _ h2 e=>Y b o h2 e);obtain ⟨o,es,ep,D,r⟩:=hd;exact ⟨o,es,ep,Y d o u D,r⟩
 | succ n ih=>
  intro i s kvs ps hn hi st ht hd hl hp hz V;cases ps with
  | nil=>simp at hl
  | cons p ps=>
   obtain ⟨v,hv,hk,q,W,nq,rfl,hq,O,c⟩:=hp 0 p rfl;obtain ⟨od,es,ep,g,hdx,a⟩:=id hd;have F:q≠d:=λz=>by subst z;rw [hq] at g; cases g;rw [a.1] at c; cases c
   obtain ⟨oi,f,hic,E⟩:=st.obj;have J:q≠it:=λz=>by subst z;rw [hq] at f; cases f;rw [E] at c; cases c
   refine i6 gi ?_;rw [bh ky _];show iR _ A.in1 (lB (.ref it) >>= _) _ _ s;refine iJ (ZW st ht (x:=.ref q) (by simpa using hv) λh' H G=>?_);have C:h'.get? q=iI W:=(G.2 q J).trans hq;have U:fQ { s with heap:=h' } (.ref q) "tuple":=⟨W,C,O⟩
   have T:h'.DictOf (ji prog w) d kvs:=by obtain ⟨o,es,ep,D,r⟩:=hd;exact ⟨o,es,ep,(G.2 d u).trans D,r⟩
   have N:SeqK h' t sk items:=ht.at λo D=>(G.2 t M).trans D;dsimp only;refine iJ (j0 (iJ ?_));refine wpAny_tryCatch ?_;unfold Builtin.Dict.pairItems;refine iJ (lP U ?_);rw [Aa (by decide)];refine iJ (i8 C c (iP ?_));show iR _ A.in1 (holding [p.2.1,p.2.2] (dictSet d p.2.1 p.2.2)) _ _ _;refine j0 (wpAny_dictSet_pairs (knd:=ji prog w) hk T (λh2 hd2 k=>?_) (by lia));have keep:∀ b o,b≠d->b≠it->s.heap.get? b=iI o->h2.get? b=iI o:=λb o n1 n2 e=>(k.2 b n1).trans ((G.2 b n2).trans e);have X:(stored kvs p.1 p.2.2).length<=kvs.length+1:=by unfold stored;split <;> simp
   refine iP ⟨ll ky _,?_⟩;have ec:j4 ((i:Int)+1)=j4 ((i+1:Nat):Int):=by push_cast; rfl
   rw [ec];refine ih (i+1) _ (stored kvs p.1 p.2.2) ps (by lia) (by lia) ?_ ?_ hd2 (by simpa using hl) (λj Z e=>?_) (by lia) λh3 tk S k3=>?_;·obtain ⟨o,e,r⟩:=H.obj;exact .of ⟨o,(k.2 it (be u)).trans e,r⟩
   ·exact N.at λo e=>(k.2 t (be Q)).trans e
   ·obtain ⟨v',L,P,I,y,K,rfl,m,B,h⟩:=hp (j+1) Z (by simpa using e);refine ⟨.ref I,by rw [show i+1+j=i+(j+1) by lia]; exact L,P,I,y,K,rfl,keep I y (λz=>?_) (λz=>?_) m,B,h⟩;·subst z;rw [m] at g; cases g;rw [a.1] at h; cases h
    ·subst z;rw [m] at f; cases f;rw [E] at h; cases h
   ·exact V h3 tk S λb o n1 n2 e=>k3 b o n1 n2 (keep b o n1 n2 e)
theorem QC {t:Addr} {ps:List (Key×iL×iL)} {Q:iL->iO->Prop} (J:A.handled=iK) {m:Obj} {nt:Nat} (z:s.heap.get? t=iI m) (d:m.cls=.type sk.cl) (n:m.dict=iK) (f:m.data=.seq items nt)
  (hl:ps.length=items.size) (hp:∀ (j:Nat) (p:Key×iL×iL),ps[j]?=iI p->∃ v,items[j]?=iI v/\Ql p.1 p.2.1=iM/\qaK s.heap v p.2.1 p.2.2) (M:items.size<=sizeLine)
  (h:∀ h' tk,h'.DictOf (ji prog w) s.heap.objs.size (ps.foldl (λl p=>stored l p.1 p.2.2) [])->(∀ b o,s.heap.get? b=iI o->h'.get? b=iI o)->Q (.ref s.heap.objs.size) { s with heap:=h',toks:=tk }) :
  iR (model prog w) A (call (.type "dict") [.ref t]) Q E s:=by
 refine callType_codes (Q₁:=λobj k=>obj=.ref s.heap.objs.size/\k={ s with heap:=s.heap.push { cls:=.type "dict",data:=.dict #[] } }) F.kt_called_dict (F.kt_typeCall_dict_1 _) F.entry_dict_init (kt_code_dict_new _ ⟨rfl,rfl⟩) ?_;rintro obj k ⟨rfl,rfl⟩;have i:(s.heap.push { cls:=.type "dict",data:=.dict #[] }).DictOf (ji prog w) s.heap.objs.size []:=Heap.DictOf.new s.heap;refine ⟨i.typeIs,F.args_dict_init_2 _ _,?_⟩;unfold Builtin.«dict.__init__»;refine iJ ?_;unfold Builtin.Dict.selfAndRest;refine iJ (wpAny_notOrdered_dict i.typeIs ?_);show iR _ _ (pure (s.heap.objs.size,[bu t])) _ _ _;refine iP ?_;show iR _ _ (Builtin.Dict.updateFrom "dict.__init__" s.heap.objs.size (.ref t) [] .none) _ _ _;unfold Builtin.Dict.updateFrom;have g:(s.heap.push { cls:=.type "dict",data:=.dict #[] }).get? t=iI m:=aa _ z;have C:t < s.heap.objs.size:=aC z;refine iJ (lP (T:=sk.cl) ⟨m,g,d⟩ ?_);rw [Aa (by cases sk <;> decide)];have P:∀ {K:Option iL->iO->Prop} {A1:iZ} {R:iL->iO->Prop} {s1:iO},A1.handled=iK->s1.heap.get? t=iI m->(∀ h' tk,(∀ b I,s1.heap.get? b=iI I->h'.get? b=iI I)->K iK { s1 with heap:=h',toks:=tk })->iR (model prog w) A1 (m6 (.ref t) "keys") K R s1:=λa b c=>by
  cases sk with
  | l=>exact QB a b d f n c
  | t=>exact Jz a b d f n c
 refine iJ (P (by exact J) g λh1 H k1=>?_);rw [Aa (show (iK:Option iL).isNone=iM from rfl)];refine iJ (lS ?_);have y:h1.get? t=iI m:=k1 _ _ g;have D:h1.DictOf (ji prog w) s.heap.objs.size []:=by obtain ⟨o,es,ep,B,r⟩:=i;exact ⟨o,es,ep,k1 _ _ B,r⟩
 have x:SeqK h1 t sk items:=.of y f d;refine iJ (qdp (s:={ s with heap:=h1,toks:=H }) x ?_);have u:s.heap.objs.size < h1.objs.size:=let ⟨o,es,ep,B,r⟩:=D; aC B;have up:∀ b o,s.heap.get? b=iI o->(h1.push { cls:=.type sk.itc,data:=.fields #[.ref t,.int 0 0] }).get? b=iI o:=λb o e=>aa _ (k1 _ _ (aa _ e));refine iP ⟨ll ky _,?_⟩;refine qdq (items:=items) (t:=t) (A:=A.in1) (show A.in1.in1.handled=iK from J) (b8 C) (aF u) (aF (eR C u)) items.size 0 _ [] ps (by lia) (aZ _) (.of ⟨_,ah _ rfl,rfl,rfl⟩) ?_ ?_ hl (λj p e=>?_) (by simpa using M) λh2 G hd2 k2=>⟨rfl,h h2 G hd2 λb o e=>?_⟩
 ·exact .of (aa _ y) f d
 ·obtain ⟨o,es,ep,B,r⟩:=D;exact ⟨o,es,ep,aa _ B,r⟩
 ·obtain ⟨v,N,O,q,W,L,rfl,hq,r⟩:=hp j p e;exact ⟨.ref q,by simpa using N,O,q,W,L,rfl,up q W hq,r⟩
 ·have hb:=aC e;exact k2 b o (aF hb) (aF (eR hb u)) (up b o e)
end
noncomputable def QD:D->Option Key
 | .int i=>iI (.inl i)
 | .str x=>iI (.inr x)
 | _=>iK
noncomputable def wn (kvs:List (Key×D)) (k:Key) (d:D):List (Key×D):=if kvs.any (λp=>decide (p.1=k)) then kvs.map λp=>if p.1=k then (p.1,d) else p else kvs++[(k,d)]
noncomputable def qdr:D->Option (Key×D)
 | .tup [k,v]=>(QD k).map λk=>(k,v)
 | _=>iK
noncomputable def yo:List D->Option (List (Key×D))
 | []=>iI []
 | d::ds=>match qdr d,yo ds with
  | some p,iI ps=>iI (p::ps)
  | _,_=>iK
noncomputable def qds:D->Out D
 | .tup ds=>match yo ds with
  | some ps=>.ok (.dct (ps.foldl (λl p=>wn l p.1 p.2) []))
  | none=>.bad
 | _=>.bad
noncomputable def qiv (d:D):Out D:=(xH d).bind λds=>match yo ds with
 | some ps=>.ok (.dct (ps.foldl (λl p=>wn l p.1 p.2) []))
 | none=>.bad
variable {d:D} {F H:Hp} {v:V} {ds:List D}
theorem qeB (y:Same F H) (h:TopIs K F H v d) (e:xH d=.ok ds):∃ a k xs,v=.ref a/\SqK K H a k xs/\IsL K F xs ds:=by
 cases d with
 | lst es=>cases e; obtain ⟨a,xs,rfl,q,t⟩:=h.lst y; exact ⟨a,.l,xs,rfl,q,t⟩
 | tup es=>cases e; obtain ⟨a,xs,rfl,q,t⟩:=h.tup y; exact ⟨a,.t,xs,rfl,q,t⟩
 | _=>cases e
theorem IsK.any {k:Key}:∀ {kv:List (Key×V)} {ks:List (Key×D)},IsK K F kv ks->(kv.any λp=>decide (p.1=k))=(ks.any λp=>decide (p.1=k))
 | _,_,.nil=>rfl
 | _,_,.cons h t=>by rw [b7,b7,IsK.any t]
theorem IsK.repl {k:Key} (i:Is K F v d):∀ {kv:List (Key×V)} {ks:List (Key×D)},IsK K F kv ks->IsK K F (kv.map λp=>if p.1=k then (p.1,v) else p) (ks.map λp=>if p.1=k then (p.1,d) else p)
 | _,_,.nil=>.nil
 | _,_,.cons (k:=k') h t=>by
  rw [aG,aG];by_cases e:k'=k;·simp only [e,if_true]; exact .cons i (IsK.repl i t)
  ·simp only [e,if_false]; exact .cons h (IsK.repl i t)
theorem IsK.snoc {k:Key} (i:Is K F v d):∀ {kv:List (Key×V)} {ks:List (Key×D)},IsK K F kv ks->IsK K F (kv++[(k,v)]) (ks++[(k,d)])
 | _,_,.nil=>.cons i .nil
 | _,_,.cons h t=>.cons h (IsK.snoc i t)
variable {kv:List (Key×V)}
theorem IsK.put {k:Key} {ks:List (Key×D)} (h:IsK K F kv ks) (i:Is K F v d):IsK K F (Ju kv k v) (wn ks k d):=by
 unfold Ju wn;rw [h.any];by_cases e:(ks.any λp=>decide (p.1=k))=iM;·rw [Aa e,Aa e]; exact IsK.repl i h
 ·rw [Ab e,Ab e]; exact IsK.snoc i h
theorem XB:∀ {v:List (Key×V)} {ps:List (Key×D)} {kv:List (Key×V)} {ks:List (Key×D)},IsK K F v ps->IsK K F kv ks->IsK K F (v.foldl (λl p=>Ju l p.1 p.2) kv) (ps.foldl (λl p=>wn l p.1 p.2) ks)
 | _,_,_,_,.nil,h=>h
 | _,_,_,_,.cons i t,h=>by rw [bW,bW];exact XB t (h.put i)
def ql1 (p:Key×V) (q:Key×iL×iL):Prop:=p.1=q.1/\RelV p.2 q.2.2
theorem qaL:∀ {v:List (Key×V)} {a:List (Key×iL×iL)} {kv:List (Key×V)} {vs:List (Key×iL)},mT ql1 v a->KV kv vs->KV (v.foldl (λl p=>Ju l p.1 p.2) kv) (a.foldl (λl p=>stored l p.1 p.2.2) vs)
 | _,_,_,_,.nil,h=>h
 | _,_,_,_,.cons r t,h=>by rw [bW,bW];refine qaL t ?_;rw [r.1];exact h.put _ r.2
theorem XC:∀ {v:List (Key×V)} {kv:List (Key×V)},(v.foldl (λl p=>Ju l p.1 p.2) kv).length<=kv.length+v.length
 | [],kv=>ay _
 | p::v,kv=>by
  have h1:=@XC v (Ju kv p.1 p.2);have h2:=yB kv p.1 p.2;rw [bW,ao]
  lia
variable {X:Cx} {pins:Pns} {σ:St} {u:iL} {vs:List V}
section
theorem ga {k:Key} (i:Is C.K F v d) (r:RelV v u) (e:QD d=iI k):Ql k u=true:=by
 cases d with
 | int z=>cases i; cases e; obtain ⟨t,rfl⟩:=r; exact VL z t
 | str z=>cases i; cases e; obtain ⟨t,rfl⟩:=r; exact VM z t
 | _=>cases e
theorem XD (m:C.K=X.K) (I:Inv X pins σ H s) (y:Same F H):∀ {vs:List V} {us:List iL} {ds:List D} {ps:List (Key×D)},IsL C.K F vs ds->Vals vs us->yo ds=iI ps ->∃ (f:List (Key×V)) (c:List (Key×iL×iL)),IsK C.K F f ps/\mT ql1 f c/\c.length=us.length/\f.length=us.length/\∀ (j:Nat) (p:Key×iL×iL),c[j]?=iI p->∃ v,us[j]?=iI v/\Ql p.1 p.2.1=iM/\qaK s.heap v p.2.1 p.2.2
 | _,_,_,_,.nil,.nil,e=>by cases e; exact ⟨[],[],.nil,.nil,rfl,rfl,λj p e=>by simp at e⟩
 | _,_,_,_,.cons (d:=d) (ds:=ds) i t,.cons (b:=u) r rs,e=>by
  unfold yo at e;cases q:qdr d with
  | none=>rw [q] at e; cases e
  | some kd=>
   cases g:yo ds with
   | none=>rw [q,g] at e; cases e
   | some rest=>
    rw [q,g] at e;cases e;obtain ⟨f,c,h1,h2,B,h,A⟩:=XD m I y t rs g;unfold qdr at q;split at q
    ·rename_i dk E;obtain ⟨k,x,rfl⟩:=aO.mp q;cases i with
     | @tup a xs _ hq il=>
      cases il with
      | @cons xk _ xr _ ik il2=>
       cases il2 with
       | @cons xv _ xr2 _ iv il3=>
        cases il3;cases r;obtain ⟨its,l,⟨o,w,z,n,hd⟩,_⟩:=I.tuple (show SqT X.K H a [xk,xv] by rw [<-m]; exact jl y hq);cases l with
        | @cons _ uk _ _ rk rv2=>
         cases rv2 with
         | @cons _ uv _ _ rv3 rv4=>
          cases rv4;refine ⟨(k,xv)::f,(k,uk,uv)::c,.cons iv h1,.cons ⟨rfl,rv3⟩ h2,by simp [B],by simp [h],λj p e=>?_⟩;cases j with
          | zero=>simp at e;subst e;exact ⟨_,rfl,ga ik rk x,a,o,n,rfl,w,z,hd⟩
          | succ j=>simpa using A j p (by simpa using e)
    ·cases q
theorem Wu (I:Inv X pins σ H s):∀ {k:SK},SqK X.K H a k vs->∃ its o n,Vals vs its/\s.heap.get? a=iI o/\o.cls=.type k.cl/\o.dict=iK/\o.data=.seq its.toArray n/\vs.length<=sizeLine
 | .l,h=>let ⟨its,r,⟨o,n,e,c,b,hd⟩,z⟩:=I.list h; ⟨its,o,n,r,e,c,b,hd,z⟩
 | .t,h=>by obtain ⟨its,r,⟨o,e,c,n,hd⟩,z⟩:=I.tuple h;obtain ⟨o2,d,b⟩:=I.tupleN h;rw [e] at d; cases d;exact ⟨its,o,n,r,e,c,b,hd,z⟩
theorem qdt (w:C.K=X.K) (D:X.calm=iM):Qw X C .fr (.type "dict") qiv:=by
  intro pins s σ H xs us Q I r h;obtain ⟨x,F,dx,rfl,y,tx,po⟩:=h;unfold qiv at po;cases e:xH dx with
  | bad=>rw [e] at po; exact po.elim
  | exc c o=>cases dx <;> cases e
  | ok ds=>
   rw [e] at po;have po:PoV C .fr F H (match yo ds with | some ps=>.ok (.dct (ps.foldl (λl p=>wn l p.1 p.2) [])) | none=>.bad) Q:=po;cases q:yo ds with
   | none=>simp only [q] at po; exact po.elim
   | some ps=>
    simp only [q] at po;obtain ⟨a,sk,vs,rfl,hq,t⟩:=qeB y tx e;obtain ⟨u,rfl,A⟩:=we r;cases A;rw [w] at hq;obtain ⟨its,o,n,k,B,i,f,hd,N⟩:=Wu I hq;obtain ⟨d,z,h1,h2,L,J,G⟩:=XD w I y t k q;have m:=k.length;refine QC (ps:=z) (I.ok.hd D) B i f hd (by simp [L]) (λj p e=>?_) (by simp; lia) λh' tk g kp=>?_;· obtain ⟨v,e1,M⟩:=G j p e;exact ⟨v,by simpa using e1,M⟩
    · have hp:H s.heap.objs.size=none:=I.hok.fresh (ay _);obtain ⟨s2,c2,E⟩:=jT (u:=.dK (d.foldl (λl p=>Ju l p.1 p.2) [])) y hp;have hl:(d.foldl (λl p=>Ju l p.1 p.2) ([]:List (Key×V))).length<=sizeLine:=by
        have:=@XC d [];simp at this
        lia
      have b:(s.heap.objs.size == lj)=false:=beq_eq_false_iff_ne.mpr (b8 I.big);refine ⟨.ref s.heap.objs.size,_,I.laid (o:=.dK (d.foldl (λl p=>Ju l p.1 p.2) [])) (t':=tk) kp (ay _) (qai hl b (qaL h2 .nil) g),rfl,po _ F _ s2 c2 ⟨_,rfl,hp,E,_,qm,XB h1 .nil⟩⟩
theorem qfU (m:C.K=X.K) (d:X.calm=iM):Qw X C .fr (.type "dict") qds:=by
 intro pins s σ H xs us Q I r h;obtain ⟨x,F,dx,rfl,y,tx,po⟩:=h;cases dx <;> try exact po.elim
 exact qdt m d pins s σ H _ us Q I r ⟨x,F,_,rfl,y,tx,po⟩
noncomputable def ko (kvs:List (Key×D)) (k:Key):Bool:=kvs.any λp=>decide (p.1=k)
noncomputable def inA:D->D->Out D
 | x,.dct kvs=>match QD x with
  | some k=>.ok (.bl (ko kvs k))
  | none=>.bad
 | x,y=>qj8 x y
noncomputable def gN:D->D->Out D
 | x,.dct kvs=>match QD x with
  | some k=>.ok (.bl (!ko kvs k))
  | none=>.bad
 | x,y=>ZO x y
theorem XE {ks:List (Key×D)} {k:Key} (h:IsK K F kv ks):(UI kv k).isSome=ko ks k:=by rw [<-Kv,h.any]; rfl
theorem qke {k:Key} (h:TopIs C.K F H v d) (e:QD d=iI k):v=kV k:=by
 cases d with
 | int z=>cases e; exact h.int
 | str z=>cases e; exact h.str.1
 | _=>cases e
theorem Wv (m:C.K=X.K) (f:X.A.units+64 < lb):OpD X C .sh (iW .In) inA:=by
 intro pins s σ H x y v u Q I r c h;obtain ⟨F,dx,d,b,tx,ty,po⟩:=h;by_cases hd:∃ kvs,d=.dct kvs
 ·obtain ⟨kvs,rfl⟩:=hd;cases q:QD dx with
  | none=>unfold inA at po; simp only [q] at po; exact po.elim
  | some k=>
   unfold inA at po;simp only [q] at po;obtain ⟨a,kv,rfl,g,i⟩:=ty.dct b;cases c;have ex:=qke tx q;subst ex;refine qmD (by lia) I (DGet.k (k:=k) g) r λs' j=>⟨.bl _,H,j,rfl,?_⟩
   rw [XE i];exact po _ F H b .refl (.bl _)
 ·have e:inA dx d=qj8 dx d:=by cases d <;> first | rfl | exact absurd ⟨_,rfl⟩ hd
  rw [e] at po;exact qk1 m f pins s σ H x y v u Q I r c ⟨F,dx,d,b,tx,ty,po⟩
theorem vW (m:C.K=X.K) (f:X.A.units+64 < lb):OpD X C .sh (iW .NotIn) gN:=by
 intro pins s σ H x y v u Q I r c h;obtain ⟨F,dx,d,b,tx,ty,po⟩:=h;by_cases hd:∃ kvs,d=.dct kvs
 ·obtain ⟨kvs,rfl⟩:=hd;cases q:QD dx with
  | none=>unfold gN at po; simp only [q] at po; exact po.elim
  | some k=>
   unfold gN at po;simp only [q] at po;obtain ⟨a,kv,rfl,g,i⟩:=ty.dct b;cases c;have ex:=qke tx q;subst ex;refine qfA (by lia) I (DGet.k (k:=k) g) r λs' j=>⟨.bl _,H,j,rfl,?_⟩
   rw [XE i];exact po _ F H b .refl (.bl _)
 ·have e:gN dx d=ZO dx d:=by cases d <;> first | rfl | exact absurd ⟨_,rfl⟩ hd
  rw [e] at po;exact qdc m f pins s σ H x y v u Q I r c ⟨F,dx,d,b,tx,ty,po⟩
end
theorem qfV (t:l5) (es:Array (Int×iL)) (h:Int) (x:iL):(layNew t es h x).2.1.led=t.led:=by
 unfold layNew;cases t.freeSlot h with
 | none=>rfl
 | some p=>obtain ⟨sl,wd⟩:=p;show (SetTable.orStandIn (t.put sl).1 _).led=t.led;unfold SetTable.orStandIn;split <;> rfl
variable {t:l5}
theorem qfW {m f v:Nat} {l p:Bool} {c:Array Int} {o:Array Nat} (h:ib m f v l p c=iI (t,o)):t.led=l/\t.plain=p:=by
 unfold ib at h;cases e:SetTable.layClean m c with
 | none=>rw [e] at h;cases h
 | some ow=>rw [e] at h;have h2:=congrArg Prod.fst (aL.inj h);subst h2;exact ⟨rfl,rfl⟩
theorem UU (t:l5) (es:Array (Int×iL)) (n:Nat):(mE t es n).2.1.led=t.led/\(t.plain=iN->(mE t es n).2.1.plain=iN):=by
 unfold mE;cases e:t.relaid (es.map (·.1)) n with
 | none=>exact ⟨rfl,λ_=>rfl⟩
 | some q=>
  obtain ⟨t',o⟩:=q;have k:=qfW (show ib _ _ _ _ _ _=iI (t',o) from e);dsimp only;split;·exact ⟨k.1,λz=>k.2.trans z⟩
  ·exact ⟨rfl,λ_=>rfl⟩
variable {κ:Type}
noncomputable def yI [DecidableEq κ] (ks:List κ) (x:κ):List κ:=if x∈ks then ks else ks++[x]
noncomputable def gj (ks:List Str) (x:Str):List Str:=if x∈ks then ks else ks++[x]
noncomputable def kg (es:Array (Int×iL)) (ep:Nat) (t:l5):Obj:={ cls:=.type "set",dict:=iK,data:=.set es ep t,slots:=#[] }
structure KP (κ:Type) [DecidableEq κ] where
 kd:∀ (p:iU) (w:iV),PySem.KeyKind p w κ
 of:iL->κ
 pb:Bool
 ofi:∀ {p:iU} {w:iV} {x:κ} {v:iL},(kd p w).is x v=iM->of v=x
 sc:∀ {p:iU} {w:iV} {x:κ} {v:iL},(kd p w).is x v=iM->v.scannable=iM
 pl:∀ {p:iU} {w:iV} {x:κ} {v:iL},(kd p w).is x v=iM->pb=iM->plainKind v=iN
noncomputable def KpS:KP Str where
 kd:=PySem.strKind
 of:=strOf
 pb:=iM
 ofi:=λh=>let ⟨_,e⟩:=cY h; by rw [e]; rfl
 sc:=λh=>let ⟨_,e⟩:=cY h; by rw [e]; rfl
 pl:=λh _=>let ⟨_,e⟩:=cY h; by rw [e]; rfl
structure SetG {κ:Type} [DecidableEq κ] (T:KP κ) (prog:iU) (w:iV) (es:Array (Int×iL)) (t:l5) (ks:List κ):Prop where
 el:ElemsOf (T.kd prog w) es.toList
 perm:(es.toList.map λe=>T.of e.2).Perm ks
 nd:ks.Nodup
 bd:es.size < l3
 fits:t.fits es.size=iM
 led:t.led=!(w.params.followText "set-order")
 plain:T.pb=iM->ks≠[]->t.plain=iN
def SetK {κ:Type} [DecidableEq κ] (T:KP κ) (prog:iU) (w:iV) (h:Heap) (a:Addr) (ks:List κ):Prop:=∃ es ep t,h.get? a=iI (kg es ep t)/\SetG T prog w es t ks
variable {es:Array (Int×iL)} {ep:Nat}
section
theorem qiw {l:List (Int×iL)} (h:ElemsOf (PySem.strKind prog w) l) {e:Int×iL} (g:e∈l):∃ x t,e.2=.str x t:=by obtain ⟨⟨k,a,_⟩,_⟩:=h e g;obtain ⟨t,ht⟩:=cY a;exact ⟨k,t,ht⟩
variable [DecidableEq κ] {T:KP κ}
theorem SetG.mem {ks:List κ} (h:SetG T prog w es t ks) {x:κ}:x∈ks↔∃ e∈es.toList,(T.kd prog w).is x e.2=true:=by
 rw [<-h.perm.mem_iff,af];constructor;·rintro ⟨e,g,z⟩;obtain ⟨⟨k,a,_⟩,_⟩:=h.el e g;rw [T.ofi a] at z;exact ⟨e,g,z ▸ a⟩
 ·rintro ⟨e,g,z⟩;exact ⟨e,g,T.ofi z⟩
theorem SetG.size {ks:List κ} (h:SetG T prog w es t ks):es.size=ks.length:=by have e:=h.perm.length_eq;simpa using e
theorem qeC {es':Array (Int×iL)} {t':l5} (l:h.get? a=iI (kg es ep t)):(h.update a (ii es' t')).get? a=iI (kg es' (ep+1) t'):=by have e:=bn (ii es' t') l (by rw [putSet_of (o:=kg es ep t) es' t' rfl]; rfl);rw [putSet_of (o:=kg es ep t) es' t' rfl] at e;exact e
theorem SetG.more {e:Array (Int×iL)} {t1:l5} {ks:List κ} {x:κ} {v:iL} (h:SetG T prog w es t ks) (c:(T.kd prog w).is x v=iM) (nx:x∉ks) (r:ks.length+1 < l3)
  (hp:e.toList.Perm (es.toList++[((T.kd prog w).hash x,v)])) (f:t1.fits e.size=iM) (hl:t1.led=t.led) (hq:T.pb=iM->t1.plain=iN):SetG T prog w e t1 (yI ks x):=by
 have ex:yI ks x=ks++[x]:=Ab nx;have d:e.size=ks.length+1:=by rw [<-bJ,hp.length_eq,aq,bJ,h.size];rfl
 rw [ex];refine ⟨(h.el.push c (T.sc c)).perm hp,?_,?_,?_,f,hl.trans h.led,λb _=>hq b⟩;·refine (hp.map _).trans ?_;rw [bG,List.map_singleton,T.ofi c];exact h.perm.append (cI _)
 ·exact bR.mpr ⟨h.nd,by simp,λa g b hb=>by rw [aw.mp hb]; exact λz=>nx (z ▸ g)⟩
 ·rw [d];exact r
theorem qfX {ks:List κ} {x:κ} {v:iL} {Q:Bool->iO->Prop} (k:(T.kd prog w).is x v=iM) (S:SetK T prog w s.heap a ks) (H:ks.length+1 < l3)
  (h:∀ h' b,bK a s.heap h'->SetK T prog w h' a (yI ks x)->Q b { s with heap:=h' }):iR (model prog w) A (setAddHashed a v ((T.kd prog w).hash x)) Q E s:=by
 obtain ⟨es,ep,t,o,d⟩:=S;unfold setAddHashed setAddHashedIn;refine j0 (iJ (j7 o rfl d.fits ?_));dsimp only;rw [byScan_of (T.sc k) d.bd d.el,Aa rfl];unfold setAddByScan;refine iJ (iJ (lS (iJ (wpAny_setScan_of k o rfl d.fits d.el ?_))));cases hq:es.toList.findIdx? (λe=>(T.kd prog w).is x e.2) with
 | some j=>obtain ⟨J,hp,_⟩:=List.findIdx?_eq_some_iff_getElem.mp hq;have hx:x∈ks:=d.mem.mpr ⟨_,bI J,hp⟩;have q:=h s.heap iN (Heap.SameBut.refl a s.heap) ⟨es,ep,t,o,by rw [show yI ks x=ks from Aa hx]; exact d⟩;dsimp only;exact iP (iP q)
 | none=>
  have hx:x∉ks:=λz=>by obtain ⟨e,K,q⟩:=d.mem.mp z;have:=List.findIdx?_eq_none_iff.mp hq e K;rw [q] at this;cases this
  dsimp only;have hp:=layNew_perm t es ((T.kd prog w).hash x) v;have m:=layNew_fits t es ((T.kd prog w).hash x) v;have hl:=qfV t es ((T.kd prog w).hash x) v;generalize layNew t es ((T.kd prog w).hash x) v=L at hp m hl ⊢;obtain ⟨c,t1,wd,N⟩:=L;dsimp only at hp m hl ⊢;rw [Array.toList_push] at hp;have l:∀ t2:l5,t2.fits c.size=iM->t2.led=t.led->(T.pb=iM->t2.plain=iN)->iR (model prog w) A (do
    storeSet a c t2
    if (!wd&&t2.tooFull)=iM then do
      (match (mE t2 c (de c.size)).2.2 with | true=>rule "set.scan.the-table-gave-way" | false=>pure ())
      storeSet a (mE t2 c (de c.size)).1 (mE t2 c (de c.size)).2.1
      pure (iI iM)
     else pure (iI iM)) (λr s'=>∃ h',s'={ s with heap:=h' }/\r=iI iM/\bK a s.heap h'/\SetK T prog w h' a (yI ks x)) E s:=by
   intro t2 f2 G p2;have d2:=d.more k hx H hp f2 G p2;refine iJ (wpAny_storeSet_of o rfl ?_ (lX d2.bd));have g:=qeC (es':=c) (t':=t2) o;have y:=bz s.heap a (ii c t2);split
   ·have u:=relayAll_perm t2 c (de c.size);have B:=relayAll_fits t2 c (de c.size);have p:=UU t2 c (de c.size);generalize mE t2 c (de c.size)=R at u B p ⊢;obtain ⟨n,D,U⟩:=R;dsimp only at u B p ⊢;have I:=d.more k hx H (u.trans hp) B (p.1.trans G) (λb=>p.2 (p2 b));refine iJ ?_;have go:iR (model prog w) A (storeSet a n D >>= λ_=>pure (iI iM)) (λr s'=>∃ h',s'={ s with heap:=h' }/\r=iI iM/\bK a s.heap h'/\SetK T prog w h' a (yI ks x)) E { s with heap:=s.heap.update a (ii c t2) }:=
     iJ (wpAny_storeSet_of g rfl (iP ⟨_,rfl,rfl,y.trans (bz _ a _),n,_,D,qeC g,I⟩) (lX I.bd))
    cases U;·exact iP go
    ·exact lS go
   ·exact iP ⟨_,rfl,rfl,y,c,_,t2,g,d2⟩
  have fin:∀ (r:Option Bool) (s':iO),(∃ h',s'={ s with heap:=h' }/\r=iI iM/\bK a s.heap h'/\SetK T prog w h' a (yI ks x)) ->iR (model prog w) A (match r with | some i=>pure i | none=>setAddHashedIn a v ((T.kd prog w).hash x) 99999) Q E s':=by rintro r s' ⟨h',rfl,rfl,y,S⟩;exact iP (h h' iM y S)
  have M:∀ (b:Bool) {f:iO} {C:Unit->iO->Prop},C () f->iR (model prog w) A (match b with | true=>rule "set.scan.the-table-gave-way" | false=>pure ()) C E f:=λb f C q=>by
   cases b;·exact iP q
   ·exact lS q
  refine iJ (M _ ?_);cases e1:t1.plain with
  | true=>rw [Aa rfl,hashByValue_scannable 8 (T.sc k)];refine iJ (iP ?_);exact lZ (l (if plainKind v=iM then t1 else { t1 with plain:=iN }) (by split; exact m; exact SetTable.fits_plain_off m) (by split <;> exact hl) (λb=>by rw [T.pl k b]; rfl)) fin λ_ _ z=>z
  | false=>rw [Ab (by simp)];refine iJ (iP ?_);exact lZ (l t1 m hl λ_=>e1) fin λ_ _ z=>z
end
theorem qdu [DecidableEq κ] (ks:List κ) (x:κ):(yI ks x).length<=ks.length+1:=by
 unfold yI;split
 ·lia
 ·rw [aq];exact ay _
theorem xK [DecidableEq κ]:∀ (l ks:List κ),(l.foldl yI ks).length<=ks.length+l.length
 | [],ks=>ay _
 | x::l,ks=>by
  have h1:=xK l (yI ks x);have h2:=qdu ks x;rw [bW,ao]
  lia
theorem XF:(yI:List Str->Str->List Str)=gj:=by funext ks x;unfold yI gj;congr
theorem QE (l ks:List Str):(l.foldl gj ks).length<=ks.length+l.length:=by rw [<-XF];exact xK l ks
theorem SetK.at [DecidableEq κ] {T:KP κ} {ks:List κ} (S:SetK T prog w h a ks) (k:∀ o,h.get? a=iI o->h'.get? a=iI o):SetK T prog w h' a ks:=
 let ⟨es,ep,t,l,d⟩:=S; ⟨es,ep,t,k _ l,d⟩
section
variable [DecidableEq κ] {T:KP κ} {R:mK->iO->Prop} {I:Addr} {fp wr:List Addr} {P:Nat->iL->Prop} {St:Nat->iO->Prop}
theorem qdv {G:Array mX->Array mX->Prop} (W:WalksS prog w A.in1 I fp wr G n P St) (S:Addr) (f:S∉fp) (ss:List κ) (H:ss.length=n) (E:∀ i v,P i v->∃ x,ss[i]?=iI x/\(T.kd prog w).is x v=iM) (hb:n+1 < l3):∀ (k i:Nat) (s:iO),n - i=k->i<=n->St i s->SetK T prog w s.heap S ((ss.take i).foldl yI []) ->(∀ s',Moved (S::wr) G s s'->SetK T prog w s'.heap S (ss.foldl yI [])->R (.ok (.ret .none)) s')->lE (model prog w) A (.builtin "set.update.loop" ⟨[.ref S,.ref I],[]⟩) R s:=by
 have C:S∉wr:=λh=>f (W.sub _ h);have up:∀ b∈wr,b∈S::wr:=λb hb=>ae _ hb;intro k
 induction k with
 | zero=>
  intro i s l hi c p y;have r:i=n:=by lia
  subst r;refine i6 F.entry_set_update_loop ?_;rw [bh eF _]; show iR _ A.in1 (lB (.ref I) >>= _) _ _ s;refine iJ (W.done s _ _ c λs' hm=>iP (y s' (hm.mono up) ?_));rw [List.take_of_length_le (eM H)] at p;exact p.at λo e=>hm.heap S o C e
 | succ k D=>
  intro i s l hi c p y;have t:i < n:=by lia
  refine i6 F.entry_set_update_loop ?_;rw [bh eF _]; show iR _ A.in1 (lB (.ref I) >>= _) _ _ s;refine iJ (W.item i s _ _ t c λv s' J a hm=>?_);obtain ⟨x,hx,l⟩:=E i v J;have u:SetK T prog w s'.heap S ((ss.take i).foldl yI []):=p.at λo e=>hm.heap S o C e;show iR _ A.in1 (holding [v] (setAdd S v) >>= _) _ _ s';refine iJ (j0 ?_);unfold setAdd;refine j0 (iJ ((T.kd prog w).pyHash l ?_));have m:((ss.take i).foldl yI []).length+1 < l3:=by
   have h1:=xK (ss.take i) [];rw [cF,aV] at h1
   lia
  refine qfX (s:={ s' with toks:=s'.toks+1 }) l u m λh' b B g=>?_;have K:yI ((ss.take i).foldl yI []) x=(ss.take (i+1)).foldl yI []:=by rw [List.take_add_one,hx,fJ];rfl
  rw [K] at g;refine iP ⟨ll eF _,D (i+1) _ (by lia) t (W.frame _ s' _ _ a (eC _) λb hb o e=>?_) g λq d j=>?_⟩;·rw [B.2 b λz:b=S=>f (z ▸ hb)];exact e
  ·refine y q (Moved.trans W.gtrans ((hm.mono up).then_heap (eC _) λb o hb e=>?_) d) j;rw [B.2 b λz:b=S=>hb (z ▸ aj)];exact e
end
section
variable [DecidableEq κ] {T:KP κ}
abbrev qix (w:iV):Obj:=kg #[] 0 (.fresh 0 0 (!(w.params.followText "set-order")))
theorem qaM (e:h.get? a=iI (qix w)):SetK T prog w h a []:=
 ⟨_,_,_,e,⟨λe g=>by simp at g,by simp,cJ,by decide,by rfl,rfl,λ_ z=>absurd rfl z⟩⟩
theorem qfY (a:iL) {Q₁:iL->iO->Prop} (h:Q₁ (.ref s.heap.objs.size) { s with heap:=s.heap.push (qix w) }):lE (model prog w) A (.call (.builtin "set.__new__") ⟨[.type "set",a],[]⟩) (wants Q₁ E) s:=by
 refine codeAny_of_tree ?_; show iR _ A.in1 (do checkBuiltinCall "set.__new__" ⟨[.type "set",a],[]⟩; again (.builtin "set.__new__" ⟨[.type "set",a],[]⟩)) _ _ s;refine iJ (mL (PySem.F.newCall_set_1 a) (iP ⟨ll PySem.F.plain_set_new _,i6 PySem.F.entry_set_new ?_⟩)); rw [bh PySem.F.plain_set_new _];unfold Builtin.«set.__new__» Builtin.Frozenset.newClass; have b:=sub_set_self; obtain ⟨hp,g,d,tk,os⟩:=s; dsimp only; wp_walk
 refine j5 (iP ?_); dsimp only; simp only [newObj];exact iJ (wpAny_alloc (iP (iP h)))
theorem UV:isSubtype (.type "tuple") (.type "set")=pure false:=by rw [lN]; kernel_rfl
theorem JA:isSubtype (.type "tuple") (.type "frozenset")=pure false:=by rw [lN]; kernel_rfl
theorem qdw:∀ sk:SK,isSubtype (.type sk.cl) (.type "set")=pure iN
 | .l=>PySem.F.sub_list_set
 | .t=>UV
theorem UW:∀ sk:SK,isSubtype (.type sk.cl) (.type "frozenset")=pure iN
 | .l=>PySem.F.sub_list_frozenset
 | .t=>JA
theorem qiy (b:A.handled=iK) (sk:SK) (it l:Addr) (e:l≠it) (items:Array iL):Walks prog w A it [it,l] [it] items.size (λi v=>items[i]?=iI v) (λi h=>ItK h it l sk i/\SeqK h l sk items):=by
 cases sk with
 | l=>exact iH b it l e items
 | t=>exact Walks.tuple b it l e items
theorem SeqK.ty:∀ {sk:SK},SeqK s.heap a sk xs->s.TypeIs (.ref a) sk.cl
 | .l,⟨o,e,c,_⟩=>⟨o,e,c⟩
 | .t,⟨o,e,c,_⟩=>⟨o,e,c⟩
theorem qmI {S:Addr} {ss:List κ} {Q:Unit->iO->Prop} (q:A.handled=iK) (j:SetK T prog w s.heap S []) (hl:SeqK s.heap l sk items) (p:ss.length=items.size) (hi:∀ (i:Nat) (v:iL),items[i]?=iI v->∃ x,ss[i]?=iI x/\(T.kd prog w).is x v=iM) (hb:items.size+1 < l3) (d:l≠S)
  (h:∀ h' tk,SetK T prog w h' S (ss.foldl yI [])->(∀ b o,b≠S->s.heap.get? b=iI o->h'.get? b=iI o)->Q () { s with heap:=h',toks:=tk }) :
  iR (model prog w) A (cA "set.__init__" S (.ref l)) Q E s:=by
 have g:=hl.ty;unfold cA;refine iJ (m:=Builtin.Frozenset.isAnySet _) ?_;unfold Builtin.Frozenset.isAnySet;refine iJ (lp g (qdw sk) ?_);refine lp g (UW sk) ?_;rw [Ab (by decide)];refine iJ (lP g ?_);rw [Ab (by cases sk <;> decide)];refine iJ (qdp hl ?_);have k:s.heap.objs.size≠S:=λz=>by obtain ⟨es,ep,t,n,_⟩:=j;exact cq _ (z ▸ aC n)
 have c:l≠s.heap.objs.size:=aF hl.lt;refine iJ (mm (qdv ((qiy (A:=A.in1) q sk _ l c items).toS) S ?_ ss p hi hb items.size 0 _ (by lia) (aZ _) ⟨.of ⟨_,ah _ rfl,rfl,rfl⟩,hl.at λo e=>aa _ e⟩ ?_ ?_))
 ·intro z;rcases ac.mp z with z | z;·exact k z.symm
  ·exact d (aw.mp z).symm
 ·exact j.at λo e=>aa _ e
 ·intro s' hm u;obtain ⟨h',g',d',f,a⟩:=s';have y:g'=s.gens:=hm.gens;have B:d'=s.drawn:=hm.drawn;have r:a=s.os:=hm.os;subst y B r;refine iP (h h' f u λb o hb e=>hm.heap b o ?_ (aa _ e));intro z;rcases ac.mp z with z | z;·exact hb z
  ·rw [aw.mp z] at e;exact cq _ (aC e)
set_option maxHeartbeats 3200000 in
theorem qaN {l:Addr} {ks:List κ} {Q:iL->iO->Prop}
  (p:∀ (A1:iZ) (K:Unit->iO->Prop) (D:iL->iO->Prop),A1.handled=A.handled->(∀ h' tk,SetK T prog w h' s.heap.objs.size ks->(∀ b o,s.heap.get? b=iI o->h'.get? b=iI o)->K () { s with heap:=h',toks:=tk }) ->iR (model prog w) A1 (cA "set.__init__" s.heap.objs.size (.ref l)) K D { s with heap:=s.heap.push (qix w) })
  (h:∀ h' tk,SetK T prog w h' s.heap.objs.size ks->(∀ b o,s.heap.get? b=iI o->h'.get? b=iI o)->Q (.ref s.heap.objs.size) { s with heap:=h',toks:=tk }) :
  iR (model prog w) A (call (.type "set") [.ref l]) Q E s:=by
 have i:∀ {Q₁:iL->iO->Prop},Q₁ (.ref s.heap.objs.size) { s with heap:=s.heap.push (qix w) }->lE (model prog w) A.in1 (.call (.builtin "set.__new__") ⟨[.type "set",.ref l],[]⟩) (wants Q₁ E) s:=λh=>qfY (.ref l) h;unfold qix kg at i p;generalize (!(w.params.followText "set-order"))=led at i p;obtain ⟨c,tl,t⟩:=bX.mro;have m:=bX.made;have q:=bX.sub;refine wpAny_call (codeAny_of_tree ?_); show iR _ _ (callAny (.type "set") _) _ _ _;refine iP ⟨Code.quiet_builtin _ (by decide +kernel),i6 PySem.F.entry_type_call ?_⟩; rw [Around.under_plain (weight_type_call_type "set" [.ref l] []) rfl];have h1:=bX.notType;have h2:=bX.canCreate;have y:=PySem.F.typeCall_set_1 (.ref l);repeat (any_goals (first | assumption | wp_step))
 refine lV (i (Q₁:=λobj f=>obj=.ref s.heap.objs.size/\f={ s with heap:=s.heap.push { cls:=.type "set",dict:=iK,data:=.set #[] 0 (.fresh 0 0 led) } }) ⟨rfl,rfl⟩) λr f k=>?_;cases r with
 | error e=>exact k
 | ok fl=>
  cases fl with
  | ret obj=>
   obtain ⟨rfl,rfl⟩:=k;have S:(s.heap.push { cls:=.type "set",dict:=iK,data:=.set #[] 0 (.fresh 0 0 led) }).get? s.heap.objs.size=iI { cls:=.type "set",dict:=iK,data:=.set #[] 0 (.fresh 0 0 led) }:=ah _ rfl;have C:fQ { s with heap:=s.heap.push { cls:=.type "set",dict:=iK,data:=.set #[] 0 (.fresh 0 0 led) } } (.ref s.heap.objs.size) "set":=⟨_,S,rfl⟩
   have v:=bX.init.lookup;have z:=bX.init.bind (.ref s.heap.objs.size);repeat (any_goals (first | assumption | wp_step))
   refine lV (codeAny_call_builtin (R:=wants (λr d=>r=.none/\∃ h' tk,d={ s with heap:=h',toks:=tk }/\SetK T prog w h' s.heap.objs.size ks/\(∀ b o,s.heap.get? b=iI o->h'.get? b=iI o)) E) bX.init.plain PySem.F.entry_set_init (check_set_init_1 C ?_)) λj d a=>?_
   ·unfold Builtin.«set.__init__» noKeywords;generalize B:cA=U;wp_walk
    subst B;refine p _ _ _ rfl λh' tk u x=>?_;exact iP ⟨rfl,h',tk,rfl,u,x⟩
   ·cases j with
    | error e=>exact a
    | ok g=>
     cases g with
     | ret r=>
      obtain ⟨rfl,h',tk,rfl,u,n⟩:=a;repeat (any_goals (first | assumption | wp_step))
      exact h _ _ u n
     | _=>exact a.elim
  | _=>exact k.elim
end
theorem zq {α:Type}:∀ {xs:List α} {i:Nat} (h:i < xs.length),(xs[i]::xs.eraseIdx i).Perm xs
 | [],_,h=>absurd h (dB _)
 | x::xs,0,h=>cI _
 | x::xs,i+1,h=>(List.Perm.swap _ _ _).trans ((zq (xs:=xs) (i:=i) (Nat.lt_of_succ_lt_succ h)).cons x)
variable {M:Model}
theorem ZZ {c:Source} {Q:Nat->iO->Prop} (a:n≠0) (h:∀ i d',i < n->Q i { s with drawn:=d' }):iR M A (choose c n) Q E s:=
 λ_ _ _=>⟨a,h _ _ (f7 _ (Nat.pos_of_ne_zero a))⟩
variable {α:Type}
theorem qaO:∀ (n:Nat) (xs:List α) (s:iO) {Q:List α->iO->Prop},n=xs.length->(∀ ys d',ys.Perm xs->Q ys { s with drawn:=d' })->iR M A (drawOrder n xs) Q E s
 | 0,xs,s,Q,hn,h=>by
  cases xs with
  | nil=>exact iP (h [] s.drawn (cI _))
  | cons x l=>cases hn
 | n+1,[],s,Q,hn,h=>by cases hn
 | n+1,x::l,s,Q,hn,h=>by show iR M A (choose .order (x::l).length >>= _) Q E s;refine iJ (ZZ (by simp) λi d' hi=>?_);have e:(x::l)[i]?=iI (x::l)[i]:=aA hi;rw [e];refine iJ (qaO n _ _ (by rw [List.length_eraseIdx_of_lt hi]; simp only [ao] at hn ⊢; lia) λys d2 hp=>iP (h _ d2 ?_));exact (hp.cons _).trans (zq hi)
theorem qaP (next:Nat->Nat):∀ (f k:Nat) (left:List α) (out:Array α),f=left.length->(pickOrder.go next f k left out).toList.Perm (out.toList++left)
 | 0,k,left,out,hf=>by
  cases left with
  | nil=>rw [bj];exact cI _
  | cons x l=>cases hf
 | f+1,k,left,out,hf=>by have t:next k % left.length < left.length:=f7 _ (by lia);have e:left[next k % left.length]?=iI left[next k % left.length]:=aA t;unfold pickOrder.go;rw [e];refine (qaP next f (k+1) _ _ (by rw [List.length_eraseIdx_of_lt t]; lia)).trans ?_;rw [Array.toList_push,ba];exact List.Perm.append_left _ (zq t)
theorem QF (next:Nat->Nat) (xs:Array α):(lU next xs).toList.Perm xs.toList:=by unfold lU;exact qaP next _ _ _ _ (by simp)
noncomputable def ui (first:iL) (i:Nat) (a:Addr) (n ep:Nat):Obj:={ cls:=.type "set_iterator",data:=.fields #[first,j4 i,.ref a,j4 n,j4 ep] }
theorem qQ:Slot "set_iterator" "__next__" "set_iterator.__next__":=
 .of (owner := "set_iterator") (n := "__next__") (by rw [lJ,lc]; kernel_rfl) (by decide +kernel) (by decide +kernel) (by decide +kernel) (by first | exact .inl (by decide +kernel) | exact .inr (by decide +kernel)) (by rw [lN]; kernel_rfl)
theorem gk:Slot "set_iterator" "__iter__" "set_iterator.__iter__":=
 .of (owner := "set_iterator") (n := "__iter__") (by rw [lJ,lc]; kernel_rfl) (by decide +kernel) (by decide +kernel) (by decide +kernel) (by first | exact .inl (by decide +kernel) | exact .inr (by decide +kernel)) (by rw [lN]; kernel_rfl)
theorem vC (a:iL):argsOk "set_iterator.__next__" ⟨[a],[]⟩:=by unfold argsOk; kernel_rfl
theorem Ww (a:iL):argsOk "set_iterator.__iter__" ⟨[a],[]⟩:=by unfold argsOk; kernel_rfl
theorem kP:entryFor table "set_iterator.__next__"=iI Builtin.«set_iterator.__next__»:=entryFor_of_tree (by kernel_rfl)
theorem KH:entryFor table "set_iterator.__iter__"=iI Builtin.«dict_keyiterator.__iter__»:=entryFor_alias (id' := "dict_keyiterator.__iter__") (by kernel_rfl) rfl (by decide +kernel) (by kernel_rfl)
theorem Wx:entryFor table "set.__iter__"=iI Builtin.«frozenset.__iter__»:=entryFor_alias (id' := "frozenset.__iter__") (by kernel_rfl) rfl (by decide +kernel) (by kernel_rfl)
variable {ks:List Str} {p:Addr} {b:Bool} {ps:List Nat}
section
theorem vf (hb:w.params.followText "set-order"=b):({ program:=(model prog w).prog,params:=(model prog w).w.params }:Setting).params.followText "set-order"=b:=hb
theorem Wz {sl nx:Nat} {x:iL} {Q:Option iL->iO->Prop} (hi:s.heap.get? it=iI (ui (j4 sl) i a n ep)) (b:s.heap.get? a=iI (kg es ep t)) (f:t.fits es.size=iM) (z:es.size=n)
  (h:∀ (A1:iZ) (K:Option (iL×Nat)->iO->Prop) (R:iL->iO->Prop),K (iI (x,nx)) s->iR (model prog w) A1 (mH a sl i ep) K R s)
  (c:∀ h',h'.get? it=iI (ui (j4 nx) (i+1) a n ep)->bK it s.heap h'->Q (iI x) { s with heap:=h' }):iR (model prog w) A (lB (.ref it)) Q E s:=by
 have m:s.TypeIs (.ref it) "set_iterator":=⟨_,hi,rfl⟩
 unfold lB;refine iJ (lw (i4 (name:=aD "__next__") m qQ (i5 qQ m kP ?_ (vC _))));show iR _ _ (fieldsOf (.ref it) >>= _) _ _ s;refine iJ (mn hi rfl ?_);show iR _ _ (mW a >>= _) _ _ s;refine iJ (lz b rfl f ?_);rw [Ab (by rw [z]; simp)];show iR _ _ (mH a sl i ep >>= _) _ _ s;refine iJ (h _ _ _ ?_);show iR _ _ (setField (.ref it) 0 (j4 nx) >>= _) _ _ s;refine iJ (lr hi rfl (by simp) ?_);have h1:(s.heap.update it (Obj.mapFields (·.setIfInBounds 0 (j4 nx)))).get? it=iI (ui (j4 nx) i a n ep):=bn _ hi rfl;refine iJ (lr h1 rfl (by simp) (iP ⟨x,rfl,iP (c _ ?_ ((bz ..).trans (bz ..)))⟩));exact bn _ h1 rfl
theorem WA {sl:Nat} {Q:Option iL->iO->Prop} (h:A.handled=iK) (hi:s.heap.get? it=iI (ui (j4 sl) i a n ep)) (e:s.heap.get? a=iI (kg es ep t)) (f:t.fits es.size=iM) (z:es.size=n)
  (d:∀ (A1:iZ) (K:Option (iL×Nat)->iO->Prop) (R:iL->iO->Prop),K iK s->iR (model prog w) A1 (mH a sl i ep) K R s)
  (g:∀ h',h8 it s.heap h'->Q iK { s with heap:=h' }):iR (model prog w) A (lB (.ref it)) Q E s:=by
 have c:s.TypeIs (.ref it) "set_iterator":=⟨_,hi,rfl⟩
 unfold lB;refine iJ (lw (i4 (name:=aD "__next__") c qQ (i5 qQ c kP ?_ (vC _))));show iR _ _ (fieldsOf (.ref it) >>= _) _ _ s;refine iJ (mn hi rfl ?_);show iR _ _ (mW a >>= _) _ _ s;refine iJ (lz e rfl f ?_);rw [Ab (by rw [z]; simp)];show iR _ _ (mH a sl i ep >>= _) _ _ s;refine iJ (d _ _ _ ?_);show iR _ _ (setField (.ref it) 2 cj >>= _) _ _ s;refine iJ (lr hi rfl (by simp) ?_); show iR _ _ (newExc (.type "StopIteration") [] >>= _) _ _ _;refine iJ ?_; simp only [newExc,newTuple]; refine iJ (iX ?_ (by size_fits));refine iJ (m:=lO _ _) (mL (a:=cj) (by first | rfl | (simp only [lO]; rfl)) ?_); refine iX ?_ (by size_fits); simp only [raiseNew];refine iJ (wpAny_handled ?_); first | rw [show A.in1.handled=iK from h] | rw [h]
 refine iJ (iP (wpAny_throw ?_)); refine iJ (lp (T := "StopIteration") (b:=iM) ⟨_,ah _ rfl,rfl⟩ isSubtype_stop ?_);exact iP (g _ (((bz ..).extBut.push _).push _))
theorem Ga {pl m:Nat} {hx:Int} {x:iL} {ps:Array iL} {Q:Option iL->iO->Prop} (hi:s.heap.get? it=iI (ui (.ref p) i a n ep)) (f:s.heap.get? a=iI (kg es ep t)) (h:t.fits es.size=iM) (z:es.size=n)
  (hp:s.heap.get? p=iI { cls:=.type "tuple",data:=.seq ps m }) (l:ps[i]?=iI (j4 pl)) (hx:es[pl]?=iI (hx,x))
  (c:∀ h',h'.get? it=iI (ui (.ref p) (i+1) a n ep)->bK it s.heap h'->Q (iI x) { s with heap:=h' }):iR (model prog w) A (lB (.ref it)) Q E s:=by
 have T:s.TypeIs (.ref it) "set_iterator":=⟨_,hi,rfl⟩
 unfold lB;refine iJ (lw (i4 (name:=aD "__next__") T qQ (i5 qQ T kP ?_ (vC _))));show iR _ _ (fieldsOf (.ref it) >>= _) _ _ s;refine iJ (mn hi rfl ?_);show iR _ _ (mW a >>= _) _ _ s;refine iJ (lz f rfl h ?_);rw [Ab (by rw [z]; simp)];show iR _ _ (seqItems? (.ref p) >>= _) _ _ s;refine iJ (i8 hp rfl ?_);dsimp only;rw [show ps[Int.toNat (i:Int)]?=iI (j4 pl) from l];show iR _ _ (setNextDrawn a pl ep >>= _) _ _ s;refine iJ ?_;unfold setNextDrawn;refine iJ (j7 f rfl h ?_);dsimp only;rw [Ab (by simp),hx];refine iP ?_;show iR _ _ (setField (.ref it) 1 (j4 (i+1)) >>= _) _ _ s;refine iJ (lr hi rfl (by simp) (iP ⟨x,rfl,iP (c _ ?_ (bz ..))⟩));exact bn _ hi rfl
theorem qaQ {m:Nat} {ps:Array iL} {Q:Option iL->iO->Prop} (h:A.handled=iK) (hi:s.heap.get? it=iI (ui (.ref p) i a n ep)) (d:s.heap.get? a=iI (kg es ep t)) (f:t.fits es.size=iM) (z:es.size=n)
  (hp:s.heap.get? p=iI { cls:=.type "tuple",data:=.seq ps m }) (l:ps[i]?=iK)
  (e:∀ h',h8 it s.heap h'->Q iK { s with heap:=h' }):iR (model prog w) A (lB (.ref it)) Q E s:=by
 have c:s.TypeIs (.ref it) "set_iterator":=⟨_,hi,rfl⟩
 unfold lB;refine iJ (lw (i4 (name:=aD "__next__") c qQ (i5 qQ c kP ?_ (vC _))));show iR _ _ (fieldsOf (.ref it) >>= _) _ _ s;refine iJ (mn hi rfl ?_);show iR _ _ (mW a >>= _) _ _ s;refine iJ (lz d rfl f ?_);rw [Ab (by rw [z]; simp)];show iR _ _ (seqItems? (.ref p) >>= _) _ _ s;refine iJ (i8 hp rfl ?_);dsimp only;rw [show ps[Int.toNat (i:Int)]?=iK from l];show iR _ _ (setField (.ref it) 0 (j4 0) >>= _) _ _ s;refine iJ (lr hi rfl (by simp) ?_);have h1:(s.heap.update it (Obj.mapFields (·.setIfInBounds 0 (j4 0)))).get? it=iI (ui (j4 0) i a n ep):=bn _ hi rfl;refine iJ (lr h1 rfl (by simp) ?_); show iR _ _ (newExc (.type "StopIteration") [] >>= _) _ _ _;refine iJ ?_; simp only [newExc,newTuple]; refine iJ (iX ?_ (by size_fits));refine iJ (m:=lO _ _) (mL (a:=cj) (by first | rfl | (simp only [lO]; rfl)) ?_); refine iX ?_ (by size_fits); simp only [raiseNew];refine iJ (wpAny_handled ?_); first | rw [show A.in1.handled=iK from h] | rw [h]
 refine iJ (iP (wpAny_throw ?_)); refine iJ (lp (T := "StopIteration") (b:=iM) ⟨_,ah _ rfl,rfl⟩ isSubtype_stop ?_);exact iP (e _ (((((bz ..).trans (bz ..))).extBut.push _).push _))
theorem QG {Q:iL->iO->Prop} (hi:s.heap.get? it=iI o) (d:o.cls=.type "set_iterator") (h:Q (.ref it) s):iR (model prog w) A (mU (.ref it)) Q E s:=by
 have m:s.TypeIs (.ref it) "set_iterator":=⟨_,hi,d⟩
 refine wpAny_pyIter_slot m gk (i5 gk m KH ?_ (Ww _)); show iR _ _ (ret (.ref it)) _ _ s;exact iP ⟨_,rfl, "set_iterator",_,m,qQ.lookup,h⟩
theorem qaR {ep:Nat} (p:A.handled=iK) (hb:w.params.followText "set-order"=iM) (f:t.fits es.size=iM) (d:a≠it):Walks prog w A it [it,a] [it] es.size (λi v=>((lU (w.params.setOrder a ep) es).toList.map (·.2))[i]?=iI v) (λi h=>h.get? it=iI (ui (j4 0) i a es.size ep)/\h.get? a=iI (kg es ep t)) where
 sub:=λb hb=>by simp at hb; simp [hb]
 frame:=λ_ _ _ st l=>⟨l it (by simp) _ st.1,l a (by simp) _ st.2⟩
 item:=λi s Q E hi st c=>by
  have n:(lU (w.params.setOrder a ep) es).size=es.size:=by have:=(QF (w.params.setOrder a ep) es).length_eq;simpa using this
  have g:i < (lU (w.params.setOrder a ep) es).size:=by lia
  obtain ⟨e,he⟩:∃ e,(lU (w.params.setOrder a ep) es)[i]?=iI e:=⟨_,bO g⟩
  refine Wz (x:=e.2) (nx:=0) st.1 st.2 f rfl (λA1 K R q=>?_) λh' j k=>c e.2 h' s.toks ?_ ⟨j,?_⟩ λb o y r=>?_;·unfold mH;refine iJ (j7 st.2 rfl f ?_);dsimp only;refine iJ (m:=mq) (iJ (j5 (iP ?_)));rw [vf hb,Aa rfl,Ab (by simp)];refine iJ ?_;unfold setWalk;refine iJ (j7 st.2 rfl f ?_);dsimp only;refine iJ (m:=mq) (iJ (j5 (iP ?_)));rw [vf hb,Aa rfl];refine iJ (j5 (iP ?_));refine iP ?_;rw [show (lU ((⟨(model prog w).prog,(model prog w).w.params⟩:Setting).params.setOrder a ep) es)[i]?=iI e from he];exact q
  ·rw [aH,bS,he];rfl
  ·rw [k.2 a d];exact st.2
  ·rw [k.2 b (λz=>y (by simp [z]))];exact r
 done:=λs Q E st c=>by
  have n:(lU (w.params.setOrder a ep) es).size=es.size:=by have:=(QF (w.params.setOrder a ep) es).length_eq;simpa using this
  refine WA p st.1 st.2 f rfl (λA1 K R q=>?_) λh' G=>c h' s.toks λb o y r=>G b o (λz=>y (by simp [z])) r;unfold mH;refine iJ (j7 st.2 rfl f ?_);dsimp only;refine iJ (m:=mq) (iJ (j5 (iP ?_)));rw [vf hb,Aa rfl,Ab (by simp)];refine iJ ?_;unfold setWalk;refine iJ (j7 st.2 rfl f ?_);dsimp only;refine iJ (m:=mq) (iJ (j5 (iP ?_)));rw [vf hb,Aa rfl];refine iJ (j5 (iP ?_));refine iP ?_;rw [show (lU ((⟨(model prog w).prog,(model prog w).w.params⟩:Setting).params.setOrder a ep) es)[es.size]?=iK from dq (eM n)];exact q
 self:=λi s Q E st c=>QG st.1 rfl c
noncomputable def yJ (t:l5) (i:Nat):Nat:=if i=0 then 0 else t.place.getD 0 0+1
theorem WB (j k:Nat):bA #[j] k=if j < k then 1 else 0:=by unfold bA;show bA.go #[j] k 1 0 1=_;unfold bA.go;rw [Aa (by lia)];show (if (#[j]:Array Nat).getD 0 k < k then bA.go #[j] k 0 1 1 else bA.go #[j] k 0 0 0)=_;show (if j < k then bA.go #[j] k 0 1 1 else bA.go #[j] k 0 0 0)=_;split <;> rfl
theorem XG {Q:Option (iL×Nat)->iO->Prop} (hb:w.params.followText "set-order"=iN) (f:t.fits es.size=iM) (hl:t.led=iM) (c:es.size<=1) (d:s.heap.get? a=iI (kg es ep t)) (hi:i<=es.size)
  (q:Q (match es[i]? with | some e=>iI (e.2,yJ t (i+1)) | none=>iK) s):iR (model prog w) A (mH a (yJ t i) i ep) Q E s:=by
 have h:t.place.size=es.size:=by have:=f;simp only [SetTable.fits,aR,beq_iff_eq] at this;exact this.1
 unfold mH;refine iJ (j7 d rfl f ?_);dsimp only;refine iJ (m:=mq) (iJ (j5 (iP ?_)));rw [vf hb,Ab (by simp)];show iR _ _ (if (!t.plain&&decide (es.size > 1))=iM then _ else _) _ _ _;rw [Ab (by simp; intro _; lia)];refine iJ ?_;show iR _ _ (if (!t.led&&!es.isEmpty)=iM then _ else _) _ _ _;rw [hl,Ab (by simp)];refine iP (iP ?_);have e:(match es[bA t.place (yJ t i)]?,t.place[bA t.place (yJ t i)]? with | some (_,x),iI j=>iI (x,j+1) | _,_=>iK)=(match es[i]? with | some e=>iI (e.2,yJ t (i+1)) | none=>iK:Option (iL×Nat)):=by
  obtain ⟨l⟩:=es;obtain ⟨k,⟨pl⟩,u,fi,le,mo,pn⟩:=t;cases l with
  | nil=>simp
  | cons e0 l=>
   cases l with
   | cons _ _=>exact absurd c (by simp)
   | nil=>
    cases pl with
    | nil=>exact absurd h (by simp)
    | cons j pl=>
     cases pl with
     | cons _ _=>exact absurd h (by simp)
     | nil=>
      have b:i=0\/i=1:=by simp at hi; lia
      rcases b with rfl | rfl;·show (match (#[e0]:Array (Int×iL))[bA #[j] 0]?,(#[j]:Array Nat)[bA #[j] 0]? with | some (_,x),iI j=>iI (x,j+1) | _,_=>iK)=iI (e0.2,j+1);rw [WB,Ab (by lia)];rfl
      ·show (match (#[e0]:Array (Int×iL))[bA #[j] (j+1)]?,(#[j]:Array Nat)[bA #[j] (j+1)]? with | some (_,x),iI j=>iI (x,j+1) | _,_=>iK)=iK;rw [WB,Aa (by lia)];rfl
 exact Eq.mp (congrArg (λz=>Q z s) e.symm) q
theorem qdx {ep:Nat} (m:A.handled=iK) (hb:w.params.followText "set-order"=iN) (f:t.fits es.size=iM) (hl:t.led=iM) (j:es.size<=1) (e:a≠it):Walks prog w A it [it,a] [it] es.size (λi v=>(es.toList.map (·.2))[i]?=iI v) (λi h=>h.get? it=iI (ui (j4 (yJ t i)) i a es.size ep)/\h.get? a=iI (kg es ep t)) where
 sub:=λb hb=>by simp at hb; simp [hb]
 frame:=λ_ _ _ st k=>⟨k it (by simp) _ st.1,k a (by simp) _ st.2⟩
 item:=λi s Q E hi st c=>by
  have l:es[i]?=iI es[i]:=bO hi;refine Wz (x:=es[i].2) (nx:=yJ t (i+1)) st.1 st.2 f rfl (λA1 K R q=>XG hb f hl j st.2 (eJ hi) (by rw [l]; exact q)) λh' d g=>c es[i].2 h' s.toks ?_ ⟨d,?_⟩ λb o y r=>?_;·rw [aH,bS,l];rfl
  ·rw [g.2 a e];exact st.2
  ·rw [g.2 b (λz=>y (by simp [z]))];exact r
 done:=λs Q E st c=>WA m st.1 st.2 f rfl (λA1 K R q=>XG hb f hl j st.2 (ay _) (by rw [dq (ay _)]; exact q)) λh' G=>c h' s.toks λb o y r=>G b o (λz=>y (by simp [z])) r
 self:=λi s Q E st c=>QG st.1 rfl c
noncomputable def qiz (es:Array (Int×iL)) (ps:List Nat):List iL:=ps.map λk=>(es[k]?.map (·.2)).getD .none
theorem qaS (h:ps.Perm (aN es.size)):(qiz es ps).Perm (es.toList.map (·.2)):=by
 have e:qiz es (aN es.size)=es.toList.map (·.2):=by
  apply dL;intro i;unfold qiz;rw [aH,aH,show es.toList[i]?=es[i]? from bS];by_cases hi:i < es.size;·rw [fm hi,bO hi];simp [hi]
  ·rw [bx (by rw [bL]; lia),dq (by lia)];rfl
 rw [<-e];exact h.map _
theorem Gb {ep m:Nat} (u:A.handled=iK) (j:t.fits es.size=iM) (hp:ps.Perm (aN es.size)) (f:a≠it) (e:p≠it):Walks prog w A it [it,a,p] [it] es.size (λi v=>(qiz es ps)[i]?=iI v) (λi h=>h.get? it=iI (ui (.ref p) i a es.size ep)/\h.get? a=iI (kg es ep t)/\h.get? p=iI { cls:=.type "tuple",data:=.seq (ps.map λ(i:Nat)=>j4 i).toArray m }) where
 sub:=λb hb=>by simp at hb; simp [hb]
 frame:=λ_ _ _ st k=>⟨k it (by simp) _ st.1,k a (by simp) _ st.2.1,k p (by simp) _ st.2.2⟩
 item:=λi s Q E hi st c=>by
  have n:ps.length=es.size:=by rw [hp.length_eq,bL]
  have l:i < ps.length:=by lia
  have k:ps[i] < es.size:=aX.mp (hp.mem_iff.mp (bI l));have q:es[ps[i]]?=iI es[ps[i]]:=bO k;refine Ga (x:=es[ps[i]].2) (hx:=es[ps[i]].1) (pl:=ps[i]) st.1 st.2.1 j rfl st.2.2 ?_ q λh' g y=>c es[ps[i]].2 h' s.toks ?_ ⟨g,?_,?_⟩ λb o d r=>?_;·rw [eU,aH,aA l];rfl
  ·unfold qiz;rw [aH,aA l];simp [q]
  ·rw [y.2 a f];exact st.2.1
  ·rw [y.2 p e];exact st.2.2
  ·rw [y.2 b (λz=>d (by simp [z]))];exact r
 done:=λs Q E st c=>by
  have n:ps.length=es.size:=by rw [hp.length_eq,bL]
  refine qaQ u st.1 st.2.1 j rfl st.2.2 ?_ λh' G=>c h' s.toks λb o d r=>G b o (λz=>d (by simp [z])) r;rw [eU,bx (by simp; lia)]
 self:=λi s Q E st c=>QG st.1 rfl c
theorem qdy {A1:iZ} {Q:iL->iO->Prop} (k:A1.handled=iK) (f:s.heap.get? a=iI (kg es ep t)) (d:SetG KpS prog w es t ks)
  (n:∀ (it:Addr) (h':Heap) (r:Drawn) (ord:List iL) (fp:List Addr) (St:Nat->Heap->Prop),(∀ b o,s.heap.get? b=iI o->h'.get? b=iI o)->ord.Perm (es.toList.map (·.2))->Walks prog w A1 it fp [it] es.size (λi v=>ord[i]?=iI v) St->St 0 h' ->(∀ b∈fp,b=a\/s.heap.objs.size<=b)->s.heap.objs.size<=it->Q (.ref it) { s with heap:=h',drawn:=r }):iR (model prog w) A (mU (.ref a)) Q E s:=by
 have T:s.TypeIs (.ref a) "set":=⟨_,f,rfl⟩
 have c:a < s.heap.objs.size:=aC f;refine wpAny_pyIter_slot T PySem.F.slot_set_iter (i5 PySem.F.slot_set_iter T Wx ?_ (PySem.F.args_set_iter_1 _));show iR _ _ (Builtin.Frozenset.sizeOf a >>= _) _ _ s;refine iJ (m:=Builtin.Frozenset.sizeOf a) (iJ (lz f rfl d.fits (iP ?_)));refine iJ (m:=setDrawn a) ?_;unfold setDrawn;refine iJ (j7 f rfl d.fits ?_);dsimp only;refine iJ (m:=mq) (iJ (j5 (iP ?_)));refine iP ?_;cases hb:w.params.followText "set-order" with
 | true=>
  rw [vf hb,Ab (by simp)];refine iJ (iP ?_);refine iJ (m:=setEpoch a) (wpAny_setEpoch_of f rfl d.fits ?_);refine iJ (iX (iP ⟨_,rfl, "set_iterator",_,⟨_,ah _ rfl,rfl⟩,qQ.lookup,?_⟩));refine n _ _ s.drawn _ _ _ (λb o e=>aa _ e) ((QF (w.params.setOrder a ep) es).map _) (qaR k hb d.fits (aF c)) ⟨ah _ rfl,aa _ f⟩ ?_ (ay _);intro b hb;rcases ac.mp hb with z | z;·exact .inr (z ▸ ay _)
  ·exact .inl (aw.mp z)
 | false=>
  have j:t.led=true:=by rw [d.led,hb]; rfl
  rw [vf hb];show iR _ _ (if (!false&&(!t.plain&&decide (es.size > 1)))=iM then _ else _) _ _ _;by_cases q:es.size<=1
  ·rw [Ab (by simp; intro _; lia)];refine iJ (iP ?_);refine iJ (m:=setEpoch a) (wpAny_setEpoch_of f rfl d.fits ?_);refine iJ (iX (iP ⟨_,rfl, "set_iterator",_,⟨_,ah _ rfl,rfl⟩,qQ.lookup,?_⟩));refine n _ _ s.drawn _ _ _ (λb o e=>aa _ e) (cI _) (qdx k hb d.fits j q (aF c)) ⟨ah _ rfl,aa _ f⟩ ?_ (ay _);intro b hb;rcases ac.mp hb with z | z;·exact .inr (z ▸ ay _)
   ·exact .inl (aw.mp z)
  ·have l:t.plain=false:=d.plain rfl λz=>by
    have u:=d.size;rw [z,aV] at u
    lia
   rw [Aa (by rw [l]; simp; lia)];refine iJ (qaO es.size (aN es.size) s (by simp) λps r hp=>?_);have g:ps.length=es.size:=by rw [hp.length_eq,bL]
   have hsz:(ps.map λ(i:Nat)=>j4 i).length<=sizeLine:=by rw [ap,g]; exact lX d.bd
   refine iJ (wpAny_newTuple ?_ hsz);refine iJ (m:=setEpoch a) (wpAny_setEpoch_of (aa _ f) rfl d.fits ?_);refine iJ (iX (iP ⟨_,rfl, "set_iterator",_,⟨_,ah _ rfl,rfl⟩,qQ.lookup,?_⟩));have h:s.heap.objs.size < (s.heap.push ({ cls:=.type "tuple",data:=.seq (ps.map λ(i:Nat)=>j4 i).toArray }:Obj)).objs.size:=by rw [bt]; exact eX _
   refine n _ _ r _ _ _ (λb o e=>aa _ (aa _ e)) (qaS hp) (Gb (p:=s.heap.objs.size) k d.fits hp (aF (eR c h)) (aF h)) ⟨ah _ rfl,aa _ (aa _ f),aa _ (ah _ rfl)⟩ ?_ (eJ h);intro b hb;rcases ac.mp hb with z | z;·exact .inr (z ▸ eJ h)
   ·rcases ac.mp z with z | z;·exact .inl z
    ·exact .inr (eM (aw.mp z).symm)
end
section
theorem qdz {ord:List iL} {acc:Array iL} (hl:ord.length=n) (h:my (λi v=>ord[i]?=iI v) acc n):acc.toList=ord:=by
 apply dL;intro i;rw [show acc.toList[i]?=acc[i]? from bS];by_cases hi:i < acc.size;·rw [bO hi];exact (h.2 i _ (bO hi)).symm
 ·rw [dq (by lia),bx (by have:=h.1; lia)]
theorem UX {Q:List iL->iO->Prop} (K:A.handled=iK) (H:s.heap.get? a=iI (kg es ep t)) (d:SetG KpS prog w es t ks)
  (L:∀ h' u tk ord,(∀ b o,s.heap.get? b=iI o->h'.get? b=iI o)->ord.Perm (es.toList.map (·.2))->Q ord { s with heap:=h',drawn:=u,toks:=tk }):iR (model prog w) A (collect (.ref a)) Q E s:=by
 have k:a < s.heap.objs.size:=aC H;unfold collect;refine iJ (mm (i6 PySem.F.entry_proto_collect ?_)); rw [bh PySem.F.plain_proto_collect _];show iR _ A.in1 (mZ [] >>= λl=>again (.builtin "list.__iadd__" ⟨[l,.ref a],[]⟩)) _ _ s; refine iJ (iX ?_);refine iP ⟨ll df _,i6 PySem.F.entry_list_iadd ?_⟩; rw [bh df _];have f:(s.heap.push { cls:=.type "list",data:=.seq ([]:List iL).toArray }).get? a=iI (kg es ep t):=aa _ H;have T:fQ { s with heap:=s.heap.push { cls:=.type "list",data:=.seq ([]:List iL).toArray } } (.ref a) "set":=⟨_,f,rfl⟩
 show iR _ A.in1 (bw (.ref s.heap.objs.size) (.ref a) (.ref s.heap.objs.size)) _ _ _; unfold bw;refine iJ (lP T ?_);have h1:cW (.ref s.heap.objs.size) (.ref a)=false:=by simp [cW,b8 k]
 rw [Ab (by rw [h1]; decide)];refine iJ (qdy (A1:=A.in1) K f d λit h2 u ord fp St k2 hp W y G hit=>?_);have r:h2.get? s.heap.objs.size=iI { cls:=.type "list",data:=.seq ([]:List iL).toArray }:=k2 _ _ (ah _ rfl);have B:h2.get? a=iI (kg es ep t):=k2 _ _ f;refine iJ (j0 ?_);unfold Builtin.List.listLengthHint;have g:fQ { s with heap:=h2,drawn:=u } (.ref a) "set":=⟨_,B,rfl⟩
 refine iJ (wpAny_specialOf g PySem.F.slot_set_len.lookup ?_)
 (generalize c:("set.__len__":String)=id0; (fail_if_success (clear c id0)); wp_delta; rw [show splitId id0=iI ("set", "__len__") from by subst c; decide +kernel]; subst c)
 refine iJ (lp (b:=iM) g (by rw [lN]; kernel_rfl) ?_);refine iJ (m:=typeOf (.ref a)) (lP g ?_);refine iP ?_;show iR _ A.in1 (rule "list.extend.makes-room" >>= λ_=>Builtin.List.listTouch (.ref s.heap.objs.size) >>= λ_=>again (.builtin "list.extend.loop" ⟨[.ref s.heap.objs.size,.ref it,.ref s.heap.objs.size],[]⟩)) _ _ _;refine iJ (lS (iJ ?_)); show iR _ A.in1 (updateSeq s.heap.objs.size (·.push .none) >>= λ_=>updateSeq s.heap.objs.size (·.pop)) _ _ _;refine iJ (wpAny_updateSeq r rfl ?_); have h:=bn (cU (·.push cj)) r rfl;refine wpAny_updateSeq h rfl ?_; have i:=bn (cU (·.pop)) h rfl;have j:(s.heap.push ({ cls:=.type "list",data:=.seq ([]:List iL).toArray }:Obj)).objs.size=s.heap.objs.size+1:=bt ..;have oth:∀ b o,b≠s.heap.objs.size->h2.get? b=iI o->((h2.update s.heap.objs.size (cU (·.push cj))).update s.heap.objs.size (cU (·.pop))).get? b=iI o:=λb o hb e=>(cC _ _ (be hb)).trans ((cC _ _ (be hb)).trans e);have D:s.heap.objs.size∉fp:=λz=>by
  rcases G _ z with q | q;·exact b8 k q
  ·exact Nat.not_succ_le_self _ (j ▸ q)
 have n:ord.length=es.size:=by rw [hp.length_eq];simp
 refine iP ⟨ll PySem.F.plain_extend_loop _,codeAny_extend_loopS W.toS (lX d.bd) _ D _ es.size 0 _ _ _ rfl (aZ _) (W.frame 0 h2 _ y λb hb o e=>oth b o (λz=>D (z ▸ hb)) e) i (ItemsOf.nil _) λs' J P hm C p=>?_⟩;show iR _ A (load s.heap.objs.size >>= _) _ _ s';refine iJ (mV C (iP ?_));rw [qdz n p];obtain ⟨h',g',d',v,x⟩:=s';have N:g'=s.gens:=hm.gens;have O:d'=u:=hm.drawn;have M:x=s.os:=hm.os;subst N O M;refine L h' d' v ord (λb o e=>?_) hp;have hb:=aC e;refine hm.heap b o (λz=>?_) (oth b o (aF hb) (k2 b o (aa _ e)));rcases ac.mp z with z | z;·exact aF hb z
 ·have I:s.heap.objs.size+1<=it:=j ▸ hit;rw [<-aw.mp z] at I;exact cq _ (eR hb I)
theorem Gc {Q:iL->iO->Prop} (p:A.handled=iK) (S:SetK KpS prog w s.heap a ks) (j:ks.length < 64)
  (u:∀ (h1 h':Heap) r tk vs e ss,(∀ b o,s.heap.get? b=iI o->h1.get? b=iI o)->(∀ b o,h1.get? b=iI o->h'.get? b=iI o)->h'.get? h1.objs.size=iI (mI "list" vs e)->mJ vs.toList ss->ss.Perm ks->sortedS ss=iM->Q (.ref h1.objs.size) { s with heap:=h',drawn:=r,toks:=tk }) :
  iR (model prog w) A (call (.builtin "sorted") [.ref a]) Q E s:=by
 obtain ⟨es,ep,t,q,d⟩:=S;refine Calls.call_function_entry kind_sorted plain_sorted entry_sorted (args_sorted1 _) ?_; unfold Builtin.«sorted»;refine iJ (m:=checkCount "sorted" 1 1 _) (iP ?_);refine iJ (UX (by exact p) q d λh1 r tk ord k1 hp=>?_);have c:mJ ord (ord.map strOf):=strsAre_map ord λv l=>by obtain ⟨e,i,rfl⟩:=af.mp (hp.mem_iff.mp l);exact qiw d.el i
 have h:(ord.map strOf).Perm ks:=(hp.map strOf).trans (by rw [bo]; exact d.perm);have n:ord.length=ks.length:=by have:=h.length_eq;rwa [ap] at this
 refine iJ (wpAny_newList ?_ (by rw [n,iY]; lia));have Y:(h1.push (mI "list" ord.toArray 0)).get? h1.objs.size=iI (mI "list" ord.toArray 0):=ah _ rfl;refine iJ (j0 (i5 slot_list_sort (s:={ s with heap:=h1.push (mI "list" ord.toArray 0),drawn:=r,toks:=tk }) ⟨_,Y,rfl⟩ entry_list_sort (list_sort_treeK strKind_oneLt Y c.keysOf (λv₁ k rest e=>keyKind_strs (by rw [<-e]; exact c)) (by rw [n]; exact j) λf C B=>⟨_,rfl,?_⟩) (args_list_sort _)));obtain ⟨g,z,y,x⟩:=sorted_out_str c C B;obtain ⟨e,i⟩:=sortedHeap_at (out:=(arrOf f).map (·.2)) Y;refine iP ⟨_,rfl,u h1 _ r tk _ e g k1 (λb o G=>?_) i z (y.trans h) x⟩;have hb:=aC G;rw [sortedHeap_old (aF hb) (by rw [bt]; exact cQ hb)];exact aa _ G
end
section
theorem WC {Q:iL->iO->Prop} (hit:s.heap.IsTupleIter it l i) (hl:s.heap.IsTuple l items) (hx:items[i]?=iI x)
  (c:∀ h',h'.IsTupleIter it l (i+1)->bK it s.heap h'->Q x { s with heap:=h' }):iR (model prog w) A (bq (.ref it)) Q E s:=by
 obtain ⟨o,h,d,hd⟩:=id hit;obtain ⟨ol,a,_,n,b⟩:=hl;unfold bq;refine iJ (i4 (name:=aD "__next__") hit.typeIs ce (i5 ce hit.typeIs PySem.F.entry_tuple_iterator_next ?_ (PySem.F.args_tuple_iterator_next_1 _))); show iR _ _ (field (.ref it) 0 >>= _) _ _ s;refine iJ (lg h hd (x:=.ref l) rfl ?_); show iR _ _ (if (bu l == cj)=iM then _ else _) _ _ s;rw [Ab (show ¬((bu l == cj)=iM) from bE)]; show iR _ _ (field (.ref it) 1 >>= _) _ _ s;refine iJ (lg h hd (x:=.int i 0) rfl ?_); show iR _ _ (seqItems? (.ref l) >>= _) _ _ s;refine iJ (i8 a b ?_); simp only [dJ,hx];refine iJ (lr h hd (by simp) (iP ⟨x,rfl,iP (c _ ?_ (bz ..))⟩)); exact ⟨_,bn _ h (Obj.isFreed_of_fields (Obj.data_mapFields hd _)),(Obj.cls_mapFields ..).trans d,by rw [Obj.data_mapFields hd]; simp [j4]⟩
theorem gO {Q:iL->iO->Prop} (d:A.handled=iK) (hit:s.heap.IsTupleIter it l i) (hl:s.heap.IsTuple l items) (hx:items[i]?=iK)
  (j:∀ h' e,h8 it s.heap h'->(∃ o,h'.get? e=iI o/\o.cls=.type "StopIteration")->E (.ref e) { s with heap:=h' }):iR (model prog w) A (bq (.ref it)) Q E s:=by
 obtain ⟨o,b,f,hd⟩:=id hit;obtain ⟨ol,h,_,n,c⟩:=hl;unfold bq;refine iJ (i4 (name:=aD "__next__") hit.typeIs ce (i5 ce hit.typeIs PySem.F.entry_tuple_iterator_next ?_ (PySem.F.args_tuple_iterator_next_1 _))); show iR _ _ (field (.ref it) 0 >>= _) _ _ s;refine iJ (lg b hd (x:=.ref l) rfl ?_); show iR _ _ (if (bu l == cj)=iM then _ else _) _ _ s;rw [Ab (show ¬((bu l == cj)=iM) from bE)]; show iR _ _ (field (.ref it) 1 >>= _) _ _ s;refine iJ (lg b hd (x:=.int i 0) rfl ?_); show iR _ _ (seqItems? (.ref l) >>= _) _ _ s;refine iJ (i8 h c ?_); simp only [dJ,hx];refine iJ (lS (iJ (lr b hd (by simp) ?_))); show iR _ _ (newExc (.type "StopIteration") [] >>= _) _ _ _;refine iJ ?_; simp only [newExc,newTuple]; refine iJ (iX ?_ (by size_fits));refine iJ (m:=lO _ _) (mL (a:=cj) (by first | rfl | (simp only [lO]; rfl)) ?_); refine iX ?_ (by size_fits); simp only [raiseNew];refine iJ (wpAny_handled ?_); first | rw [show A.in1.handled=iK from d] | rw [d]
 refine iJ (iP (wpAny_throw ?_)); exact j _ _ (((bz ..).extBut.push _).push _) ⟨_,ah _ rfl,rfl⟩
theorem UY (g:A.handled=iK) (it l:Addr) (d:l≠it) (items:Array iL):Draws prog w A it [it,l] items.size (λi v=>items[i]?=iI v) (λi h=>h.IsTupleIter it l i/\h.IsTuple l items) where
 live:=λ_ _ st=>let ⟨o,f,_⟩:=st.1; ⟨o,f⟩
 frame:=λ_ _ _ st k=>⟨st.1.at λo e=>k it (by simp) o e,let ⟨o,e,c⟩:=st.2; ⟨o,k l (by simp) o e,c⟩⟩
 item:=λi s Q E hi st j=>by refine WC st.1 st.2 (x:=items[i]) (by simp [hi]) λh' b a=>j _ h' s.toks (by simp [hi]) ⟨b,?_⟩ a;obtain ⟨o,e,c⟩:=st.2;exact ⟨o,(a.2 l d).trans e,c⟩
 done:=λs Q E st m=>gO g st.1 st.2 (by simp) m
structure Apart2 (z TI TO i1 i2:Addr) (fp1 fp2:List Addr):Prop where
 TIz:TI≠z
 TOz:TO≠z
 i1z:i1≠z
 i2z:i2≠z
 TITO:TI≠TO
 TIi1:TI≠i1
 TIi2:TI≠i2
 TOi1:TO≠i1
 TOi2:TO≠i2
 i12:i1≠i2
 z1:z∉fp1
 z2:z∉fp2
 o1:TO∉fp1
 o2:TO∉fp2
 a12:i1∉fp2
 a21:i2∉fp1
variable {z TI TO i1 i2:Addr} {fp1 fp2:List Addr} {n1 n2:Nat} {P1 P2:Nat->iL->Prop} {S1 S2:Nat->Heap->Prop} {a b:iL}
theorem qdA {Q:iL->iO->Prop} (D:Apart2 z TI TO i1 i2 fp1 fp2) (D1:Draws prog w A i1 fp1 n1 P1 S1) (D2:Draws prog w A i2 fp2 n2 P2 S2)
  (W:mt s.heap z TI TO .none) (Z:lx s.heap TI (.ref i1) (.ref i2)) (Y:lx s.heap TO a b) (h1:S1 i s.heap) (h2:S2 i s.heap) (l1:i < n1) (l2:i < n2)
  (hQ:∀ x y h' tk,P1 i x->P2 i y->mt h' z TI TO (j4 s.heap.objs.size)->lx h' TO x y->S1 (i+1) h'->S2 (i+1) h'->lx h' s.heap.objs.size x y ->(∀ c o,c≠z->c≠TO->c≠i1->c≠i2->s.heap.get? c=iI o->h'.get? c=iI o)->Q (.ref s.heap.objs.size) { s with heap:=h',toks:=tk }) :
  iR (model prog w) A (Builtin.«zip.__next__» ⟨[.ref z],[]⟩) (λfin s'=>∃ v,fin=.done (.ret v)/\Q v s') E s:=by
 show iR _ _ (field (.ref z) 2 >>= _) _ _ _; refine iJ (lg W rfl (x:=.bool iN) rfl ?_);show iR _ _ (field (.ref z) 3 >>= _) _ _ _; refine iJ (lg W rfl (x:=.ref TI) rfl ?_); refine iJ (i8 Z rfl ?_);show iR _ _ (bT (.ref z) >>= _) _ _ _; refine iJ ?_; unfold bT;refine iJ (lg W rfl (x:=.none) rfl (iP ?_)); simp only [if_true];refine iJ (lS ?_); refine iJ (lg W rfl (x:=.ref TO) rfl ?_);refine iJ (lu W (by simp) λh₁ r k=>?_); replace r:mt h₁ z TI TO .ellipsis:=r;refine iJ ?_; simp only [dU,List.zipIdx_nil,g8,List.forIn_nil];refine iJ (iJ (mC ?_)); show iR _ _ (bq (.ref i1) >>= _) _ _ _;refine iJ (D1.item i _ _ _ l1 (D1.frame _ _ _ h1 λc C o e=>k.extBut _ _ (λq=>D.z1 (q ▸ C)) e) λx V X hx N j=>iP ?_);have B:lx V TO a b:=(j.2 _ D.TOi1).trans (k.extBut _ _ D.TOz Y);refine iJ (i8 B rfl ?_); refine iJ (wpAny_updateSeq_pair B λU m g=>?_);replace m:lx U TO x b:=m; refine iJ (mM (iP ?_));refine iJ (iJ (mC ?_)); show iR _ _ (bq (.ref i2) >>= _) _ _ _;refine iJ (D2.item i _ _ _ l2 (D2.frame _ _ _ h2 λc C o e=>(g.extBut _ _ (λq=>D.o2 (q ▸ C)) ((j.2 _ (λq=>D.a12 (q ▸ C))).trans (k.extBut _ _ (λq=>D.z2 (q ▸ C)) e)))) λy T L hy M f=>iP ?_);have u:lx T TO x b:=(f.2 _ D.TOi2).trans m;refine iJ (i8 u rfl ?_); refine iJ (wpAny_updateSeq_pair u λp h d=>?_);replace h:lx p TO x y:=h; refine iJ (mM (iP (iP ?_)));refine iJ (i8 h rfl ?_); refine iJ (wpAny_newTuple ?_);have hsz:p.objs.size=s.heap.objs.size:=by rw [d.1,f.1,g.1,j.1,k.1]
 have G:mt p z TI TO .ellipsis:=d.extBut _ _ D.TOz.symm ((f.2 _ D.i2z.symm).trans (g.extBut _ _ D.TOz.symm ((j.2 _ D.i1z.symm).trans r)));have P:∀ c o,c≠z->c≠TO->c≠i1->c≠i2->s.heap.get? c=iI o->p.get? c=iI o:=λc o R c2 c3 F e=>d.extBut _ _ c2 ((f.2 _ F).trans (g.extBut _ _ c2 ((j.2 _ c3).trans (k.extBut _ _ R e))));have K:z < p.objs.size:=aC G;show iR _ _ (Builtin.SmallTypes.ownedTupleHandOut (.ref z) (.ref p.objs.size) >>= _) _ _ _; refine iJ ?_; unfold Builtin.SmallTypes.ownedTupleHandOut;have O:mt (p.push { cls:=.type "tuple",data:=.seq #[x,y] }) z TI TO .ellipsis:=aa _ G;refine iJ (lu O (by simp) λS n I=>?_); replace n:mt S z TI TO (j4 p.objs.size):=n;refine lu n (by simp) λt l H=>?_; replace l:mt t z TI TO (j4 p.objs.size):=l;have up:∀ c o,c≠z->p.get? c=iI o->t.get? c=iI o:=λc o R e=>H.extBut _ _ R (I.extBut _ _ R (aa _ e));have J:lx t p.objs.size x y:=H.extBut _ _ (b8 K) (I.extBut _ _ (b8 K) (ah _ rfl));rw [hsz] at l J;refine iP ⟨_,rfl,?_⟩;show Q (.ref p.objs.size) _;rw [hsz];refine hQ x y t L hx hy l (up _ _ D.TOz h) (D1.frame _ _ _ N λc C o e=>up _ _ (λq=>D.z1 (q ▸ C)) (d.extBut _ _ (λq=>D.o1 (q ▸ C)) ((f.2 _ (λq=>D.a21 (q ▸ C))).trans (g.extBut _ _ (λq=>D.o1 (q ▸ C)) e))))
  (D2.frame _ _ _ M λc C o e=>up _ _ (λq=>D.z2 (q ▸ C)) (d.extBut _ _ (λq=>D.o2 (q ▸ C)) e)) J λc o R c2 c3 F e=>up c o R (P c o R c2 c3 F e)
theorem qfZ {Q:Fin->iO->Prop} (D:Apart2 z TI TO i1 i2 fp1 fp2) (O:Draws prog w A i1 fp1 n1 P1 S1) (R:Draws prog w A i2 fp2 n2 P2 S2)
  (y:mt s.heap z TI TO .none) (Z:lx s.heap TI (.ref i1) (.ref i2)) (Y:lx s.heap TO a b) (h1:S1 i s.heap) (h2:S2 i s.heap) (C:i=n1\/(i < n1/\i=n2))
  (P:∀ h' tk e,(∀ c o,c≠z->c≠TO->c≠i1->c≠i2->s.heap.get? c=iI o->h'.get? c=iI o)->(∃ o,h'.get? e=iI o/\o.cls=.type "StopIteration")->E (.ref e) { s with heap:=h',toks:=tk }) :
  iR (model prog w) A (Builtin.«zip.__next__» ⟨[.ref z],[]⟩) Q E s:=by
 show iR _ _ (field (.ref z) 2 >>= _) _ _ _; refine iJ (lg y rfl (x:=.bool iN) rfl ?_);show iR _ _ (field (.ref z) 3 >>= _) _ _ _; refine iJ (lg y rfl (x:=.ref TI) rfl ?_); refine iJ (i8 Z rfl ?_);show iR _ _ (bT (.ref z) >>= _) _ _ _; refine iJ ?_; unfold bT;refine iJ (lg y rfl (x:=.none) rfl (iP ?_)); simp only [if_true];refine iJ (lS ?_); refine iJ (lg y rfl (x:=.ref TO) rfl ?_);refine iJ (lu y (by simp) λh₁ r k=>?_); replace r:mt h₁ z TI TO .ellipsis:=r;refine iJ ?_; simp only [dU,List.zipIdx_nil,g8,List.forIn_nil];refine iJ (iJ (mC ?_)); show iR _ _ (bq (.ref i1) >>= _) _ _ _;have f1:S1 i h₁:=O.frame _ _ _ h1 λc G o e=>k.extBut _ _ (λq=>D.z1 (q ▸ G)) e;rcases C with rfl | ⟨hlt,rfl⟩
 ·refine iJ (O.done _ _ _ f1 λu e j L=>?_);obtain ⟨K,h,J⟩:=L;have f:mt u z TI TO .ellipsis:=j _ _ D.i1z.symm r;have p:e≠z:=λx=>by subst x; rw [f] at h; cases h; simp at J
  exact lu f (by simp) λn _ g=>P n s.toks e (λc o H _ M _ x=>g.extBut _ _ H (j _ _ M (k.extBut _ _ H x))) ⟨K,g.extBut _ _ p h,J⟩
 ·refine iJ (O.item i _ _ _ hlt f1 λx u X hx N j=>iP ?_);have B:lx u TO a b:=(j.2 _ D.TOi1).trans (k.extBut _ _ D.TOz Y);refine iJ (i8 B rfl ?_); refine iJ (wpAny_updateSeq_pair B λn I g=>?_);refine iJ (mM (iP ?_)); refine iJ (iJ (mC ?_)); show iR _ _ (bq (.ref i2) >>= _) _ _ _;refine iJ (R.done _ _ _ (R.frame _ _ _ h2 λc G o e=>(g.extBut _ _ (λq=>D.o2 (q ▸ G)) ((j.2 _ (λq=>D.a12 (q ▸ G))).trans (k.extBut _ _ (λq=>D.z2 (q ▸ G)) e)))) λv e m L=>?_);obtain ⟨K,h,J⟩:=L;have d:mt v z TI TO .ellipsis:=m _ _ D.i2z.symm (g.extBut _ _ D.TOz.symm ((j.2 _ D.i1z.symm).trans r));have p:e≠z:=λx=>by subst x; rw [d] at h; cases h; simp at J
  exact lu d (by simp) λt _ l=>P t X e (λc o H c2 M S x=>l.extBut _ _ H (m _ _ S (g.extBut _ _ c2 ((j.2 _ M).trans (k.extBut _ _ H x))))) ⟨K,l.extBut _ _ p h,J⟩
theorem UZ {Q:Option iL->iO->Prop} (D:Apart2 z TI TO i1 i2 fp1 fp2) (O:Draws prog w A.in1 i1 fp1 n1 P1 S1) (R:Draws prog w A.in1 i2 fp2 n2 P2 S2)
  (h:mt s.heap z TI TO .none) (Z:lx s.heap TI (.ref i1) (.ref i2)) (Y:lx s.heap TO a b) (h1:S1 i s.heap) (h2:S2 i s.heap) (f:i < n1) (l:i < n2)
  (d:∀ x y h' tk,P1 i x->P2 i y->mt h' z TI TO (j4 s.heap.objs.size)->lx h' TO x y->S1 (i+1) h'->S2 (i+1) h'->lx h' s.heap.objs.size x y ->(∀ c o,c≠z->c≠TO->c≠i1->c≠i2->s.heap.get? c=iI o->h'.get? c=iI o)->Q (iI (.ref s.heap.objs.size)) { s with heap:=h',toks:=tk }):iR (model prog w) A (lB (.ref z)) Q E s:=by
 have m:s.TypeIs (.ref z) "zip":=⟨_,h,rfl⟩
 unfold lB;exact iJ (lw (i4 (name:=aD "__next__") m dF (i5 dF m PySem.F.entry_zip_next
  (qdA D O R h Z Y h1 h2 f l λx y h' tk r q p n g e k j=>iP (d x y h' tk r q p n g e k j)) (PySem.F.args_zip_next_1 _))))
theorem Gd {Q:Option iL->iO->Prop} (D:Apart2 z TI TO i1 i2 fp1 fp2) (O:Draws prog w A.in1 i1 fp1 n1 P1 S1) (R:Draws prog w A.in1 i2 fp2 n2 P2 S2)
  (h:mt s.heap z TI TO .none) (Z:lx s.heap TI (.ref i1) (.ref i2)) (Y:lx s.heap TO a b) (h1:S1 i s.heap) (h2:S2 i s.heap) (C:i=n1\/(i < n1/\i=n2))
  (f:∀ h' tk,(∀ c o,c≠z->c≠TO->c≠i1->c≠i2->s.heap.get? c=iI o->h'.get? c=iI o)->Q iK { s with heap:=h',toks:=tk }):iR (model prog w) A (lB (.ref z)) Q E s:=by
 have m:s.TypeIs (.ref z) "zip":=⟨_,h,rfl⟩
 unfold lB;refine iJ (lw (i4 (name:=aD "__next__") m dF (i5 dF m PySem.F.entry_zip_next (qfZ D O R h Z Y h1 h2 C λh' tk e k g=>?_) (PySem.F.args_zip_next_1 _))));obtain ⟨o,l,d⟩:=g;refine iJ (lp (T := "StopIteration") (b:=iM) ⟨o,l,d⟩ isSubtype_stop ?_);exact iP (f _ _ k)
end
section
theorem JU (b:A.handled=iK) (k:SK) (it l:Addr) (e:l≠it) (items:Array iL):Draws prog w A it [it,l] items.size (λi v=>items[i]?=iI v) (λi h=>ItK h it l k i/\SeqK h l k items):=by
 cases k with
 | l=>exact Draws.list b it l e items
 | t=>exact UY b it l e items
end
abbrev zH1 (k1:SK) (h:Heap) (f:Addr):Heap:=h.push { cls:=.type k1.itc,data:=.fields #[.ref f,.int 0 0] }
abbrev zH2 (k1 k2:SK) (h:Heap) (f l:Addr):Heap:=(zH1 k1 h f).push { cls:=.type k2.itc,data:=.fields #[.ref l,.int 0 0] }
abbrev zH3 (k1 k2:SK) (h:Heap) (f l:Addr):Heap:=(zH2 k1 k2 h f l).push { cls:=.type "tuple",data:=.seq #[.ref h.objs.size,.ref (zH1 k1 h f).objs.size] }
abbrev zH4 (k1 k2:SK) (h:Heap) (f l:Addr):Heap:=(zH3 k1 k2 h f l).push { cls:=.type "tuple",data:=.seq #[.none,.none] }
abbrev zH5 (k1 k2:SK) (h:Heap) (f l:Addr):Heap:=(zH4 k1 k2 h f l).push { cls:=.type "zip",data:=.fields #[.none,.bool iN,.bool iN,.ref (zH2 k1 k2 h f l).objs.size,.ref (zH3 k1 k2 h f l).objs.size] }
theorem qaT (k1 k2:SK) (f l:Addr) (xs ys:Array iL):Meets (Builtin.«zip.__new__» ⟨[.type "zip",.ref f,.ref l],[]⟩) (λ_ R s=>SeqK s.heap f k1 xs/\SeqK s.heap l k2 ys/\R (.ok (.ret (.ref (zH4 k1 k2 s.heap f l).objs.size))) { s with heap:=zH5 k1 k2 s.heap f l }):=
 .of_wp λprog w A R s h=>by
  obtain ⟨hp,g,d,tk,os⟩:=s; obtain ⟨t,a,h⟩:=h;have i:=sub_zip;have c:SeqK (iE ⟨hp,g,d,tk,os⟩) f k1 xs:=t;have b:SeqK (iE ⟨hp.push { cls:=.type k1.itc,data:=.fields #[.ref f,.int 0 0] },g,d,tk,os⟩) l k2 ys:=SeqK.at a λo e=>aa _ e;wp_walk using qdp c,qdp b
  exact ⟨_,rfl,h⟩
variable {k1 k2:SK}
section
theorem qaU {f l:Addr} {ys:Array iL} {Q:iL->iO->Prop} (t:SeqK s.heap f k1 xs) (a:SeqK s.heap l k2 ys)
  (h:∀ h',mt h' (s.heap.objs.size+4) (s.heap.objs.size+2) (s.heap.objs.size+3) .none->lx h' (s.heap.objs.size+2) (.ref s.heap.objs.size) (.ref (s.heap.objs.size+1)) ->lx h' (s.heap.objs.size+3) .none .none->ItK h' s.heap.objs.size f k1 0->ItK h' (s.heap.objs.size+1) l k2 0->(∀ c o,s.heap.get? c=iI o->h'.get? c=iI o)->Q (.ref (s.heap.objs.size+4)) { s with heap:=h' }) :
  iR (model prog w) A (call (.type "zip") [.ref f,.ref l]) Q E s:=by
 refine callType_new PySem.F.called_zip (by decide) (PySem.F.typeCall_zip_2 _ _) (PySem.F.newCall_zip_2 _ _) (λobj=>PySem.F.args_object_init_3 obj _ _) PySem.F.entry_zip_new (qaT k1 k2 f l xs ys) ⟨t,a,?_⟩;have z1:(zH1 k1 s.heap f).objs.size=s.heap.objs.size+1:=bt ..;have z2:(zH2 k1 k2 s.heap f l).objs.size=s.heap.objs.size+2:=by rw [bt,z1]
 have z:(zH3 k1 k2 s.heap f l).objs.size=s.heap.objs.size+3:=by rw [bt,z2]
 have b:(zH4 k1 k2 s.heap f l).objs.size=s.heap.objs.size+4:=by rw [bt,z]
 have g:(zH5 k1 k2 s.heap f l).get? (zH4 k1 k2 s.heap f l).objs.size=iI _:=ah _ rfl;have K:(zH5 k1 k2 s.heap f l).get? (zH3 k1 k2 s.heap f l).objs.size=iI _:=aa _ (ah _ rfl);have T:(zH5 k1 k2 s.heap f l).get? (zH2 k1 k2 s.heap f l).objs.size=iI _:=aa _ (aa _ (ah _ rfl));have U:(zH5 k1 k2 s.heap f l).get? (zH1 k1 s.heap f).objs.size=iI _:=aa _ (aa _ (aa _ (ah _ rfl)));have g1:(zH5 k1 k2 s.heap f l).get? s.heap.objs.size=iI _:=aa _ (aa _ (aa _ (aa _ (ah _ rfl))));show _/\_;rw [z2,z,b] at g;rw [z1,z2] at T;rw [z] at K;rw [z1] at U;rw [b];exact ⟨⟨_,g,rfl⟩,h _ g T K (.of ⟨_,g1,rfl,rfl⟩) (.of ⟨_,U,rfl,rfl⟩) λc o x=>aa _ (aa _ (aa _ (aa _ (aa _ x))))⟩
end
variable {t':Nat}
section
theorem KI {ch:List Addr} (I:Inv X pins σ H s) (k:∀ b o,b∉ch->s.heap.get? b=iI o->h'.get? b=iI o) (h:∀ b∈ch,Uz X pins H b):Inv X pins σ H { s with heap:=h',toks:=t' }:=by
 have t:∀ b u,H b=iI u->b∉ch:=λb u e z=>by rw [(h b z).1] at e;cases e
 refine I.step (g':=s.gens) (d':=s.drawn) (ch:=ch) (λb hb=>?_) (λb o _ _ d e _=>k b o d e) (λb o _ _ d e _=>⟨o.slots,k b o d e⟩) (λ_ _ _ _ n=>n) (λb o d e=>⟨o,k b o d e⟩) (λ_ _ e=>e) (λ_ _ _ e=>e) (λb ps e=>⟨#[],by rw [e]; simp⟩) (λm hm=>?_) (λb u e=>?_) I.bare;·obtain ⟨f0,f1,f2,a,f4,f⟩:=h b hb;exact ⟨a,f1,f4,f⟩
 ·obtain ⟨o,es,ep,l,r⟩:=hm;exact ⟨o,es,ep,k _ o (λz=>(h _ z).2.1 rfl) l,r⟩
 ·refine (I.hok b u e).stay (λc v d q=>k c v ?_ q) (λ_ q=>q) λ_ _ q=>q;rcases d with z | z
  ·rw [z];exact t b u e
  ·exact t c _ z
theorem qmJ {d':Drawn} (I:Inv X pins σ H s) (k:∀ b u,s.heap.get? b=iI u->h'.get? b=iI u):Inv X pins σ H { s with heap:=h',drawn:=d',toks:=t' }:=by refine I.step (g':=s.gens) (d':=d') (ch:=[]) (λ_ z=>nomatch z) (λb o _ _ _ e _=>k b o e) (λb o _ _ _ e _=>⟨o.slots,k b o e⟩) (λ_ _ _ _ n=>n) (λb o _ e=>⟨o,k b o e⟩) (λ_ _ e=>e) (λ_ _ _ e=>e) (λb ps e=>⟨#[],by rw [e]; simp⟩) (λm hm=>?_) (I.hok.kept k) I.bare;obtain ⟨o,es,ep,l,r⟩:=hm;exact ⟨o,es,ep,k _ o l,r⟩
theorem zr {xs:List V} (I:Inv X pins σ H s):∀ {k:SK},SqK X.K H a k xs->∃ its:List iL,Vals xs its/\SeqK s.heap a k its.toArray
 | .l,h=>let ⟨its,r,p,_⟩:=I.list h; ⟨its,r,p.isList⟩
 | .t,h=>let ⟨its,r,p,_⟩:=I.tuple h; ⟨its,r,p⟩
end
noncomputable def Itz (K:Frag) (k g:Addr) (k1 k2:SK) (xs ys:List V):It:=
 ⟨λi H=>i < xs.length/\i < ys.length/\SqK K H k k1 xs/\SqK K H g k2 ys,λi H v H'=>∃ x y p,xs[i]?=iI x/\ys[i]?=iI y/\H p=iK/\v=.ref p/\H'=upd H p (.tup [x,y]),λi H=>(xs.length<=i\/ys.length<=i)/\SqK K H k k1 xs/\SqK K H g k2 ys⟩
variable {us:List iL}
theorem QH {xs:List V} (r:Vals xs us) (h:us[i]?=iI u):∃ x,xs[i]?=iI x/\RelV x u:=by
 have hi:i < us.length:=(aE.mp h).1;have hx:i < xs.length:=by rw [r.length]; exact hi
 obtain ⟨a,h1,h2⟩:=r.get (aA hx);rw [h] at h1;cases h1;exact ⟨xs[i],aA hx,h2⟩
theorem WD (b k g:Nat) (h1:k < b) (h2:g < b):Apart2 (b+4) (b+2) (b+3) b (b+1) [b,k] [b+1,g]:=by have ne:∀ x y:Nat,x≠y->x≠y:=λ_ _ h=>h;have n:∀ x a c:Nat,x≠a->x≠c->x∉[a,c]:=λx a c n1 n2 h=>(ac.mp h).elim n1 λh=>n2 (aw.mp h);exact ⟨ne _ _ (by lia),ne _ _ (by lia),ne _ _ (by lia),ne _ _ (by lia),ne _ _ (by lia),ne _ _ (by lia),ne _ _ (by lia),ne _ _ (by lia),ne _ _ (by lia),ne _ _ (by lia),n _ _ _ (by lia) (by lia),n _ _ _ (by lia) (by lia),n _ _ _ (by lia) (by lia),n _ _ _ (by lia) (by lia),n _ _ _ (by lia) (by lia),n _ _ _ (by lia) (by lia)⟩
theorem qdB {P:iU} {w:iV} {K:Frag} {G:List Expr} {x1} {pos:Pos} {k1 k2:SK} (b r q:Nat) (xs ys:List V) (h1:r < b) (h2:q < b):Turn P w K (.Tuple G x1 pos) (Itz K r q k1 k2 xs ys) [b+4,b+2,b+3,b,b+1] (b+4)
   (λi h=>mt h (b+4) (b+2) (b+3) .none/\lx h (b+2) (.ref b) (.ref (b+1))/\(∃ a c,lx h (b+3) a c)/\ItK h b r k1 i/\ItK h (b+1) q k2 i/\i<=xs.length/\i<=ys.length) where
 mem:=by simp
 obj:=λi h st c f=>by
  obtain ⟨p,hi,⟨a,c',S⟩,t1,t2,_⟩:=st;simp only [ac,aU,or_false] at f;rcases f with rfl | rfl | rfl | rfl | rfl;·exact ⟨_,p,λv z=>by cases z⟩
  ·exact ⟨_,hi,λv z=>by cases z⟩
  ·exact ⟨_,S,λv z=>by cases z⟩
  ·obtain ⟨o,e,_,d⟩:=t1.obj;exact ⟨o,e,λv z=>by rw [d] at z; cases z⟩
  ·obtain ⟨o,e,_,d⟩:=t2.obj;exact ⟨o,e,λv z=>by rw [d] at z; cases z⟩
 keep:=λi h h' st k=>by
  obtain ⟨p,hi,⟨a,c',S⟩,t1,t2,n⟩:=st;refine ⟨k _ (by simp) _ p,k _ (by simp) _ hi,⟨a,c',k _ (by simp) _ S⟩,?_,?_,n⟩;·obtain ⟨o,e,c,d⟩:=t1.obj;exact .of ⟨o,k _ (by simp) _ e,c,d⟩
  ·obtain ⟨o,e,c,d⟩:=t2.obj;exact .of ⟨o,k _ (by simp) _ e,c,d⟩
 item:=by
  intro X T R U f i pins s σ H E I C st hg;subst T R U;obtain ⟨p,Z,⟨oa,ob,Y⟩,t1,t2,n1,n2⟩:=st;obtain ⟨Q,F,M,L⟩:=hg;obtain ⟨l,r1,p1⟩:=zr I M;obtain ⟨N,r2,p2⟩:=zr I L;have e1:l.toArray.size=xs.length:=by rw [au,r1.length]
  have W:N.toArray.size=ys.length:=by rw [au,r2.length]
  have D:=WD b r q h1 h2;have B:X.A.in1.handled=none:=I.ok.hd f;refine UZ (A:=X.A) D (JU (prog:=X.prog) (w:=X.w) (A:=X.A.in1) B k1 b r (aF h1) l.toArray) (JU (prog:=X.prog) (w:=X.w) (A:=X.A.in1) B k2 (b+1) q (aF (cQ h2)) N.toArray) p Z Y ⟨t1,p1⟩ ⟨t2,p2⟩ (by rw [e1]; exact Q) (by rw [W]; exact F) λu v h' tk hu hv z' J s1 s2 tp kp=>?_;refine ⟨_,rfl,wpAny_letOwnedTupleGo_zip z' λhq z2 j=>?_⟩;obtain ⟨x,hx,rx⟩:=QH r1 (by simpa using hu);obtain ⟨y,hy,ry⟩:=QH r2 (by simpa using hv);have hT:H s.heap.objs.size=none:=I.hok.fresh (ay _);have O:b+4 < s.heap.objs.size:=aC p;have fT:∀ c∈[b+4,b+2,b+3,b,b+1],c≠s.heap.objs.size:=λc f=>by
   simp only [ac,aU,or_false] at f;have t:b+4 < s.heap.objs.size:=O;generalize s.heap.objs.size=m at t;intro z
   lia
  have I1:Inv X pins σ (upd H s.heap.objs.size (.tup [x,y])) { s with heap:=s.heap.push { cls:=.type "tuple",data:=.seq #[u,v] } }:=
   I.laid (t':=s.toks) (λ_ _ e=>aa _ e) (ay _) ⟨⟨by simp only [ao,aV]; rw [iY]; decide,_,ah _ rfl,rfl⟩,[u,v],.cons rx (.cons ry .nil),⟨_,ah _ rfl,rfl,_,rfl⟩⟩
  have I2:Inv X pins σ (upd H s.heap.objs.size (.tup [x,y])) { s with heap:=hq,toks:=tk }:=by
   refine KI (s:={ s with heap:=s.heap.push { cls:=.type "tuple",data:=.seq #[u,v] } }) (ch:=[b+4,b+2,b+3,b,b+1]) I1 (λc o g e=>?_) λc f=>⟨by rw [qx (fT c f)]; exact (C c f).1,(C c f).2⟩
   simp only [ac,aU,or_false,not_or] at g;rw [j.2 c g.1];by_cases ec:c=s.heap.objs.size;·subst ec;have e3:(s.heap.push ({ cls:=.type "tuple",data:=.seq #[u,v] }:Obj)).get? s.heap.objs.size=iI { cls:=.type "tuple",data:=.seq #[u,v] }:=ah _ rfl;rw [show (s.heap.push ({ cls:=.type "tuple",data:=.seq #[u,v] }:Obj)).get? s.heap.objs.size=iI o from e] at e3;rw [e3];exact tp
   ·have e4:s.heap.get? c=iI o:=by have:=e;rwa [show (s.heap.push ({ cls:=.type "tuple",data:=.seq #[u,v] }:Obj)).get? c=s.heap.get? c from Heap.get?_push_ne _ _ _ ec] at this
    exact kp c o g.1 g.2.2.1 g.2.2.2.1 g.2.2.2.2 e4
  refine ⟨.ref s.heap.objs.size,_,I2,rfl,⟨x,y,_,hx,hy,hT,rfl,rfl⟩,⟨z2,?_,⟨u,v,?_⟩,?_,?_,Q,F⟩,λc f=>by rw [qx (fT c f)]; exact (C c f).1⟩;·exact (j.2 _ D.TIz).trans (kp _ _ D.TIz D.TITO D.TIi1 D.TIi2 Z)
  ·exact (j.2 _ D.TOz).trans J
  ·obtain ⟨o,e,c,d⟩:=s1.1.obj;exact .of ⟨o,(j.2 _ D.i1z).trans e,c,d⟩
  ·obtain ⟨o,e,c,d⟩:=s2.1.obj;exact .of ⟨o,(j.2 _ D.i2z).trans e,c,d⟩
 done:=by
  intro X T R U f i pins s σ H E I C st hg;subst T R U;obtain ⟨p,Z,⟨oa,ob,Y⟩,t1,t2,n1,n2⟩:=st;obtain ⟨Q,M,L⟩:=hg;obtain ⟨l,r1,p1⟩:=zr I M;obtain ⟨N,r2,p2⟩:=zr I L;have e1:l.toArray.size=xs.length:=by rw [au,r1.length]
  have W:N.toArray.size=ys.length:=by rw [au,r2.length]
  have D:=WD b r q h1 h2;have B:X.A.in1.handled=none:=I.ok.hd f;refine Gd (A:=X.A) D (JU (prog:=X.prog) (w:=X.w) (A:=X.A.in1) B k1 b r (aF h1) l.toArray) (JU (prog:=X.prog) (w:=X.w) (A:=X.A.in1) B k2 (b+1) q (aF (cQ h2)) N.toArray) p Z Y ⟨t1,p1⟩ ⟨t2,p2⟩ (by rw [e1,W]; lia) λh' tk kp=>⟨rfl,KI (ch:=[b+4,b+2,b+3,b,b+1]) I (λc o g e=>?_) C⟩
  simp only [ac,aU,or_false,not_or] at g;exact kp c o g.1 g.2.2.1 g.2.2.2.1 g.2.2.2.2 e
 self:=λ_ _ _ _ _ st h=>wpAny_pyIter_zip st.1 h
theorem qaV:iS "zip"=iI (.type "zip"):=by decide +kernel
variable {own:List Nat} {ma:Mo} {pos:Pos}
section
variable {a c:Expr} {fa fb:qU} {mb:Mo}
theorem qiA {ta:TA} {p tpos:Pos} {G:List Expr} {x1} (hg:Gl X "zip") (hm:X.mg "zip"=iK) (j:PA X [a,c] ta) (i:iQ [a,c] X.env=[(iN,eval a X.env),(iN,eval c X.env)]) (d:iQ [c] X.env=[(iN,eval c X.env)]):PI X (.Tuple G x1 tpos) (.Call (.Name "zip" p) [a,c] [] pos) (λσ H R=>ta σ H λvs H1=>∃ k g k1 k2 xs ys,vs=[.ref k,.ref g]/\SqK X.K H1 k k1 xs/\SqK X.K H1 g k2 ys/\R (Itz X.K k g k1 k2 xs ys) H1):=by
 refine ⟨?_⟩;intro pins s σ H R I h;refine Call_ (xq I hg hm qaV (bv (thn (j pos pins s σ H _ I h) λus s1 ⟨vs,H1,e,r1,f⟩=>?_) (by rw [i,d]) (by rw [d]; rfl)));obtain ⟨k,g,k1,k2,xs,ys,rfl,o,w,q⟩:=f;obtain ⟨r,u,rfl,e1,m⟩:=qcQ r1;cases e1;cases m;obtain ⟨l,n,p1⟩:=zr e o;obtain ⟨N,v,p2⟩:=zr e w;refine qaU p1 p2 λh' z Z Y t1 t2 kp=>?_;refine wpAny_pyIter_zip z ?_;refine ⟨s1.heap.objs.size+4,_,_,Itz X.K k g k1 k2 xs ys,H1,rfl,e.kept (t':=s1.toks) kp,qdB s1.heap.objs.size k g xs ys p1.lt p2.lt,⟨z,Z,⟨_,_,Y⟩,t1,t2,aZ _,aZ _⟩,λb hb=>?_,q⟩;have S:s1.heap.objs.size<=b:=by
  simp only [ac,aU,or_false] at hb;rcases hb with rfl | rfl | rfl | rfl | rfl;·exact dX _ _
  ·exact dX _ _
  ·exact dX _ _
  ·exact ay _
  ·exact dX _ _
 exact e.fpOk S (e.hok.fresh S)
theorem PoI.bindA {as:List AK} {o:Out (List D×Sl)} {k:List D×Sl->Out (List D×Sl)} {R:It->Hp->Prop} {Q:List V->Hp->Prop} (hp:PoI C own σ F H (o.bind k) R)
  (h:∀ vs F1 H1 ds ρ1,Rep C.K own F1 H1 σ ρ1->Chg (OA own σ) F H F1 H1->ArgV C.K H F1 H1 σ as vs ds->PoI C own σ F H (k (ds,ρ1)) R->Q vs H1):PoA C own as σ F H o Q:=by
 cases o with
 | ok p=>obtain ⟨ds,ρ1⟩:=p;exact λvs F1 H1 a c v=>h vs F1 H1 ds ρ1 a c v hp
 | exc e=>exact hp
 | bad=>exact hp.elim
noncomputable def qeD (xs ys:List D):List D:=List.zipWith (λx y=>.tup [x,y]) xs ys
noncomputable def qk4 (fr:vB):vB:=λρ=>(fr ρ).bind λp=>match p.1 with
 | [x,y]=>(xH x).bind λxs=>(xH y).bind λys=>.ok (qeD xs ys,p.2)
 | _=>.bad
theorem qeE (h:Is K F v d) (e:xH d=.ok ds):∃ a k xs,v=.ref a/\(∀ H,Same F H->SqK K H a k xs)/\IsL K F xs ds:=by
 cases h with
 | @lst a xs ds' p t=>cases e;exact ⟨_,.l,_,rfl,λH s=>s.seq p,t⟩
 | @tup a xs ds' p t=>cases e;exact ⟨_,.t,_,rfl,λH s=>jl s p,t⟩
 | _=>cases e
theorem qiB {k g:Addr} {xs ys:List V} {es:List D} (p1:∀ H,Same F H->SqK K H k k1 xs) (p2:∀ H,Same F H->SqK K H g k2 ys) (t1:IsL K F xs ds) (t2:IsL K F ys es):ItIs K F (Itz K k g k1 k2 xs ys) (qeD ds es) where
 go:=λi H hi s=>by unfold qeD at hi;rw [List.length_zipWith] at hi;exact ⟨by rw [t1.length]; lia,by rw [t2.length]; lia,p1 H s,p2 H s⟩
 yld:=λi Fi H v H' d e s1 s2 y=>by
  obtain ⟨x,y,p,hx,C,n,rfl,rfl⟩:=y;obtain ⟨d1,e1,i1⟩:=t1.get hx;obtain ⟨d2,a,i2⟩:=t2.get C;have o:d=.tup [d1,d2]:=by unfold qeD at e;rw [List.getElem?_zipWith,e1,a] at e;exact (aL.inj e).symm
  subst o;obtain ⟨g1,U⟩:=yF (u:=.tup [x,y]) s2 n;exact ⟨_,U,g1,.tup (.of qm) (.cons ((i1.mono s1).mono U.grow) (.cons ((i2.mono s1).mono U.grow) .nil))⟩
 stop:=λi H hi s=>by unfold qeD at hi;rw [List.length_zipWith] at hi;exact ⟨by rw [t1.length,t2.length]; lia,p1 H s,p2 H s⟩
theorem qf0 {p tpos:Pos} {G:List Expr} {x1} (m:C.K=X.K) (hg:Gl X "zip") (hm:X.mg "zip"=iK) (g:PE X a (tE C own ma fa)) (hb:PE X c (tE C own mb fb)) (h1:ma≠.any:=by decide) (h2:mb≠.any:=by decide) (s:iQ [a,c] X.env=[(iN,eval a X.env),(iN,eval c X.env)]:=by exact qc5 rfl rfl) (b:iQ [c] X.env=[(iN,eval c X.env)]:=by exact qD rfl):PI X (.Tuple G x1 tpos) (.Call (.Name "zip" p) [a,c] [] pos) (tIt C own (qk4 (qd fa (qd fb qA)))):=by
 refine qaB (qiA hg hm (qc g (qc hb qg h2 (by rw [b]; rfl)) h1 (by rw [s,b])) s b) λσ H R ⟨F,ρ,f,h⟩=>⟨F,ρ,f,PoI.bindA h λvs F1 H1 ds ρ1 r k j h1=>?_⟩
 have i:=ArgV.isL (by decide) j;cases i with
 | nil=>exact h1.elim
 | @cons v d vs ds i1 i=>
  cases i with
  | nil=>exact h1.elim
  | @cons v2 d2 vs ds i2 i=>
   cases i with
   | cons=>exact h1.elim
   | nil=>
    have h1:PoI C own σ F H ((xH d).bind λxs=>(xH d2).bind λys=>.ok (qeD xs ys,ρ1)) R:=h1;cases e1:xH d with
    | bad=>rw [e1] at h1; exact h1.elim
    | exc c=>cases d <;> cases e1
    | ok xs=>
     cases e:xH d2 with
     | bad=>rw [e1,e] at h1; exact h1.elim
     | exc c=>cases d2 <;> cases e
     | ok ys=>rw [e1,e] at h1;obtain ⟨n,k1,ws,rfl,p1,t1⟩:=qeE i1 e1;obtain ⟨l,k2,w,rfl,p2,t2⟩:=qeE i2 e;refine ⟨n,l,k1,k2,ws,w,rfl,m ▸ p1 H1 r.sub,m ▸ p2 H1 r.sub,?_⟩;rw [<-m];exact h1 _ F1 H1 r k (qiB p1 p2 t1 t2)
end
def leS (x y:Str):Prop:=¬y.cps.toList < x.cps.toList
noncomputable def qhm (x:Str):List Str->List Str
 | []=>[x]
 | y::l=>if kN y x=iM then y::qhm x l else x::y::l
noncomputable def jZ:List Str->List Str
 | []=>[]
 | x::l=>qhm x (jZ l)
variable {y:Str}
theorem xL {x z:Str} (a:leS x y) (b:leS y z):leS x z:=List.le_trans (α:=Nat) a b
theorem WE (x y:Str):leS x y\/leS y x:=List.le_total (α:=Nat) x.cps.toList y.cps.toList
theorem xM {x:Str} (a:leS x y) (b:leS y x):x=y:=by have e:=List.le_antisymm (α:=Nat) (as:=x.cps.toList) (bs:=y.cps.toList) a b;obtain ⟨⟨l⟩⟩:=x;obtain ⟨⟨m⟩⟩:=y;simp at e;rw [e]
theorem yK {x:Str}:kN y x=iN↔leS x y:=by unfold kN leS;exact decide_eq_false_iff_not
theorem QI (x:Str):∀ l,(qhm x l).Perm (x::l)
 | []=>cI _
 | y::l=>by
  unfold qhm;split;·exact ((QI x l).cons y).trans (List.Perm.swap _ _ _)
  ·exact cI _
theorem qK:∀ l,(jZ l).Perm l
 | []=>cI _
 | x::l=>(QI x _).trans ((qK l).cons x)
theorem QJ (x:Str):∀ l,l.Pairwise leS->(qhm x l).Pairwise leS
 | [],_=>eG _ _
 | y::l,h=>by
  have d:=aT.mp h;unfold qhm;split
  ·rename_i t;have c:leS y x:=by
    rcases WE y x with q | q;·exact q
    ·rw [<-yK] at q;rw [q] at t;cases t
   refine aT.mpr ⟨λz a=>?_,QJ x l d.2⟩;rcases ac.mp ((QI x l).mem_iff.mp a) with rfl | a;·exact c
   ·exact d.1 z a
  ·rename_i t;have b:leS x y:=yK.mp (by cases e:kN y x with | true=>exact absurd e t | false=>rfl);refine aT.mpr ⟨λz a=>?_,h⟩;rcases ac.mp a with rfl | a;·exact b
   ·exact xL b (d.1 z a)
theorem jg:∀ l,(jZ l).Pairwise leS
 | []=>eQ
 | x::l=>QJ x _ (jg l)
theorem xN:∀ {l m:List Str},l.Perm m->l.Pairwise leS->m.Pairwise leS->l=m
 | [],m,p,_,_=>p.nil_eq
 | x::l,[],p,_,_=>absurd p.length_eq (by simp)
 | x::l,y::m,p,hl,hm=>by
  have a:=aT.mp hl;have b:=aT.mp hm;have c:x=y:=by
   have h1:y∈x::l:=p.mem_iff.mpr (aj ..);have h2:x∈y::m:=p.mem_iff.mp (aj ..);rcases ac.mp h1 with e | e;·exact e.symm
   ·rcases ac.mp h2 with d | d;·exact d
    ·exact xM (a.1 y e) (b.1 x d)
  subst c;rw [xN p.cons_inv a.2 b.2]
theorem JV:∀ (x:Str) (l:List Str),risingS x l=iM->(x::l).Pairwise leS
 | x,[],_=>eG _ _
 | x,y::l,h=>by
  have h:(!ltCps y.cps.toList x.cps.toList&&risingS y l)=true:=h;rw [aR] at h;have j:=JV y l h.2;have b:leS x y:=by have h1:=h.1;rw [ltCps_eq] at h1;unfold leS;simpa using h1
  refine aT.mpr ⟨λz a=>?_,j⟩;rcases ac.mp a with rfl | a;·exact b
  ·exact xL b ((aT.mp j).1 z a)
theorem Yb:∀ (l:List Str),sortedS l=iM->l.Pairwise leS
 | [],_=>eQ
 | x::l,h=>JV x l h
variable {ss:List Str}
theorem WF (p:ss.Perm ks) (h:sortedS ss=iM):ss=jZ ks:=xN (p.trans (qK ks).symm) (Yb ss h) (jg ks)
noncomputable def zt:List D->Option (List Str)
 | []=>iI []
 | .str x::l=>(zt l).map (x::·)
 | _::_=>iK
noncomputable def xO:D->Option (List Str)
 | .lst ds=>zt ds
 | .tup ds=>zt ds
 | _=>iK
noncomputable def qhn [DecidableEq κ] (T:KP κ) (P:iU) (w:iV) (p:Addr) (ks:List κ):HO:=.ext λh=>SetK T P w h p ks
theorem qf1 [DecidableEq κ] {T:KP κ} {ks:List κ} (x:SetK T P w h p ks):ObjOk P w H h p (qhn T P w p ks):=
 ⟨x,let ⟨_,_,_,e,_⟩:=x; ⟨_,e⟩,λ_ _ a k=>a.at k⟩
structure KD {κ:Type} [DecidableEq κ] (T:KP κ) where
 sqd:D->Option (List κ)
 ok:κ->Prop
 get:∀ {K:Frag} {F:Hp} {dx:D} {ss:List κ},sqd dx=iI ss->∃ ds,xH dx=.ok ds/\∀ {vs:List V} {us:List iL},IsL K F vs ds->Vals vs us->us.length=ss.length/\(∀ (i:Nat) (v:iL),us[i]?=iI v->∃ x,ss[i]?=iI x/\∀ p w,(T.kd p w).is x v=iM)/\∀ x∈ss,ok x
theorem qaW (a:IsL K F vs ds) (l:Vals vs us) (e:zt ds=iI ss):mJ us ss/\∀ x∈ss,x.length<=sizeLine:=by
 induction ds generalizing vs us ss with
 | nil=>cases a;cases l;cases e;exact ⟨.nil,λx h=>nomatch h⟩
 | cons d ds j=>
  cases a with
  | cons i a=>
   cases l with
   | cons r l=>
    cases d with
    | str x=>
     obtain ⟨sl,q,rfl⟩:=aO.mp (show (zt ds).map (x::·)=iI ss from e);cases i with
     | str b=>obtain ⟨t,rfl⟩:=r;obtain ⟨i1,i2⟩:=j a l q;exact ⟨.cons x t i1,λy C=>(ac.mp C).elim (λz=>z ▸ b) (i2 y)⟩
    | _=>cases e
section
variable {e:Expr} {fa:qU}
theorem WG:∀ (l ks:List Str) {x:Str},x∈l.foldl gj ks->x∈ks\/x∈l
 | [],ks,x,h=>.inl h
 | y::l,ks,x,h=>by
  rcases WG l (gj ks y) h with q | q
  ·unfold gj at q;split at q;·exact .inl q
   ·rcases ai.mp q with q | q;·exact .inl q
    ·exact .inr (by rw [aw.mp q]; exact aj ..)
  ·exact .inr (ae _ q)
theorem XH (e:zt ds=iI ss) (l:IsL K F vs ds) (d:Vals vs us):us.length=ss.length/\(∀ (i:Nat) (v:iL),us[i]?=iI v->∃ x,ss[i]?=iI x/\∀ p w,(KpS.kd p w).is x v=iM)/\∀ x∈ss,x.length<=sizeLine:=by obtain ⟨st,C⟩:=qaW l d e;refine ⟨st.length,λi v h=>?_,C⟩;obtain ⟨y,t,e1,a⟩:=st.item i v h;refine ⟨y,a,λp w=>?_⟩;rw [e1];show fN y (.str y t)=iM;simp [fN]
noncomputable def KdS:KD KpS where
 sqd:=xO
 ok:=λy=>y.length<=sizeLine
 get:=λ{K F dx ss} e=>by
  cases dx with
  | lst ds=>exact ⟨ds,rfl,XH e⟩
  | tup ds=>exact ⟨ds,rfl,XH e⟩
  | _=>cases e
theorem qeF [DecidableEq κ] {T:KP κ} (U:KD T) (B:C.K=X.K) (z:X.calm=iM):wW X (.type "set") (λxs H Q=>∃ x F dx ss,xs=[x]/\Same F H/\TopIs C.K F H x dx/\U.sqd dx=iI ss/\ss.length < 4000/\((∀ y∈ss,U.ok y)->∀ p,H p=iK->Q (.ref p) (upd H p (qhn T X.prog X.w p (ss.foldl yI []))))):=by
 intro pins s σ H xs us Q I r h;obtain ⟨x,F,dx,ss,rfl,f,tx,es,hl,q⟩:=h;obtain ⟨u,rfl,A⟩:=we r;obtain ⟨ds,e,hg⟩:=U.get (K:=C.K) (F:=F) es;obtain ⟨a,sk,vs,rfl,hq,j⟩:=qeB f tx e;cases A;rw [B] at hq;obtain ⟨its,o,n,g,l,c,t,hd,D⟩:=Wu I hq;obtain ⟨d,hi,m⟩:=hg j g;refine qaN (T:=T) (λA1 E R hA k=>?_) λh' tk S kp=>⟨.ref s.heap.objs.size,_,I.laid (t':=tk) kp (ay _) (qf1 S),rfl,q m _ (I.hok.fresh (ay _))⟩
 exact qmI (sk:=sk) (items:=its.toArray) (hA.trans (I.ok.hd z)) (qaM (ah _ rfl)) (.of (aa _ l) hd c) (by simp [d]) (λi v e=>(hi i v (by simpa using e)).imp λx h=>⟨h.1,h.2 _ _⟩) (by rw [au,d]; unfold l3; lia) (aF (aC l)) λh' tk S kp=>k h' tk S λb o G=>kp b o (aF (aC G)) (aa _ G)
theorem QK:∀ {us:List iL} {ss:List Str},mJ us ss->Vals (ss.map V.str) us
 | _,_,.nil=>.nil
 | _,_,.cons y t h=>.cons ⟨t,rfl⟩ (QK h)
theorem qaX (c:X.calm=iM):wW X (.builtin "sorted") (λxs H Q=>∃ a ks,xs=[.ref a]/\H a=iI (qhn KpS X.prog X.w a ks)/\ks.length < 64/\∀ p,H p=iK->Q (.ref p) (upd H p (.lst ((jZ ks).map V.str)))):=by
 intro pins s σ H xs us Q I r h;obtain ⟨a,ks,rfl,f,j,q⟩:=h;obtain ⟨u,rfl,A⟩:=we r;cases A;have S:SetK KpS X.prog X.w s.heap a ks:=(I.hok a _ f).1;refine Gc (I.ok.hd c) S j λh1 h' b tk vs e ss k1 k2 hp st pm so=>?_;rw [WF pm so] at st;have d:Inv X pins σ H { s with heap:=h1,drawn:=b,toks:=tk }:=qmJ I k1;have z:(jZ ks).length<=sizeLine:=by
  rw [(qK ks).length_eq,iY]
  lia
 refine ⟨.ref h1.objs.size,_,d.laid (t':=tk) (o:=.lst ((jZ ks).map V.str)) k2 (ay _) ⟨by rw [ap]; exact z,vs.toList,e,QK st,by simpa [mI] using hp⟩,rfl,q _ (d.hok.fresh (ay _))⟩
theorem qf2 [DecidableEq κ] {T:KP κ}:wW X (.builtin "len") (λxs H Q=>∃ a ks,xs=[.ref a]/\H a=iI (qhn T X.prog X.w a ks)/\Q (.int ks.length) H):=by intro pins s σ H xs us Q I r h;obtain ⟨a,ks,rfl,f,q⟩:=h;obtain ⟨u,rfl,A⟩:=we r;cases A;obtain ⟨es,ep,t,l,d⟩:SetK T X.prog X.w s.heap a ks:=(I.hok a _ f).1;have hb:=d.bd;refine call_len_set l ⟨rfl,rfl,rfl⟩ rfl d.fits (by unfold l3 at hb; lia) ?_;exact ⟨.int ks.length,H,I.tok _,⟨_,by rw [d.size]⟩,q⟩
theorem yL {m:Mo} {f:qU} {Q R:VK} (h:tE C own m f σ H Q) (i:∀ v H1,Q v H1->R v H1):tE C own m f σ H R:=by
 obtain ⟨F,ρ,r,po⟩:=h;refine ⟨F,ρ,r,?_⟩;cases q:f ρ with
 | ok p=>rw [q] at po;obtain ⟨d,ρ1⟩:=p;exact λv F1 H1 a b c=>i _ _ (po v F1 H1 a b c)
 | exc c ρ1=>rw [q] at po;exact po
 | bad=>rw [q] at po;exact po.elim
noncomputable def yc (d:D):Out D:=match xO d with
 | some ss=>if ss.length < 64 then .ok (.lst ((jZ (ss.foldl gj [])).map D.str)) else .bad
 | none=>.bad
noncomputable def QL (d:D):Out D:=match xO d with
 | some ss=>if ss.length < 4000 then .ok (.int (ss.foldl gj []).length) else .bad
 | none=>.bad
theorem Qe:∀ {ss:List Str},(∀ x∈ss,x.length<=sizeLine)->IsL K F (ss.map V.str) (ss.map D.str)
 | [],_=>.nil
 | x::l,h=>.cons (.str (h x (aj ..))) (Qe λy C=>h y (ae _ C))
theorem JW {p p2 a:Pos} (o:C.K=X.K) (k:X.calm=iM) (hg:Gl X "sorted") (hm:X.mg "sorted"=iK) (v:iS "sorted"=iI (.builtin "sorted")) (i:Gl X "set") (g:X.mg "set"=iK) (d:iS "set"=iI (.type "set")) (n:PE X e (tE C own ma fa))
  (j:iQ [e] X.env=[(iN,eval e X.env)]:=by exact qD rfl) (c:iQ [.Call (.Name "set" p2) [e] [] a] X.env=[(iN,eval (.Call (.Name "set" p2) [e] [] a) X.env)]:=by exact qD rfl) :
  PE X (.Call (.Name "sorted" p) [.Call (.Name "set" p2) [e] [] a] [] pos) (tE C own .fr (d1 yc fa)):=by
 refine jE (xw (qaX k) hg hm v (qP (ka (qeF KdS o k) i g d (qP n jD j) (by decide) (by decide) (by rw [j]; rfl) rfl) jD c) (by decide) (by decide) (by rw [c]; rfl) rfl) λσ H Q h=>?_;refine yL (yE (ma:=ma) h) λx H1 ⟨A,F,dx,ex,s,tx,po⟩=>?_;cases ex;unfold yc at po;cases es:xO dx with
 | none=>rw [es] at po;exact po.elim
 | some ss=>
  rw [es] at po;by_cases hl:ss.length < 64
  ·have po:PoV C .fr F H1 (if ss.length < 64 then .ok (.lst ((jZ (ss.foldl gj [])).map D.str)) else .bad) Q:=po;rw [Aa hl,<-XF] at po;refine ⟨x,F,dx,ss,rfl,s,tx,es,by lia,λm q hq=>⟨q,_,rfl,qm,?_,λl f=>?_⟩⟩
   ·have:=xK ss [];rw [aV] at this
    lia
   ·obtain ⟨s1,r,f1⟩:=jT (u:=qhn KpS X.prog X.w q (ss.foldl yI [])) s hq;obtain ⟨s2,c2,f2⟩:=jT (u:=.lst ((jZ (ss.foldl yI [])).map V.str)) s1 f;have t:H1 l=none:=by
     by_cases z:l=q;·rw [z] at f;rw [qm] at f;cases f
     ·rwa [qx z] at f
    refine po _ _ _ s2 (r.trans' c2) ⟨l,rfl,t,f2,_,qm,Qe λy b=>m y ?_⟩;rw [XF] at b;rcases WG ss [] ((qK _).mem_iff.mp b) with z | z;·cases z
    ·exact z
  ·have po:PoV C .fr F H1 (if ss.length < 64 then .ok (.lst ((jZ (ss.foldl gj [])).map D.str)) else .bad) Q:=po;rw [Ab hl] at po;exact po.elim
noncomputable def qho [DecidableEq κ] {T:KP κ} (U:KD T) (add:List κ->κ->List κ) (d:D):Out D:=match U.sqd d with
 | some ss=>if ss.length < 4000 then .ok (.int (ss.foldl add []).length) else .bad
 | none=>.bad
theorem JX [DecidableEq κ] {T:KP κ} (U:KD T) {p p2 a:Pos} (m:C.K=X.K) (f:X.calm=iM) (hg:Gl X "len") (hm:X.mg "len"=iK) (v:iS "len"=iI (.builtin "len")) (i:Gl X "set") (g:X.mg "set"=iK) (d:iS "set"=iI (.type "set")) (j:PE X e (tE C own ma fa))
  (b:iQ [e] X.env=[(iN,eval e X.env)]:=by exact qD rfl) (c:iQ [.Call (.Name "set" p2) [e] [] a] X.env=[(iN,eval (.Call (.Name "set" p2) [e] [] a) X.env)]:=by exact qD rfl) :
  PE X (.Call (.Name "len" p) [.Call (.Name "set" p2) [e] [] a] [] pos) (tE C own .sh (d1 (qho U yI) fa)):=by
 refine jE (xw (qf2 (T:=T)) hg hm v (qP (ka (qeF U m f) i g d (qP j jD b) (by decide) (by decide) (by rw [b]; rfl) rfl) jD c) (by decide) (by decide) (by rw [c]; rfl) rfl) λσ H Q h=>?_;refine yL (yE (ma:=ma) h) λx H1 ⟨n,F,dx,ex,y,tx,po⟩=>?_;cases ex;unfold qho at po;cases es:U.sqd dx with
 | none=>rw [es] at po;exact po.elim
 | some ss=>
  rw [es] at po;have po:PoV C .sh F H1 (if ss.length < 4000 then .ok (.int (ss.foldl yI []).length) else .bad) Q:=po;by_cases hl:ss.length < 4000;·rw [Aa hl] at po;refine ⟨x,F,dx,ss,rfl,y,tx,es,hl,λl q hq=>⟨q,_,rfl,qm,?_⟩⟩;obtain ⟨s1,k,f1⟩:=jT (u:=qhn T X.prog X.w q (ss.foldl yI [])) y hq;exact po _ _ _ s1 k (.int _)
  ·rw [Ab hl] at po;exact po.elim
theorem qaY {p p2 a:Pos} (m:C.K=X.K) (f:X.calm=iM) (hg:Gl X "len") (hm:X.mg "len"=iK) (v:iS "len"=iI (.builtin "len")) (i:Gl X "set") (g:X.mg "set"=iK) (h:iS "set"=iI (.type "set")) (j:PE X e (tE C own ma fa))
  (b:iQ [e] X.env=[(iN,eval e X.env)]:=by exact qD rfl) (c:iQ [.Call (.Name "set" p2) [e] [] a] X.env=[(iN,eval (.Call (.Name "set" p2) [e] [] a) X.env)]:=by exact qD rfl) :
  PE X (.Call (.Name "len" p) [.Call (.Name "set" p2) [e] [] a] [] pos) (tE C own .sh (d1 QL fa)):=by
 rw [show QL=qho KdS yI by rw [XF];funext d;have q:KdS.sqd d=xO d:=rfl;unfold QL qho;rw [q];cases xO d <;> rfl];exact JX KdS m f hg hm v i g h j b c
end
variable {β:Type}
@[simp] theorem kq {a:α} {k:α->Out β}:(Out.ok a).bind k=k a:=rfl
@[simp] theorem ql2 {c:Str} {o:Sl} {k:α->Out β}:(Out.exc c o:Out α).bind k=.exc c o:=rfl
@[simp] theorem ql3 {k:α->Out β}:(Out.bad:Out α).bind k=.bad:=rfl
@[simp] theorem qk5 {a:α}:(Out.ok a).plain=.ok a:=rfl
@[simp] theorem ql4:(Out.bad:Out α).plain=.bad:=rfl
variable {c:Prop}
@[simp] theorem ql5 [Decidable c] {a b:Out α} {k:α->Out β}:(if c then a else b).bind k=if c then a.bind k else b.bind k:=by split <;> rfl
@[simp] theorem ql6 [Decidable c] {a b:Out α}:(if c then a else b).plain=if c then a.plain else b.plain:=by split <;> rfl
noncomputable def qdC (d:D) (A B:Out α):Out α:=match d with
 | .bl b=>if b=iM then A else B
 | _=>.bad
@[simp] theorem qkf {A B:Out α}:qdC (.bl b) A B=if b=iM then A else B:=rfl
noncomputable def ql7 (p:D×Sl):Out (Bool×Sl):=match p.1 with
 | .bl b=>.ok (b,p.2)
 | _=>.bad
variable {ρ:Sl}
@[simp] theorem qk6:ql7 (.bl b,ρ)=.ok (b,ρ):=rfl
noncomputable def GK (ms:List PM):Out (Fl×Sl)->Out (D×List D)
 | .ok (.nx,ρ)=>.ok (.non,kc ρ 0 ms)
 | .ok (.rt d,ρ)=>.ok (d,kc ρ 0 ms)
 | .ok _=>.bad
 | .exc c ρ=>.exc c ((kc ρ 0 ms).map iI)
 | .bad=>.bad
variable {ms:List PM}
theorem qu {f:qS}:jJ N ms f ds=GK ms (f (qt N ds)):=by unfold jJ GK;rfl
@[simp] theorem ql8:GK ms (.ok (.rt d,ρ))=.ok (d,kc ρ 0 ms):=rfl
@[simp] theorem ql9:GK ms (.ok (.nx,ρ))=.ok (.non,kc ρ 0 ms):=rfl
@[simp] theorem qk7 {c:Str}:GK ms (.exc c ρ)=.exc c ((kc ρ 0 ms).map iI):=rfl
@[simp] theorem qk8 [Decidable c] {a b:Out (Fl×Sl)}:GK ms (if c then a else b)=if c then GK ms a else GK ms b:=by split <;> rfl
noncomputable def Ge (as:List AK) (ρ:Sl):Out (D×List D)->VZ
 | .ok q=>.ok (q.1,Qa as q.2 ρ)
 | .exc c o=>.exc c (Qa as (o.map (·.getD .non)) ρ)
 | .bad=>.bad
variable {as:List AK}
@[simp] theorem qkg {q:D×List D}:Ge as ρ (.ok q)=.ok (q.1,Qa as q.2 ρ):=rfl
@[simp] theorem qiC {c:Str} {o:Sl}:Ge as ρ (.exc c o)=.exc c (Qa as (o.map (·.getD .non)) ρ):=rfl
@[simp] theorem qiD [Decidable c] {a b:Out (D×List D)}:Ge as ρ (if c then a else b)=if c then Ge as ρ a else Ge as ρ b:=by split <;> rfl
variable {ρ:Sl}
@[simp] theorem qf3:qe i ρ=match ρ[i]? with | some (iI d)=>.ok (d,ρ) | _=>.bad:=rfl
@[simp] theorem qmK:dC d ρ=.ok (d,ρ):=rfl
variable {gg:D->Sl->Out Sl}
section
variable {g g':D->D->Out D} {g1:D->Out D} {fa fb fc f:qU} {ft fu:ym} {fr:vB} {fs ft1:qS} {fi:vB} {G:jC}
@[simp] theorem zu:d1 g1 fa ρ=(fa ρ).bind λp=>(g1 p.1).plain.bind λd=>.ok (d,p.2):=rfl
@[simp] theorem qk9:d2 g fa fb ρ=(fa ρ).bind λp=>(fb p.2).bind λq=>(g p.1 q.1).plain.bind λd=>.ok (d,q.2):=rfl
@[simp] theorem qla:wZ f ρ=(f ρ).bind λp=>(GJ p.1).bind λb=>.ok (b,p.2):=rfl
@[simp] theorem qkh:qV f ρ=(f ρ).bind ql7:=rfl
@[simp] theorem qlb:gb ft ρ=(ft ρ).bind λp=>.ok (!p.1,p.2):=rfl
@[simp] theorem qki:qk3 f ρ=(qV f ρ).bind λp=>.ok (.bl (!p.1),p.2):=rfl
@[simp] theorem qlc:qev ft fu ρ=(ft ρ).bind λp=>if p.1=iM then fu p.2 else .ok (iN,p.2):=rfl
@[simp] theorem qma:dOr ft fu ρ=(ft ρ).bind λp=>if p.1=iM then .ok (iM,p.2) else fu p.2:=rfl
@[simp] theorem qkj:Jv fa fb ρ=(fa ρ).bind λp=>qdC p.1 (fb p.2) (.ok (.bl iN,p.2)):=by
 unfold Jv;cases fa ρ with
 | ok p=>
  obtain ⟨d,r⟩:=p;cases d <;> try rfl
  rename_i b;cases b <;> rfl
 | exc c o=>rfl
 | bad=>rfl
@[simp] theorem qld:qlZ fa fb ρ=(fa ρ).bind λp=>qdC p.1 (.ok (.bl iM,p.2)) (fb p.2):=by
 unfold qlZ;cases fa ρ with
 | ok p=>
  obtain ⟨d,r⟩:=p;cases d <;> try rfl
  rename_i b;cases b <;> rfl
 | exc c o=>rfl
 | bad=>rfl
@[simp] theorem qmb:dIf ft fa fb ρ=(ft ρ).bind λp=>if p.1=iM then fa p.2 else fb p.2:=rfl
@[simp] theorem qiE:xC g g' fa fb fc ρ=(fa ρ).bind λp=>(fb p.2).bind λq=>(g p.1 q.1).plain.bind λz=>qdC z ((fc q.2).bind λr=>(g' q.1 r.1).plain.bind λd=>.ok (d,r.2)) (.ok (.bl iN,q.2)):=by
 unfold xC;congr 1;funext p;congr 1;funext q;congr 1;funext z;cases z <;> try rfl
 rename_i b;cases b <;> rfl
@[simp] theorem qle:qA ρ=.ok ([],ρ):=rfl
@[simp] theorem qkk:qd fa fr ρ=(fa ρ).bind λp=>(fr p.2).bind λq=>.ok (p.1::q.1,q.2):=rfl
@[simp] theorem qkl:wj fr ρ=(fr ρ).bind λq=>.ok (D.non::q.1,q.2):=rfl
@[simp] theorem qlf:Qv fr ρ=(fr ρ).bind λp=>if p.1.length<=sizeLine then .ok (.tup p.1,p.2) else .bad:=rfl
@[simp] theorem qlg:xD fr ρ=(fr ρ).bind λp=>if p.1.length<=sizeLine then .ok (.lst p.1,p.2) else .bad:=rfl
@[simp] theorem qkm:jm ρ=.ok (.nx,ρ):=rfl
@[simp] theorem QM:qM fs ft1 ρ=(fs ρ).bind λp=>match p.1 with | .nx=>ft1 p.2 | _=>.ok p:=by
 show _=_;unfold qM;cases fs ρ with
 | ok p=>obtain ⟨fl,r⟩:=p; cases fl <;> rfl
 | exc c o=>rfl
 | bad=>rfl
@[simp] theorem qiF:sIf ft fs ft1 ρ=(ft ρ).bind λp=>if p.1=iM then fs p.2 else ft1 p.2:=rfl
@[simp] theorem qkn:kl f ρ=(f ρ).bind λp=>.ok (.nx,p.2):=rfl
@[simp] theorem KJ:jx f ρ=(f ρ).bind λp=>.ok (.rt p.1,p.2):=rfl
@[simp] theorem QN:jv i f ρ=(f ρ).bind λp=>if i < p.2.length then .ok (.nx,p.2.set i (iI p.1)) else .bad:=rfl
@[simp] theorem qko:qp as G fr ρ=(fr ρ).bind λp=>match kI as p.1 p.2 with | some ds=>Ge as p.2 (G ds) | none=>.bad:=rfl
@[simp] theorem qlh:qmF f ρ=(f ρ).bind λp=>(xH p.1).bind λds=>.ok (ds,p.2):=rfl
@[simp] theorem qli:jw f ρ=(f ρ).bind λp=>(jo p.1).bind λds=>.ok (ds,p.2):=rfl
@[simp] theorem qiG:gNm i d ρ=if i < ρ.length then .ok (ρ.set i (iI d)) else .bad:=rfl
@[simp] theorem kK:Jx fi gg fs ρ=(fi ρ).bind λp=>kM gg fs p.1 p.2:=rfl
@[simp] theorem qlj:qmG f gg ρ=(f ρ).bind λp=>match gg p.1 p.2 with | .ok ρ'=>.ok (.nx,ρ') | _=>.bad:=rfl
@[simp] theorem qlk {gg:List D->D->Out (List D)}:ge i gg f ρ=if yH ρ[i]?=iM then (f ρ).bind λp=>(match p.2[i]? with | some (iI (.lst xs))=>(match gg xs p.1 with | .ok ys=>.ok (.non,p.2.set i (iI (.lst ys))) | _=>.bad) | _=>.bad) else .bad:=rfl
@[simp] theorem qmc:ftT ρ=.ok (iM,ρ):=rfl
end
end L2.D2
namespace L2.D2
open PySem PySem.Spec PyProof.Rows
def qkp (i j:Int):Prop:=(0<=j/\j<=64)/\-4611686018427387904 < i/\i < 4611686018427387904
instance:∀ i j,Decidable (qkp i j):=λi j=>inferInstanceAs (Decidable (_/\_))
variable {X:Cx} {C:Ct}
section
theorem qiH:OpR X (j6 .Pow) (rI qkp λi j=>.int (i ^ j.toNat)):=opI λi j _ _ _ _ _ d q=>by obtain ⟨⟨a,h1⟩,h2,f⟩:=d;exact pow_int_small a (by omega) (by omega) q
noncomputable def qll:D->D->Out D:=uc λi j=>if qkp i j then .ok (.int (i ^ j.toNat)) else .bad
theorem qiI:OpD X C .sh (j6 .Pow) qll:=Xe qiH λ_ _ _=>.int _
end
noncomputable def qaZ (sep:Str):D->Out D
 | .lst ds=>match zt ds with
  | some ss=>if (ss.map (·.length)).sum+ss.length * sep.length<=16777216/\(fV sep ss).length<=sizeLine then .ok (.str (fV sep ss)) else .bad
  | none=>.bad
 | _=>.bad
variable {own:List Nat} {e:Expr} {m:Mo}
section
variable {fe:qU} {apos cpos:Pos} {sep:Str}
theorem qf4:MtR X "str.join" (λx vs H Q=>∃ (sep:Str) (a:Addr) (xs:List V) (ss:List Str),x=.str sep/\vs=[.ref a]/\SqL X.K H a xs/\(∀ us,Vals xs us->mJ us ss)/\(ss.map (·.length)).sum+ss.length * sep.length<=16777216/\Q (.str (fV sep ss)) H):=by intro pins s σ H x vs v us Q I d c h;obtain ⟨sep,a,xs,ss,rfl,rfl,hq,hb,z,q⟩:=h;obtain ⟨t,rfl⟩:=d;obtain ⟨u,rfl,A⟩:=c.one;cases A;obtain ⟨its,r,pl,_⟩:=I.list hq;obtain ⟨o,n,l,e,hd,b⟩:=pl;exact join_list ⟨o,l,e,n,b⟩ (by simpa using hb its r) z λt' k=>⟨.str (fV sep ss),H,I.tok _,⟨_,rfl⟩,q⟩
theorem qf5 {k c2} (u:C.K=X.K) (o:PE X e (tE C own m fe))
  (f:i7 (.Constant (.str sep) k c2) "join" X.env (eval (.Constant (.str sep) k c2) X.env)=eval (.Constant (.str sep) k c2) X.env:=by rfl)
  (w:((j3 cpos (iQ [e] X.env)).all (λx=>!x.1)&&(lI cpos (j8 [] X.env)).all (λx=>x.1.isSome)
   && decide ([e].length+([]:List j9).length+(if ([]:List j9).isEmpty then 0 else 1) < 30))=true:=by exact wg rfl)
  (b:(apos.endLine == cpos.line)=true:=by rfl) (s:iQ [e] X.env=[(iN,eval e X.env)]:=by exact qD rfl) :
  PE X (.Call (.Attribute (.Constant (.str sep) k c2) "join" apos) [e] [] cpos) (tE C own .sh (d1 (qaZ sep) fe)):=by
 refine jE (qab PySem.F.plainAttrs_str PySem.F.slot_str_join PySem.F.type_str_join qf4 qep (qP o jD s) f w b s rfl) λσ H Q h=>?_;refine ⟨rfl,?_⟩;obtain ⟨F,ρ,n,h⟩:=qal (ma:=m) h;refine ⟨F,ρ,n,?_⟩;cases q:fe ρ with
 | ok p=>
  rw [q] at h;obtain ⟨d,ρ1⟩:=p;intro v F1 H1 g k j;obtain ⟨A,dx,y,tx,po⟩:=h v F1 H1 g k j;cases dx <;> try exact po.elim
  rename_i ds;unfold qaZ at po;cases i:zt ds with
  | none=>simp only [i] at po; exact po.elim
  | some ss=>
   simp only [i] at po;by_cases z:(ss.map (·.length)).sum+ss.length * sep.length<=16777216/\(fV sep ss).length<=sizeLine
   ·rw [Aa z] at po;obtain ⟨a,vs,rfl,hq,t⟩:=tx.lst y;have l:SqL X.K H1 a vs:=by rw [<-u]; exact hq
    exact ⟨sep,a,vs,ss,rfl,rfl,l,λus r=>(qaW t r i).1,z.1,po _ A H1 y .refl (.str z.2)⟩
   ·rw [Ab z] at po;exact po.elim
 | exc c=>rw [q] at h; exact h
 | bad=>rw [q] at h; exact h.elim
end
noncomputable def dM (k:D->Bool) (g:D->D->Out D) (fo fa:qU):qU:=λρ=>(fo ρ).bind λp=>if k p.1 then (fa p.2).bind λq=>(g p.1 q.1).plain.bind λd=>.ok (d,q.2) else .bad
variable {ma mb:Mo} {pos:Pos} {σ:St} {F H:Hp} {Q:VK}
section
variable {a b:Expr} {fa fb:qU}
theorem Po.imp {r:VZ} {R:VK} (h:Po C own m σ F H r Q) (i:∀ v H',Q v H'->R v H'):Po C own m σ F H r R:=by
 cases r with
 | ok p=>exact λv F' H' a c mo=>i v H' (h v F' H' a c mo)
 | exc x=>exact h
 | bad=>exact h.elim
theorem qf6 {k:D->Bool} {g:D->D->Out D} (f:ma≠.any) (h:tE C own m (dM k g fa fb) σ H Q):tE C own ma fa σ H λx H1=>(∃ F dx,Same F H1/\TopIs C.K F H1 x dx/\k dx=iM)/\tE C own mb fb σ H1 λy H2=>∃ F dx j,Same F H2/\TopIs C.K F H2 x dx/\TopIs C.K F H2 y j/\PoV C m F H2 (g dx j) Q:=by
 obtain ⟨F,ρ,p,h⟩:=h;refine ⟨F,ρ,p,Po.bind h λv F1 H1 d ρ1 a n c h1=>?_⟩;cases i:k d with
 | false=>simp only [i] at h1; exact h1.elim
 | true=>simp only [i,if_true] at h1;exact ⟨⟨F1,d,a.sub,c.top,i⟩,F1,ρ1,a,Po.bind h1 λw l H2 e ρ2 r c2 b h2=>⟨l,d,e,r.sub,(c.grow f c2 λx z=>(p.OA_there z).1).top,b.top,PoV.of r h2⟩⟩
def MtD (X:Cx) (C:Ct) (m:Mo) (id:String) (g:D->D->Out D):Prop:=
 MtR X id (λx vs H Q=>∃ y F dx d,vs=[y]/\Same F H/\TopIs C.K F H x dx/\TopIs C.K F H y d/\PoV C m F H (g dx d) Q)
end
theorem qa0 {pins:Pns} {s:iO} (I:Inv X pins σ H s) (y:Same F H) {n:Nat} {e:D}:∀ {vs:List V} {ds:List D} {us:List iL} {b:Bool},IsL X.K F vs ds->Vals vs us->Qt n e ds=iI b ->us.map (GI X F n e)=ds.map λd=>eqN n d e == iI iM
 | _,_,_,b,.nil,.nil,h=>rfl
 | _,_,_,b,.cons i t,.cons r rs,h=>by obtain ⟨a,c,q,f,rfl⟩:=Wc h;rw [aG,aG,qa0 I y t rs f,qar I y i r q,q];cases a <;> rfl
noncomputable def qmd:qS:=λ_=>.bad
section
variable {own':List Nat} {sts:List Stmt}
theorem qf7:PSs X sts (tSt C own own' qmd):=by refine ⟨?_⟩;intro pins s σ H D I h;obtain ⟨_,_,_,h⟩:=h;exact h.elim
end
theorem XI {xs:List V} {us:List iL} (r:Vals xs us):∀ n:Nat,Vals (aS n xs).flatten (aS n us).flatten
 | 0=>.nil
 | n+1=>by rw [bP,bP,cR,cR];exact r.append (XI r n)
variable {K:Frag}
theorem qa1 {vs:List V} {ds:List D} (r:IsL K F vs ds):∀ n:Nat,IsL K F (aS n vs).flatten (aS n ds).flatten
 | 0=>.nil
 | n+1=>by rw [bP,bP,cR,cR];exact r.append (qa1 r n)
theorem qa2 {α:Type} (l:List α):∀ n:Nat,(aS n l).flatten.length=l.length * n
 | 0=>by simp
 | n+1=>by rw [bP,cR,aq,qa2 l n,Nat.mul_succ,Nat.add_comm]
noncomputable def qiJ:D->D->Out D
 | .lst ds,.int n=>if (0<=n/\n<=100000)/\ds.length * n.toNat<=1000000 then .ok (.lst (aS n.toNat ds).flatten) else .bad
 | _,_=>.bad
section
theorem qf8 (A:C.K=X.K):OpD X C .fr (j6 .Mult) qiJ:=by
 intro pins s σ H x y v u Q I q m h;obtain ⟨F,dx,B,g,tx,ty,po⟩:=h;cases dx <;> try exact po.elim
 cases B <;> try exact po.elim
 rename_i ds n;unfold qiJ at po;by_cases z:(0<=n/\n<=100000)/\ds.length * n.toNat<=1000000
 ·simp only [Aa z] at po;obtain ⟨a,xs,rfl,p,i⟩:=tx.lst g;obtain rfl:=ty.int;cases q;obtain ⟨t,rfl⟩:=m;rw [A] at p;obtain ⟨its,r,pl,_⟩:=I.list p;have c:its.length=ds.length:=by rw [<-r.length,i.length]
  obtain ⟨⟨cls,d,data,sl⟩,k,l,j,hd,f⟩:=pl;simp only at j hd f;subst j f;have hq:H s.heap.objs.size=none:=I.hok.fresh (ay _);obtain ⟨s2,c2,f2⟩:=jT (u:=.lst (aS n.toNat xs).flatten) g hq;have w:(aS n.toNat xs).flatten.length<=sizeLine:=by rw [qa2,i.length,iY]; lia
  refine wpAny_binaryOp_repeat_ref (T := "list") (U := "int") (by decide) ⟨_,l,rfl⟩ (λs'=>typeIs_int s' n t) noFill_list_mul PySem.F.fills_int_mul PySem.F.slot_int_rmul repeat_list PySem.F.slot_int_index.lookup
   (lM PySem.F.slot_int_rmul (typeIs_int s n t) PySem.F.entry_int_rmul (PySem.F.args_int_rmul_2 _ _) (lm_int_rmul_list_any n t a its.toArray k d sl)
    ⟨l,rfl,⟨_,l,rfl⟩,lM PySem.F.slot_list_mul ⟨_,l,rfl⟩ PySem.F.entry_list_mul (PySem.F.args_list_mul_2 _ _)
     (lm_list_mul_any a its.toArray k d sl n t (by simp [Builtin.List.listFitsIndex]; lia) (by rw [au,c]; lia) (by simp [cV,sizeLine]; rw [c]; lia))
     ⟨l,?_⟩⟩)
  refine ⟨.ref s.heap.objs.size,_,I.laid (t':=s.toks) (o:=.lst (aS n.toNat xs).flatten) (λb o e=>aa _ e) (ay _) ⟨w,(aS n.toNat its).flatten,0,XI r _,?_⟩,rfl,po _ _ _ s2 c2 ⟨_,rfl,hq,f2,_,qm,qa1 i _⟩⟩;rw [listMul_foldl_if];exact ah _ rfl
 ·simp only [Ab z] at po;exact po.elim
end
def qa3 (i j:Int):Prop:=(-(2 ^ 62)<=i/\i < 2 ^ 62)/\-(2 ^ 62)<=j/\j < 2 ^ 62
instance:∀ i j,Decidable (qa3 i j):=λi j=>inferInstanceAs (Decidable (_/\_))
variable {lo:Int}
section
variable {a b tg:Expr} {fa fb:qU}
theorem Yc:∀ {xs:List V} {us:List iL},xs.length=us.length->(∀ (j:Nat) (x:V) (u:iL),xs[j]?=iI x->us[j]?=iI u->RelV x u)->Vals xs us
 | [],[],_,_=>.nil
 | x::xs,u::us,hl,h=>.cons (h 0 x u rfl rfl) (Yc (Nat.succ.inj hl) λj y w a b=>h (j+1) y w (by simpa using a) (by simpa using b))
 | [],_::_,hl,_=>nomatch hl
 | _::_,[],hl,_=>nomatch hl
noncomputable def qeG (p:Addr) (lo hi:Int):HO:=.ext λh=>∃ t u v,IsRange h p lo hi 1 t u v
theorem qa4 {P:iU} {w:iV} {h:Heap} {p:Addr} {hi:Int} {t u v:Tok} (x:IsRange h p lo hi 1 t u v):ObjOk P w H h p (qeG p lo hi):=
 ⟨⟨t,u,v,x⟩,⟨_,x⟩,λ_ _ ⟨t,u,v,x⟩ k=>⟨t,u,v,k _ x⟩⟩
theorem WH:wW X (.type "range") (λxs H Q=>∃ j:Int,xs=[.int j]/\∀ p,H p=iK->Q (.ref p) (upd H p (qeG p 0 j))):=by intro pins s σ H xs us Q I r h;obtain ⟨j,rfl,q⟩:=h;obtain ⟨u,rfl,A⟩:=we r;obtain ⟨t,rfl⟩:=A;exact call_range_1 ⟨.ref s.heap.objs.size,_,I.laid (t':=s.toks+1+1) (λb o e=>aa _ e) (ay _) (qa4 (iB ..)),rfl,q _ (I.hok.fresh (ay _))⟩
theorem XJ (e:X.calm=iM):wW X (.type "list") (λxs H Q=>∃ r lo hi,xs=[.ref r]/\H r=iI (qeG r lo hi)/\(qa3 lo hi/\hi - lo<=1000000)/\∀ p,H p=iK->Q (.ref p) (upd H p (.lst ((aN (hi - lo).toNat).map λk=>V.int (lo+(k:Nat)))))):=by
 intro pins s σ H xs us Q I r h;obtain ⟨a,lo,hi,rfl,f,z,q⟩:=h;obtain ⟨u,rfl,A⟩:=we r;cases A;obtain ⟨t,u,v,d⟩:=(I.hok a _ f).1;have l:bZ lo hi 1=(((hi - lo).toNat:Nat):Int):=by rw [rangeSize_one]; split <;> lia
 refine call_list_range (n:=(hi - lo).toNat) (I.ok.hd e) d (small_one z.1.1.1 z.1.1.2 z.1.2.1 z.1.2.2) l (by lia) λh' tk acc c k hp b=>?_;refine ⟨.ref s.heap.objs.size,_,I.laid (t':=tk) (o:=.lst ((aN (hi - lo).toNat).map λk=>V.int (lo+(k:Nat)))) k (ay _) ⟨by rw [ap,bL,iY]; lia,acc.toList,c,?_,by simpa using hp⟩,rfl,q _ (I.hok.fresh (ay _))⟩;refine Yc (by rw [ap,bL,bJ,b.1]) λj x w ex g=>?_;rw [aH] at ex;obtain ⟨k,i,rfl⟩:=aO.mp ex;obtain ⟨G,rfl⟩:=aE.mp i;obtain ⟨t,rfl⟩:=b.2 j w (by simpa using g);exact ⟨t,by simp⟩
noncomputable def kQ:D->Out D
 | .int j=>if qa3 0 j/\j - 0<=1000000 then .ok (.lst (Jw 0 (j - 0).toNat)) else .bad
 | _=>.bad
theorem KK:∀ l:List Nat,IsL K F (l.map λk=>V.int (lo+(k:Nat))) (l.map λk=>D.int (lo+(k:Nat)))
 | []=>.nil
 | k::l=>.cons (.int _) (KK l)
theorem JY {p p2 a:Pos} (n:X.calm=iM) (hg:Gl X "list") (hm:X.mg "list"=iK) (v:iS "list"=iI (.type "list")) (i:Gl X "range") (g:X.mg "range"=iK) (d:iS "range"=iI (.type "range")) (o:PE X e (tE C own ma fa))
  (m:iQ [e] X.env=[(iN,eval e X.env)]:=by exact qD rfl) (c:iQ [.Call (.Name "range" p2) [e] [] a] X.env=[(iN,eval (.Call (.Name "range" p2) [e] [] a) X.env)]:=by exact qD rfl) :
  PE X (.Call (.Name "list" p) [.Call (.Name "range" p2) [e] [] a] [] pos) (tE C own .fr (d1 kQ fa)):=by
 refine jE (ka (XJ n) hg hm v (qP (ka WH i g d (qP o jD m) (by decide) (by decide) (by rw [m]; rfl) rfl) jD c) (by decide) (by decide) (by rw [c]; rfl) rfl) λσ H Q h=>?_;refine yL (yE (ma:=ma) h) λx H1 ⟨s,F,dx,ex,y,tx,po⟩=>?_;cases ex;cases dx <;> try exact po.elim
 rename_i j;unfold kQ at po;by_cases b:qa3 0 j/\j - 0<=1000000
 ·simp only [Aa b] at po;obtain rfl:=tx.int;refine ⟨j,rfl,λq hq=>⟨q,0,j,rfl,qm,b,λl f=>?_⟩⟩;obtain ⟨s1,r,f1⟩:=jT (u:=qeG q 0 j) y hq;obtain ⟨s2,c2,f2⟩:=jT (u:=.lst ((aN (j - 0).toNat).map λk=>V.int (0+(k:Nat)))) s1 f;have t:H1 l=none:=by
   by_cases z:l=q;·rw [z] at f;rw [qm] at f;cases f
   ·rwa [qx z] at f
  exact po _ _ _ s2 (r.trans' c2) ⟨l,rfl,t,f2,_,qm,KK _⟩
 ·simp only [Ab b] at po;exact po.elim
end
theorem qa5:iS "enumerate"=iI (.type "enumerate"):=by decide +kernel
noncomputable def gP (xs:List D):List D:=(xs.zipIdx).map λp=>.tup [.int (p.2:Nat),p.1]
noncomputable def WJ (f:qU):vB:=λρ=>(f ρ).bind λp=>match p.1 with
 | .lst xs=>.ok (gP xs,p.2)
 | _=>.bad
mutual
def qiK:Nat->Expr->Option D
 | 0,_=>iK
 | n+1,e=>match e with
  | .Constant c _ _=>match c with
   | .none=>iI .non
   | .bool b=>iI (.bl b)
   | .int i=>iI (.int i)
   | .str x=>if x.length<=sizeLine then iI (.str x) else iK
   | _=>iK
  | .UnaryOp .USub (.Constant (.int i) _ _) _=>iI (.int (-i))
  | .List es _=>(qhp n es).bind λds=>if ds.length<=sizeLine then iI (.lst ds) else iK
  | .Tuple es _ _=>(qhp n es).bind λds=>if ds.length<=sizeLine then iI (.tup ds) else iK
  | _=>iK
def qhp:Nat->List Expr->Option (List D)
 | _,[]=>iI []
 | 0,_::_=>iK
 | n+1,e::es=>(qiK n e).bind λd=>(qhp n es).bind λds=>iI (d::ds)
end
theorem XM {α:Type}:∀ l:List α,((l.map λ_=>AK.vl).all λa=>decide (a=.vl))=iM
 | []=>rfl
 | _::l=>by rw [aG,fP,XM l]; rfl
theorem qa6 {n:Nat} {e:Expr} {d:D} (h:qiK n e=iI d):UL e=true:=by
 cases n with
 | zero=>cases h
 | succ n=>cases e <;> first | rfl | (simp [qiK] at h)
section
variable {X:Cx} {C:Ct} {own:List Nat}
mutual
theorem qiL:∀ (n:Nat) {e:Expr} {d:D},qiK n e=iI d->PE X e (tE C own .sh (dC d))
 | 0,_,_,h=>by cases h
 | n+1,e,d,h=>by
  unfold qiK at h;split at h
  ·split at h;·cases h; exact Wb
   ·cases h; exact wY
   ·cases h; exact qr
   ·split at h;·rename_i z;cases h;exact ue z
    ·cases h
   ·cases h
  ·cases h;exact jE (qkZ qio qr) λσ H Q h=>h
  ·obtain ⟨ds,h1,h2⟩:=cu.mp h;split at h2
   ·rename_i z;cases h2;have i:xD (λρ=>.ok (ds,ρ))=dC (.lst ds):=by funext ρ;unfold xD dC;rw [Out.oh,Aa z]
    rw [<-i];exact wX (jV (KL n h1) (XM _)) (by decide)
   ·cases h2
  ·obtain ⟨ds,h1,h2⟩:=cu.mp h;split at h2
   ·rename_i z;cases h2;have i:Qv (λρ=>.ok (ds,ρ))=dC (.tup ds):=by funext ρ;unfold Qv dC;rw [Out.oh,Aa z]
    rw [<-i];exact wR (KL n h1) (XM _)
   ·cases h2
  ·cases h
theorem KL:∀ (n:Nat) {es:List Expr} {ds:List D},qhp n es=iI ds->PA X es (tAr C own (es.map λ_=>.vl) λρ=>.ok (ds,ρ))
 | 0,[],ds,h=>by cases h;exact qg
 | _+1,[],ds,h=>by cases h;exact qg
 | 0,_::_,ds,h=>by cases h
 | n+1,e::es,ds,h=>by unfold qhp at h;obtain ⟨d,h1,h⟩:=cu.mp h;obtain ⟨g,h2,h⟩:=cu.mp h;cases h;have i:qd (dC d) (λρ=>.ok (g,ρ))=λρ=>.ok (d::g,ρ):=rfl;rw [<-i];exact qc (qiL n h1) (KL n h2) (by decide) (jF (qa6 h1))
end
theorem qf9 {es:List Expr} {ds:List D} {pos:Pos} (n:Nat) (h:qhp n es=iI ds):PE X (.List es pos) (tE C own .fr (xD λρ=>.ok (ds,ρ))):=jV (KL n h) (XM _)
end
noncomputable def txI (i:Int):Str:=toString i
def CTx (i:Int):Prop:=i.natAbs.log2 < 1920/\(txI i).length<=sizeLine
instance:∀ i,Decidable (CTx i):=λi=>inferInstanceAs (Decidable (_/\_))
end L2.D2
namespace PySem
open Builtin Builtin.Str
end PySem
namespace L2.D2
open PySem PySem.Spec PyProof.Rows
def qmL (x y:Str):Prop:=(y.length == 0)=iN/\(Txt.split x y).length<=sizeLine/\∀ z∈Txt.split x y,z.length<=sizeLine
instance:∀ x y,Decidable (qmL x y):=λx y=>inferInstanceAs (Decidable (_/\_))
inductive IntsAre:List iL->List Int->Prop
 | nil:IntsAre [] []
 | cons (y:Int) (t:Tok) {vs:List iL} {ys:List Int} (h:IntsAre vs ys):IntsAre (eu y t::vs) (y::ys)
theorem IntsAre.length:∀ {vs:List iL} {ys:List Int},IntsAre vs ys->vs.length=ys.length
 | _,_,.nil=>rfl
 | _,_,.cons _ _ h=>congrArg (·+1) h.length
theorem IntsAre.item:∀ {vs:List iL} {ys:List Int},IntsAre vs ys->∀ (i:Nat) (v:iL),vs[i]?=iI v->∃ y t,v=eu y t/\ys[i]?=iI y
 | _,_,.nil,i,v,e=>by simp at e
 | _,_,.cons y t h,0,v,e=>by simp at e; subst e; exact ⟨y,t,rfl,rfl⟩
 | _,_,.cons y t h,i+1,v,e=>by obtain ⟨z,t',e1,a⟩:=h.item i v (by simpa using e);exact ⟨z,t',e1,by simpa using a⟩
noncomputable def zOf:iL->Int
 | .int i _=>i
 | _=>0
theorem WK {x:Int} {v:iL} (h:e7 x v=iM):∃ t,v=eu x t:=by
 cases v <;> first | (cases h; done) | skip
 rename_i i t;have:i=x:=by simpa [e7] using h
 subst this;exact ⟨t,rfl⟩
noncomputable def qga (ks:List Int) (x:Int):List Int:=if x∈ks then ks else ks++[x]
theorem qiM:(yI:List Int->Int->List Int)=qga:=by funext ks x;unfold yI qga;congr
noncomputable def KpZ:KP Int where
 kd:=PySem.intKind
 of:=zOf
 pb:=iN
 ofi:=λh=>let ⟨_,e⟩:=WK h; by rw [e]; rfl
 sc:=λh=>let ⟨_,e⟩:=WK h; by rw [e]; rfl
 pl:=λ_ h=>by cases h
noncomputable def xP:List D->Option (List Int)
 | []=>iI []
 | .int x::l=>(xP l).map (x::·)
 | _::_=>iK
noncomputable def WM:D->Option (List Int)
 | .lst ds=>xP ds
 | .tup ds=>xP ds
 | _=>iK
variable {K:Frag} {F:Hp} {vs:List V} {us:List iL} {ds:List D} {ss:List Int}
theorem qa7 (a:IsL K F vs ds) (l:Vals vs us) (e:xP ds=iI ss):IntsAre us ss:=by
 induction ds generalizing vs us ss with
 | nil=>cases a;cases l;cases e;exact .nil
 | cons d ds j=>
  cases a with
  | cons i a=>
   cases l with
   | cons r l=>
    cases d with
    | int x=>obtain ⟨sl,q,rfl⟩:=aO.mp (show (xP ds).map (x::·)=iI ss from e);cases i;obtain ⟨t,rfl⟩:=r;exact .cons x t (j a l q)
    | _=>cases e
theorem XN (e:xP ds=iI ss) (l:IsL K F vs ds) (d:Vals vs us):us.length=ss.length/\(∀ (i:Nat) (v:iL),us[i]?=iI v->∃ x,ss[i]?=iI x/\∀ p w,(KpZ.kd p w).is x v=iM)/\∀ x∈ss,True:=by have st:=qa7 l d e;refine ⟨st.length,λi v h=>?_,λ_ _=>trivial⟩;obtain ⟨y,t,e1,a⟩:=st.item i v h;refine ⟨y,a,λp w=>?_⟩;rw [e1];show e7 y (.int y t)=iM;simp [e7]
noncomputable def KdZ:KD KpZ where
 sqd:=WM
 ok:=λ_=>True
 get:=λ{K F dx ss} e=>by
  cases dx with
  | lst ds=>exact ⟨ds,rfl,XN e⟩
  | tup ds=>exact ⟨ds,rfl,XN e⟩
  | _=>cases e
noncomputable def yd (d:D):Out D:=match WM d with
 | some ss=>if ss.length < 4000 then .ok (.int (ss.foldl qga []).length) else .bad
 | none=>.bad
variable {X:Cx} {C:Ct} {own:List Nat} {e:Expr} {ma:Mo} {pos:Pos}
section
variable {fa:qU}
theorem Gf {p p2 a:Pos} (m:C.K=X.K) (f:X.calm=iM) (hg:Gl X "len") (hm:X.mg "len"=iK) (v:iS "len"=iI (.builtin "len")) (i:Gl X "set") (g:X.mg "set"=iK) (h:iS "set"=iI (.type "set")) (j:PE X e (tE C own ma fa))
  (b:iQ [e] X.env=[(iN,eval e X.env)]:=by exact qD rfl) (c:iQ [.Call (.Name "set" p2) [e] [] a] X.env=[(iN,eval (.Call (.Name "set" p2) [e] [] a) X.env)]:=by exact qD rfl) :
  PE X (.Call (.Name "len" p) [.Call (.Name "set" p2) [e] [] a] [] pos) (tE C own .sh (d1 yd fa)):=by
 rw [show yd=qho KdZ yI by rw [qiM];funext d;have q:KdZ.sqd d=WM d:=rfl;unfold yd qho;rw [q];cases WM d <;> rfl];exact JX KdZ m f hg hm v i g h j b c
end
noncomputable def zv (f:Str) (d:D):List (Str×D)->List (Str×D)
 | []=>[(f,d)]
 | (g,x)::r=>if g=f then (g,d)::r else (g,x)::zv f d r
variable {v:V} {f:Str} {d:D} {H:Hp} {c:Addr}
section
theorem IsF.put (h:Is K F v d):∀ {fv:List (Str×V)} {fs:List (Str×D)},IsF K F fv fs->IsF K F (Jt f v fv) (zv f d fs)
 | _,_,.nil=>.cons h .nil
 | _,_,.cons (k:=k) q t=>by
  unfold Jt zv;by_cases z:k=f;·rw [Aa z,Aa z]; exact .cons h t
  ·rw [Ab z,Ab z]; exact .cons q (IsF.put h t)
theorem IsF.get:∀ {fv:List (Str×V)} {fs:List (Str×D)},IsF K F fv fs->fs.lookup f=iI d->∃ v,fv.lookup f=iI v/\Is K F v d
 | _,_,.nil,e=>by cases e
 | _,_,.cons (k:=k) q t,e=>by
  rw [c9] at e ⊢;cases z:f == k with
  | true=>rw [z] at e; cases e; exact ⟨_,rfl,q⟩
  | false=>rw [z] at e; exact IsF.get t e
theorem IsF.non:∀ {fv:List (Str×V)} {fs:List (Str×D)},IsF K F fv fs->fs.lookup f=iK->fv.lookup f=iK
 | _,_,.nil,e=>rfl
 | _,_,.cons (k:=k) q t,e=>by
  rw [c9] at e ⊢;cases z:f == k with
  | true=>rw [z] at e; cases e
  | false=>rw [z] at e; exact IsF.non t e
theorem IsF.length:∀ {fv:List (Str×V)} {fs:List (Str×D)},IsF K F fv fs->fv.length=fs.length
 | _,_,.nil=>rfl
 | _,_,.cons _ t=>congrArg (·+1) t.length
theorem TopIs.ins {fs:List (Str×D)} (s:Same F H) (h:TopIs K F H v (.ins c fs)):∃ a dx fv,v=.ref a/\H a=iI (.ins c dx fv)/\IsF K F fv fs:=by
 rcases h with h | ⟨a,rfl,dx,fv,e,t⟩
 ·cases h with
  | ins e t=>exact ⟨_,_,_,rfl,s _ _ e,t⟩
 ·exact ⟨a,dx,fv,rfl,e,t⟩
end
noncomputable def qlm (c:Addr) (f:Str):D->Out D
 | .ins k fs=>if k=c then (match fs.lookup f with | some d=>.ok d | none=>.bad) else .bad
 | _=>.bad
noncomputable def Gg (c:Addr) (i:Nat) (f:Str) (fe:qU):qS:=λρ=>(fe ρ).bind λp=>match p.2[i]? with
 | some (iI (.ins k fs))=>if k=c/\fs.length < 1000 then .ok (.nx,p.2.set i (iI (.ins k (zv f p.1 fs)))) else .bad
 | _=>.bad
variable {x:Str} {m mr:Mo} {p1 p2:Pos} {i j:Nat} {ms:List PM} {ps:List Str} {cv:Str->iL}
section
variable {mo:Mo} {o:Expr} {es:List Expr} {fa fe fo:qU}
theorem qiN (j:C.K=X.K) (b:Cls X.K c) (n:NoAttr X.K c f) (g:PE X e (tE C own m fa)) (hb:i7 e f X.env (eval e X.env)=eval e X.env:=by rfl):PE X (.Attribute e f pos) (tE C own .sh (d1 (qlm c f) fa)):=by
 refine jE (qet g hb) λσ H Q h=>yL (qal (ma:=m) h) λx H1 ⟨F,dx,y,tx,po⟩=>?_;cases dx with
 | ins k fs=>
  replace po:PoV C .sh F H1 (if k=c then (match fs.lookup f with | some d=>.ok d | none=>.bad) else .bad) Q:=po;by_cases z:k=c
  ·subst z;rw [Aa rfl] at po;cases q:fs.lookup f with
   | none=>rw [q] at po; exact po.elim
   | some d=>rw [q] at po;obtain ⟨a,dx,fv,rfl,i,t⟩:=tx.ins y;obtain ⟨v,l,is⟩:=t.get q;exact ⟨a,k,dx,fv,v,rfl,i,b,n,l,po v F H1 y .refl is⟩
  ·rw [Ab z] at po; exact po.elim
 | _=>exact po.elim
theorem KM (I:C.K=X.K) (E:Cls X.K c) (A:NoAttr X.K c f) (hi:X.N[i]?=iI x) (s:Vis X.env.scope x) (l:i∈own) (B:PE X e (tE C own m fe)) (hm:m≠.any:=by decide) (hd:Dbg x:=by decide) (n:Cdk x:=by decide)
  (y:lm e (iI (.Attribute (.Name x p1) f p2)) pos.line X.env=pure false:=by rfl):PS X (.Assign [.Attribute (.Name x p1) f p2] e pos) (tSt C own own (Gg c i f fe)):=by
 refine Kw (qeu (wQ hi s hd n) (wX B hm) y) λD σ H ⟨F,ρ,p,h⟩=>⟨F,ρ,p,PoS.bindE h λv F1 H1 d ρ1 r L j h1=>?_⟩
 obtain ⟨w,b⟩:=r.opn i l;obtain ⟨a,e1,J,q⟩:=r.ow i w l b;simp only [b] at h1;cases w with
 | ins k fs=>
  by_cases z:k=c/\fs.length < 1000;·simp only [Aa z] at h1;obtain ⟨rfl,hl⟩:=z;obtain ⟨dx,fv,G,t⟩:=q;obtain ⟨g,o⟩:=r.write (u:=.ins k dx (Jt f v fv)) (d:=.ins k (zv f d fs)) l e1 ⟨dx,_,qm,t.put j⟩;exact ⟨_,e1,a,k,dx,fv,rfl,G,E,A,by rw [t.length]; exact hl,h1 σ F1 _ ⟨g,o,λ_ z=>.inl z,λ_ _=>rfl⟩⟩
  ·simp only [Ab z] at h1; exact h1.elim
 | _=>exact h1.elim
noncomputable def qa8 (c:Addr) (G:jC) (fr:vB):qU:=λρ=>(fr ρ).bind λp=>match G (.ins c []::p.1) with
 | .ok (.non,q::_)=>.ok (q,p.2)
 | .exc x _=>.exc x p.2
 | _=>.bad
def qa9 (P:iU) (w:iV) (K:Frag) (mg:Str->Option iL) (base:Heap) (cv:Str->iL) (k:Nat) (c:Addr) (x:Str) (ps:List Str) (ms:List PM) (mr:Mo) (G:jC):Prop:=
 ∃ f fd,FnOk P w K mg base (CXk P w) k f fd ps (spD K cv ms mr G)/\Meth K c x f/\Binds K fd ps []
def qba (P:iU) (w:iV) (K:Frag) (mg:Str->Option iL) (base:Heap) (cv:Str->iL) (k:Nat) (c:Addr) (ps:List Str) (ms:List PM) (G:jC):Prop:=
 ∃ f fd,FnOk P w K mg base (CXk P w) k f fd ps (spD K cv ms .sh G)/\Mk K c f/\Binds K fd ps []
noncomputable def qln:List AK->Bool
 | []=>iM
 | .vl::l=>qln l
 | _::_=>iN
theorem qiO {K:Frag} {H0 F F' H H':Hp} {σ:St} (g:Same F F'):∀ {as:List AK} {vs:List V} {ds:List D},qln as=iM->ArgV K H0 F H σ as vs ds->ArgsIs K F' H' (as.map gM) vs ds/\xE (as.map gM) vs=[]
 | [],[],[],_,_=>⟨trivial,rfl⟩
 | .vl::as,v::vs,d::ds,h,a=>by have j:=qiO (H':=H') g (as:=as) h a.2;exact ⟨⟨a.1.mono g,j.1⟩,j.2⟩
 | [],_::_,_,_,a=>a.elim
 | [],[],_::_,_,a=>a.elim
 | .vl::_,[],_,_,a=>a.elim
 | .vl::_,_::_,[],_,a=>a.elim
 | .sl _::_,_,_,h,_=>by cases h
 | .fr::_,_,_,h,_=>by cases h
theorem qlo {x:Addr} {q:D} {os:List D} (h:yn K F H (.io::ms) (.ref x::vs) (q::os)):F x=iK/\OwnIs K F H x q:=by obtain ⟨⟨a,e,h1,h2⟩,_⟩:=h;cases e;exact ⟨h1,h2⟩
theorem qgb {as:List AK} {fr:vB} {k:Nat} {p:Pos} {G:jC} (MF:qba X.prog X.w X.K X.mg X.base cv j c ps ms G) (hr:Room k X.A) (hj:j+1<=k) (hx:vz (CXk X.prog X.w) X C.E) (hg:Gl X x) (hm:X.mg x=iI (.ref c)) (ha:PA X (e::es) (tAr C own as fr)) (P:C.cv=cv:=by rfl) (U:C.K=X.K:=by rfl) (L:ms=.io::as.map gM:=by rfl) (hv:qln as=true:=by rfl) (N:∀ i∈C.ox,i∈own:=by exact va rfl)
  (O:Dbg x:=by decide) (he:iQ (e::es) X.env=(iN,eval e X.env)::iQ es X.env:=by exact jF rfl) (J:(j3 pos (iQ es X.env)).any (·.1)=false:=by exact xA rfl):PE X (.Call (.Name x p) (e::es) [] pos) (tE C own .fr (qa8 c G fr)):=by
 subst P;obtain ⟨f,fd,F0,M,hb⟩:=MF;refine jE (qfp M F0 (hr.mono hj) hg hm hb .nil hx ha O he J) λσ H Q ⟨F,ρ,W,h⟩=>⟨F,ρ,W,?_⟩
 unfold qa8 at h;cases D:fr ρ with
 | exc c=>rw [D] at h; exact h
 | bad=>rw [D] at h; exact h.elim
 | ok Y=>
  rw [D] at h;obtain ⟨ds,ρ1⟩:=Y;intro vs F1 H1 r S av x dx a t ne;rw [bj];have R:H x=none:=by
   cases q:H x with
   | none=>rfl
   | some o=>exact absurd a (S.stay x (by rw [q]; simp))
  have nF:∀ {z:Addr},H1 z=iK->F1 z=none:=λ{z} m=>r.sub.free m;have ex:(upd (upd H1 dx (.own x)) x (.ins c dx [])) x=iI (.ins c dx []):=qm;have c2:Chg No F1 H1 F1 (upd (upd H1 dx (.own x)) x (.ins c dx [])):=⟨λb o g _=>by
    rw [qx (λz=>by rw [z,a] at g; cases g),qx (λz=>by rw [z,t] at g; cases g)]; exact g,λb nb=>by
    by_cases z:b=x;·rw [z,ex]; simp
    ·rw [qx z];by_cases z2:b=dx;·rw [z2,qm]; simp
     ·rw [qx z2]; exact nb,Same.refl _,λb hb=>.inl hb⟩
  have s2:Same F1 (upd (upd H1 dx (.own x)) x (.ins c dx [])):=λb o g=>by rw [qx (λz=>by rw [z,nF a] at g; cases g),qx (λz=>by rw [z,nF t] at g; cases g)]; exact r.sub b o g
  obtain ⟨ar,le⟩:=qiO (H':=upd (upd H1 dx (.own x)) x (.ins c dx [])) (Same.refl F1) hv av;have T:xE (PM.io::as.map gM) (V.ref x::vs)=[x]:=by show x::xE (as.map gM) vs=[x]; rw [le]
  subst L;refine ⟨F1,.ins c []::ds,s2,⟨⟨x,rfl,nF a,dx,[],ex,.nil⟩,by rw [<-U]; exact ar⟩,by rw [T]; simp,?_⟩;have n:∀ {F' H':Hp},Chg (LA (PM.io::as.map gM) (V.ref x::vs)) F1 (upd (upd H1 dx (.own x)) x (.ins c dx [])) F' H'->Chg No F1 H1 F' H':=λ{F' H'} l=>by
   have l:Chg (λz=>z=x) F1 (upd (upd H1 dx (.own x)) x (.ins c dx [])) F' H':=l.mono λz m=>by have m:z∈xE (PM.io::as.map gM) (V.ref x::vs):=m;rw [T] at m; simpa using m
   exact c2.trans l λz m=>.inr (by rw [m]; exact a)
  have h:Po C own .fr σ F H (match G (.ins c []::ds) with | .ok (.non,q::_)=>.ok (q,ρ1) | .exc x _=>.exc x ρ1 | _=>.bad) Q:=h;cases B:G (.ins c []::ds) with
  | bad=>rw [B] at h; exact h.elim
  | exc y o=>rw [B] at h;exact λF' H' u l _=>h F' H' u ((r.grow (n l) u).ioIs N) (S.trans' (n l).ofNo)
  | ok Z=>
   rw [B] at h;obtain ⟨d,s⟩:=Z;cases d with
   | non=>
    cases s with
    | nil=>exact h.elim
    | cons q os=>
     intro v F' H' u l oi mo;have I:v=.non:=by have mo:Is _ F' v .non:=mo;cases mo; rfl
     obtain ⟨fx,ow⟩:=qlo oi;refine ⟨I,h (.ref x) F' H' (r.grow (n l) u) (S.trans' (n l).ofNo) ⟨x,rfl,R,fx,?_⟩⟩;rw [U]; exact ow
   | _=>exact h.elim
noncomputable def XO (c:Addr) (n:Str) (G:jC) (fo:qU):qU:=λρ=>(fo ρ).bind λp=>match p.1 with
 | .ins k fs=>if k=c/\(fs.lookup n).isNone=iM then (match G [.ins k fs] with
  | .ok q=>.ok (q.1,p.2)
  | .exc x _=>.exc x p.2
  | .bad=>.bad) else .bad
 | _=>.bad
theorem qdD {k:Nat} {n:Str} {apos:Pos} {G:jC} {pl:Sem Bool} (R:Cls X.K c) (S:qa9 X.prog X.w X.K X.mg X.base cv j c n ps [.val] mr G) (N:Room k X.A) (P:j<=k) (hx:vz (CXk X.prog X.w) X C.E) (O:PE X o (tE C own mo fo)) (p:mo≠.any:=by decide) (B:C.cv=cv:=by rfl) (J:C.K=X.K:=by rfl) (u:∀ i∈C.ox,i∈own:=by exact va rfl)
  (ht:eval (.Call (.Attribute o n apos) [] [] pos) X.env=(do
   let ov <-eval o X.env
   mO apos.atName
   let (f,first) <-holding [ov] (getMethod ov n pl)
   callWith pos f first (j3 pos (iQ [] X.env)) (lI pos (j8 [] X.env))):=by rfl):PE X (.Call (.Attribute o n apos) [] [] pos) (tE C own mr (XO c n G fo)):=by
 subst B;obtain ⟨f,fd,F0,M,hb⟩:=S;refine jE (qcV (pl:=pl) (wX O p) R M F0 (N.mono P) hb .nil hx ht) λσ H Q ⟨F,ρ,L,h⟩=>⟨F,ρ,L,Po.bind h λv F1 H1 d ρ1 b T m h1=>?_⟩
 have m:Is C.K F1 v d:=m;cases m with
 | @ins a k dx fv fs ea t=>
  replace h1:Po C own mr σ F1 H1 (if k=c/\(fs.lookup n).isNone=iM then (match G [.ins k fs] with | .ok q=>.ok (q.1,ρ1) | .exc x _=>.exc x ρ1 | .bad=>.bad) else .bad) Q:=h1;by_cases z:k=c/\(fs.lookup n).isNone=iM
  ·rw [Aa z] at h1;obtain ⟨rfl,I⟩:=z;refine ⟨a,dx,fv,rfl,b.sub _ _ ea,t.non (by cases q:fs.lookup n with | none=>rfl | some y=>rw [q] at I; cases I),?_⟩;refine ⟨F1,[.ins k fs],b.sub,⟨by rw [<-J]; exact .ins ea t,trivial⟩,cJ,?_⟩;have r:∀ {F' H':Hp},Chg (LA [PM.val] [V.ref a]) F1 H1 F' H'->Chg No F1 H1 F' H':=λl=>l.mono λz g=>by have g:z∈([]:List Addr):=g;cases g
   cases e:G [.ins k fs] with
   | bad=>rw [e] at h1; exact h1.elim
   | exc y o=>rw [e] at h1; exact λF' H' s l _=>h1 F' H' s ((b.grow (r l) s).ioIs u) (r l).ofNo
   | ok Z=>rw [e] at h1;obtain ⟨d,D⟩:=Z;exact λv F' H' s l _ mo=>h1 v F' H' (b.grow (r l) s) (r l).ofNo (by rw [J]; exact mo)
  ·rw [Ab z] at h1; exact h1.elim
 | _=>exact h1.elim
end
variable {own1:List Nat} {σ:St} {ρ:Sl} {u:HO} {b:Addr}
section
theorem Rep.blind (r:Rep K own F H σ ρ) (h1:∀ j,j∈own1↔j∈own/\j≠i):Rep K own1 F H σ (ρ.set i iK) where
 sub:=r.sub
 len:=by simp [r.len]
 val:=λj d G e=>by
  by_cases q:j=i
  ·subst q;by_cases z:j < ρ.length;·rw [aJ z] at e; cases e
   ·rw [bx (by simpa using z)] at e; cases e
  ·rw [ax (be q)] at e;exact r.val j d (λz=>G ((h1 j).mpr ⟨z,q⟩)) e
 ow:=λj d G e=>by have l:=(h1 j).mp G;rw [ax (be l.2)] at e;exact r.ow j d l.1 e
 opn:=λj G=>by have l:=(h1 j).mp G;rw [ax (be l.2)];exact r.opn j l.1
 dis:=λj k a G h=>r.dis j k a ((h1 j).mp G).1 ((h1 k).mp h).1
theorem Rep.see {a:Addr} (r:Rep K own1 F H σ ρ) (h1:∀ j,j∈own1↔j∈own/\j≠i) (hi:i∈own) (f:σ[i]?=iI (iI (V.ref a))) (D:F a=iK) (n:¬OA own1 σ a) (ow:OwnIs K F H a d):Rep K own F H σ (ρ.set i (iI d)):=by
 have hl:i < ρ.length:=by rw [<-r.len]; exact (aE.mp f).1
 refine ⟨r.sub,by simp [r.len],λj d' G e=>?_,λj d' G e=>?_,λj G=>?_,λj k b G l e1 h=>?_⟩;·have q:j≠i:=λz=>G (by rw [z]; exact hi);rw [ax (be q)] at e;exact r.val j d' (λz=>G ((h1 j).mp z).1) e
 ·by_cases q:j=i;·subst q;rw [aJ hl] at e;cases e;exact ⟨a,f,D,ow⟩
  ·rw [ax (be q)] at e;exact r.ow j d' ((h1 j).mpr ⟨G,q⟩) e
 ·by_cases q:j=i;·subst q; exact ⟨d,aJ hl⟩
  ·rw [ax (be q)];exact r.opn j ((h1 j).mpr ⟨G,q⟩)
 ·by_cases g:j=i
  ·by_cases c:k=i;·rw [g,c]
   ·rw [g,f] at e1;cases e1;exact absurd ⟨k,(h1 k).mpr ⟨l,c⟩,h⟩ n
  ·by_cases c:k=i;·rw [c,f] at h;cases h;exact absurd ⟨j,(h1 j).mpr ⟨G,g⟩,e1⟩ n
   ·exact r.dis j k b ((h1 j).mpr ⟨G,g⟩) ((h1 k).mpr ⟨l,c⟩) e1 h
theorem Rep.off {x:Addr} (r:Rep K own F H σ ρ) (D:F x=iK) (n:¬OA own σ x):Rep K own F (upd H x u) σ ρ where
 sub:=λb o e=>by rw [qx (qF e D)]; exact r.sub b o e
 len:=r.len
 val:=r.val
 ow:=λj d G e=>by obtain ⟨a,h1,h2,f⟩:=r.ow j d G e;exact ⟨a,h1,h2,f.grow (Same.refl _) λo q=>by rw [qx (λz=>n ⟨j,G,by rw [<-z]; exact h1⟩)]; exact q⟩
 opn:=r.opn
 dis:=r.dis
theorem Rep.frz {o:HO} (r:Rep K own F H σ ρ) (hb:H b=iI o) (D:F b=iK) (n:¬OA own σ b):Rep K own (upd F b o) H σ ρ:=by
 have gr:Same F (upd F b o):=λc w e=>by rw [qx (qF e D)]; exact e
 refine ⟨λc w e=>?_,r.len,λj d G e=>?_,λj d G e=>?_,r.opn,r.dis⟩
 ·by_cases q:c=b;·subst q; rw [qm] at e; cases e; exact hb
  ·rw [qx q] at e; exact r.sub c w e
 ·obtain ⟨v,h1,h2⟩:=r.val j d G e;exact ⟨v,h1,h2.mono gr⟩
 ·obtain ⟨a,h1,h2,f⟩:=r.ow j d G e;exact ⟨a,h1,by rw [qx (λz=>n ⟨j,G,by rw [<-z]; exact h1⟩)]; exact h2,f.grow gr λ_ q=>q⟩
theorem Chg.put {A:Addr->Prop} {F H:Hp} (hA:A b):Chg A F H F (upd H b u):=
 ⟨λc o e n=>by rw [qx (λz=>n (by rw [z]; exact hA))]; exact e,λc h=>by
  by_cases q:c=b;·rw [q,qm]; simp
  ·rw [qx q]; exact h,Same.refl _,λ_ h=>.inl h⟩
end
noncomputable def JB (g:D->Sl->Out Sl) (fw fx:qU):List D->List D->vB
 | [],ds,ρ=>.ok (ds,ρ)
 | d::l,ds,ρ=>match g d ρ with
  | .ok ρ1=>match fw ρ1 with
   | .ok (w,ρ2)=>match fx ρ2 with
    | .ok (.int k,ρ3)=>match ixN ds.length k with
     | some j=>JB g fw fx l (ds.set j w) ρ3
     | none=>.bad
    | _=>.bad
   | _=>.bad
  | _=>.bad
variable {g:D->Sl->Out Sl}
theorem Gh {fw fx:qU} {l dE:List D} {ρE:Sl} (h:JB g fw fx (d::l) ds ρ=.ok (dE,ρE)):∃ ρ1 w ρ2 k a j,g d ρ=.ok ρ1/\fw ρ1=.ok (w,ρ2)/\fx ρ2=.ok (.int k,a)/\ixN ds.length k=iI j/\JB g fw fx l (ds.set j w) a=.ok (dE,ρE):=by
 unfold JB at h;split at h
 ·rename_i ρ1 e1;split at h
  ·rename_i w ρ2 i;split at h
   ·rename_i k a e;split at h;·rename_i j p;exact ⟨ρ1,w,ρ2,k,a,j,e1,i,e,p,h⟩
    ·cases h
   ·cases h
  ·cases h
 ·cases h
noncomputable def qbb (c:Addr) (i:Nat) (fl:Str) (fe:qU) (fi:vB) (g:D->Sl->Out Sl) (fw fx:qU) (fr:qS):qS:=λρ=>(fe ρ).bind λp=>match p.1,p.2[i]? with
 | .lst ds,iI (iI (.ins k fs))=>if k=c/\fs.length < 1000 then (match fi (p.2.set i iK) with
  | .ok q=>(match JB g fw fx q.1 ds q.2 with
   | .ok r=>fr (r.2.set i (iI (.ins k (zv fl (.lst r.1) fs))))
   | _=>.bad)
  | _=>.bad) else .bad
 | _,_=>.bad
noncomputable def ctB (C:Ct):Ct:={ C with ox:=[],oxs:=λ_ h=>by cases h }
structure FillW (C:Ct) (own1:List Nat) (σ:St) (F1 H2 F3:Hp) (b:Addr) (g:D->Sl->Out Sl) (fw fx:qU) (items dE:List D) (ρE:Sl) (j:Nat) (σ':St) (F' H':Hp) (ρ':Sl) (xs:List V) (dk:List D):Prop where
 rep:Rep C.K own1 F' H' σ' ρ'
 chg:Chg (λz=>OA own1 σ z\/z=b) F1 H2 F' H'
 oa:∀ z,OA own1 σ' z->OA own1 σ z\/H2 z=iK
 io:∀ j∈C.io,σ'[j]?=σ[j]?
 hb:H' b=iI (.lst xs)
 fb:F' b=iK
 is:IsL C.K F' xs dk
 gr:Same F3 F'
 run:JB g fw fx (items.drop j) dk ρ'=.ok (dE,ρE)
variable {own':List Nat} {mw mx:Mo}
section
variable {w ix tg iter:Expr} {rest:List Stmt} {fe fw fx:qU} {fi:vB} {fr:qS} {fl:Str} {p3 p4 p5 p6 p7 p8:Pos}
theorem qdE (hK:C.K=X.K) (h1:∀ j,j∈own1↔j∈own/\j≠i) (hc:Cls X.K c) (hn:NoAttr X.K c fl) (hN:X.N[i]?=iI x) (hv:Vis X.env.scope x) (L:i∈own) (U:i∈C.io) (hp:mP (model X.prog X.w) X.A X.env X.xe) (Y:X.calm=iM)
  (he:PE X e (tE C own .fr fe)) (hi:PI X tg iter (tIt (ctB C) own1 fi)) (hg:PG X tg (tGd (ctB C) own1 g)) (hw:PE X w (tE (ctB C) own1 mw fw)) (hx:PE X ix (tE (ctB C) own1 mx fx)) (T:PSs X rest (tSt C own own' fr)) (hmw:mw≠.any:=by decide)
  (hd:Dbg x:=by decide) (hcd:Cdk x:=by decide)
  (hs:lm e (iI (.Attribute (.Name x p1) fl p2)) p3.line X.env=pure false:=by rfl) (hs2:∀ x,li iter X.env x=pure x:=by intro _; rfl)
  (hb:i7 (.Name x p4) fl X.env (eval (.Name x p4) X.env)=eval (.Name x p4) X.env:=by rfl)
  (hsub:∀ v,assign (.Subscript (.Attribute (.Name x p4) fl p5) ix p6) X.env v=(do
   let ov <-holding [v] (eval (.Attribute (.Name x p4) fl p5) X.env)
   let iv <-holding [v,ov] (eval ix X.env)
   mO p6
   holding [v,ov,iv] (setItem ov iv v)
   release [v,ov,iv] []):=by intro _; rfl)
  (ha1:swapsWithSole [.Subscript (.Attribute (.Name x p4) fl p5) ix p6] w p7.line X.env=pure false:=by rfl) (ha2:swappedStores [.Subscript (.Attribute (.Name x p4) fl p5) ix p6] w X.env=pure none:=by rfl)
  (ha3:(lq [.Subscript (.Attribute (.Name x p4) fl p5) ix p6] X.env).map (·.2)=[assign (.Subscript (.Attribute (.Name x p4) fl p5) ix p6) X.env]:=by rfl) :
  PSs X (.Assign [.Attribute (.Name x p1) fl p2] e p3::.For tg iter [.Assign [.Subscript (.Attribute (.Name x p4) fl p5) ix p6] w p7] [] p8::rest) (tSt C own own' (qbb c i fl fe fi g fw fx fr)):=by
 refine Xl (Kr (qeu (wQ hN hv hd hcd) he hs) (Kr (qer hp Y hi hg (GN (qhH (wX hw hmw) (qhG (qet (wQ hN hv hd hcd) hb) hx qcY hsub) ha1 ha2 ha3)) hs2) T)) λD σ H ⟨F,ρ,rp,h⟩=>?_;refine ⟨F,ρ,rp,?_⟩;unfold qbb at h;cases P:fe ρ with
 | exc y o=>rw [P] at h; exact h
 | bad=>rw [P] at h; exact h.elim
 | ok p0=>
 obtain ⟨d,ρ1⟩:=p0;rw [P] at h;rw [Out.oh] at h;have f:=h;intro v F1 H1 s c1 mo1;obtain ⟨b,rfl,I,hFb,owb⟩:=mo1;obtain ⟨d0,hd0⟩:=s.opn i L;obtain ⟨a,e1,hFa,o0⟩:=s.ow i d0 L hd0;cases d with
 | lst ds=>
  simp only [hd0] at f;cases d0 with
  | ins k fs=>
   by_cases z:k=c/\fs.length < 1000
   ·simp only [Aa z] at f;obtain ⟨rfl,hl⟩:=z;obtain ⟨dx,fv,ea,t⟩:=o0;obtain ⟨M,hb0,is0⟩:=owb;have oaH:∀ {z:Addr},OA own1 σ z->H z≠none:=λ{z} q=>by obtain ⟨j,hj,ej⟩:=q;exact (rp.OA_there ⟨j,((h1 j).mp hj).1,ej⟩).1
    have R:¬OA own1 σ b:=λq=>oaH q I;have E:¬OA own1 σ a:=λq=>by obtain ⟨j,hj,ej⟩:=q;exact ((h1 j).mp hj).2 (s.dis j i a ((h1 j).mp hj).1 L ej e1)
    have hHa:H a≠none:=(rp.OA_there ⟨i,L,e1⟩).1;have B:a≠b:=λq=>hHa (by rw [q]; exact I);refine ⟨_,e1,a,k,dx,fv,rfl,ea,hc,hn,by rw [t.length]; exact hl,?_⟩;generalize eo:HO.ins k dx (Jt fl (.ref b) fv)=o;have rpB:Rep C.K own1 F1 (upd H1 a o) σ (ρ1.set i iK):=(s.blind h1).off hFa E;have hb2:(upd H1 a o) b=iI (.lst M):=by rw [qx (be B)]; exact hb0
    refine ⟨F1,ρ1.set i iK,rpB,?_⟩;cases q:fi (ρ1.set i iK) with
    | exc y o=>simp only [q] at f; exact f.elim
    | bad=>simp only [q] at f; exact f.elim
    | ok pq=>
     obtain ⟨items,ρ2⟩:=pq;simp only [q] at f;cases q2:JB g fw fx items ds ρ2 with
     | exc y o=>simp only [q2] at f; exact f.elim
     | bad=>simp only [q2] at f; exact f.elim
     | ok pr=>
      obtain ⟨dE,ρE⟩:=pr;simp only [q2] at f;intro J F3 H3 rp3 c3 it;have p:∀ {F' H'},Chg (λz=>OA own1 σ z\/z=b) F1 (upd H1 a o) F' H'->H' a=iI o/\F' a=none:=λ{F' H'} cc=>by
       refine ⟨cc.keep a o qm λz=>z.elim E B,?_⟩;cases qa:F' a with
       | none=>rfl
       | some u=>
        rcases cc.new a (by rw [qa]; simp) with z | z | z;·exact absurd hFa z
        ·rw [qm] at z; cases z
        ·exact (z.elim E B).elim
      have w0:FillW C own1 σ F1 (upd H1 a o) F3 b g fw fx items dE ρE 0 σ F3 H3 ρ2 M ds:=by
       refine ⟨rp3,c3.mono λ_ z=>.inl z,λ_ z=>.inl z,λ_ _=>rfl,c3.keep b _ hb2 R,?_,is0.mono c3.grow,Same.refl _,q2⟩;cases O:F3 b with
       | none=>rfl
       | some u=>
        rcases c3.new b (by rw [O]; simp) with z | z | z;·exact absurd hFb z
        ·rw [hb2] at z; cases z
        ·exact absurd z R
      refine ⟨λj m σ' H'=>m=items.length - j/\j<=items.length/\∃ F' ρ' xs dk,FillW C own1 σ F1 (upd H1 a o) F3 b g fw fx items dE ρE j σ' F' H' ρ' xs dk,⟨items.length,by simp,aZ _,F3,ρ2,M,ds,w0⟩,?_⟩;rintro j m σ' H' ⟨rfl,hle,F',ρ',xs,dk,W⟩;have nb':¬OA own1 σ' b:=λz=>by
       rcases W.oa b z with z | z;·exact R z
       ·rw [hb2] at z; cases z
      have na':¬OA own1 σ' a:=λz=>by
       rcases W.oa a z with z | z;·exact E z
       ·rw [qm] at z; cases z
      by_cases G:j < items.length
      ·have hd:items.drop j=items[j]::items.drop (j+1):=d4 G;have run:=W.run;rw [hd] at run;obtain ⟨r1,wd,r2,kk,r3,jj,g1,g2,g3,g4,run'⟩:=Gh run;refine .inr ⟨it.go j H' G (W.gr.trans W.rep.sub),λσ2 H2=>items.length - (j+1)=items.length - (j+1)/\j+1<=items.length/\∃ F' ρ' xs dk,FillW C own1 σ F1 (upd H1 a o) F3 b g fw fx items dE ρE (j+1) σ2 F' H2 ρ' xs dk,λσ2 H2 z=>⟨items.length - (j+1),by omega,z⟩,λxv H2 y=>?_⟩;obtain ⟨F2,c2,s2,is2⟩:=it.yld j F' H' xv H2 items[j] (by simp [G]) W.gr W.rep.sub y;refine ⟨F2,ρ',items[j],W.rep.grow c2 s2,is2,r1,g1,λr rp3' Q io3=>⟨F2,r1,rp3',?_⟩⟩;rw [g2];intro wv F4 H4 rp4 c4 S;have b3:∀ {z:Addr},OA own1 r z->OA own1 σ z\/(upd H1 a o) z=none:=λ{z} q=>W.oa z (Q z q);have l:¬OA own1 r b:=λz=>nb' (Q b z);have na3:¬OA own1 r a:=λz=>na' (Q a z);have C2:Chg (λz=>OA own1 σ z\/z=b) F1 (upd H1 a o) F2 H2:=W.chg.trans' c2.ofNo;have C4:Chg (λz=>OA own1 σ z\/z=b) F1 (upd H1 a o) F4 H4:=C2.trans c4 λz q=>(b3 q).imp .inl id;have ea3:r[i]?=iI (iI (V.ref a)):=by rw [io3 i U,W.io i U]; exact e1
       have hl4:(Jt fl (V.ref b) fv).lookup fl=iI (V.ref b):=by rw [yA,Aa rfl]
       refine ⟨_,ea3,a,k,dx,_,_,rfl,by rw [eo]; exact (p C4).1,hc,hn,hl4,F4,r2,rp4,?_⟩;rw [g3];intro iv F5 H5 rp5 c5 mo5;have hiv:iv=.int kk:=mo5.top.int;subst hiv;have C5:Chg (λz=>OA own1 σ z\/z=b) F1 (upd H1 a o) F5 H5:=C4.trans c5 λz q=>(b3 q).imp .inl id;have hb5:H5 b=iI (.lst xs):=c5.keep b _ (c4.keep b _ (c2.keep b _ W.hb λz=>z) l) l;have fb2:F2 b=none:=by
        cases O:F2 b with
        | none=>rfl
        | some u=>
         rcases c2.new b (by rw [O]; simp) with z | z | z;·exact absurd W.fb z
         ·rw [W.hb] at z; cases z
         ·exact z.elim
       have fb4:F4 b=none:=by
        cases O:F4 b with
        | none=>rfl
        | some u=>
         rcases c4.new b (by rw [O]; simp) with z | z | z;·exact absurd fb2 z
         ·rw [c2.keep b _ W.hb λz=>z] at z; cases z
         ·exact absurd z l
       have fb5:F5 b=none:=by
        cases O:F5 b with
        | none=>rfl
        | some u=>
         rcases c5.new b (by rw [O]; simp) with z | z | z;·exact absurd fb4 z
         ·rw [c4.keep b _ (c2.keep b _ W.hb λz=>z) l] at z; cases z
         ·exact absurd z l
       have gr5:Same F' F5:=(c2.grow.trans c4.grow).trans c5.grow;have S:Is C.K F4 wv wd:=S;refine ⟨b,xs,kk,jj,rfl,rfl,hb5,by rw [W.is.length]; exact g4,rfl,G,F5,r3,xs.set jj wv,dk.set jj wd,?_⟩;refine ⟨rp5.off fb5 l,C5.trans' (Chg.put (.inr rfl)),λz q=>b3 q,λn Z=>(io3 n Z).trans (W.io n Z),qm,fb5,(W.is.mono gr5).set (S.mono c5.grow) jj,W.gr.trans gr5,run'⟩
      ·have ej:j=items.length:=by omega
       subst ej;have run:=W.run;rw [fU] at run;have run:Out.ok (dk,ρ')=Out.ok (dE,ρE):=run;cases run;refine .inl ⟨it.stop _ H' (ay _) (W.gr.trans W.rep.sub),?_⟩;obtain ⟨kA,kF⟩:=p W.chg;have grF:Same F' (upd F' b (.lst xs)):=λz u q=>by rw [qx (qF q W.fb)]; exact q
       have ea':σ'[i]?=iI (iI (V.ref a)):=by rw [W.io i U]; exact e1
       have rpZ:=(W.rep.frz W.hb W.fb nb').see (i:=i) (d:=.ins k (zv fl (.lst dE) fs)) h1 L ea' (by rw [qx B]; exact kF) na' ⟨dx,_,by rw [kA,<-eo],((t.mono W.chg.grow).mono grF).put (.lst (.inl (.inl qm)) (W.is.mono grF))⟩;refine ⟨_,_,rpZ,PoS.shift f ⟨rpZ,?_,λz q=>?_,W.io⟩⟩
       ·have cc:Chg (OA own σ) F H F' H':=by
         refine (c1.trans' (Chg.put (A:=OA own σ) (b:=a) (u:=o) ⟨i,L,e1⟩)).trans W.chg λz q=>?_;rcases q with ⟨n,Z,en⟩ | q;·exact .inl ⟨n,((h1 n).mp Z).1,en⟩
         ·exact .inr (by rw [q]; exact I)
        refine ⟨cc.keep,cc.stay,cc.grow.trans grF,λz hz=>?_⟩;by_cases zb:z=b;·exact .inr (.inl (by rw [zb]; exact I))
        ·rw [qx zb] at hz; exact cc.new z hz
       ·obtain ⟨n,Z,en⟩:=q;by_cases qn:n=i;·rw [qn,ea'] at en;cases en;exact .inl ⟨i,L,e1⟩
        ·rcases W.oa z ⟨n,(h1 n).mpr ⟨Z,qn⟩,en⟩ with ⟨n',hn2,en2⟩ | q;·exact .inl ⟨n',((h1 n').mp hn2).1,en2⟩
         ·by_cases za:z=a;·exact .inl ⟨i,L,by rw [za]; exact e1⟩
          ·rw [qx za] at q;refine .inr ?_;cases qh:H z with
           | none=>rfl
           | some u=>exact absurd q (c1.stay z (by rw [qh]; simp))
   ·simp only [Ab z] at f; exact f.elim
  | _=>exact f.elim
 | _=>simp only [] at f; exact f.elim
end
theorem qlp {b:List Nat} (h:decide (i∈b)=iM):i∈b:=Ae h
def qgc (K:Frag) (c:Addr) (x qual:Str) (st:Stmt) (ps:List Str):Prop:=∃ f fd,Fun K x qual st f fd/\Meth K c x f/\Binds K fd ps []
def qgd (K:Frag) (c:Addr) (qual:Str) (st:Stmt) (ps:List Str):Prop:=∃ f fd,Fun K "__init__" qual st f fd/\Mk K c f/\Binds K fd ps []
section
variable {P:iU} {w:iV} {mg:Str->Option iL} {base:Heap} {qual:Str} {st:Stmt} {N:List Str} {k:Nat} {fb:qS}
theorem qge (T:qgc K c x qual st ps) (S:FnScope N ps (qG st))
  (a:∀ (cdv:iL) (f:Addr) (A:iZ) (outer:List Env) (s:iO) (H:Hp) (E:XK),Room k (A.deeper (mh qual (qG st) s.heap.objs.size f cdv)) ->PSs (cxk P w K mg base N qual (qG st) f cdv A outer s H E) (kb st) (tSt (qhk K cv E ms mr) (jY 0 ms) own' fb))
  (hl:ms.length=ps.length:=by rfl) (g:∀ i∈UA 0 ms,i∈own':=by exact va rfl) (hmr:mr=.sh\/∀ ds ρ,(fb (qt N ds))≠.ok (.nx,ρ):=by exact .inl rfl):qa9 P w K mg base cv (k+1) c x ps ms mr (jJ N ms fb):=by
 obtain ⟨f,fd,F,hm,hb⟩:=T;exact ⟨f,fd,qj9 F S hl g hmr (λcdv A outer s H E d=>a cdv f A outer s H E d) λ_=>.inr rfl,hm,hb⟩
theorem qgf (T:qgd K c qual st ps) (S:FnScope N ps (qG st))
  (a:∀ (cdv:iL) (f:Addr) (A:iZ) (outer:List Env) (s:iO) (H:Hp) (E:XK),Room k (A.deeper (mh qual (qG st) s.heap.objs.size f cdv)) ->PSs (cxk P w K mg base N qual (qG st) f cdv A outer s H E) (kb st) (tSt (qhk K cv E ms .sh) (jY 0 ms) own' fb))
  (hl:ms.length=ps.length:=by rfl) (g:∀ i∈UA 0 ms,i∈own':=by exact va rfl):qba P w K mg base cv (k+1) c ps ms (jJ N ms fb):=by
 obtain ⟨f,fd,F,hm,hb⟩:=T;exact ⟨f,fd,qj9 F S hl g (.inl rfl) (λcdv A outer s H E d=>a cdv f A outer s H E d) λ_=>.inr rfl,hm,hb⟩
end
section
theorem vr (h:X.N[i]?=iI x:=by rfl) (c:Vis X.env.scope x:=by first | exact bY rfl | exact fE (bY rfl) | exact fE (fE rfl)) (l:i∉own:=by decide) (hd:Dbg x:=by decide) (d:Cdk x:=by decide):PE X (.Name x pos) (tE C own .sh (qe i)):=qh6 h c l hd d
end
theorem qiP {f:qU} {ρ':Sl}:jx f ρ≠.ok (.nx,ρ'):=by
 unfold jx;cases f ρ with
 | ok p=>intro h; cases h
 | exc c o=>intro h; cases h
 | bad=>intro h; cases h
theorem QO (ks:List Int):∀ n,n<=ks.length->preSum (λi=>ks.getD i 0) n=(ks.take n).sum
 | 0,_=>rfl
 | n+1,h=>by
  have j:=QO ks n (by lia);show preSum (λi=>ks.getD i 0) n+ks.getD n 0=_;rw [j,List.take_add_one,hV];have:ks[n]?=iI (ks.getD n 0):=by rw [dS,aA (by lia)]; rfl
  rw [this];simp
theorem qeH:∀ (ks:List Int),(ks.all λk=>decide (0<=k/\k<=100000))=iM->0<=ks.sum/\ks.sum<=100000 * ks.length
 | [],_=>by simp
 | k::ks,h=>by rw [fP,aR] at h;have h1:=Ae h.1;have j:=qeH ks h.2;rw [List.sum_cons,ao];omega
variable {mb:Mo} {apos cpos:Pos}
section
variable {b ix:Expr} {fb:qU} {px:Pos}
noncomputable def d2O (i:Nat) (g:D->D->Out D) (fb:qU):qU:=λρ=>(fb ρ).bind λq=>match (q.2[i]?:Option (Option D)) with
 | some (iI d)=>(g d q.1).plain.bind λr=>.ok (r,q.2)
 | _=>.bad
theorem qgg {g:D->D->Out D} {Q:VK} (l:i∈own) (h:tE C own m (d2O i g fb) σ H Q):qlS i σ H λx H1=>tE C own mb fb σ H1 λy H2=>∃ F dx j,Same F H2/\TopIs C.K F H2 x dx/\TopIs C.K F H2 y j/\PoV C m F H2 (g dx j) Q:=by obtain ⟨F,ρ,p,h⟩:=h;obtain ⟨w,e⟩:=p.opn i l;obtain ⟨a,e1,n,o⟩:=p.ow i w l e;refine ⟨_,e1,F,ρ,p,Po.bind h λv F1 H1 d ρ1 r q c h1=>?_⟩;obtain ⟨d1,b⟩:=r.opn i l;obtain ⟨s,f,k,o1⟩:=r.ow i d1 l b;rw [e1] at f;cases f;simp only [b] at h1;exact ⟨F1,d1,d,r.sub,.inr ⟨a,rfl,o1⟩,c.top,PoV.of r h1⟩
theorem qiQ (m:C.K=X.K) (u:X.A.units+64 < lb) (j:X.N[i]?=iI x) (g:Vis X.env.scope x) (l:i∈own) (hb:PE X b (tE C own mb fb)) (s:Kt b)
  (hd:Dbg x:=by decide) (e:Cdk x:=by decide):PE X (.Subscript (.Name x px) b pos) (tE C own .sh (d2O i ixD fb)):=by
 refine jE (qhV (qew (by lia)) (wQ j g hd e) hb s) λσ H Q h=>?_;obtain ⟨v,e1,F,ρ,f,h⟩:=qgg (mb:=mb) l h;refine ⟨v,e1,F,ρ,f,?_⟩;cases d:fb ρ with
 | ok p=>rw [d] at h;obtain ⟨d',k⟩:=p;intro w F3 n r G a;obtain ⟨J,dx,o,y,tx,ty,po⟩:=h w F3 n r G a;exact qex (σ:=σ) m y tx ty po
 | exc c=>rw [d] at h; exact h
 | bad=>rw [d] at h; exact h.elim
end
section
variable {a b:Expr} {fa fb:qU}
theorem qbc:wW X (.type "range") (λxs H Q=>∃ i j:Int,xs=[.int i,.int j]/\∀ p,H p=iK->Q (.ref p) (upd H p (qeG p i j))):=by
 intro pins s σ H xs us Q I r h;obtain ⟨i,j,rfl,q⟩:=h;cases r with
 | cons m a=>obtain ⟨t,rfl⟩:=m;obtain ⟨u,rfl,A⟩:=we a;obtain ⟨t',rfl⟩:=A;exact call_range_2 ⟨.ref s.heap.objs.size,_,I.laid (t':=s.toks+1) (λb o e=>aa _ e) (ay _) (qa4 (iB ..)),rfl,q _ (I.hok.fresh (ay _))⟩
noncomputable def QP:D->D->Out D
 | .int i,.int j=>if qa3 i j/\j - i<=1000000 then .ok (.lst (Jw i (j - i).toNat)) else .bad
 | _,_=>.bad
theorem Yd {p p2 a:Pos} {b:Expr} (A:X.calm=iM) (hg:Gl X "list") (hm:X.mg "list"=iK) (w:iS "list"=iI (.type "list")) (s:Gl X "range") (r:X.mg "range"=iK) (n:iS "range"=iI (.type "range")) (B:PE X e (tE C own ma fa)) (hb:PE X b (tE C own mb fb)) (o:ma≠.any:=by decide)
  (g:iQ [b] X.env=[(iN,eval b X.env)]:=by exact qD rfl) (c:iQ [e,b] X.env=[(iN,eval e X.env),(iN,eval b X.env)]:=by rfl) (d:iQ [.Call (.Name "range" p2) [e,b] [] a] X.env=[(iN,eval (.Call (.Name "range" p2) [e,b] [] a) X.env)]:=by exact qD rfl) :
  PE X (.Call (.Name "list" p) [.Call (.Name "range" p2) [e,b] [] a] [] pos) (tE C own .fr (d2 QP fa fb)):=by
 refine jE (ka (XJ A) hg hm w (qP (ka qbc s r n (qP B (qP hb jD g) (by rw [c,g])) (by decide) (by decide) (by rw [c,g]) (by rw [g]; rfl)) jD d) (by decide) (by decide) (by rw [d]; rfl) rfl) λσ H Q h=>?_;refine yL (Xx (ma:=ma) (mb:=mb) o h) λx H0 D=>yL D λy H1 ⟨J,I,F,dx,E,ex,v,tx,ty,po⟩=>?_;cases ex;cases dx <;> try exact po.elim
 rename_i i;cases E <;> try exact po.elim
 rename_i j;unfold QP at po;by_cases m:qa3 i j/\j - i<=1000000
 ·simp only [Aa m] at po;obtain rfl:=tx.int;obtain rfl:=ty.int;refine ⟨i,j,rfl,λq hq=>⟨q,i,j,rfl,qm,m,λl f=>?_⟩⟩;obtain ⟨s1,G,f1⟩:=jT (u:=qeG q i j) v hq;obtain ⟨s2,c2,f2⟩:=jT (u:=.lst ((aN (j - i).toNat).map λk=>V.int (i+(k:Nat)))) s1 f;have t:H1 l=none:=by
   by_cases z:l=q;·rw [z] at f;rw [qm] at f;cases f
   ·rwa [qx z] at f
  exact po _ _ _ s2 (G.trans' c2) ⟨l,rfl,t,f2,_,qm,KK _⟩
 ·simp only [Ab m] at po;exact po.elim
end
section
variable {G:jC} {p:Pos} {k:Nat}
theorem qbd (F:ZV X.prog X.w X.K X.mg X.base cv j x ps [] mr G) (d:Room k X.A) (e:j<=k) (hx:vz (CXk X.prog X.w) X C.E) (hg:Gl X x) (v:C.cv=cv:=by rfl) (m:C.K=X.K:=by rfl) (o:∀ i∈C.ox,i∈own:=by exact va rfl)
  (b:Dbg x:=by decide):PE X (.Call (.Name x p) [] [] pos) (tE C own mr (qp [] G qA)):=by
 subst v;obtain ⟨f,fd,F,hm,c,hb⟩:=F;rw [<-m] at F;refine jE (qcU (E:=C.E) (F:=by rw [<-m]; exact F) (d.mono e) hg hm c hb .nil hx b) λσ H Q h=>?_;obtain ⟨F,ρ,a,h⟩:=qaA (as:=[]) o (λi hi=>nomatch hi) (by decide) (by decide) h;exact h [] F H a .refl trivial
end
noncomputable def xQ (n:Nat) (fw fx:qU):qS:=λρ=>(fw ρ).bind λp=>(fx p.2).bind λq=>match (q.2[n]?:Option (Option D)) with
 | some (iI (.dct kvs))=>(match QD q.1 with
  | some k=>if kvs.length < sizeLine then .ok (.nx,q.2.set n (iI (.dct (wn kvs k p.1)))) else .bad
  | none=>.bad)
 | _=>.bad
section
variable {w ix:Expr} {fw fx:qU} {p3:Pos}
theorem xR {n:Nat} (P:X.A.units+64 < lb) (D:X.N[n]?=iI x) (y:Vis X.env.scope x) (l:n∈own) (t:PE X w (tE C own mw fw)) (hx:PE X ix (tE C own mx fx)) (f:mw≠.any:=by decide)
  (hd:Dbg x:=by decide) (j:Cdk x:=by decide) (B:lm w (iI (.Subscript (.Name x p1) ix p2)) p3.line X.env=pure false:=by rfl) :
  PS X (.Assign [.Subscript (.Name x p1) ix p2] w p3) (tSt C own own (xQ n fw fx)):=by
 refine Kw (qfB (by lia) (wQ D y hd j) hx (wX t f) B) λT σ H ⟨F,ρ,s,h⟩=>⟨F,ρ,s,PoS.bindE h λv F1 H1 d ρ1 b R c h1=>?_⟩
 have c:Is C.K F1 v d:=c;obtain ⟨I,i⟩:=b.opn n l;obtain ⟨a,e1,Q,M⟩:=b.ow n I l i;refine ⟨_,e1,F1,ρ1,b,PoS.bindE h1 λO L H2 G ρ2 r c2 m h2=>?_⟩;obtain ⟨d2,hd2⟩:=r.opn n l;obtain ⟨S,p,E,o2⟩:=r.ow n d2 l hd2;rw [e1] at p;cases p;simp only [hd2] at h2;cases d2 with
 | dct kvs=>
  cases q:QD G with
  | none=>simp only [q] at h2; exact h2.elim
  | some k=>
   simp only [q] at h2;have g:=qke m.top q;subst g;obtain ⟨kv,ex,o⟩:=o2;by_cases e:kvs.length < sizeLine;·simp only [Aa e] at h2;obtain ⟨r3,J⟩:=r.write (u:=.dK (Ju kv k v)) (d:=.dct (wn kvs k d)) l e1 ⟨_,qm,o.put (c.mono c2.grow)⟩;exact ⟨a,_,rfl,DPut.k ex (by rw [o.length]; exact e),h2 σ L _ ⟨r3,J,λ_ z=>.inl z,λ_ _=>rfl⟩⟩
   ·simp only [Ab e] at h2; exact h2.elim
 | _=>exact h2.elim
end
noncomputable def qbe (i:Nat):qU:=λρ=>match (ρ[i]?:Option (Option D)) with
 | some (iI (.lst (d::es)))=>.ok (d,ρ.set i (iI (.lst es)))
 | _=>.bad
section
variable {px:Pos}
theorem qgh:MtR X "list.pop" (λx vs H Q=>∃ l v xs,x=.ref l/\vs=[.int 0]/\H l=iI (.lst (v::xs))/\Q v (upd H l (.lst xs))):=by intro pins s σ H x vs v us Q I d r h;obtain ⟨l,y,xs,rfl,rfl,a,q⟩:=h;exact qc0 pins s σ H _ _ v us Q I d r ⟨l,_,0,0,y,rfl,rfl,a,by decide,by decide,by simp [seqIndex?],rfl,q⟩
theorem qgi {j:Nat} {p:Pos} (n:X.N[i]?=iI x) (m:Vis X.env.scope x) (o:i∈own) (hd:Dbg x:=by decide) (f:Cdk x:=by decide)
  (b:i7 (.Name x px) "pop" X.env (eval (.Name x px) X.env)=eval (.Name x px) X.env:=by rfl) (e:(apos.endLine == cpos.line)=true:=by rfl)
  (w:((j3 cpos (iQ [.Constant (.int 0) j p] X.env)).all (λx=>!x.1)&&(lI cpos (j8 [] X.env)).all (λx=>x.1.isSome)
   && decide ([Expr.Constant (.int 0) j p].length+([]:List j9).length+(if ([]:List j9).isEmpty then 0 else 1) < 30))=true:=by exact wg rfl)
  (s:iQ [.Constant (.int 0) j p] X.env=[(iN,eval (.Constant (.int 0) j p) X.env)]:=by exact qD rfl) :
  PE X (.Call (.Attribute (.Name x px) "pop" apos) [.Constant (.int 0) j p] [] cpos) (tE C own .sh (qbe i)):=by
 refine jE (qab db PySem.F.slot_list_pop PySem.F.type_list_pop qgh (wQ n m hd f) (qP qeo jD s) b w e s rfl) λσ H Q ⟨F,ρ,r,h⟩=>?_;obtain ⟨g,c⟩:=r.opn i o;obtain ⟨a,e1,D,k⟩:=r.ow i g o c;unfold qbe at h;simp only [c] at h;cases g with
 | lst es=>
  cases es with
  | nil=>exact h.elim
  | cons d es=>
   obtain ⟨xs,ex,l⟩:=k;cases l with
   | cons v l=>refine ⟨_,e1,.inl ⟨rfl,_,.inl (.inl ex)⟩,?_⟩;obtain ⟨r2,G⟩:=r.write (u:=.lst _) (d:=.lst es) o e1 ⟨_,qm,l⟩;exact ⟨a,_,_,rfl,rfl,ex,h _ F _ r2 G v⟩
 | _=>exact h.elim
end
noncomputable def qkq (kvs:List (Key×D)) (k:Key) (d:D):D:=match kvs.find? λkv=>decide (kv.1=k) with
 | some kv=>kv.2
 | none=>d
noncomputable def qdF (fo fe ff:qU):qU:=λρ=>(fo ρ).bind λp=>if (match p.1 with | .dct _=>iM | _=>iN)=iM then (fe p.2).bind λq=>(ff q.2).bind λr=>(match p.1 with
 | .dct kvs=>(match QD q.1 with
  | some k=>.ok (qkq kvs k r.1,r.2)
  | none=>.bad)
 | _=>.bad) else .bad
theorem IsK.miss {k:Key}:∀ {vs:List (Key×V)} {ds:List (Key×D)},IsK K F vs ds->(ds.find? λkv=>decide (kv.1=k))=iK->UI vs k=iK
 | _,_,.nil,e=>rfl
 | _,_,.cons (k:=k') (vs:=vs) h t,e=>by
  by_cases q:k'=k;·rw [bM (by simp [q])] at e;cases e
  ·rw [bF (by simp [q])] at e;rw [xy q];exact IsK.miss t e
section
variable {o f:Expr} {fo fe ff:qU} {me mf:Mo}
theorem qgj (Y:X.A.units+64 < lb) (O:PE X o (tE C own .sh fo)) (S:PE X e (tE C own me fe)) (R:PE X f (tE C own mf ff)) (B:mf≠.any:=by decide) (P:me≠.any:=by decide)
  (j:i7 o "get" X.env (eval o X.env)=eval o X.env:=by rfl)
  (n:((j3 cpos (iQ [e,f] X.env)).all (λx=>!x.1)&&(lI cpos (j8 [] X.env)).all (λx=>x.1.isSome)
   && decide (([e,f]:List Expr).length+([]:List j9).length+(if ([]:List j9).isEmpty then 0 else 1) < 30))=true:=by exact wg rfl)
  (i:(apos.endLine == cpos.line)=true:=by rfl) (u:j3 cpos (iQ [e,f] X.env)=[(iN,eval e X.env),(iN,eval f X.env)]:=by rfl) :
  PE X (.Call (.Attribute o "get" apos) [e,f] [] cpos) (tE C own .sh (qdF fo fe ff)):=by
 refine jE (qc4 (by lia) O S (wX R B) ⟨j,n,i,u⟩) λσ H Q ⟨F,ρ,L,h⟩=>?_;refine ⟨F,ρ,L,Po.bind h λv F1 H1 d ρ1 r Z g h1=>?_⟩;have g:Is C.K F1 v d:=g;cases d with
 | dct kvs=>
  simp only [if_true] at h1;cases g with
  | dct E M=>
   rename_i a kv;refine ⟨a,rfl,.inl ⟨kv,.inl (r.sub _ _ E)⟩,F1,ρ1,r,Po.bind h1 λy W H2 V ρ2 s c2 t h2=>?_⟩;refine ⟨W,ρ2,s,Po.bind h2 λz F3 I U J c G m b=>?_⟩;have m:Is C.K F3 z U:=m;cases q:QD V with
   | none=>simp only [q] at b; exact b.elim
   | some k=>
    simp only [q] at b;have N:=qke t.top q;subst N;have D:F3 a=iI (.dK kv):=G.grow _ _ (c2.grow _ _ E);have l:IsK C.K F3 kv kvs:=(M.mono c2.grow).mono G.grow;refine ⟨UI kv k,.inl ⟨kv,k,.inl (c.sub _ _ D),rfl,rfl⟩,?_⟩;unfold qkq at b;cases p:kvs.find? λkv=>decide (kv.1=k) with
    | none=>simp only [p] at b;rw [l.miss p];exact b z F3 I c .refl m
    | some kd=>simp only [p] at b;obtain ⟨w,e1,T⟩:=l.find p;rw [e1];exact b w F3 I c .refl T
 | _=>exact h1.elim
end
end L2.D2
namespace L2.D2
open PySem PySem.Spec PyProof.Rows PySem.W
section
variable {prog:iU} {w:iV} {A:iZ} {E:iL->iO->Prop} {s:iO} {T:String} {r d:Addr} {n:Nat} {P:Nat->iL->Prop} {OK:Heap->Prop}
theorem qbf {Q:List iL->iO->Prop} (K:KdlSrc prog w T r d n P OK) (c:A.handled=iK) (hok:OK s.heap) (h:n<=sizeLine)
  (f:∀ h' tk acc,(∀ b o,s.heap.get? b=iI o->h'.get? b=iI o)->my P acc n->Q acc.toList { s with heap:=h',toks:=tk }):iR (model prog w) A (collect (.ref r)) Q E s:=by
 unfold collect;refine iJ (mm (i6 F.entry_proto_collect ?_));rw [bh F.plain_proto_collect _];show iR _ A.in1 (mZ [] >>= λl=>again (.builtin "list.__iadd__" ⟨[l,.ref r],[]⟩)) _ _ s;refine iJ (iX ?_);refine iP ⟨ll F.plain_list_iadd _,i6 F.entry_list_iadd ?_⟩;rw [bh F.plain_list_iadd _];have t:=K.there _ hok;have S:(s.heap.push { cls:=.type "list",data:=.seq ([]:List iL).toArray }).get? s.heap.objs.size=iI { cls:=.type "list",data:=.seq ([]:List iL).toArray }:=ah _ rfl;show iR _ A.in1 (bw (.ref s.heap.objs.size) (.ref r) (.ref s.heap.objs.size)) _ _ _;refine kdl_extend (R:=λr s'=>match r with
  | .ok (.ret v)=>iR (model prog w) A (match v with
   | .ref a=>do
    let o <-load a
    match o.data with
     | .seq xs _=>pure xs.toList
     | _=>unsupported "internal:collect"
   | _=>unsupported "internal:collect") Q E s'
  | .ok _=>False
  | .error e=>E e s') (s:={ s with heap:=s.heap.push { cls:=.type "list",data:=.seq ([]:List iL).toArray } }) K c (K.keep _ _ hok λb _ o e=>aa _ e) _ (b8 t.1) (b8 t.2) _ 0 S (λh' tk J g k u p=>?_) h
 show iR _ A (load s.heap.objs.size >>= _) _ _ _;refine iJ (mV u ?_);exact iP (f h' tk J (λb o e=>k b o (aF (aC e)) (aa _ e)) p)
theorem qbg:∀ (ss:List Str) (us:List iL),us.length=ss.length->(∀ (j:Nat) (v:iL),us[j]?=iI v->∃ x t,ss[j]?=iI x/\v=eV x t)->mJ us ss
 | [],[],_,_=>.nil
 | [],_::_,h,_=>by cases h
 | _::_,[],h,_=>by cases h
 | x::ss,u::us,h,k=>by obtain ⟨n,t,e1,i⟩:=k 0 u rfl;cases e1;rw [i];refine .cons _ t (qbg ss us (by simpa using h) λj v e=>?_);simpa using k (j+1) v (by simpa using e)
theorem qdG {ss:List Str} {Q:iL->iO->Prop} (K:KdlSrc prog w T r d n P OK) (i:A.handled=iK) (hok:OK s.heap) (h:∀ acc:Array iL,my P acc n->mJ acc.toList ss) (j:ss.length < 64) (a:n<=sizeLine)
  (p:∀ (h1 h':Heap) tk vs e g,(∀ b o,s.heap.get? b=iI o->h1.get? b=iI o)->(∀ b o,h1.get? b=iI o->h'.get? b=iI o)->h'.get? h1.objs.size=iI (mI "list" vs e)->mJ vs.toList g->g.Perm ss->sortedS g=iM->Q (.ref h1.objs.size) { s with heap:=h',toks:=tk }) :
  iR (model prog w) A (call (.builtin "sorted") [.ref r]) Q E s:=by
 refine Calls.call_function_entry kind_sorted plain_sorted entry_sorted (args_sorted1 _) ?_; unfold Builtin.«sorted»;refine iJ (m:=checkCount "sorted" 1 1 _) (iP ?_);refine iJ (qbf (A:=A.in1) K (show A.in1.handled=iK from i) hok a λh1 tk acc k1 hi=>?_);have c:=h acc hi;have hl:acc.toList.length < 64:=by rw [c.length]; exact j
 refine iJ (wpAny_newList ?_ (by rw [iY]; lia));have Y:(h1.push (mI "list" acc.toList.toArray 0)).get? h1.objs.size=iI (mI "list" acc.toList.toArray 0):=ah _ rfl;refine iJ (j0 (i5 slot_list_sort (s:={ s with heap:=h1.push (mI "list" acc.toList.toArray 0),toks:=tk }) ⟨_,Y,rfl⟩ entry_list_sort (list_sort_treeK strKind_oneLt Y c.keysOf (λv₁ k rest e=>keyKind_strs (by rw [<-e]; exact c)) hl λf v u=>⟨_,rfl,?_⟩) (args_list_sort _)));obtain ⟨g,t,q,x⟩:=sorted_out_str c v u;obtain ⟨e,l⟩:=sortedHeap_at (out:=(arrOf f).map (·.2)) Y;refine iP ⟨_,rfl,p h1 _ tk _ e g k1 (λb o G=>?_) l t q x⟩;have hb:=aC G;rw [sortedHeap_old (aF hb) (by rw [bt]; exact cQ hb)];exact aa _ G
end
variable {α:Type}
noncomputable def Ye:List (Key×α)->Option (List Str)
 | []=>iI []
 | (.inr x,_)::l=>(Ye l).map (x::·)
 | (.inl _,_)::_=>iK
theorem XQ:∀ {l:List (Key×α)} {ss:List Str},Ye l=iI ss->l.map (·.1)=ss.map bf
 | [],ss,h=>by cases h; rfl
 | (.inr x,_)::l,ss,h=>by obtain ⟨g,e,rfl⟩:=aO.mp (show (Ye l).map (x::·)=iI ss from h);rw [aG,aG,XQ e]
 | (.inl _,_)::_,ss,h=>by cases h
theorem IsK.keys {K:Frag} {F:Hp}:∀ {kv:List (Key×V)} {ks:List (Key×D)},IsK K F kv ks->kv.map (·.1)=ks.map (·.1)
 | _,_,.nil=>rfl
 | _,_,.cons h t=>by rw [aG,aG,IsK.keys t]
theorem KV.keys:∀ {kv:List (Key×V)} {vs:List (Key×iL)},KV kv vs->kv.map (·.1)=vs.map (·.1)
 | _,_,.nil=>rfl
 | _,_,.cons h t=>by rw [aG,aG,h.1,KV.keys t]
noncomputable def kh:D->Out D
 | .dct kvs=>(match Ye kvs with
  | some ss=>if ss.length < 64/\(ss.all λy=>decide (y.length<=sizeLine))=iM then .ok (.lst ((jZ ss).map D.str)) else .bad
  | none=>.bad)
 | _=>.bad
section
variable {X:Cx} {C:Ct} {own:List Nat} {e:Expr} {fa:qU} {ma:Mo} {pos:Pos}
theorem JZ (E:X.calm=iM):Qw X C .fr (.builtin "sorted") kh:=by
 intro pins s σ H xs us Q I r h;obtain ⟨x,F,dx,rfl,f,tx,po⟩:=h;obtain ⟨u,rfl,A⟩:=we r;cases dx with
 | dct kvs=>
  obtain ⟨a,kv,rfl,G,B⟩:=tx.dct f;cases A;cases q:Ye kvs with
  | none=>simp only [kh,q] at po; exact po.elim
  | some ss=>
   simp only [kh,q] at po;by_cases hl:ss.length < 64/\(ss.all λy=>decide (y.length<=sizeLine))=iM
   ·rw [Aa hl] at po;obtain ⟨g,b,vs,rel,dd⟩:=(show ObjOk X.prog X.w H s.heap a (.dK kv) from I.hok a _ G)
    obtain ⟨ep,L⟩:=dd.dictAt;have l:vs.map (·.1)=ss.map bf:=by rw [<-KV.keys rel,B.keys,XQ q]
    have n:vs.length=ss.length:=by have:=congrArg iC l; simpa using this
    refine qdG (kdl_dict (kvs:=vs) (ep:=ep) b) (I.ok.hd E) L (λacc hi=>qbg _ _ (by rw [bJ,hi.1,n]) λj v e=>?_) hl.1 (by rw [n,iY]; lia) λh1 h' tk us e p k1 k2 hp st pm so=>?_
    ·obtain ⟨k,x,e1,K⟩:=hi.2 j v (by rw [<-bS]; exact e);have D:(vs.map (·.1))[j]?=iI k:=by rw [aH,e1]; rfl
     rw [l,aH] at D;obtain ⟨y,J,rfl⟩:=aO.mp D;rcases jr (show Ql (bf y) v=iM from K) with ⟨i,t,d,_⟩ | ⟨z,t,d,rfl⟩
     ·cases d
     ·cases d;exact ⟨_,t,J,rfl⟩
    ·rw [WF pm so] at st;have m:Inv X pins σ H { s with heap:=h1,toks:=tk }:=I.kept (t':=tk) k1;have g:(jZ ss).length<=sizeLine:=by
      rw [(qK _).length_eq,iY]
      lia
     have hq:H h1.objs.size=none:=m.hok.fresh (ay _);obtain ⟨s2,c2,f2⟩:=jT (u:=.lst ((jZ ss).map V.str)) f hq;exact ⟨.ref h1.objs.size,_,m.laid (t':=tk) (o:=.lst ((jZ ss).map V.str)) k2 (ay _) ⟨by rw [ap]; exact g,us.toList,e,QK st,by simpa [mI] using hp⟩,rfl,po _ _ _ s2 c2 ⟨_,rfl,hq,f2,_,qm,Qe λy c=>by have:=(qK _).mem_iff.mp c;exact Ae (aI.mp hl.2 y this)⟩⟩
   ·rw [Ab hl] at po; exact po.elim
 | _=>exact po.elim
end
end L2.D2
namespace PySem.F
theorem nolen_lri:mG (.type "list_reverseiterator") "__len__"=pure none:=by rw [lJ,lc]; kernel_rfl
theorem hint_lri:mG (.type "list_reverseiterator") "__length_hint__"=pure (iI (.builtin "list_reverseiterator.__length_hint__")):=by rw [lJ,lc]; kernel_rfl
end PySem.F
namespace L2.D2
open PySem PySem.Spec PyProof.Rows PySem.W
section
variable {prog:iU} {w:iV} {A:iZ} {E:iL->iO->Prop} {s:iO} {I l:Addr} {items:Array iL}
theorem Gi {R:mK->iO->Prop} (m:A.handled=iK) (d:l≠I) (hit:s.heap.IsRevIter I l ((items.size:Int) - 1)) (hl:s.heap.IsList l items) (S:Addr) (a:S≠I) (j:S≠l) (res:iL) (c:Nat) (q:s.heap.get? S=iI { cls:=.type "list",data:=.seq #[] c })
  (r:∀ h' tk J T,(∀ b o,b≠S->b≠I->s.heap.get? b=iI o->h'.get? b=iI o)->h'.get? S=iI { cls:=.type "list",dict:=iK,data:=.seq J T,slots:=#[] }->my (λi v=>items[items.size - 1 - i]?=iI v) J items.size->R (.ok (.ret res)) { s with heap:=h',toks:=tk }) (n:items.size<=sizeLine) :
  iR (model prog w) A.in1 (bw (.ref S) (.ref I) res)
   (λfin s'=>match fin with | .done f=>R (.ok f) s' | .again T=>T.quiet=iM/\lE (model prog w) A T R s') (λe s'=>R (.error e) s') s:=by
 have W:=Walks.listRev (prog:=prog) (w:=w) (A:=A.in1) m I l d items;have k:S∉[I,l]:=by simp only [ac,aU,or_false,not_or]; exact ⟨a,j⟩
 have st:0<=items.size/\s.heap.IsRevIter I l ((items.size:Int) - 1 - ((0:Nat):Int))/\s.heap.IsList l items:=⟨aZ _,by simpa using hit,hl⟩
 unfold bw;refine iJ (lP hit.typeIs ?_);have h1:cW (.ref S) (.ref I)=false:=by simp [cW,a]
 rw [Ab (by rw [h1]; decide)];refine iJ (W.self 0 _ _ _ st ?_);refine iJ (j0 ?_);unfold Builtin.List.listLengthHint;refine iJ (wpAny_specialOf hit.typeIs F.nolen_lri ?_);show iR _ A.in1 (specialOf (bu I) (aD "__length_hint__") >>= _) _ _ _;refine iJ (wpAny_specialOf hit.typeIs F.hint_lri ?_);generalize E:("list_reverseiterator.__length_hint__":String)=id0
 wp_delta
 rw [show splitId id0=iI ("list_reverseiterator", "__length_hint__") from by subst E; decide +kernel];subst E;refine iJ (lp (b:=iM) hit.typeIs (by rw [lN]; kernel_rfl) ?_);refine iP ?_;rw [Ab (by decide)];refine iP ⟨ll F.plain_extend_loop _,codeAny_extend_loopS W.toS n S k res items.size 0 _ #[] c rfl (aZ _) st q (ItemsOf.nil _) λs' J T hm u p=>?_⟩;rw [Moved.eq_with hm];refine r s'.heap s'.toks J T (λb o hb g e=>hm.heap b o (λh=>?_) e) u p;rcases ac.mp h with t | h;·exact hb t
 ·exact g (aw.mp h)
theorem qdH {Q:iL->iO->Prop} (m:A.handled=iK) (g:l≠I) (hit:s.heap.IsRevIter I l ((items.size:Int) - 1)) (hl:s.heap.IsList l items) (n:items.size<=sizeLine)
  (q:∀ h' tk J T,(∀ b o,b≠I->s.heap.get? b=iI o->h'.get? b=iI o)->h'.get? s.heap.objs.size=iI { cls:=.type "list",dict:=iK,data:=.seq J T,slots:=#[] }->my (λi v=>items[items.size - 1 - i]?=iI v) J items.size->Q (.ref s.heap.objs.size) { s with heap:=h',toks:=tk }) :
  iR (model prog w) A (call (.type "list") [.ref I]) Q E s:=by
 refine callType_codes (Q₁:=λobj d=>obj=.ref s.heap.objs.size/\d={ s with heap:=s.heap.push { cls:=.type "list",data:=.seq #[] } }) PySem.F.called_list (PySem.F.typeCall_list_1 _) PySem.F.entry_list_init
  (code_list_new _ ⟨rfl,rfl⟩) λobj d h₁=>?_
 obtain ⟨rfl,rfl⟩:=h₁;have S:(s.heap.push { cls:=.type "list",data:=.seq #[] }).get? s.heap.objs.size=iI { cls:=.type "list",data:=.seq #[] }:=ah _ rfl;obtain ⟨r,f,_⟩:=id hit;obtain ⟨ol,c,_⟩:=id hl;have a:s.heap.objs.size≠I:=b8 (aC f);have j:s.heap.objs.size≠l:=b8 (aC c);refine ⟨⟨_,S,rfl⟩,PySem.F.args_list_init_2 _ _,?_⟩;show iR _ _ (do let old <-Builtin.List.listItems (.ref s.heap.objs.size); Builtin.List.listUpdate (.ref s.heap.objs.size) (λ_=>#[]); letGo old.toList.reverse; bw (.ref s.heap.objs.size) (.ref I) .none) _ _ _;refine iJ ?_;unfold Builtin.List.listItems;refine iJ (i8 S rfl (iP ?_));show iR _ _ (updateSeq s.heap.objs.size (λ_=>#[]) >>= λ_=>letGo (#[]:Array iL).toList.reverse >>= λ_=>bw (.ref s.heap.objs.size) (.ref I) .none) _ _ _;refine iJ (wpAny_updateSeq S rfl ?_);have h:=bn (cU (λ_=>(#[]:Array iL))) S rfl;have oth:∀ b o,b≠s.heap.objs.size->s.heap.get? b=iI o->((s.heap.push { cls:=.type "list",data:=.seq #[] }).update s.heap.objs.size (cU (λ_=>(#[]:Array iL)))).get? b=iI o:=
  λb o hb e=>(cC _ _ (be hb)).trans (aa _ e)
 refine iJ (mM ?_);refine Gi (A:=A.in1) m g (hit.at λo e=>oth I o a.symm e) (hl.at λo e=>oth l o j.symm e) _ a j .none _ h (λh' tk J T k u p=>?_) n;exact ⟨rfl,q h' tk J T (λb o hb e=>k b o (aF (aC e)) hb (oth b o (aF (aC e)) e)) u p⟩
end
noncomputable def xS:D->Out D
 | .lst xs=>.ok (.lst xs.reverse)
 | _=>.bad
theorem qdI {vs:List V} {its:List iL} {acc:Array iL} (r:Vals vs its) (h:my (λi v=>its.toArray[its.toArray.size - 1 - i]?=iI v) acc its.toArray.size):Vals vs.reverse acc.toList:=by
 have e:acc.toList=its.reverse:=by
  apply dL;intro j;have s:acc.size=its.length:=by simpa using h.1
  by_cases G:j < its.length;·have c:acc.toList[j]?=iI (acc.toList[j]'(by rw [bJ]; lia)):=aA _;have h2:=h.2 j _ (by rw [<-bS]; exact c);rw [c,List.getElem?_reverse G,<-h2];simp
  ·rw [bx (by rw [bJ]; lia),bx (by rw [fq]; lia)]
 rw [e];exact r.reverse
theorem Yg {K:Frag} {F:Hp}:∀ {vs:List V} {ds:List D},IsL K F vs ds->IsL K F vs.reverse ds.reverse
 | _,_,.nil=>.nil
 | _,_,.cons h t=>by rw [cw,cw];exact (Yg t).append (.cons h .nil)
section
variable {X:Cx} {C:Ct} {own:List Nat} {e:Expr} {fa:qU} {ma:Mo} {pos:Pos}
theorem Gj {p p2 d:Pos} (T:C.K=X.K) (R:X.calm=iM) (hg:Gl X "list") (hm:X.mg "list"=iK) (N:iS "list"=iI (.type "list")) (y:Gl X "reversed") (w:X.mg "reversed"=iK) (l:iS "reversed"=iI (.type "reversed")) (S:PE X e (tE C own ma fa))
  (J:iQ [e] X.env=[(iN,eval e X.env)]:=by exact qD rfl) (f:iQ [.Call (.Name "reversed" p2) [e] [] d] X.env=[(iN,eval (.Call (.Name "reversed" p2) [e] [] d) X.env)]:=by exact qD rfl) :
  PE X (.Call (.Name "list" p) [.Call (.Name "reversed" p2) [e] [] d] [] pos) (tE C own .fr (d1 xS fa)):=by
 refine ⟨?_⟩;intro pins s σ H Q I h;refine lf (xq I hg hm N ?_ (by decide) (by decide));refine bv ?_ (by rw [f]; rfl) rfl;rw [f];show iR _ _ (spliced ((iN,eval (.Call (.Name "reversed" p2) [e] [] d) X.env)::[])) _ _ s;refine et ?_;refine lf (xq I y w l ?_ (by decide) (by decide));refine bv (thn ((qP S jD J) d pins s σ H _ I (yE (ma:=ma) h)) λus s1 ⟨vs,H1,B,r1,M⟩=>?_) (by rw [J]; rfl) rfl;obtain ⟨x,F,dx,rfl,D,tx,po⟩:=M;obtain ⟨u,rfl,L⟩:=we r1;cases dx with
 | lst ds=>
  obtain ⟨a,vs,rfl,hq,t⟩:=tx.lst D;rw [T] at hq;cases L;obtain ⟨its,E,j,G⟩:=B.list hq;have pl:s1.heap.IsList a its.toArray:=by obtain ⟨o,n,P,A,_,z⟩:=j;exact ⟨o,P,A,n,z⟩
  refine call_reversed_list pl ?_;refine fH ?_;have O:=ah (h:=s1.heap) (o:=revObj a ((its.toArray.size:Int) - 1)) ;have i:(s1.heap.push (revObj a ((its.toArray.size:Int) - 1))).IsList a its.toArray:=pl.at λo r=>aa _ r;obtain ⟨oa,q,_⟩:=id pl;have v:a≠s1.heap.objs.size:=aF (aC q);refine qdH (s:={ s1 with heap:=s1.heap.push (revObj a ((its.toArray.size:Int) - 1)) }) (I.ok.hd R) v ⟨_,ah _ rfl,rfl,rfl⟩ i (by rw [au,<-E.length]; exact G) λh' tk acc c kp hp hi=>?_;have k:∀ b o,s1.heap.get? b=iI o->h'.get? b=iI o:=λb o r=>kp b o (aF (aC r)) (aa _ r);have hsz:(s1.heap.push (revObj a ((its.toArray.size:Int) - 1))).objs.size=s1.heap.objs.size+1:=bt ..;have m:H1 (s1.heap.objs.size+1)=none:=B.hok.fresh (eC _);obtain ⟨s2,c2,f2⟩:=jT (u:=.lst vs.reverse) D m;have hp:h'.get? (s1.heap.objs.size+1)=iI { cls:=.type "list",dict:=iK,data:=.seq acc c,slots:=#[] }:=by rw [<-hsz]; exact hp
  have g:EP X pins σ Q (.ref (s1.heap.objs.size+1)) { s1 with heap:=h',toks:=tk }:=
   ⟨.ref (s1.heap.objs.size+1),_,B.laid (t':=tk) (o:=.lst vs.reverse) k (eC _) ⟨by rw [fq]; exact G,acc.toList,c,qdI E hi,by simpa using hp⟩,rfl,po _ _ _ s2 c2 ⟨_,rfl,m,f2,_,qm,Yg t⟩⟩
  rw [<-hsz] at g;exact g
 | _=>exact po.elim
end
end L2.D2
namespace L2.D2
open PySem PySem.Spec PyProof.Rows
noncomputable def KN:D->Out D
 | .lst ds=>(match xP ds with
  | some ks=>if ks.length<=1000/\(ks.all λk=>decide (0<=k/\k<=100000))=iM then .ok (.int ks.sum) else .bad
  | none=>.bad)
 | _=>.bad
section
variable {X:Cx} {C:Ct} {own:List Nat} {mb mx:Mo} {b ix:Expr} {fb:qU} {pos apos cpos px:Pos}
theorem Yh (R:C.K=X.K) (P:X.calm=iM):Qw X C .sh (.builtin "sum") KN:=by
 intro pins s σ H xs us Q I r h;obtain ⟨x,F,dx,rfl,J,tx,po⟩:=h;cases dx with
 | lst ds=>
  obtain ⟨u,rfl,N⟩:=we r;obtain ⟨a,vs,rfl,hq,O⟩:=tx.lst J;cases N;rw [R] at hq;obtain ⟨its,M,p,U⟩:=I.list hq;have pl:s.heap.IsList a its.toArray:=by obtain ⟨o,n,f,B,_,w⟩:=p;exact ⟨o,f,B,n,w⟩
  cases e:xP ds with
  | none=>have po:PoV C .sh F H (match xP ds with | some ks=>if ks.length<=1000/\(ks.all λk=>decide (0<=k/\k<=100000))=iM then .ok (.int ks.sum) else .bad | none=>.bad) Q:=po;rw [e] at po; exact po.elim
  | some ks=>
   have po:PoV C .sh F H (match xP ds with | some ks=>if ks.length<=1000/\(ks.all λk=>decide (0<=k/\k<=100000))=iM then .ok (.int ks.sum) else .bad | none=>.bad) Q:=po;rw [e] at po;by_cases m:ks.length<=1000/\(ks.all λk=>decide (0<=k/\k<=100000))=iM
   ·have po:PoV C .sh F H (if ks.length<=1000/\(ks.all λk=>decide (0<=k/\k<=100000))=iM then .ok (.int ks.sum) else .bad) Q:=po;rw [Aa m] at po;have st:=qa7 O M e;have d:a < s.heap.objs.size:=let ⟨o,f,_⟩:=pl; aC f;have L:its.length=ks.length:=st.length;refine call_sum_walk (lW (show s.heap.IsList a its.toArray from pl) ?_);refine ⟨s.heap.objs.size,_,_,_,_,_,λi=>ks.getD i 0,rfl,iH (A:=X.A.in1) (I.ok.hd P) _ a (aF d) its.toArray,⟨⟨_,ah _ rfl,rfl,rfl⟩,?_⟩,?_,λi v ev=>?_,λj G=>?_,λh' tk t' kp=>?_⟩;·obtain ⟨o,e,c⟩:=pl;exact ⟨o,aa _ e,c⟩
    ·intro z b;rw [bt];simp only [ac,aU,or_false] at b;rcases b with rfl | rfl;·exact eX _
     ·exact cQ d
    ·obtain ⟨y,t,e1,S⟩:=st.item i v (by simpa using ev);exact ⟨t,by rw [e1]; show eu y t=eu (ks.getD i 0) t; rw [dS,S]; rfl⟩
    ·rw [au,L] at G;have l:=m.2;rw [aI] at l;have h1:=Ae (l (ks.getD j 0) (by rw [dS,aA G]; exact bI G));have h2:=qeH (ks.take (j+1)) (aI.mpr λk g=>l k (List.mem_of_mem_take g));have V:(ks.take (j+1)).length<=1000:=by rw [cF]; lia
     have E:=QO ks (j+1) G;refine ⟨⟨by show (-2 ^ 63:Int)<=ks.getD j 0; lia,by show ks.getD j 0 < (2 ^ 63:Int); lia⟩,?_⟩;rw [E];exact ⟨by lia,by lia⟩
    ·have T:Inv X pins σ H { s with heap:=h',toks:=tk }:=I.kept (t':=tk) λz o D=>kp z o (λq=>by rw [aw.mp q] at D;exact cq _ (aC D)) (aa _ D);have E:preSum (λi=>ks.getD i 0) its.toArray.size=ks.sum:=by rw [au,L,QO ks _ (ay _),fW]
     exact ⟨.int ks.sum,H,T,⟨t',by rw [E]⟩,po _ F H J .refl (.int _)⟩
   ·have po:PoV C .sh F H (if ks.length<=1000/\(ks.all λk=>decide (0<=k/\k<=100000))=iM then .ok (.int ks.sum) else .bad) Q:=po;rw [Ab m] at po; exact po.elim
 | _=>exact po.elim
end
open PySem.SeqAt
open AutoSeq1 (wpAny_loadPart')
open MeetsSeq MeetsSeq2 MeetsSeq3
end L2.D2
namespace L2.D2
open PySem PySem.Spec PyProof.Rows
open PySem.SeqAt
noncomputable def ltZ:List Int->List Int->Bool
 | x::xs,y::ys=>if x=y then ltZ xs ys else decide (x < y)
 | [],_::_=>iM
 | _,[]=>iN
end L2.D2
namespace L2.D2
open PySem PySem.Spec PyProof.Rows
open AutoSeq1 (wpAny_loadPart')
theorem qbh (l:Addr) (items:Array iL) (n:Nat) (dct:Option Addr) (sl:Array (Option iL)):Meets (Builtin.«enumerate.__new__» ⟨[.type "enumerate",.ref l],[]⟩) (λ_ R s=>s.heap.get? l=iI { cls:=.type "tuple",dict:=dct,data:=.seq items n,slots:=sl } /\
   R (.ok (.ret (.ref (s.heap.push { cls:=.type "tuple_iterator",data:=.fields #[.ref l,.int 0 0] }).objs.size)))
    { s with heap:=(s.heap.push { cls:=.type "tuple_iterator",data:=.fields #[.ref l,.int 0 0] }).push { cls:=.type "enumerate",data:=.fields #[.none,.bool iN,.ref s.heap.objs.size,j4 0,.none,.none] } }):=
 .of_wp λprog w A R s h=>by
  obtain ⟨hp,g,d,tk,os⟩:=s; obtain ⟨hl,h⟩:=h;have b:=sub_enumerate;have a:Heap.IsTuple (iE ⟨hp,g,d,tk,os⟩) l items:=⟨_,hl,rfl,n,rfl⟩
  wp_walk using mi hl
  refine wpAny_stack_any λst=>iP ?_;split
  ·rename_i c _ _ _ _ _;cases (c == fZ "enumerate")
   ·wp_walk using mi hl,lG a
    exact ⟨_,rfl,h⟩
   ·wp_walk using mi hl,lG a
    exact ⟨_,rfl,h⟩
  ·wp_walk using mi hl,lG a
   exact ⟨_,rfl,h⟩
variable {s:iO} {l:Addr} {items:Array iL}
theorem yj {prog:iU} {w:iV} {A:iZ} {E:iL->iO->Prop} {Q:iL->iO->Prop} (a:s.heap.IsTuple l items)
  (h:∀ h',IsEnum h' (s.heap.objs.size+1) s.heap.objs.size 0 .none->h'.IsTupleIter s.heap.objs.size l 0->h'.objs.size=s.heap.objs.size+2 ->(∀ b o,s.heap.get? b=iI o->h'.get? b=iI o)->Q (.ref (s.heap.objs.size+1)) { s with heap:=h' }) :
  iR (model prog w) A (call (.type "enumerate") [.ref l]) Q E s:=by
 obtain ⟨⟨c,dct,t,sl⟩,hl,d,n,hd⟩:=a;replace d:c=.type "tuple":=d;replace hd:t=.seq items n:=hd;subst d hd;refine callType_new F.called_enumerate (by decide) (F.typeCall_enumerate_1 _) (F.newCall_enumerate_1 _) (λobj=>F.args_object_init_2 obj _) F.entry_enumerate_new (qbh l items n dct sl) ⟨hl,?_⟩;have z:(s.heap.push { cls:=.type "tuple_iterator",data:=.fields #[.ref l,.int 0 0] }).objs.size=s.heap.objs.size+1:=bt ..;show _/\_;rw [z];have g:IsEnum ((s.heap.push { cls:=.type "tuple_iterator",data:=.fields #[.ref l,.int 0 0] }).push { cls:=.type "enumerate",data:=.fields #[.none,.bool iN,.ref s.heap.objs.size,j4 0,.none,.none] }) (s.heap.objs.size+1) s.heap.objs.size 0 .none:=by have:=ah (s.heap.push { cls:=.type "tuple_iterator",data:=.fields #[.ref l,.int 0 0] }) (o:={ cls:=.type "enumerate",data:=.fields #[.none,.bool iN,.ref s.heap.objs.size,j4 0,.none,.none] }) rfl;rw [z] at this; exact this
 exact ⟨⟨_,g,rfl⟩,h _ g ⟨_,aa _ (ah _ rfl),rfl,rfl⟩ (by rw [bt,z]) λb o x=>aa _ (aa _ x)⟩
theorem Gk {prog:iU} {w:iV} {A:iZ} {E:iL->iO->Prop} {k:SK} {Q:iL->iO->Prop} (L:SeqK s.heap l k items)
  (h:∀ h',IsEnum h' (s.heap.objs.size+1) s.heap.objs.size 0 .none->ItK h' s.heap.objs.size l k 0->(∀ b o,s.heap.get? b=iI o->h'.get? b=iI o)->Q (.ref (s.heap.objs.size+1)) { s with heap:=h' }) :
  iR (model prog w) A (call (.type "enumerate") [.ref l]) Q E s:=by
 cases k with
 | l=>exact call_enumerate_list L λh' a b _ c=>h h' a b c
 | t=>exact yj L λh' a b _ c=>h h' a b c
variable {K:Frag} {a:Addr} {xs:List V}
theorem XR {H H':Hp} (e:Same H H'):∀ {k:SK},SqK K H a k xs->SqK K H' a k xs
 | .l,p=>e.seq p
 | .t,p=>jl e p
noncomputable def qkr (k:SK) (K:Frag) (a:Addr) (xs:List V):It:=
 ⟨λi H=>i < xs.length/\SqK K H a k xs,λi H v H'=>∃ x p,xs[i]?=iI x/\H p=iK/\v=.ref p/\H'=upd H p (.tup [.int (i:Nat),x]),λi H=>xs.length<=i/\SqK K H a k xs⟩
theorem Gm {P:iU} {w:iV} {K:Frag} {k:SK} {G:List Expr} {y} {pos:Pos} (b a:Nat) (xs:List V) (h1:a < b):Turn P w K (.Tuple G y pos) (qkr k K a xs) [b+1,b] (b+1) (λi h=>(∃ old,IsEnum h (b+1) b i old)/\ItK h b a k i/\i<=xs.length) where
 mem:=by simp
 obj:=λi h st c d=>by
  obtain ⟨⟨old,g⟩,hit,S⟩:=st;obtain ⟨o,t,l,hd⟩:=hit.obj;simp only [ac,aU,or_false] at d;rcases d with rfl | rfl;·exact ⟨_,g,λv z=>by cases z⟩
  ·exact ⟨o,t,λv z=>by rw [hd] at z; cases z⟩
 keep:=λi h h' st k=>by obtain ⟨⟨old,g⟩,hit,S⟩:=st;obtain ⟨o,t,l,hd⟩:=hit.obj;exact ⟨⟨old,k _ (by simp) _ g⟩,.of ⟨o,k _ (by simp) _ t,l,hd⟩,S⟩
 item:=by
  intro X M D N d i pins s σ H E I u st hg;subst M D N;obtain ⟨⟨old,g⟩,hit,S⟩:=st;obtain ⟨hl,q⟩:=hg;obtain ⟨its,F,n,r,e0,R,_,Q,_⟩:=Wu I q;have pl:=SeqK.of e0 Q R;have hi:i < its.length:=by rw [<-r.length]; exact hl
  have hx:its.toArray[i]?=iI its[i]:=by simp [hi]
  have J:a≠b:=aF h1;refine wpAny_pyNext_enum_itemD (JU (A:=X.A.in1) (I.ok.hd d) k b a J its.toArray) g ⟨hit,pl⟩ (by simpa using hi) (Nat.succ_ne_self b) (by
   intro z;simp only [ac,aU,or_false] at z;have h1:@LT.lt Nat _ a b:=h1;rcases z with z | z
   ·have z:@Eq Nat _ _:=z
    lia
   ·have z:@Eq Nat _ _:=z
    lia) λy h' tk f eo C Y hz kp=>?_
  have O:y=its[i]:=by have f:its.toArray[i]?=iI y:=f;rw [hx] at f;exact (aL.inj f).symm
  subst O;refine ⟨_,rfl,wpAny_letOwnedTupleGo_enum eo λhq e2 p=>?_⟩;obtain ⟨x,ex,Z⟩:=QH r (aA hi);have hT:H s.heap.objs.size=none:=I.hok.fresh (ay _);have B:b+1 < s.heap.objs.size:=aC g;have T:∀ c∈[b+1,b],c≠s.heap.objs.size:=λc d=>by
   simp only [ac,aU,or_false] at d;have lt':b+1 < s.heap.objs.size:=B;generalize s.heap.objs.size=m at lt';intro z
   lia
  have I1:Inv X pins σ (upd H s.heap.objs.size (.tup [.int (i:Nat),x])) { s with heap:=s.heap.push { cls:=.type "tuple",data:=.seq #[.int i tk,its[i]] } }:=
   I.laid (t':=s.toks) (λ_ _ e=>aa _ e) (ay _) ⟨⟨by simp only [ao,aV]; rw [iY]; decide,_,ah _ rfl,rfl⟩,[.int i tk,its[i]],.cons ⟨_,rfl⟩ (.cons Z .nil),⟨_,ah _ rfl,rfl,_,rfl⟩⟩
  have I2:Inv X pins σ (upd H s.heap.objs.size (.tup [.int (i:Nat),x])) { s with heap:=hq,toks:=tk+1 }:=by
   refine KI (s:={ s with heap:=s.heap.push { cls:=.type "tuple",data:=.seq #[.int i tk,its[i]] } }) (ch:=[b+1,b]) I1 (λc o j e=>?_) λc d=>⟨by rw [qx (T c d)]; exact (u c d).1,(u c d).2⟩
   simp only [ac,aU,or_false,not_or] at j;rw [p.2 c j.1];by_cases U:c=s.heap.objs.size;·subst U;have W:(s.heap.push ({ cls:=.type "tuple",data:=.seq #[.int i tk,its[i]] }:Obj)).get? s.heap.objs.size=iI { cls:=.type "tuple",data:=.seq #[.int i tk,its[i]] }:=ah _ rfl;rw [show (s.heap.push ({ cls:=.type "tuple",data:=.seq #[.int i tk,its[i]] }:Obj)).get? s.heap.objs.size=iI o from e] at W;rw [W];exact Y
   ·have e4:s.heap.get? c=iI o:=by have:=e;rwa [show (s.heap.push ({ cls:=.type "tuple",data:=.seq #[.int i tk,its[i]] }:Obj)).get? c=s.heap.get? c from Heap.get?_push_ne _ _ _ U] at this
    exact kp c o j.1 j.2 e4
  refine ⟨.ref s.heap.objs.size,_,I2,rfl,⟨x,_,ex,hT,rfl,rfl⟩,⟨⟨_,by simpa using e2⟩,?_,hl⟩,λc d=>by rw [qx (T c d)]; exact (u c d).1⟩;obtain ⟨o,t,l,hd⟩:=C.1.obj;exact .of ⟨o,(p.2 _ (Nat.succ_ne_self b).symm).trans t,l,hd⟩
 done:=by
  intro X M D N d i pins s σ H E I u st hg;subst M D N;obtain ⟨⟨old,g⟩,hit,S⟩:=st;obtain ⟨hl,q⟩:=hg;obtain ⟨its,F,n,r,e0,R,_,Q,_⟩:=Wu I q;have pl:=SeqK.of e0 Q R;have L:i=its.toArray.size:=by rw [au,<-r.length];exact hJ S hl
  subst L;refine wpAny_pyNext_enum_endD (JU (A:=X.A.in1) (I.ok.hd d) k b a (aF h1) its.toArray) g ⟨hit,pl⟩ λh' ex=>⟨rfl,KI (t':=s.toks) (ch:=[b+1,b]) I (λc o j e=>?_) u⟩
  simp only [ac,aU,or_false,not_or] at j;exact ex c o j.2 e
 self:=λ_ _ _ _ _ st h=>wpAny_pyIter_enum st.1.choose_spec h
theorem qgk {k:SK} {F:Hp} {ds:List D} (p:SqK K F a k xs) (t:IsL K F xs ds):ItIs K F (qkr k K a xs) (gP ds) where
 go:=λi H hi s=>by unfold gP at hi;rw [ap,List.length_zipIdx] at hi;exact ⟨by rw [t.length]; exact hi,XR s p⟩
 yld:=λi Fi H v H' d e s1 s2 y=>by
  obtain ⟨x,q,hx,n,rfl,rfl⟩:=y;obtain ⟨d1,e1,i1⟩:=t.get hx;have o:d=.tup [.int (i:Nat),d1]:=by unfold gP at e;rw [aH,List.getElem?_zipIdx,e1] at e;simpa using e.symm
  subst o;obtain ⟨g1,U⟩:=yF (u:=.tup [.int (i:Nat),x]) s2 n;exact ⟨_,U,g1,.tup (.of qm) (.cons (.int _) (.cons ((i1.mono s1).mono U.grow) .nil))⟩
 stop:=λi H hi s=>by unfold gP at hi;rw [ap,List.length_zipIdx] at hi;exact ⟨by rw [t.length]; exact hi,XR s p⟩
section
variable {X:Cx} {C:Ct} {own:List Nat} {a:Expr} {fa:qU} {ma:Mo} {pos:Pos}
theorem qdJ {k:SK} {ta:TA} {p tpos:Pos} {G:List Expr} {x1} (hg:Gl X "enumerate") (hm:X.mg "enumerate"=iK) (i:PA X [a] ta) (f:iQ [a] X.env=[(iN,eval a X.env)]):PI X (.Tuple G x1 tpos) (.Call (.Name "enumerate" p) [a] [] pos) (λσ H R=>ta σ H λvs H1=>∃ c xs,vs=[.ref c]/\SqK X.K H1 c k xs/\R (qkr k X.K c xs) H1):=by
 refine ⟨?_⟩;intro pins s σ H R I h;refine Call_ (xq I hg hm qa5 (bv (thn (i pos pins s σ H _ I h) λus s1 ⟨vs,H1,d,r1,e⟩=>?_) f rfl));obtain ⟨c,xs,rfl,o,q⟩:=e;obtain ⟨r,rfl,e1⟩:=we r1;cases e1;obtain ⟨its,W,n,v,e0,L,_,w,_⟩:=Wu d o;have pl:=SeqK.of e0 w L;have t:c < s1.heap.objs.size:=pl.lt;refine Gk pl λh' g hit kp=>?_;refine wpAny_pyIter_enum g ?_;refine ⟨s1.heap.objs.size+1,_,_,qkr k X.K c xs,H1,rfl,d.kept (t':=s1.toks) kp,Gm s1.heap.objs.size c xs t,⟨⟨_,g⟩,hit,aZ _⟩,λb hb=>?_,q⟩;have S:s1.heap.objs.size<=b:=by
  simp only [ac,aU,or_false] at hb;rcases hb with rfl | rfl;·exact dX _ _
  ·exact ay _
 exact d.fpOk S (d.hok.fresh S)
theorem KO {p tpos:Pos} {G:List Expr} {x1} (m:C.K=X.K) (hg:Gl X "enumerate") (hm:X.mg "enumerate"=iK) (f:PE X a (tE C own ma fa)) (h1:ma≠.any:=by decide) (s:iQ [a] X.env=[(iN,eval a X.env)]:=by exact qD rfl):PI X (.Tuple G x1 tpos) (.Call (.Name "enumerate" p) [a] [] pos) (tIt C own (WJ fa)):=by
 refine qaB (qdJ (k:=.l) hg hm (qP (wX f h1) jD s) s) λσ H R ⟨F,ρ,b,h⟩=>⟨F,ρ,b,PoI.bindV h λv F1 H1 d ρ1 r e c h1=>?_⟩
 have c:Is C.K F1 v d:=c;cases c with
 | lst p t=>exact ⟨_,_,rfl,by rw [<-m]; exact r.sub.seq p,by rw [<-m]; exact h1 _ F1 H1 r e (qgk (k:=.l) p t)⟩
 | _=>exact h1.elim
end
end L2.D2
namespace L2.D2
open PySem PySem.Spec PyProof.Rows
noncomputable def Itv (K:Frag) (a:Addr) (xs:List V):It:=
 ⟨λi H=>i < xs.length/\SqL K H a xs,λi H x H'=>H'=H/\xs.reverse[i]?=iI x,λi H=>xs.length<=i/\SqL K H a xs⟩
variable {K:Frag} {tg:Expr}
theorem qdK {P:iU} {w:iV} (a it:Addr) (xs:List V):Turn P w K tg (Itv K a xs) [it] it (λi h=>h.IsRevIter it a ((xs.length:Int) - 1 - i)/\i<=xs.length) where
 mem:=by simp
 obj:=λi h st b hb=>by
  have e:b=it:=by simpa using hb
  subst e;obtain ⟨⟨o,e,c,d⟩,_⟩:=st;exact ⟨o,e,λv z=>by rw [d] at z; cases z⟩
 keep:=λi h h' st k=>⟨st.1.at λo e=>k it (by simp) o e,st.2⟩
 item:=by
  intro X l j m r i pins s σ H E I g st hg;subst l j m;obtain ⟨hl,hq⟩:=hg;obtain ⟨its,t,p,L⟩:=I.list hq;have G:xs.length - 1 - i < xs.length:=by omega
  have hx:xs[xs.length - 1 - i]?=iI xs[xs.length - 1 - i]:=aA G;obtain ⟨u,B,A⟩:=t.get hx;obtain ⟨f0,f1,f2,q,f4,n⟩:=g it (by simp);have C:((xs.length:Int) - 1 - i)=((xs.length - 1 - i:Nat):Int):=by omega
  have st1:=st.1;rw [C] at st1;refine wpAny_pyNext_rev_item st1 p.isList (x:=u) (by simpa using B) λh' f y=>?_;have J:Inv X pins σ H { s with heap:=h' }:=I.turned (t':=s.toks) (λb o hb e=>(y.2 b hb).trans e) f0 f1 q f4 n;obtain ⟨o,e,c,d⟩:=id f;refine ⟨u,rfl,GO (s:={ s with heap:=h' }) e c d (by decide) ⟨xs[xs.length - 1 - i],H,J,A,⟨rfl,?_⟩,⟨?_,hl⟩,λb hb=>(g b hb).1⟩⟩;·rw [List.getElem?_reverse (by omega)];exact hx
  ·rw [show ((xs.length:Int) - 1 - ((i+1:Nat):Int))=((xs.length - 1 - i:Nat):Int) - 1 by omega];exact f
 done:=by intro X l j m r i pins s σ H E I g st hg;subst l j m;obtain ⟨hl,hq⟩:=hg;obtain ⟨f0,f1,f2,q,f4,n⟩:=g it (by simp);have st1:=st.1;rw [show ((xs.length:Int) - 1 - i)=-1 by have:=st.2; omega] at st1;exact wpAny_pyNext_rev_end (I.ok.hd r) st1 λh' D=>⟨rfl,I.turned (t':=s.toks) (λb o hb e=>D b o hb e) f0 f1 q f4 n⟩
 self:=λ_ _ _ _ _ st h=>wpAny_pyIter_revIter st.1 h
theorem qdL:iS "reversed"=iI (.type "reversed"):=by decide +kernel
noncomputable def qlq (f:qU):vB:=λρ=>(f ρ).bind λp=>match p.1 with
 | .lst xs=>.ok (xs.reverse,p.2)
 | _=>.bad
variable {F:Hp} {ds:List D}
theorem qiR {a:Addr} {xs:List V} (p:SqL K F a xs) (t:IsL K F xs ds):ItIs K F (Itv K a xs) ds.reverse where
 go:=λi H hi s=>⟨by rw [t.length]; simpa using hi,s.seq p⟩
 yld:=λi Fi H v H' d e s1 s2 y=>by obtain ⟨rfl,hx⟩:=y;obtain ⟨d1,e1,i1⟩:=(Yg t).get hx;rw [e] at e1;cases e1;exact ⟨Fi,.refl,s2,i1.mono s1⟩
 stop:=λi H hi s=>⟨by rw [t.length]; simpa using hi,s.seq p⟩
variable {a:Expr} {X:Cx} {C:Ct} {own:List Nat} {ma:Mo}
section
variable {fa:qU} {pos:Pos}
theorem qiS {ta:TA} {p:Pos} (hg:Gl X "reversed") (hm:X.mg "reversed"=iK) (g:PA X [a] ta) (f:iQ [a] X.env=[(iN,eval a X.env)]):PI X tg (.Call (.Name "reversed" p) [a] [] pos) (λσ H R=>ta σ H λvs H1=>∃ k xs,vs=[.ref k]/\SqL X.K H1 k xs/\R (Itv X.K k xs) H1):=by
 refine ⟨?_⟩;intro pins s σ H R I h;refine Call_ (xq I hg hm qdL (bv (thn (g pos pins s σ H _ I h) λus s1 ⟨vs,H1,d,r1,c⟩=>?_) f rfl));obtain ⟨k,xs,rfl,w,q⟩:=c;obtain ⟨r,rfl,e1⟩:=we r1;cases e1;obtain ⟨its,n,pl,_⟩:=d.list w;refine call_reversed_list pl.isList ?_;have hit:(s1.heap.push (revObj k ((its.toArray.size:Int) - 1))).IsRevIter s1.heap.objs.size k ((xs.length:Int) - 1 - (0:Nat)):=by refine ⟨_,ah _ rfl,rfl,?_⟩;rw [au,<-n.length];simp [revObj]
 refine wpAny_pyIter_revIter (s:={ s1 with heap:=s1.heap.push (revObj k ((its.toArray.size:Int) - 1)) }) hit ?_;refine ⟨s1.heap.objs.size,_,_,Itv X.K k xs,H1,rfl,d.kept (t':=s1.toks) λb o e=>aa _ e,qdK k s1.heap.objs.size xs,⟨hit,aZ _⟩,λb hb=>?_,q⟩;have e:b=s1.heap.objs.size:=by simpa using hb
 subst e;exact d.fpOk (ay _) (d.hok.fresh (ay _))
theorem qgl {p:Pos} (m:C.K=X.K) (hg:Gl X "reversed") (hm:X.mg "reversed"=iK) (f:PE X a (tE C own ma fa)) (h1:ma≠.any:=by decide) (s:iQ [a] X.env=[(iN,eval a X.env)]:=by exact qD rfl):PI X tg (.Call (.Name "reversed" p) [a] [] pos) (tIt C own (qlq fa)):=by
 refine qaB (qiS hg hm (qP (wX f h1) jD s) s) λσ H R ⟨F,ρ,b,h⟩=>⟨F,ρ,b,PoI.bindV h λv F1 H1 d ρ1 r k c h1=>?_⟩
 have c:Is C.K F1 v d:=c;cases c with
 | lst p t=>exact ⟨_,_,rfl,by rw [<-m]; exact r.sub.seq p,by rw [<-m]; exact h1 _ F1 H1 r k (qiR p t)⟩
 | _=>exact h1.elim
end
section
variable {m mb:Mo} {b e:Expr} {fa fb fe:qU} {apos cpos px:Pos}
noncomputable def qks (y:Str):iL->Bool
 | .str x _=>x.cps.toList == y.cps.toList
 | _=>iN
theorem qeI {y:Str}:∀ (ss:List Str) (its:List iL),Vals (ss.map V.str) its->y∈ss->∃ j,∃ G:j < its.length,qks y its[j]=iM/\(∀ m (hm:m < its.length),m < j->qks y its[m]=iN)/\Vals ((ss.erase y).map V.str) (its.eraseIdx j)
 | x::ss,u::its,.cons r rs,hy=>by
  obtain ⟨t,rfl⟩:=(show ∃ t,u=eV x t from r)
  by_cases q:x=y;·subst q;refine ⟨0,by simp,by simp [qks],λm hm h=>absurd h (dB _),?_⟩;rw [List.erase_cons_head];exact rs
  ·obtain ⟨j,G,h1,h2,f⟩:=qeI ss its rs ((ac.mp hy).resolve_left λz=>q z.symm);refine ⟨j+1,by simp; omega,h1,λm hm h=>?_,?_⟩
   ·cases m with
    | zero=>show (x.cps.toList == y.cps.toList)=iN;refine beq_eq_false_iff_ne.mpr λz=>q ?_;obtain ⟨x⟩:=x;obtain ⟨y⟩:=y;have z:x.toList=y.toList:=z;rw [Array.toList_inj.mp z]
    | succ m=>exact h2 m (by simpa using hm) (by omega)
   ·rw [List.erase_cons_tail (by simpa using q)];exact .cons ⟨t,rfl⟩ f
def qlr:V->List V->Hp->VK->Prop:=λx vs H Q=>∃ (l:Addr) (ss:List Str) (y:Str),x=.ref l/\vs=[.str y]/\H l=iI (.lst (ss.map V.str))/\y∈ss/\Q .non (upd H l (.lst ((ss.erase y).map V.str)))
theorem qiT:MtM X "list.remove" qlr:=by
 intro pins s σ H x vs v us Q I d g h;obtain ⟨l,ss,y,rfl,rfl,c,C,q⟩:=h;cases d;obtain ⟨u,rfl,A⟩:=g.one;obtain ⟨t,rfl⟩:=A;obtain ⟨z,its,n,r,hl,e⟩:=I.lstM c;obtain ⟨j,G,h1,h2,o⟩:=qeI ss its r C;refine lM PySem.F.slot_list_remove ⟨_,e,rfl⟩ PySem.F.entry_list_remove (PySem.F.args_list_remove_2 _ _)
  (MeetsSeq.list_remove l its.toArray n (.str y t) (qks y) (λw k=>?_) j (by simpa using G) (by simpa using h1) (λm hm b=>by simpa using h2 m (by simpa using hm) b) (by rw [au]; lia)) ⟨e,?_⟩
 ·obtain ⟨i,hi,rfl⟩:=dR.mp (show w∈its by simpa using k);obtain ⟨x,ex,d⟩:=Vals.getE r hi;rw [aH] at ex;obtain ⟨f,_,rfl⟩:=aO.mp ex;obtain ⟨t',p⟩:=(show ∃ t,its[i]=eV f t from d)
  rw [p];exact SeqRoads2.EqGives.str _ _ _ _
 ·refine ⟨.non,_,I.lset (its':=its.eraseIdx j) c e ?_ o ?_,rfl,q⟩;·show its.toArray.eraseIdxIfInBounds j=(its.eraseIdx j).toArray;rw [List.eraseIdxIfInBounds_toArray]
  ·have:=List.length_erase_le (a:=y) (l:=ss);rw [ap] at z ⊢
   lia
noncomputable def qgm (ds:List D) (d:D):Out (List D):=match zt ds,d with
 | some ss,.str y=>if y∈ss then .ok ((ss.erase y).map D.str) else .bad
 | _,_=>.bad
theorem qiU {vs:List V} {ss:List Str} (l:IsL K F vs ds) (e:zt ds=iI ss):vs=ss.map V.str/\∀ x∈ss,x.length<=sizeLine:=by
 induction ds generalizing vs ss with
 | nil=>cases l;cases e;exact ⟨rfl,λx h=>nomatch h⟩
 | cons d ds j=>
  cases l with
  | cons i l=>
   cases d with
   | str x=>
    obtain ⟨s2,q,rfl⟩:=aO.mp (show (zt ds).map (x::·)=iI ss from e);obtain ⟨h1,h2⟩:=j l q;cases i with
    | str a=>exact ⟨by rw [h1]; rfl,λy C=>(ac.mp C).elim (λz=>z ▸ a) (h2 y)⟩
   | _=>cases e
theorem qbi {i:Nat} {x:Str} {px apos cpos:Pos} (t:X.N[i]?=iI x) (o:Vis X.env.scope x) (p:i∈own) (q:PE X e (tE C own m fe)) (hm:m≠.any:=by decide)
  (hd:Dbg x:=by decide) (f:Cdk x:=by decide)
  (c:i7 (.Name x px) "remove" X.env (eval (.Name x px) X.env)=eval (.Name x px) X.env:=by rfl)
  (w:((j3 cpos (iQ [e] X.env)).all (λx=>!x.1)&&(lI cpos (j8 [] X.env)).all (λx=>x.1.isSome)
   && decide ([e].length+([]:List j9).length+(if ([]:List j9).isEmpty then 0 else 1) < 30))=true:=by exact wg rfl)
  (b:(apos.endLine == cpos.line)=true:=by rfl) (s:iQ [e] X.env=[(iN,eval e X.env)]:=by exact qD rfl) :
  PE X (.Call (.Attribute (.Name x px) "remove" apos) [e] [] cpos) (tE C own .sh (ge i qgm fe)):=by
 refine jE (qab db PySem.F.slot_list_remove PySem.F.type_list_remove qiT (wQ t o hd f) (qP (wX q hm) jD s) c w b s rfl) λσ H Q h=>?_;have r:∀ (a:Addr) (xs:List V) (ds ys:List D) (v:V) (d:D) (F H:Hp),Same F H->H a=iI (.lst xs)->F a=iK->IsL C.K F xs ds->Is C.K F v d->qgm ds d=.ok ys->(∀ zs,IsL C.K F zs ys->Q .non (upd H a (.lst zs)))->qlr (.ref a) [v] H Q:=λa xs ds ys v d F H A u B ix j g k=>by
  unfold qgm at g;split at g
  ·rename_i ss y e1;split at g;·rename_i n;cases g;cases j;obtain ⟨hx,hl⟩:=qiU ix e1;subst hx;exact ⟨a,ss,y,rfl,rfl,u,n,k _ (Qe λz l=>hl z (List.mem_of_mem_erase l))⟩
   ·cases g
  ·cases g
 obtain ⟨a,xs,h1,h2,k⟩:=Xw (R:=λx v H Q=>qlr x [v] H Q) p hm r h;exact ⟨.ref a,h1,.inl ⟨rfl,xs,.inl (.inl h2)⟩,k⟩
theorem qiV {o e:Expr} {to:TE} {t:TA} {name:Str} {id:String} {r:V->List V->Hp->VK->Prop} (slot:Slot "tuple" name id) (y:typeOf (.builtin id)=pure (.type "method_descriptor")) (hm:MtR X id r) (l:PE X o to) (j:PA X [e] t)
  (c:i7 o name X.env (eval o X.env)=eval o X.env)
  (w:((j3 cpos (iQ [e] X.env)).all (λx=>!x.1)&&(lI cpos (j8 [] X.env)).all (λx=>x.1.isSome)
   && decide ([e].length+([]:List j9).length+(if ([]:List j9).isEmpty then 0 else 1) < 30))=iM)
  (b:(apos.endLine == cpos.line)=iM) (g:iQ [e] X.env=[(iN,eval e X.env)]) :
  PE X (.Call (.Attribute o name apos) [e] [] cpos) (λσ H Q=>to σ H λx H1=>(∃ p xs,x=.ref p/\SqT X.K H1 p xs)/\t σ H1 λxs H2=>r x xs H2 Q):=by
 refine ⟨?_⟩;intro pins s σ H Q I h;refine wpAny_Call_method_late c w b rfl (thn (l pins s σ H _ I h) λv s1 ⟨x,H1,d,r1,ty,f⟩=>?_);obtain ⟨p,xs,rfl,hq⟩:=ty;cases r1;obtain ⟨o',e1,k⟩:=d.tupleN hq;obtain ⟨its,n,⟨o2,D,i,_⟩,_⟩:=d.tuple hq;refine ⟨"tuple",id,PySem.F.plainAttrs_tuple,slot,y,⟨o2,D,i⟩,λa z=>by cases z; exact ⟨o',e1,k⟩,?_⟩;have hA:=j cpos pins s1 σ H1 _ d f;rw [g] at hA ⊢;refine eO rfl (dP ?_);exact thn hA λus s2 ⟨vs,H2,m,r2,q⟩=>hm pins s2 σ H2 (.ref p) vs _ us Q m rfl r2 q
noncomputable def qhq:D->Bool
 | .tup _=>iM
 | _=>iN
noncomputable def yp:D->D->Out D
 | .tup ds,e=>match Qt 7 e ds with
  | some _=>.ok (.int ((ds.map λd=>eqN 7 d e == iI iM).countP id:Nat))
  | none=>.bad
 | _,_=>.bad
theorem qbj (E:C.K=X.K) (B:X.A.units+64 < lb):MtD X C .sh "tuple.count" yp:=by
 intro pins s σ H x vs v us Q I k m h;obtain ⟨y,F,dx,g,rfl,f,tx,ty,po⟩:=h;rw [E] at tx ty;obtain ⟨u,rfl,o⟩:=m.one;unfold yp at po;cases dx <;> try exact po.elim
 rename_i ds;cases e:Qt 7 g ds with
 | none=>simp only [e] at po; exact po.elim
 | some b=>simp only [e] at po;obtain ⟨F',g',c,q⟩:=ty.is f;obtain ⟨a,xs,rfl,p,i⟩:=tx.tup f;cases k;obtain ⟨its,r,pl,G⟩:=I.tuple p;obtain ⟨h1,h2⟩:=We (A:=X.A) (y:=.non) (a:=a) (u:=.none) I B c q o (i.mono g') r e;have D:=qa0 I c (i.mono g') r e;obtain ⟨⟨cls,dd,data,sl⟩,l,j,n,t⟩:=pl;simp only at j t;subst j t;refine lM PySem.F.slot_tuple_count ⟨_,l,rfl⟩ PySem.F.entry_tuple_count (PySem.F.args_tuple_count_2 _ _) (SeqAt.tuple_countAt a _ n dd sl u (GI X F' 7 g)) ⟨l,λw z=>h2 w z,?_⟩;refine ⟨.int ((ds.map λd=>eqN 7 d g == iI iM).countP id:Nat),H,I.tok _,⟨s.toks,?_⟩,po _ F H f .refl (.int _)⟩;rw [<-D,List.countP_map];rfl
theorem qbk (m:C.K=X.K) (u:X.A.units+64 < lb)
  (g:PE X a (tE C own ma fa)) (hb:PE X b (tE C own mb fb)) (f:ma≠.any:=by decide)
  (c:i7 a "count" X.env (eval a X.env)=eval a X.env:=by rfl)
  (w:((j3 cpos (iQ [b] X.env)).all (λx=>!x.1)&&(lI cpos (j8 [] X.env)).all (λx=>x.1.isSome)
   && decide ([b].length+([]:List j9).length+(if ([]:List j9).isEmpty then 0 else 1) < 30))=true:=by exact wg rfl)
  (e:(apos.endLine == cpos.line)=true:=by rfl) (s:iQ [b] X.env=[(iN,eval b X.env)]:=by exact qD rfl) :
  PE X (.Call (.Attribute a "count" apos) [b] [] cpos) (tE C own .sh (dM qhq yp fa fb)):=by
 refine jE (qiV PySem.F.slot_tuple_count PySem.F.type_tuple_count (qbj m u) g (qP hb jD s) c w e s) λσ H Q h=>?_;obtain ⟨F,ρ,p,h⟩:=qf6 (ma:=ma) (mb:=mb) f h;refine ⟨F,ρ,p,Po.imp h λx H1 h1=>?_⟩;obtain ⟨⟨F1,dx,d,tx,k⟩,h2⟩:=h1;refine ⟨?_,?_⟩
 ·cases dx <;> try (cases k; done)
  obtain ⟨a,vs,rfl,hq,t⟩:=tx.tup d;exact ⟨a,vs,rfl,by rw [<-m]; exact hq⟩
 ·obtain ⟨i,ρ2,r,h2⟩:=h2;exact ⟨i,ρ2,r,Po.imp h2 λy H2 q=>⟨y,q.choose,q.choose_spec.choose,q.choose_spec.choose_spec.choose,rfl,q.choose_spec.choose_spec.choose_spec⟩⟩
end
end L2.D2
namespace L2.D2
open PySem PySem.Spec PyProof.Rows PySem.W
theorem uj:∀ l:List Int,xP (l.map D.int)=iI l
 | []=>rfl
 | x::l=>by show (xP (l.map D.int)).map (x::·)=iI (x::l);rw [uj l];rfl
end L2.D2
namespace L2.D2
open PySem PySem.Spec PyProof.Rows
noncomputable def qbl:D->Out D
 | .dct kvs=>.ok (.dct kvs)
 | _=>.bad
variable {X:Cx} {C:Ct}
theorem qdM (m:C.K=X.K):Qw X C .fr (.type "dict") qbl:=by
 intro pins s σ H xs us Q I r h;obtain ⟨x,F,dx,rfl,y,tx,po⟩:=h;cases dx <;> try exact po.elim
 rename_i ks;have po:PoV C .fr F H (.ok (.dct ks)) Q:=po;obtain ⟨a,kv,rfl,hq,i⟩:=tx.dct y;obtain ⟨u,rfl,A⟩:=we r;cases A;obtain ⟨z,S,vs,p,hd⟩:=(show ObjOk X.prog X.w H s.heap a (.dK kv) from I.hok a _ hq)
 have hl:=p.length;refine kt_call_dict S hd (by lia) λh' f d=>?_;have kp:∀ b o,s.heap.get? b=iI o->h'.get? b=iI o:=λb o e=>(d.2 b (aF (aC e))).trans (aa _ e);have hp:H s.heap.objs.size=none:=I.hok.fresh (ay _);obtain ⟨s2,c2,D⟩:=jT (u:=.dK kv) y hp;have c:(s.heap.objs.size == lj)=false:=beq_eq_false_iff_ne.mpr (b8 I.big);exact ⟨.ref s.heap.objs.size,_,I.laid (o:=.dK kv) (t':=s.toks) kp (ay _) (qai z c p f),rfl,po _ F _ s2 c2 ⟨_,rfl,hp,D,_,qm,i⟩⟩
noncomputable def qdN {α:Type} (ds:List α) (lo hi:Option Int):List α:=(ds.drop (HT.sIx ds.length 0 lo)).take (HT.sIx ds.length ds.length hi - HT.sIx ds.length 0 lo)
noncomputable def qiW (lo hi:Option Int):D->Out D
 | .lst ds=>.ok (.lst (qdN ds lo hi))
 | _=>.bad
noncomputable def vg (fa:qU) (l u:Option (qU)):qU:=λρ=>(fa ρ).bind λp=>(KG l p.2).bind λa=>(KG u a.2).bind λb=>(qiW a.1 b.1 p.1).plain.bind λd=>.ok (d,b.2)
section
variable {own:List Nat} {e:Expr} {fa:qU} {ma:Mo} {pos p2:Pos}
theorem qls (m:C.K=X.K):SlR X (λx lo hi H Q=>∃ F d,Same F H/\Is C.K F x d/\PoV C .sh F H (qiW lo hi d) Q):=by
 intro pins s σ H x v vl b lo hi sl Q I r e pl c h;obtain ⟨F,d,y,is,po⟩:=h;cases d with
 | lst ds=>
  cases is with
  | @lst a xs _ hq t=>
   have po:PoV C .sh F H (.ok (.lst (qdN ds lo hi))) Q:=po;refine qfx pins s σ H _ v vl b lo hi sl Q I r e pl c ⟨a,xs,rfl,by rw [<-m]; exact y.seq hq,λp hp=>?_⟩;obtain ⟨s2,c2⟩:=yF (u:=.lst (qfu xs lo hi)) y hp;have i:IsL C.K F (qfu xs lo hi) (qdN ds lo hi):=by unfold qfu qdN;rw [t.length];exact IsL.take _ (IsL.drop _ t)
   exact po _ _ _ s2 c2 (.lst (.inl (.inl qm)) (i.mono c2.grow))
 | _=>exact po.elim
theorem WN {lo hi:Option Expr} {l u:Option (qU)} (n:C.K=X.K) (j:PE X e (tE C own ma fa)) (hl:PO X lo (tO C own (KG l))) (i:PO X hi (tO C own (KG u))) (g:ma≠.any:=by decide):PE X (.Subscript e (.Slice lo hi iK p2) pos) (tE C own .sh (vg fa l u)):=by
 refine jE (qcX (qls (C:=C) n) (wX j g) hl i) λσ H Q ⟨F,ρ,p,h⟩=>⟨F,ρ,p,Po.bind h λv F1 H1 d ρ1 f s m h1=>?_⟩
 refine ⟨F1,ρ1,f,Po.bindO h1 λq H2 a ρ2 r c2 h2=>⟨q,ρ2,r,Po.bindO h2 λF3 t b k c G o=>?_⟩⟩;exact ⟨F3,d,c.sub,(m.mono c2.grow).mono G.grow,PoV.of c o⟩
end
theorem fsc {N P:List Str} {sc:lY} (a:sc.kind=.function:=by rfl) (b:sc.isCoroutine=false:=by rfl) (c:sc.isGenerator=false:=by rfl) (d:N.Nodup:=by decide +kernel) (e:N.take P.length=P:=by rfl) (f:∀ x∈P,sc.names.lookup x=iI .local\/sc.names.lookup x=iI .cell:=by decide +kernel) (g:∀ y∈sc.names,y.2≠.free:=by decide +kernel):FnScope N P sc:=⟨a,b,c,d,e,f,g⟩
end L2.D2
namespace L2.D2
open PySem PySem.Spec PyProof.Rows PySem.W
section
variable {prog:iU} {w:iV} {A:iZ} {E:iL->iO->Prop} {s:iO}
variable {z TI TO i1 i2:Addr} {fp1 fp2:List Addr} {n1 n2 i:Nat} {P1 P2:Nat->iL->Prop} {S1 S2:Nat->Heap->Prop} {a b:iL}
end
end L2.D2
namespace L2.D2
open PySem PySem.Spec PyProof.Rows
variable {X:Cx} {C:Ct} {own:List Nat} {mr:Mo} {x:Str} {pos':Pos} {ms:List PM} {ps:List Str} {cv:Str->iL} {i:Nat}
section
variable {own':List Nat} {as:List AK} {G:jC} {fr:vB} {m ma mb:Mo} {a b e:Expr} {es:List Expr} {p pos px:Pos} {k j:Nat} {fe f fa fb:qU}
theorem cN (F:ZV X.prog X.w X.K X.mg X.base cv j x ps ms mr G) (a:PA X (e::es) (tAr C own as fr)) (d:Room k X.A:=by assumption) (h:j<=k:=by decide) (hx:vz (CXk X.prog X.w) X C.E:=by exact ZU) (hg:Gl X x:=by rfl) (v:C.cv=cv:=by rfl) (m:C.K=X.K:=by rfl) (s:ms=as.map gM:=by rfl) (c:∀ i∈jy as,i∈own:=by decide) (nd:(jy as).Nodup:=by decide) (f:frA as<=1:=by decide) (o:∀ i∈C.ox,i∈own:=by exact va rfl)
  (b:Dbg x:=by decide) (g:iQ (e::es) X.env=(iN,eval e X.env)::iQ es X.env:=by exact jF rfl) (l:(j3 pos (iQ es X.env)).any (·.1)=false:=by exact xA rfl):PE X (.Call (.Name x p) (e::es) [] pos) (tE C own mr (qp as G fr)):=
 jb F d h hx hg a v m s c nd f o b g l
theorem sl {x:Str} {px:Pos} (f:PA X es (tAr C own as fr)) (a:X.N[i]?=iI x:=by rfl) (c:Vis X.env.scope x:=by exact bY rfl) (l:i∈own:=by decide) (h:iQ (.Name x px::es) X.env=(iN,eval (.Name x px) X.env)::iQ es X.env:=by rfl)
  (hd:Dbg x:=by decide) (d:Cdk x:=by decide):PA X (.Name x px::es) (tAr C own (.sl i::as) (wj fr)):=Ky a c l f h hd d
theorem vO {x:Str} (h:X.N[i]?=iI x:=by rfl) (c:Vis X.env.scope x:=by exact bY rfl) (l:i∈own:=by decide) (hd:Dbg x:=by decide) (d:Cdk x:=by decide):PE X (.Name x pos) (tE C own .any (qe i)):=qfC h c l hd d
theorem se {x:Str} {pos':Pos} (g:PE X e (tE C own m fe)) (a:decide X.N.Nodup=true:=by kernel_rfl) (hi:X.N[i]?=iI x:=by rfl) (hx:Loc X.env.scope x:=by first | exact bY rfl | exact fE rfl) (hm:m≠.any:=by decide) (o:i∉C.io:=by exact xz rfl) (c:lm e (iI (.Name x pos')) pos.line X.env=pure false:=by rfl)
  (h:X.fn x=iM\/X.env.scope.names.lookup x=iI .local:=by first | exact .inl rfl | exact .inr rfl):PS X (.Assign [.Name x pos'] e pos) (tSt C own (vI own [i]) (jv i fe)):=qfI (Ae a) hi hx g hm o c h
theorem sO {x:Str} {pos':Pos} (g:PE X e (tE C own .fr fe)) (a:decide X.N.Nodup=true:=by kernel_rfl) (hi:X.N[i]?=iI x:=by rfl) (hx:Loc X.env.scope x:=by first | exact bY rfl | exact fE rfl) (o:i∉C.io:=by exact xz rfl) (c:lm e (iI (.Name x pos')) pos.line X.env=pure false:=by rfl)
  (h:X.fn x=iM\/X.env.scope.names.lookup x=iI .local:=by first | exact .inl rfl | exact .inr rfl):PS X (.Assign [.Name x pos'] e pos) (tSt C own (i::vI own [i]) (jv i fe)):=qde (Ae a) hi hx g o c h
theorem gn {x:Str} (a:decide X.N.Nodup=true:=by kernel_rfl) (hi:X.N[i]?=iI x:=by rfl) (hx:Loc X.env.scope x:=by first | exact bY rfl | exact fE rfl) (l:i∉own:=by decide) (o:i∉C.io:=by exact xz rfl) (h:X.fn x=iM\/X.env.scope.names.lookup x=iI .local:=by first | exact .inl rfl | exact .inr rfl):PG X (.Name x pos) (tGd C own (gNm i)):=Xp (Ae a) hi hx l o h
theorem ix (h:PE X a (tE C own ma fa)) (hb:PE X b (tE C own mb fb)) (d:Room k X.A:=by assumption) (c:Kt b:=by exact λ_ _=>rfl) (m:C.K=X.K:=by rfl) (f:ma≠.any:=by decide):PE X (.Subscript a b pos) (tE C own .sh (d2 ixD fa fb)):=qk2 m d.units h hb c f
theorem tv (h:PE X e (tE C own m f)) (a:C.K=X.K:=by rfl) (g:∀ whole,isTrue e X.env whole=(do let v <-whole; mO e.pos; holding [v] (truthy v)):=by exact λ_=>rfl):PT X e (tT C own (wZ f)):=qfG a h g
end
noncomputable def tgN:Expr->List Str
 | .Name x _=>[x]
 | .Tuple es _ _=>es.flatMap λe=>match e with
  | .Name x _=>[x]
  | _=>[]
 | _=>[]
noncomputable def cNm (tg:Expr) (N:List Str) (cap:List Nat):List Str:=tgN tg++cap.map λk=>N.getD k iA
section
variable {elt iter tg:Expr} {ifs:List Expr} {scope:lY} {pos spos:Pos} {fi:vB} {g:D->Sl->Out Sl} {ft:ym} {fe:qU} {me:Mo} {nt:Nat} {cap:List Nat}
theorem gC (a:decide X.N.Nodup=true:=by kernel_rfl) (hi:X.N[i]?=iI x:=by rfl) (hx:Loc X.env.scope x:=by first | exact bY rfl | exact fE rfl) (l:i∉own:=by decide) (o:i∉C.io:=by exact xz rfl) (h:X.fn x=iM\/X.env.scope.names.lookup x=iI .local:=by first | exact .inl rfl | exact .inr rfl):PG X (.Name x pos) (tGd C own (gNm i)):=Xp (Ae a) hi hx l o h
theorem cmp (hi:PI X tg iter (tIt C own fi)) (h:∀ fp L s' H',PE (jB X scope (cNm tg X.N cap) fp L s' H') elt (tE (ctC C nt cap.length) (ua own nt cap) me fe)) (hg:∀ fp L s' H',PG (jB X scope (cNm tg X.N cap) fp L s' H') tg (tGd (ctC C nt cap.length) (ua own nt cap) g):=by exact λ_ _ _ _=>gC) (ht:∀ fp L s' H',PTs (jB X scope (cNm tg X.N cap) fp L s' H') ifs (tT (ctC C nt cap.length) (ua own nt cap) ft):=by exact λ_ _ _ _=>Xq)
  (O:X.calm=true:=by rfl) (bs:scB X.env.scope.names scope=true:=by kernel_rfl) (b:qkb X.env.scope.names X.N scope (cNm tg X.N cap) nt cap=true:=by kernel_rfl) (f:me≠.any:=by decide) (c:∀ x,li iter X.env x=pure x:=by intro _; rfl) :
  PE X (.ListComp elt [⟨tg,iter,ifs,0⟩] scope pos) (tE C own .fr (qT own nt cap fi g ft fe)):=qfR O (qip rfl bs) (qeA rfl rfl b) hi hg ht h f c
theorem qhr {i:Nat} {x:Str} (hi:PI X tg iter (tIt C own fi)) (h:∀ fp L s' H',PE (jB X scope (cNm tg X.N cap) fp L s' H') elt (tE (ctC C nt cap.length) (ua own nt cap) me fe)) (hg:∀ fp L s' H',PG (jB X scope (cNm tg X.N cap) fp L s' H') tg (tGd (ctC C nt cap.length) (ua own nt cap) g):=by exact λ_ _ _ _=>gC) (ht:∀ fp L s' H',PTs (jB X scope (cNm tg X.N cap) fp L s' H') ifs (tT (ctC C nt cap.length) (ua own nt cap) ft):=by exact λ_ _ _ _=>Xq)
  (a:decide X.N.Nodup=true:=by kernel_rfl) (V:X.N[i]?=iI x:=by rfl) (hx:Loc X.env.scope x:=by first | exact bY rfl | exact fE rfl) (O:X.calm=true:=by rfl) (bs:scB X.env.scope.names scope=true:=by kernel_rfl) (b:qkb X.env.scope.names X.N scope (cNm tg X.N cap) nt cap=true:=by kernel_rfl) (f:me≠.any:=by decide) (o:i∉C.io:=by exact xz rfl)
  (G:lm (.ListComp elt [⟨tg,iter,ifs,0⟩] scope pos) (iI (.Name x pos')) spos.line X.env=pure true:=by rfl) (c:∀ x,li iter X.env x=pure x:=by intro _; rfl) (Y:X.fn x=iM\/X.env.scope.names.lookup x=iI .local:=by first | exact .inl rfl | exact .inr rfl) :
  PS X (.Assign [.Name x pos'] (.ListComp elt [⟨tg,iter,ifs,0⟩] scope pos) spos) (tSt C own (i::vI own [i]) (jv i (qT own nt cap fi g ft fe))):=qdl (Ae a) V hx O (qip rfl bs) (qeA rfl rfl b) hi hg ht h f o G c Y
end
section
variable {P:iU} {w:iV} {K:Frag} {mg:Str->Option iL} {base:Heap} {st:Stmt} {N:List Str} {k:Nat} {fb:qS}
theorem dW (own':List Nat) (T:kf K mg x st ps)
  (a:∀ (cdv:iL) (f:Addr) (A:iZ) (outer:List Env) (s:iO) (H:Hp) (E:XK),Room k (A.deeper (mh x (qG st) s.heap.objs.size f cdv)) ->PSs (cxk P w K mg base N x (qG st) f cdv A outer s H E) (kb st) (tSt (qhk K cv E ms mr) (jY 0 ms) own' fb))
  (S:FnScope N ps (qG st):=by exact fsc) (hl:ms.length=ps.length:=by rfl) (g:∀ i∈UA 0 ms,i∈own':=by exact va rfl) (hmr:mr=.sh\/∀ ds ρ,(fb (qt N ds))≠.ok (.nx,ρ):=by exact .inl rfl):ZV P w K mg base cv (k+1) x ps ms mr (jJ N ms fb):=qez T S a hl g hmr
end
end L2.D2
namespace L2.D2
open PySem
end L2.D2
namespace L2.D2
open PySem PySem.SetTable
end L2.D2
namespace L2.D2
open PySem PySem.Spec PyProof.Rows
variable {r:Addr} {n:Nat}
section
variable {prog:iU} {w:iV} {A:iZ} {E:iL->iO->Prop} {s:iO}
theorem Gn {R:mK->iO->Prop} {a b c:Int} {t u v:Tok} (g:A.handled=iK) (e:IsRange s.heap r a b c t u v) (h:fy a b c=iM) (f:bZ a b c=n) (d:n<=2 ^ 24) (S:Addr) (j:s.heap.get? S=iI { cls:=.type "list",data:=.seq #[] })
  (k:∀ h' tk J T,(∀ b o,b≠S->s.heap.get? b=iI o->h'.get? b=iI o)->h'.get? S=iI { cls:=.type "list",dict:=iK,data:=.seq J T,slots:=#[] }->my (λi v=>∃ t,v=.int (a+i * c) t) J n->R (.ok (.ret (.ref S))) { s with heap:=h',toks:=tk }) :
  lE (model prog w) A (.builtin "list.__iadd__" ⟨[.ref S,.ref r],[]⟩) R s:=by
 refine i6 PySem.F.entry_list_iadd ?_;rw [bh df _];exact wpAny_extend_range (A:=A) g e h f d S _ _ j k
theorem KQ {Q:List iL->iO->Prop} {a b c:Int} {t u v:Tok} (m:A.handled=iK) (g:IsRange s.heap r a b c t u v) (h:fy a b c=iM) (j:bZ a b c=n) (d:n<=2 ^ 24)
  (q:∀ h' tk acc,(∀ b o,s.heap.get? b=iI o->h'.get? b=iI o)->my (λi v=>∃ t,v=.int (a+i * c) t) acc n->Q acc.toList { s with heap:=h',toks:=tk }):iR (model prog w) A (collect (.ref r)) Q E s:=by
 unfold collect;refine iJ (mm (i6 PySem.F.entry_proto_collect ?_));rw [bh PySem.F.plain_proto_collect _];show iR _ A.in1 (mZ [] >>= λl=>again (.builtin "list.__iadd__" ⟨[l,.ref r],[]⟩)) _ _ s;refine iJ (iX ?_);refine iP ⟨ll df _,Gn m (aa _ g) h j d s.heap.objs.size (ah _ rfl) λh' tk J T k f p=>?_⟩;show iR _ A (load s.heap.objs.size >>= _) _ _ _;refine iJ (mV f ?_);exact iP (q h' tk J (λb o e=>k b o (aF (aC e)) (aa _ e)) p)
end
theorem zw (r:Addr) (a b c:Int) (t u v:Tok) (n:Nat) (l:fy a b c=iM) (q:bZ a b c=n) (m:n<=1000000):Meets (Builtin.«tuple.__new__» ⟨[.type "tuple",.ref r],[]⟩) (λA R s=>A.handled=iK/\IsRange s.heap r a b c t u v/\∀ (h':Heap) (tk:Nat) (acc:Array iL),(∀ b o,s.heap.get? b=iI o->h'.get? b=iI o)->my (λi v=>∃ t,v=.int (a+i * c) t) acc n ->R (.ok (.ret (.ref h'.objs.size))) { s with heap:=h'.push { cls:=.type "tuple",data:=.seq acc },toks:=tk }):=
 .of_wp λprog w A R s h=>by
  obtain ⟨z,k,h⟩:=h;have j:=sub_tuple_self;have d:=init_tuple_lookup;have x:=madeHere_tuple;have T:s.TypeIs (.ref r) "range":=⟨_,k,rfl⟩
  have f:A.in1.handled=none:=z;have g:n<=2 ^ 24:=by omega
  wp_walk using lP T,KQ f k l q g
  intro h' tk acc y p;show iR _ _ (Builtin.Tuple.tupleExact acc.toList.toArray >>= λv=>ret v) _ _ _;unfold Builtin.Tuple.tupleExact;refine iJ (iX ?_ (show acc.toList.toArray.size<=sizeLine by simp only [Array.toArray_toList]; rw [p.1,iY]; omega));refine iP ⟨_,rfl,?_⟩;have e:acc.toList.toArray=acc:=by simp
  rw [e];exact h h' tk acc y p
section
variable {X:Cx} {C:Ct} {own:List Nat} {e:Expr} {fa:qU} {ma:Mo} {pos:Pos}
theorem qgn (f:X.calm=iM):wW X (.type "tuple") (λxs H Q=>∃ r lo hi,xs=[.ref r]/\H r=iI (qeG r lo hi)/\(qa3 lo hi/\hi - lo<=1000000)/\∀ p,H p=iK->Q (.ref p) (upd H p (.tup ((aN (hi - lo).toNat).map λk=>V.int (lo+(k:Nat)))))):=by
 intro pins s σ H xs us Q I r h;obtain ⟨a,lo,hi,rfl,g,z,q⟩:=h;obtain ⟨u,rfl,A⟩:=we r;cases A;obtain ⟨t,u,v,c⟩:=(I.hok a _ g).1;have m:bZ lo hi 1=(((hi - lo).toNat:Nat):Int):=by rw [rangeSize_one]; split <;> lia
 refine callType_new PySem.F.called_tuple (by decide) (PySem.F.typeCall_tuple_1 _) (PySem.F.newCall_tuple_1 _) (λobj=>PySem.F.args_object_init_2 obj _) PySem.F.entry_tuple_new
  (zw a lo hi 1 t u v (hi - lo).toNat (small_one z.1.1.1 z.1.1.2 z.1.2.1 z.1.2.2) m (by lia)) ⟨I.ok.hd f,c,λh' tk acc kp it=>⟨⟨_,ah _ rfl,rfl⟩,?_⟩⟩
 have d:Inv X pins σ H { s with heap:=h',toks:=tk }:=I.kept (t':=tk) kp;refine ⟨.ref h'.objs.size,_,d.laid (t':=tk) (λb o e=>aa _ e) (ay _) (show ObjOk X.prog X.w _ _ _ (.tup ((aN (hi - lo).toNat).map λk=>V.int (lo+(k:Nat)))) from ⟨⟨by rw [ap,bL,iY]; lia,_,ah _ rfl,rfl⟩,acc.toList,?_,by simpa using IsTup.new h' acc⟩),rfl,q _ (d.hok.fresh (ay _))⟩;refine Yc (by rw [ap,bL,bJ,it.1]) λj x w ex i=>?_;rw [aH] at ex;obtain ⟨k,l,rfl⟩:=aO.mp ex;obtain ⟨G,rfl⟩:=aE.mp l;obtain ⟨t,rfl⟩:=it.2 j w (by simpa using i);exact ⟨t,by simp⟩
noncomputable def vJ:D->Out D
 | .int j=>if qa3 0 j/\j - 0<=1000000 then .ok (.tup (Jw 0 (j - 0).toNat)) else .bad
 | _=>.bad
theorem WO {p p2 a:Pos} (m:X.calm=iM) (hg:Gl X "tuple") (hm:X.mg "tuple"=iK) (v:iS "tuple"=iI (.type "tuple")) (i:Gl X "range") (g:X.mg "range"=iK) (d:iS "range"=iI (.type "range")) (n:PE X e (tE C own ma fa))
  (b:iQ [e] X.env=[(iN,eval e X.env)]:=by exact qD rfl) (c:iQ [.Call (.Name "range" p2) [e] [] a] X.env=[(iN,eval (.Call (.Name "range" p2) [e] [] a) X.env)]:=by exact qD rfl) :
  PE X (.Call (.Name "tuple" p) [.Call (.Name "range" p2) [e] [] a] [] pos) (tE C own .sh (d1 vJ fa)):=by
 refine jE (ka (qgn m) hg hm v (qP (ka WH i g d (qP n jD b) (by decide) (by decide) (by rw [b]; rfl) rfl) jD c) (by decide) (by decide) (by rw [c]; rfl) rfl) λσ H Q h=>?_;refine yL (yE (ma:=ma) h) λx H1 ⟨r,F,dx,ex,y,tx,po⟩=>?_;cases ex;cases dx <;> try exact po.elim
 rename_i j;unfold vJ at po;by_cases z:qa3 0 j/\j - 0<=1000000;·simp only [Aa z] at po;obtain rfl:=tx.int;refine ⟨j,rfl,λq hq=>⟨q,0,j,rfl,qm,z,λl f=>?_⟩⟩;obtain ⟨s1,o,f1⟩:=jT (u:=qeG q 0 j) y hq;obtain ⟨s2,c2⟩:=yF (u:=.tup ((aN (j - 0).toNat).map λk=>V.int (0+(k:Nat)))) s1 f;exact po _ _ _ s2 (o.trans' c2) (.tup (.inl (.inl qm)) (KK _))
 ·simp only [Ab z] at po;exact po.elim
end
def qmM (x y:Str):Prop:=(y.length == 0)=iN/\(ic x y).1.length<=sizeLine/\(ic x y).2.1.length<=sizeLine/\(ic x y).2.2.length<=sizeLine
instance:∀ x y,Decidable (qmM x y):=λx y=>inferInstanceAs (Decidable (_/\_))
end L2.D2
set_option maxHeartbeats 4000000
namespace Kx
open PySem PySem.Spec PyProof.Rows L2 L2.D2
noncomputable def top (i:Nat):Stmt:=PySem.Challenge.pw_lookwords_k34_whole_orders_and_counts.main.body.getD i (.Pass ⟨0,0,0,0⟩)
noncomputable def CS:List Str:=["NoWords", "NoLook", "NoNumbers", "NoRoom", "NoWorths", "Never", "NoPlace"]
noncomputable def FS:List Str:=[]
structure Zt (K:Frag) (mg:Str->Option iL) (cv:Str->iL) (ca:Str->Addr):Prop where
 xs:Xs K cv ca CS "WordError"
 mref:∀ c∈CS,mg c=iI (.ref (ca c))
 xin:∀ c∈CS,d9 K (ca c) bmV "ValueError.__new__"=iM
 fref:∀ x∈FS,mg x=iI (.ref (ca x))
 z_all:mg "all"=iK
 z_bool:mg "bool"=iK
 z_dict:mg "dict"=iK
 z_enumerate:mg "enumerate"=iK
 z_int:mg "int"=iK
 z_isinstance:mg "isinstance"=iK
 z_len:mg "len"=iK
 z_list:mg "list"=iK
 z_max:mg "max"=iK
 z_min:mg "min"=iK
 z_range:mg "range"=iK
 z_reversed:mg "reversed"=iK
 z_set:mg "set"=iK
 z_sorted:mg "sorted"=iK
 z_str:mg "str"=iK
 z_sum:mg "sum"=iK
 z_tuple:mg "tuple"=iK
 z_zip:mg "zip"=iK
 c_LEAST_PLACE:∃ t,mg "LEAST_PLACE"=iI (.int (-3) t)
 c_MOST_LETTERS:∃ t,mg "MOST_LETTERS"=iI (.int 6 t)
 c_MOST_PLACE:∃ t,mg "MOST_PLACE"=iI (.int 2 t)
 c_MOST_ROOM:∃ t,mg "MOST_ROOM"=iI (.int 99 t)
 c_MOST_WORDS:∃ t,mg "MOST_WORDS"=iI (.int 6 t)
 m_Book:mg "Book"=iI (.ref (ca "Book"))
 b_cls:Cls K (ca "Book")
 b_no:∀ f∈(["look", "width", "worths", "standing", "asked"]:List Str),NoAttr K (ca "Book") f
theorem gl:iS "all"=iI (.builtin "all"):=by decide +kernel
theorem qgo:iS "bool"=iI (.type "bool"):=by decide +kernel
theorem qbm:iS "dict"=iI (.type "dict"):=by decide +kernel
theorem qiX:iS "int"=iI (.type "int"):=by decide +kernel
theorem jf:iS "isinstance"=iI (.builtin "isinstance"):=by decide +kernel
theorem qX:iS "len"=iI (.builtin "len"):=by decide +kernel
theorem yM:iS "list"=iI (.type "list"):=by decide +kernel
theorem qiY:iS "max"=iI (.builtin "max"):=by decide +kernel
theorem qiZ:iS "min"=iI (.builtin "min"):=by decide +kernel
theorem xT:iS "range"=iI (.type "range"):=by decide +kernel
theorem Yi:iS "reversed"=iI (.type "reversed"):=by decide +kernel
theorem XS:iS "set"=iI (.type "set"):=by decide +kernel
theorem xU:iS "sorted"=iI (.builtin "sorted"):=by decide +kernel
theorem qeJ:iS "str"=iI (.type "str"):=by decide +kernel
theorem qbn:iS "sum"=iI (.builtin "sum"):=by decide +kernel
theorem kz:iS "tuple"=iI (.type "tuple"):=by decide +kernel
variable {ca:Str->Addr}
theorem rz {X:Cx} {C:Ct} {own own':List Nat} {as:List AK} {e:Expr} {es:List Expr} {fr:vB} {np cpos pos:Pos} (Z:Zt X.K X.mg C.cv ca) (c:Str) (f:PA X (e::es) (tAr C own as fr)) (h:c∈CS:=by decide +kernel) (b:X.ex=[]:=by rfl) (ht:Xu X C:=by exact qiu rfl) (O:X.calm=true:=by rfl) (hg:Gl X c:=by rfl) (hsz:as.length<=1000:=by decide) (o:∀ i∈C.ox,i∈own:=by exact va rfl) (hd:Dbg c:=by decide)
  (g:iQ (e::es) X.env=(iN,eval e X.env)::iQ es X.env:=by exact jF rfl) (l:(j3 cpos (iQ es X.env)).any (·.1)=false:=by rfl):PS X (.Raise (iI (.Call (.Name c np) (e::es) [] cpos)) iK pos) (tSt C own own' (km c fr)):=
 qaH b ht O hg (Z.mref c h) (Z.xs.val c h) (Z.xin c h) f hsz o hd g l
instance {α:Type}:Inhabited (Out α):=⟨.bad⟩
structure Ev where
 P:iU
 w:iV
 K:Frag
 mg:Str->Option iL
 base:Heap
 cv:Str->iL
abbrev qC (e0:Ev):=ZV e0.P e0.w e0.K e0.mg e0.base e0.cv
abbrev qgp (e0:Ev):=qba e0.P e0.w e0.K e0.mg e0.base e0.cv
abbrev qgq (e0:Ev):=qa9 e0.P e0.w e0.K e0.mg e0.base e0.cv
abbrev kr (e0:Ev):=kf e0.K e0.mg
abbrev ZtE (e0:Ev) (ca:Str->Addr):=Zt e0.K e0.mg e0.cv ca
section
variable {e0:Ev}
abbrev yN:Stmt:=top 17
abbrev Yj:List Str:=["thing"]
noncomputable def wo:qS:=(jx (Jv (d1 (Qd "str") (qe 0)) (Jv (d2 eqD (d1 jW (qe 0)) (dC (.int 1))) (xC leD leD (dC (.str "a")) (qe 0) (dC (.str "z"))))))
noncomputable abbrev vh:jC:=jJ Yj [.val] (wo)
abbrev ul (e0:Ev):=qC e0 1 "is_letter" ["thing"] [.val] .sh (vh)
theorem WP (Z:ZtE e0 ca) (T:kr e0 "is_letter" yN ["thing"]):ul e0:=
 dW [] T λcdv f A outer s H E d=>(ql (qo (JQ (xJ rfl rfl Z.z_isinstance jf rfl Z.z_str qeJ vr) (JQ (vA (uf rfl d.units) (qw (je rfl) rfl Z.z_len qX vr) qr) (Wf (Xk Wh Wh ue vr ue))))))
abbrev QQ:Stmt:=top 18
abbrev qbo:List Str:=["thing"]
noncomputable def WQ:qS:=(qM (sIf (dOr (gb (wZ (d1 (Qd "str") (qe 0)))) (gb (qV (xC leD leD (dC (.int 1)) (d1 jW (qe 0)) (dC (.int 6)))))) (jx (dC (.bl iN))) jm)
  (jx (d1 UT (qT [] 1 [] (jw (qe 0)) (gNm 0) ftT (qp [.vl] vh (qd (qe 0) qA))))))
noncomputable abbrev xV:jC:=jJ qbo [.val] (WQ)
abbrev Ka (e0:Ev):=qC e0 2 "is_word" ["thing"] [.val] .sh (xV)
theorem Go (Z:ZtE e0 ca) (T:kr e0 "is_word" QQ ["thing"]) (o:ul e0):Ka e0:=
 dW [] T λcdv f A outer s H E d=>(qf (ja (PW.pt (Qu (jt (tv (xJ rfl rfl Z.z_isinstance jf rfl Z.z_str qeJ vr))) (vH (jt (Wg Wh Wh qr (qw (je rfl) rfl Z.z_len qX vr) (wm Z.c_MOST_LETTERS rfl)))))) (ql (qo wY)) qJ)
  (ql (qo (qw (gh rfl rfl) rfl Z.z_all gl (cmp (qH rfl vr) (λ_ _ _ _=>(jb o d (by decide) uh rfl (qc vr qg))))))))
abbrev zx:Stmt:=top 19
abbrev Gp:List Str:=["thing"]
noncomputable def Kb:qS:=(qM (sIf (dOr (gb (wZ (d1 (Qd "tuple") (qe 0)))) (gb (qV (xC leD leD (dC (.int 1)) (d1 jW (qe 0)) (dC (.int 6)))))) (jx (dC (.bl iN))) jm)
  (jx (Jv (d1 UT (qT [] 1 [] (jw (qe 0)) (gNm 0) ftT (qp [.vl] xV (qd (qe 0) qA)))) (d2 eqD (d1 QL (qe 0)) (d1 jW (qe 0))))))
noncomputable abbrev zy:jC:=jJ Gp [.val] (Kb)
abbrev QR (e0:Ev):=qC e0 3 "is_words" ["thing"] [.val] .sh (zy)
theorem Yk (Z:ZtE e0 ca) (T:kr e0 "is_words" zx ["thing"]) (O:Ka e0):QR e0:=
 dW [] T λcdv f A outer s H E d=>(qf (ja (PW.pt (Qu (jt (tv (xJ rfl rfl Z.z_isinstance jf rfl Z.z_tuple kz vr))) (vH (jt (Wg Wh Wh qr (qw (je rfl) rfl Z.z_len qX vr) (wm Z.c_MOST_WORDS rfl)))))) (ql (qo wY)) qJ)
  (ql (qo (JQ (qw (gh rfl rfl) rfl Z.z_all gl (cmp (qH rfl vr) (λ_ _ _ _=>(jb O d (by decide) uh rfl (qc vr qg))))) (Wf (vA (uf rfl d.units) (qaY rfl rfl rfl Z.z_len qX rfl Z.z_set XS vr) (qw (je rfl) rfl Z.z_len qX vr)))))))
abbrev wp:Stmt:=top 24
abbrev KR:List Str:=["thing"]
noncomputable def xW:qS:=(sIf (gb (wZ (qp [.vl] zy (qd (qe 0) qA)))) (km "NoWords" (qd (dC (.str "words are a tuple of 1 to 6 unlike words of 1 to 6 letters from a to z")) qA)) jm)
noncomputable abbrev kR:jC:=jJ KR [.val] (xW)
abbrev vK (e0:Ev):=qC e0 4 "check_words" ["thing"] [.val] .sh (kR)
theorem JC (Z:ZtE e0 ca) (T:kr e0 "check_words" wp ["thing"]) (O:QR e0):vK e0:=
 dW [] T λcdv f A outer s H E d=>(ql (ja (jt (tv (cN O (qc vr qg)))) (ql (rz Z "NoWords" (qc ue qg))) qJ))
abbrev yO:Stmt:=top 30
abbrev Yl:List Str:=["places", "found", "first"]
noncomputable def Ym:qS:=(qM (jv 0 (d2 QP (dC (.int (-3))) (d2 ud (dC (.int 2)) (dC (.int 1)))))
  (qM (jv 1 (xD qA))
  (qM (Jx (jw (qe 0)) (gNm 2)
  (kl (ge 1 qhl (qT [1] 1 [2] (jw (qe 0)) (gNm 0) ftT (Qv (qd (qe 1) (qd (qe 0) qA)))))))
  (jx (qe 1)))))
noncomputable abbrev vi:jC:=jJ Yl [] (Ym)
abbrev gm (e0:Ev):=qC e0 1 "all_looks" [] [] .sh (vi)
theorem WR (Z:ZtE e0 ca) (T:kr e0 "all_looks" yO []):gm e0:=
 dW [] T λcdv f A outer s H E d=>(qf (se (Yd rfl rfl Z.z_list yM rfl Z.z_range xT (wm Z.c_LEAST_PLACE rfl) (qZ (kD rfl) (wm Z.c_MOST_PLACE rfl) qr)))
  (qf (sO (jV qg))
  (qf (jU aQ rfl (qH rfl vr) gn
  (ql (jn (Wq (i:=1) rfl (bY rfl) (by decide) (cmp (qH rfl vr) (λ_ _ _ _=>(wR (qc vr (qc vr qg)))))))))
  (jK [1] (ql (qo vr))))))
abbrev um:Stmt:=top 16
abbrev WS:List Str:=["thing", "least", "most"]
abbrev uo:List Str:=["thing", "least", "most"]
noncomputable def uq:qS:=(qM (sIf (dOr (gb (wZ (d1 (Qd "int") (qe 0)))) (wZ (d1 (Qd "bool") (qe 0)))) (jx (dC (.bl iN))) jm)
  (jx (xC leD leD (qe 1) (qe 0) (qe 2))))
noncomputable abbrev jp:jC:=jJ WS [.val,.val,.val] (uq)
abbrev jL (e0:Ev):=qC e0 1 "is_between" uo [.val,.val,.val] .sh (jp)
theorem KS (Z:ZtE e0 ca) (T:kr e0 "is_between" um uo):jL e0:=
 dW [] T λcdv f A outer s H E d=>(qf (ja (PW.pt (Qu (jt (tv (xJ rfl rfl Z.z_isinstance jf rfl Z.z_int qiX vr))) (vH (tv (xJ rfl rfl Z.z_isinstance jf rfl Z.z_bool qgo vr))))) (ql (qo wY)) qJ)
  (ql (qo (Xk Wh Wh vr vr vr))))
abbrev QS:Stmt:=top 20
abbrev qbp:List Str:=["thing"]
noncomputable def WT:qS:=(qM (sIf (dOr (gb (wZ (d1 (Qd "tuple") (qe 0)))) (qV (d2 neD (d1 jW (qe 0)) (dC (.int 2))))) (jx (dC (.bl iN))) jm)
  (jx (d1 UT (qT [] 1 [] (jw (qe 0)) (gNm 0) ftT (qp [.vl,.vl,.vl] jp (qd (qe 0) (qd (dC (.int (-3))) (qd (dC (.int 2)) qA))))))))
noncomputable abbrev QT:jC:=jJ qbp [.val] (WT)
abbrev Kc (e0:Ev):=qC e0 2 "is_look" ["thing"] [.val] .sh (QT)
theorem Gq (Z:ZtE e0 ca) (T:kr e0 "is_look" QS ["thing"]) (o:jL e0):Kc e0:=
 dW [] T λcdv f A outer s H E d=>(qf (ja (PW.pt (Qu (jt (tv (xJ rfl rfl Z.z_isinstance jf rfl Z.z_tuple kz vr))) (vH (qO (ZN rfl d.units) (qw (je rfl) rfl Z.z_len qX vr) qr)))) (ql (qo wY)) qJ)
  (ql (qo (qw (gh rfl rfl) rfl Z.z_all gl (cmp (qH rfl vr) (λ_ _ _ _=>(jb o d (by decide) uh rfl (qc vr (qc (wm Z.c_LEAST_PLACE rfl) (qc (wm Z.c_MOST_PLACE rfl) qg))))))))))
abbrev ur:Stmt:=top 25
abbrev WU:List Str:=["thing"]
noncomputable def gp:qS:=(sIf (gb (wZ (qp [.vl] QT (qd (qe 0) qA)))) (km "NoLook" (qd (dC (.str "a look is a tuple of two places from -3 to 2")) qA)) jm)
noncomputable abbrev ut:jC:=jJ WU [.val] (gp)
abbrev xX (e0:Ev):=qC e0 3 "check_look" ["thing"] [.val] .sh (ut)
theorem KU (Z:ZtE e0 ca) (T:kr e0 "check_look" ur ["thing"]) (O:Kc e0):xX e0:=
 dW [] T λcdv f A outer s H E d=>(ql (ja (jt (tv (cN O (qc vr qg)))) (ql (rz Z "NoLook" (qc ue qg))) qJ))
abbrev yP:Stmt:=top 31
abbrev Yn:List Str:=["word", "place", "at"]
abbrev yQ:List Str:=["word", "place"]
noncomputable def yR:qS:=(qM (jv 2 (dIf (qV (d2 geD (qe 1) (dC (.int 0)))) (qe 1) (d2 ud (d1 jW (qe 0)) (qe 1))))
  (jx (d2 ixD (qe 0) (d2 qkc (dC (.int 0)) (d2 qkd (qe 2) (d2 ZL (d1 jW (qe 0)) (dC (.int 1))))))))
noncomputable abbrev vj:jC:=jJ Yn [.val,.val] (yR)
abbrev gq (e0:Ev):=qC e0 1 "letter_at" yQ [.val,.val] .sh (vj)
theorem WV (Z:ZtE e0 ca) (T:kr e0 "letter_at" yP yQ):gq e0:=
 dW [] T λcdv f A outer s H E d=>(qf (se (ZP (qO qid vr qr) vr (qZ (kD rfl) (qw (je rfl) rfl Z.z_len qX vr) vr)))
  (ql (qo (ix vr (Ws (qiq rfl) rfl Z.z_max qiY qr (Ws (qir rfl) rfl Z.z_min qiZ vr (qZ xB (qw (je rfl) rfl Z.z_len qX vr) qr)))))))
abbrev Yo:Stmt:=top 32
abbrev qgr:List Str:=["words", "look"]
abbrev Yp:List Str:=["words", "look"]
noncomputable def qbq:qS:=(qM (kl (qp [.vl] kR (qd (qe 0) qA)))
  (qM (kl (qp [.vl] ut (qd (qe 1) qA)))
  (jx (qT [] 1 [1] (jw (qe 0)) (gNm 0) ftT (Qv (qd (qp [.vl,.vl] vj (qd (qe 0) (qd (d2 ixD (qe 1) (dC (.int 0))) qA))) (qd (qp [.vl,.vl] vj (qd (qe 0) (qd (d2 ixD (qe 1) (dC (.int 1))) qA))) qA)))))))
noncomputable abbrev kL:jC:=jJ qgr [.val,.val] (qbq)
abbrev wq (e0:Ev):=qC e0 5 "pairs" Yp [.val,.val] .sh (kL)
theorem qdO (Z:ZtE e0 ca) (T:kr e0 "pairs" Yo Yp) (a:vK e0) (b:xX e0) (o:gq e0):wq e0:=
 dW [] T λcdv f A outer s H E d=>(qf (jn (cN a (qc vr qg)))
  (qf (jn (cN b (qc vr qg)))
  (ql (qo (cmp (qH rfl vr) (λ_ _ _ _=>(wR (qc (jb o d (by decide) uh rfl (qc vr (qc (ix vr qr) qg))) (qc (jb o d (by decide) uh rfl (qc vr (qc (ix vr qr) qg))) qg)))))))))
abbrev uu:Stmt:=top 33
abbrev WW:List Str:=["seen"]
noncomputable def gt:qS:=(jx (d1 yc (d2 ud (qT [] 1 [] (jw (qe 0)) (gNm 0) ftT (d2 ixD (qe 0) (dC (.int 0)))) (qT [] 1 [] (jw (qe 0)) (gNm 0) ftT (d2 ixD (qe 0) (dC (.int 1)))))))
noncomputable abbrev jh:jC:=jJ WW [.val] (gt)
abbrev kS (e0:Ev):=qC e0 1 "letters_of" ["seen"] [.val] .sh (jh)
theorem KW (Z:ZtE e0 ca) (T:kr e0 "letters_of" uu ["seen"]):kS e0:=
 dW [] T λcdv f A outer s H E d=>(ql (qo (JW rfl rfl rfl Z.z_sorted xU rfl Z.z_set XS (qZ (kD rfl) (cmp (qH rfl vr) (λ_ _ _ _=>(ix vr qr))) (cmp (qH rfl vr) (λ_ _ _ _=>(ix vr qr)))))))
abbrev zA:Stmt:=top 53
abbrev Gr:List Str:=["pair", "seen", "fixed", "letter"]
abbrev zB:List Str:=["pair", "seen", "fixed"]
noncomputable def Ke:qS:=(qM (Jx (jw (qe 0)) (gNm 3)
  (sIf (qev (qV (d2 gN (qe 3) (qe 2))) (qV (d2 eqD (d1 KN (qT [] 1 [3] (jw (qe 1)) (gNm 0) ftT (dM qhq yp (qe 0) (qe 1)))) (dC (.int 1))))) (jx (dC (.bl iM))) jm))
  (jx (dC (.bl iN))))
noncomputable abbrev jX:jC:=jJ Gr [.val,.val,.val] (Ke)
abbrev QU (e0:Ev):=qC e0 1 "is_loose" zB [.val,.val,.val] .sh (jX)
theorem Yq (Z:ZtE e0 ca) (T:kr e0 "is_loose" zA zB):QU e0:=
 dW [] T λcdv f A outer s H E d=>(qf (jU aQ rfl (qH rfl vr) gn
  (ql (ja (PW.pt (UO (qO (vW rfl d.units) vr vr) (vH (qO (uf rfl d.units) (qw (Yh rfl rfl) rfl Z.z_sum qbn (cmp (qH rfl vr) (λ_ _ _ _=>(qbk rfl d.units vr vr)))) qr)))) (ql (qo wY)) qJ)))
  (ql (qo wY)))
abbrev wt:Stmt:=top 54
abbrev xY:List Str:=["seen", "fixed", "kept", "rest"]
abbrev wu:List Str:=["seen", "fixed"]
noncomputable def xZ:qS:=(qM (jv 2 (qe 0))
  (qM (jv 3 (qT [] 1 [2,1] (jw (qe 2)) (gNm 0) (gb (wZ (qp [.vl,.vl,.vl] jX (qd (qe 0) (qd (qe 1) (qd (qe 2) qA)))))) (qe 0)))
  (qM (jO (qV (d2 ltD (d1 jW (qe 3)) (d1 jW (qe 2))))
  (qM (jv 2 (qe 3))
  (qM (jv 3 (qT [] 1 [2,1] (jw (qe 2)) (gNm 0) (gb (wZ (qp [.vl,.vl,.vl] jX (qd (qe 0) (qd (qe 1) (qd (qe 2) qA)))))) (qe 0))) jm)) 20)
  (jx (qe 2)))))
noncomputable abbrev ww:jC:=jJ xY [.val,.val] (xZ)
abbrev yq (e0:Ev):=qC e0 2 "bound_pairs" wu [.val,.val] .sh (ww)
theorem JD (Z:ZtE e0 ca) (T:kr e0 "bound_pairs" wt wu) (o:QU e0):yq e0:=
 dW [] T λcdv f A outer s H E d=>(qf (se vr)
  (qf (qhr (qH rfl vr) (λ_ _ _ _=>vr) (ht:=λ_ _ _ _=>(zo (jt (tv (jb o d (by decide) uh rfl (qc vr (qc vr (qc vr qg)))))))))
  (jK [3] (qf (Wj 20 aQ (qO qc9 (qw (je rfl) rfl Z.z_len qX vr) (qw (je rfl) rfl Z.z_len qX vr))
  (qf (se vr)
  (qf (qhr (qH rfl vr) (λ_ _ _ _=>vr) (ht:=λ_ _ _ _=>(zo (jt (tv (jb o d (by decide) uh rfl (qc vr (qc vr (qc vr qg)))))))))
  (jK [3] qJ))))
  (ql (qo vr))))))
abbrev zC:Stmt:=top 55
abbrev Kf:List Str:=["one", "two", "first", "second", "letter"]
abbrev zD:List Str:=["one", "two"]
noncomputable def Kg:qS:=(qM (jv 2 (d1 Wr (qe 0)))
  (qM (jv 3 (xD qA))
  (qM (Jx (jw (qe 1)) (gNm 4)
  (sIf (qV (d2 inA (qe 4) (qe 2))) (kl (ge 2 qgm (qe 4))) (kl (ge 3 Jy (qe 4)))))
  (jx (Qv (qd (qe 2) (qd (qe 3) qA)))))))
noncomputable abbrev kt:jC:=jJ Kf [.val,.val] (Kg)
abbrev QV (e0:Ev):=qC e0 1 "unshared" zD [.val,.val] .sh (kt)
theorem Yr (Z:ZtE e0 ca) (T:kr e0 "unshared" zC zD):QV e0:=
 dW [] T λcdv f A outer s H E d=>(qf (sO (kC (US rfl) rfl Z.z_list yM vr))
  (qf (sO (jV qg))
  (qf (jU aQ rfl (qH rfl vr) gn
  (ql (ja (qO (Wv rfl d.units) vr vO) (ql (jn (qbi (i:=2) rfl (bY rfl) (by decide) vr))) (ql (jn (vV (i:=3) rfl rfl (bY rfl) (by decide) vr))))))
  (jK [2,3] (ql (qo (wR (qc vr (qc vr qg)))))))))
abbrev vL:Stmt:=top 56
abbrev JE:List Str:=["seen", "found", "later", "pair"]
noncomputable def yr:qS:=(qM (jv 1 (xD qA))
  (qM (Jx (WJ (qe 0)) (kj 2 (qE (gNm 2) (qE (gNm 3) ki)))
  (kl (ge 1 qhl (qT [1] 1 [3] (jw (vg (qe 0) iK (iI (qe 2)))) (gNm 0) ftT (qp [.vl,.vl] kt (qd (qe 0) (qd (qe 1) qA)))))))
  (jx (qe 1))))
noncomputable abbrev vM:jC:=jJ JE [.val] (yr)
abbrev uw (e0:Ev):=qC e0 2 "contrasts_of" ["seen"] [.val] .sh (vM)
theorem QW (Z:ZtE e0 ca) (T:kr e0 "contrasts_of" vL ["seen"]) (O:QV e0):uw e0:=
 dW [] T λcdv f A outer s H E d=>(qf (sO (jV qg))
  (qf (jU aQ rfl (KO rfl rfl Z.z_enumerate vr) (wl rfl rfl (qR gn (qR gn kO)))
  (ql (jn (Wq (i:=1) rfl (bY rfl) (by decide) (cmp (qH rfl (WN rfl vr Xy (Xz vr))) (λ_ _ _ _=>(jb O d (by decide) uh rfl (qc vr (qc vr qg)))))))))
  (jK [1] (ql (qo vr)))))
abbrev ux:Stmt:=top 57
abbrev gu:List Str:=["contrast", "room", "fixed", "first", "second"]
abbrev uy:List Str:=["contrast", "room", "fixed"]
noncomputable def gx:qS:=(qM (jv 3 (d2 ixD (qe 0) (dC (.int 0))))
  (qM (jv 4 (d2 ixD (qe 0) (dC (.int 1))))
  (qM (sIf (gb (wZ (d1 UT (qT [] 1 [2] (jw (d2 ud (qe 3) (qe 4))) (gNm 0) ftT (d2 inA (qe 0) (qe 1)))))) (jx (dC (.bl iM))) jm)
  (jx (d2 neD (d2 yC (d2 ZL (d1 KN (qT [] 1 [2] (jw (qe 3)) (gNm 0) ftT (d2 ixD (qe 1) (qe 0)))) (d1 KN (qT [] 1 [2] (jw (qe 4)) (gNm 0) ftT (d2 ixD (qe 1) (qe 0))))) (qe 1)) (dC (.int 0)))))))
noncomputable abbrev kE:jC:=jJ gu [.val,.val,.val] (gx)
abbrev wx (e0:Ev):=qC e0 1 "may_differ" uy [.val,.val,.val] .sh (kE)
theorem KY (Z:ZtE e0 ca) (T:kr e0 "may_differ" ux uy):wx e0:=
 dW [] T λcdv f A outer s H E d=>(qf (se (ix vr qr))
  (qf (se (ix vr qr))
  (qf (ja (jt (tv (qw (gh rfl rfl) rfl Z.z_all gl (cmp (qH rfl (qZ (kD rfl) vr vr)) (λ_ _ _ _=>(vA (Wv rfl d.units) vr vr)))))) (ql (qo wY)) qJ)
  (ql (qo (vA (ZN rfl d.units) (qZ vb (qZ xB (qw (Yh rfl rfl) rfl Z.z_sum qbn (cmp (qH rfl vr) (λ_ _ _ _=>(ix vr vr)))) (qw (Yh rfl rfl) rfl Z.z_sum qbn (cmp (qH rfl vr) (λ_ _ _ _=>(ix vr vr))))) vr) qr))))))
abbrev uz:Stmt:=top 58
abbrev WX:List Str:=["fixed", "letter", "worth", "more"]
abbrev uA:List Str:=["fixed", "letter", "worth"]
noncomputable def gy:qS:=(qM (jv 3 (d1 qbl (qe 0)))
  (qM (xQ 3 (qe 2) (qe 1))
  (jx (qe 3))))
noncomputable abbrev vD:jC:=jJ WX [.val,.val,.val] (gy)
abbrev wy (e0:Ev):=qC e0 1 "with_worth" uA [.val,.val,.val] .sh (vD)
theorem KZ (Z:ZtE e0 ca) (T:kr e0 "with_worth" uz uA):wy e0:=
 dW [] T λcdv f A outer s H E d=>(qf (sO (kC (qdM rfl) rfl Z.z_dict qbm vr))
  (qf (xR (n:=3) d.units rfl (bY rfl) (by decide) vr vr)
  (jK [3] (ql (qo vr)))))
abbrev jG:Stmt:=top 59
abbrev jH:List Str:=["contrasts", "room", "fixed", "letters", "choices", "worth"]
abbrev jI:List Str:=["contrasts", "room", "fixed", "letters"]
theorem gQ:FnScope jH jI (qG jG):=fsc
noncomputable def jz (gr:jC):qS:=(qM (sIf (gb (wZ (d1 UT (qT [] 1 [1,2] (jw (qe 0)) (gNm 0) ftT (qp [.vl,.vl,.vl] kE (qd (qe 0) (qd (qe 1) (qd (qe 2) qA)))))))) (jx (dC (.bl iN))) jm)
  (qM (sIf (qV (d2 eqD (d1 jW (qe 3)) (dC (.int 0)))) (jx (dC (.bl iM))) jm)
  (qM (jv 4 (dIf (qV (d2 eqD (d1 jW (qe 2)) (dC (.int 0)))) (xD (qd (dC (.int 0)) qA)) (d1 kQ (qe 1))))
  (qM (Jx (jw (qe 4)) (gNm 5)
  (sIf (wZ (qp [.vl,.vl,.vl,.vl] gr (qd (qe 0) (qd (qe 1) (qd (qp [.vl,.vl,.vl] vD (qd (qe 2) (qd (d2 ixD (qe 3) (dC (.int 0))) (qd (qe 5) qA)))) (qd (vg (qe 3) (iI (dC (.int 1))) iK) qA)))))) (jx (dC (.bl iM))) jm))
  (jx (dC (.bl iN)))))))
noncomputable def qY:Nat->jC
 | 0=>jJ jH [.val,.val,.val,.val] qmd
 | n+1=>jJ jH [.val,.val,.val,.val] (jz (qY n))
noncomputable abbrev uB:jC:=qY 14
abbrev wS (e0:Ev):=qC e0 16 "can_be_filled" jI [.val,.val,.val,.val] .sh uB
theorem gR (Z:ZtE e0 ca) (T:kr e0 "can_be_filled" jG jI) (F:wx e0) (G:wy e0) (n:Nat):qC e0 (2+n) "can_be_filled" ["contrasts", "room", "fixed", "letters"] [.val,.val,.val,.val] .sh (qY n):=by
 induction n with
 | zero=>exact dW [] T λcdv f A outer s H E d=>qf7
 | succ n o=>exact qez (k:=2+n) (own':=[]) (fb:=jz (qY n)) T gQ λcdv f A outer s H E d=>(qf (ja (jt (tv (qw (gh rfl rfl) rfl Z.z_all gl (cmp (qH rfl vr) (λ_ _ _ _=>(jb F d (by omega) uh rfl (qc vr (qc vr (qc vr qg))))))))) (ql (qo wY)) qJ)
  (qf (ja (qO (uf rfl d.units) (qw (je rfl) rfl Z.z_len qX vr) qr) (ql (qo wY)) qJ)
  (qf (se (ZP (qO (uf rfl d.units) (qw (je rfl) rfl Z.z_len qX vr) qr) (jV (qc qr qg)) (JY rfl rfl Z.z_list yM rfl Z.z_range xT vr)))
  (qf (jU aQ rfl (qH rfl vr) gn
  (ql (ja (tv (jb o d (by omega) ZU rfl (qc vr (qc vr (qc (jb G d (by omega) ZU rfl (qc vr (qc (ix vr qr) (qc vr qg)))) (qc (WN rfl vr (Xz qr) Xy) qg)))))) (ql (qo wY)) qJ)))
  (ql (qo wY))))))
theorem gS (Z:ZtE e0 ca) (T:kr e0 "can_be_filled" jG jI) (F:wx e0) (G:wy e0):wS e0:=gR Z T F G 14
abbrev uC:Stmt:=top 60
abbrev gz:List Str:=["seen", "room", "fixed", "bound", "letters"]
abbrev uD:List Str:=["seen", "room", "fixed"]
noncomputable def uE:qS:=(qM (sIf (qV (d2 ltD (qe 1) (d1 jW (qe 0)))) (jx (dC (.bl iN))) jm)
  (qM (jv 3 (qp [.vl,.vl] ww (qd (qe 0) (qd (qe 2) qA))))
  (qM (jv 4 (qT [] 1 [2] (jw (qp [.vl] jh (qd (qe 3) qA))) (gNm 0) (qV (d2 gN (qe 0) (qe 1))) (qe 0)))
  (jx (qp [.vl,.vl,.vl,.vl] uB (qd (qp [.vl] vM (qd (qe 3) qA)) (qd (qe 1) (qd (qe 2) (qd (qe 4) qA)))))))))
noncomputable abbrev kG:jC:=jJ gz [.val,.val,.val] (uE)
abbrev zc (e0:Ev):=qC e0 17 "can_differ" uD [.val,.val,.val] .sh (kG)
theorem Va (Z:ZtE e0 ca) (T:kr e0 "can_differ" uC uD) (m:kS e0) (X:yq e0) (U:uw e0) (o:wS e0):zc e0:=
 dW [] T λcdv f A outer s H E d=>(qf (ja (qO qc9 vr (qw (je rfl) rfl Z.z_len qX vr)) (ql (qo wY)) qJ)
  (qf (se (cN X (qc vr (qc vr qg))))
  (qf (qhr (qH rfl (cN m (qc vr qg))) (λ_ _ _ _=>vr) (ht:=λ_ _ _ _=>(zo (qO (vW rfl d.units) vr vr))))
  (jK [4] (ql (qo (cN o (qc (cN U (qc vr qg)) (qc vr (qc vr (qc vr qg)))))))))))
abbrev Ys:Stmt:=top 61
abbrev qbr:List Str:=["words"]
noncomputable def qbs:qS:=(qM (kl (qp [.vl] kR (qd (qe 0) qA)))
  (jx (qT [] 1 [0] (jw (qp [] vi qA)) (gNm 0) (wZ (qp [.vl,.vl,.vl] kG (qd (qp [.vl,.vl] kL (qd (qe 1) (qd (qe 0) qA))) (qd (d1 jW (qe 1)) (qd (dC (.dct [])) qA))))) (qe 0))))
noncomputable abbrev Yt:jC:=jJ qbr [.val] (qbs)
abbrev XT (e0:Ev):=qC e0 18 "looks" ["words"] [.val] .sh (Yt)
theorem qdP (Z:ZtE e0 ca) (T:kr e0 "looks" Ys ["words"]) (a:vK e0) (O:gm e0) (o:wq e0) (b:zc e0):XT e0:=
 dW [] T λcdv f A outer s H E d=>(qf (jn (cN a (qc vr qg)))
  (ql (qo (cmp (qH rfl (qbd O d (by decide) ZU rfl)) (λ_ _ _ _=>vr) (ht:=λ_ _ _ _=>(zo (tv (jb b d (by decide) uh rfl (qc (jb o d (by decide) uh rfl (qc vr (qc vr qg))) (qc (qw (je rfl) rfl Z.z_len qX vr) (qc gZ qg)))))))))))
abbrev uF:Stmt:=top 26
abbrev WY:List Str:=["thing"]
noncomputable def gA:qS:=(sIf (gb (wZ (qp [.vl,.vl,.vl] jp (qd (qe 0) (qd (dC (.int 1)) (qd (dC (.int 99)) qA)))))) (km "NoRoom" (qd (dC (.str "a room is a whole number from 1 to 99")) qA)) jm)
noncomputable abbrev vE:jC:=jJ WY [.val] (gA)
abbrev wz (e0:Ev):=qC e0 2 "check_room" ["thing"] [.val] .sh (vE)
theorem Vb (Z:ZtE e0 ca) (T:kr e0 "check_room" uF ["thing"]) (o:jL e0):wz e0:=
 dW [] T λcdv f A outer s H E d=>(ql (ja (jt (tv (cN o (qc vr (qc qr (qc (wm Z.c_MOST_ROOM rfl) qg)))))) (ql (rz Z "NoRoom" (qc ue qg))) qJ))
abbrev uG:Stmt:=top 23
abbrev WZ:List Str:=["thing", "count", "room"]
abbrev uH:List Str:=["thing", "count", "room"]
noncomputable def gB:qS:=(qM (sIf (dOr (gb (wZ (d1 (Qd "tuple") (qe 0)))) (qV (d2 neD (d1 jW (qe 0)) (qe 1)))) (jx (dC (.bl iN))) jm)
  (jx (d1 UT (qT [] 1 [2] (jw (qe 0)) (gNm 0) ftT (qp [.vl,.vl,.vl] jp (qd (qe 0) (qd (dC (.int 0)) (qd (d2 ZL (qe 1) (dC (.int 1))) qA))))))))
noncomputable abbrev uI:jC:=jJ WZ [.val,.val,.val] (gB)
abbrev zd (e0:Ev):=qC e0 2 "is_numbers" uH [.val,.val,.val] .sh (uI)
theorem Vc (Z:ZtE e0 ca) (T:kr e0 "is_numbers" uG uH) (o:jL e0):zd e0:=
 dW [] T λcdv f A outer s H E d=>(qf (ja (PW.pt (Qu (jt (tv (xJ rfl rfl Z.z_isinstance jf rfl Z.z_tuple kz vr))) (vH (qO (ZN rfl d.units) (qw (je rfl) rfl Z.z_len qX vr) vr)))) (ql (qo wY)) qJ)
  (ql (qo (qw (gh rfl rfl) rfl Z.z_all gl (cmp (qH rfl vr) (λ_ _ _ _=>(jb o d (by decide) uh rfl (qc vr (qc qr (qc (qZ xB vr qr) qg))))))))))
abbrev vk:Stmt:=top 28
abbrev QX:List Str:=["thing", "count", "room"]
abbrev vm:List Str:=["thing", "count", "room"]
noncomputable def uJ:qS:=(sIf (gb (wZ (qp [.vl,.vl,.vl] uI (qd (qe 0) (qd (qe 1) (qd (qe 2) qA)))))) (km "NoNumbers" (qd (dC (.str "numbers are a tuple of a number within the room for each word")) qA)) jm)
noncomputable abbrev vn:jC:=jJ QX [.val,.val,.val] (uJ)
abbrev wT (e0:Ev):=qC e0 3 "check_numbers" vm [.val,.val,.val] .sh (vn)
theorem gT (Z:ZtE e0 ca) (T:kr e0 "check_numbers" vk vm) (o:zd e0):wT e0:=
 dW [] T λcdv f A outer s H E d=>(ql (ja (jt (tv (cN o (qc vr (qc vr (qc vr qg)))))) (ql (rz Z "NoNumbers" (qc ue qg))) qJ))
abbrev uK:Stmt:=top 37
abbrev Ua:List Str:=["words", "look", "room", "numbers", "seen"]
abbrev uL:List Str:=["words", "look", "room", "numbers"]
noncomputable def gD:qS:=(qM (jv 4 (qp [.vl,.vl] kL (qd (qe 0) (qd (qe 1) qA))))
  (qM (kl (qp [.vl] vE (qd (qe 2) qA)))
  (qM (kl (qp [.vl,.vl,.vl] vn (qd (qe 3) (qd (d1 jW (qe 0)) (qd (qe 2) qA)))))
  (jx (qe 4)))))
noncomputable abbrev uM:jC:=jJ Ua [.val,.val,.val,.val] (gD)
abbrev ze (e0:Ev):=qC e0 6 "told_pairs" uL [.val,.val,.val,.val] .sh (uM)
theorem Vd (Z:ZtE e0 ca) (T:kr e0 "told_pairs" uK uL) (C:wz e0) (R:wT e0) (o:wq e0):ze e0:=
 dW [] T λcdv f A outer s H E d=>(qf (se (cN o (qc vr (qc vr qg))))
  (qf (jn (cN C (qc vr qg)))
  (qf (jn (cN R (qc vr (qc (qw (je rfl) rfl Z.z_len qX vr) (qc vr qg)))))
  (ql (qo vr)))))
abbrev Ve:Stmt:=top 40
abbrev qdQ:List Str:=["walk"]
noncomputable def Vf:qS:=(jx (d2 eqD (d2 yC (d1 jW (qe 0)) (dC (.int 2))) (dC (.int 1))))
noncomputable abbrev wA:jC:=jJ qdQ [.val] (Vf)
abbrev zf (e0:Ev):=qC e0 1 "is_odd" ["walk"] [.val] .sh (wA)
theorem qbt (Z:ZtE e0 ca) (T:kr e0 "is_odd" Ve ["walk"]):zf e0:=
 dW [] T λcdv f A outer s H E d=>(ql (qo (vA (uf rfl d.units) (qZ vb (qw (je rfl) rfl Z.z_len qX vr) qr) qr)))
abbrev zE:Stmt:=top 39
abbrev Kh:List Str:=["walk", "numbers", "start", "total", "at"]
abbrev zF:List Str:=["walk", "numbers", "start"]
noncomputable def Ki:qS:=(qM (jv 3 (qe 2))
  (qM (Jx (jw (qe 0)) (gNm 4)
  (jv 3 (d2 ZL (d2 ixD (qe 1) (qe 4)) (qe 3))))
  (jx (qe 3))))
noncomputable abbrev kY:jC:=jJ Kh [.val,.val,.val] (Ki)
abbrev wB (e0:Ev):=qC e0 1 "comes_to" zF [.val,.val,.val] .sh (kY)
theorem Yu (Z:ZtE e0 ca) (T:kr e0 "comes_to" zE zF):wB e0:=
 dW [] T λcdv f A outer s H E d=>(qf (se vr)
  (qf (jU aQ rfl (qH rfl vr) gn
  (ql (se (qZ xB (ix vr vr) vr))))
  (ql (qo vr))))
abbrev qbu:Stmt:=top 41
abbrev qi0:List Str:=["walk", "room", "numbers", "total"]
abbrev qbv:List Str:=["walk", "room", "numbers"]
noncomputable def qbw:qS:=(qM (jv 3 (qp [.vl,.vl,.vl] kY (qd (qe 0) (qd (qe 2) (qd (dC (.int 0)) qA)))))
  (qM (sIf (wZ (qp [.vl] wA (qd (qe 0) qA))) (jx (Jv (d2 eqD (d2 yC (qe 1) (dC (.int 2))) (dC (.int 0))) (d2 eqD (d2 yC (qe 3) (dC (.int 2))) (dC (.int 1))))) jm)
  (jx (d2 neD (d2 yC (qe 3) (qe 1)) (dC (.int 0))))))
noncomputable abbrev XU:jC:=jJ qi0 [.val,.val,.val] (qbw)
abbrev qbx (e0:Ev):=qC e0 2 "bars" qbv [.val,.val,.val] .sh (XU)
theorem qgs (Z:ZtE e0 ca) (T:kr e0 "bars" qbu qbv) (o:wB e0) (B:zf e0):qbx e0:=
 dW [] T λcdv f A outer s H E d=>(qf (se (cN o (qc vr (qc vr (qc qr qg)))))
  (qf (ja (tv (cN B (qc vr qg))) (ql (qo (JQ (vA (uf rfl d.units) (qZ vb vr qr) qr) (Wf (vA (uf rfl d.units) (qZ vb vr qr) qr))))) qJ)
  (ql (qo (vA (ZN rfl d.units) (qZ vb vr vr) qr)))))
abbrev vN:Stmt:=top 38
abbrev JF:List Str:=["pair", "letter"]
abbrev vP:List Str:=["pair", "letter"]
noncomputable def yt:qS:=(jx (dIf (qV (d2 eqD (qe 1) (d2 ixD (qe 0) (dC (.int 0))))) (d2 ixD (qe 0) (dC (.int 1))) (d2 ixD (qe 0) (dC (.int 0)))))
noncomputable abbrev kB:jC:=jJ JF [.val,.val] (yt)
abbrev uN (e0:Ev):=qC e0 1 "other_letter" vP [.val,.val] .sh (kB)
theorem QY (Z:ZtE e0 ca) (T:kr e0 "other_letter" vN vP):uN e0:=
 dW [] T λcdv f A outer s H E d=>(ql (qo (ZP (qO (uf rfl d.units) vr (ix vr qr)) (ix vr qr) (ix vr qr))))
abbrev Vg:Stmt:=top 42
abbrev XV:List Str:=["seen", "root", "ways", "waiting", "letter", "at", "pair", "reached"]
abbrev Vh:List Str:=["seen", "root", "ways"]
noncomputable def XW:qS:=(qM (xQ 2 (Qv (qd (qe 1) (qd (xD qA) qA))) (qe 1))
  (qM (jv 3 (xD (qd (qe 1) qA)))
  (jO (qV (d2 gtD (d1 jW (qe 3)) (dC (.int 0))))
  (qM (jv 4 (qbe 3))
  (Jx (WJ (qe 0)) (kj 2 (qE (gNm 5) (qE (gNm 6) ki)))
  (qM (jv 7 (qp [.vl,.vl] kB (qd (qe 6) (qd (qe 4) qA))))
  (sIf (qev (qV (d2 inA (qe 4) (qe 6))) (qV (d2 gN (qe 7) (qe 2)))) (qM (xQ 2 (Qv (qd (qe 1) (qd (d2 ud (d2 ixD (d2O 2 ixD (qe 4)) (dC (.int 1))) (xD (qd (qe 5) qA))) qA))) (qe 7))
  (kl (ge 3 Jy (qe 7)))) jm)))) 20)))
noncomputable abbrev Qf:jC:=jJ XV [.val,.val,.io] (XW)
abbrev Ub (e0:Ev):=qC e0 2 "spread" Vh [.val,.val,.io] .sh (Qf)
theorem qby (Z:ZtE e0 ca) (T:kr e0 "spread" Vg Vh) (o:uN e0):Ub e0:=
 dW [3,2] T λcdv f A outer s H E d=>(qf (xR (n:=2) d.units rfl (bY rfl) (by decide) (wR (qc vr (qc (jV qg) qg))) vr)
  (qf (sO (jV (qc vr qg)))
  (ql (Wj 20 aQ (qO qic (qw (je rfl) rfl Z.z_len qX vO) qr)
  (qf (se (qgi (i:=3) rfl (bY rfl) (by decide)))
  (ql (jU aQ rfl (KO rfl rfl Z.z_enumerate vr) (wl rfl rfl (qR gn (qR gn kO)))
  (qf (se (cN o (qc vr (qc vr qg))))
  (ql (ja (PW.pt (UO (qO (Wv rfl d.units) vr vr) (vH (qO (vW rfl d.units) vr vO)))) (qf (xR (n:=2) d.units rfl (bY rfl) (by decide) (wR (qc vr (qc (qZ (kD rfl) (ix (qiQ (i:=2) rfl d.units rfl (bY rfl) (by decide) vr (λ_ _=>rfl)) qr) (jV (qc vr qg))) qg))) vr)
  (ql (jn (vV (i:=3) rfl rfl (bY rfl) (by decide) vr)))) qJ))))))))))
abbrev QZ:Stmt:=top 43
abbrev Uc:List Str:=["seen", "ways", "letter"]
noncomputable def Ud:qS:=(qM (jv 1 (dC (.dct [])))
  (qM (Jx (jw (qp [.vl] jh (qd (qe 0) qA))) (gNm 2)
  (sIf (qV (d2 gN (qe 2) (qe 1))) (kl (qp [.vl,.vl,.sl 1] Qf (qd (qe 0) (qd (qe 2) (wj qA))))) jm))
  (jx (qe 1))))
noncomputable abbrev vX:jC:=jJ Uc [.val] (Ud)
abbrev ye (e0:Ev):=qC e0 3 "ways_of" ["seen"] [.val] .sh (vX)
theorem Gs (Z:ZtE e0 ca) (T:kr e0 "ways_of" QZ ["seen"]) (m:kS e0) (O:Ub e0):ye e0:=
 dW [] T λcdv f A outer s H E d=>(qf (sO gZ)
  (qf (jU aQ rfl (qH rfl (cN m (qc vr qg))) gn
  (ql (ja (qO (vW rfl d.units) vr vO) (ql (jn (cN O (qc vr (qc vr (sl qg)))))) qJ)))
  (jK [1] (ql (qo vr)))))
abbrev uO:Stmt:=top 44
abbrev gE:List Str:=["seen", "ways", "found", "at", "pair", "back"]
abbrev uP:List Str:=["seen", "ways"]
noncomputable def gF:qS:=(qM (jv 2 (xD qA))
  (qM (Jx (WJ (qe 0)) (kj 2 (qE (gNm 3) (qE (gNm 4) ki)))
  (qM (jv 5 (d1 xS (d2 ixD (d2 ixD (qe 1) (d2 ixD (qe 4) (dC (.int 1)))) (dC (.int 1)))))
  (kl (ge 2 Jy (Qv (qd (d2 ixD (d2 ixD (qe 1) (d2 ixD (qe 4) (dC (.int 0)))) (dC (.int 0))) (qd (d2 ud (d2 ud (d2 ixD (d2 ixD (qe 1) (d2 ixD (qe 4) (dC (.int 0)))) (dC (.int 1))) (xD (qd (qe 3) qA))) (qe 5)) qA)))))))
  (jx (qe 2))))
noncomputable abbrev vF:jC:=jJ gE [.val,.val] (gF)
abbrev wC (e0:Ev):=qC e0 1 "circles_of" uP [.val,.val] .sh (vF)
theorem Vi (Z:ZtE e0 ca) (T:kr e0 "circles_of" uO uP):wC e0:=
 dW [] T λcdv f A outer s H E d=>(qf (sO (jV qg))
  (qf (jU aQ rfl (KO rfl rfl Z.z_enumerate vr) (wl rfl rfl (qR gn (qR gn kO)))
  (qf (se (Gj rfl rfl rfl Z.z_list yM rfl Z.z_reversed Yi (ix (ix vr (ix vr qr)) qr)))
  (ql (jn (vV (i:=2) rfl rfl (bY rfl) (by decide) (wR (qc (ix (ix vr (ix vr qr)) qr) (qc (qZ (kD rfl) (qZ (kD rfl) (ix (ix vr (ix vr qr)) qr) (jV (qc vr qg))) vr) qg))))))))
  (jK [2] (ql (qo vr)))))
abbrev yS:Stmt:=top 45
abbrev Ja:List Str:=["circles", "first", "root", "walk"]
noncomputable def Jb:qS:=(qM (jv 1 (dC (.dct [])))
  (qM (Jx (jw (qe 0)) (kj 2 (qE (gNm 2) (qE (gNm 3) ki)))
  (sIf (qev (wZ (qp [.vl] wA (qd (qe 3) qA))) (qV (d2 gN (qe 2) (qe 1)))) (xQ 1 (qe 3) (qe 2)) jm))
  (jx (qe 1))))
noncomputable abbrev wE:jC:=jJ Ja [.val] (Jb)
abbrev uQ (e0:Ev):=qC e0 2 "first_odd" ["circles"] [.val] .sh (wE)
theorem Ue (Z:ZtE e0 ca) (T:kr e0 "first_odd" yS ["circles"]) (B:zf e0):uQ e0:=
 dW [] T λcdv f A outer s H E d=>(qf (sO gZ)
  (qf (jU aQ rfl (qH rfl vr) (wl rfl rfl (qR gn (qR gn kO)))
  (ql (ja (PW.pt (UO (tv (cN B (qc vr qg))) (vH (qO (vW rfl d.units) vr vO)))) (ql (xR (n:=1) d.units rfl (bY rfl) (by decide) vr vr)) qJ)))
  (jK [1] (ql (qo vr)))))
abbrev Vj:Stmt:=top 46
abbrev XX:List Str:=["seen", "room", "numbers", "circles", "first", "joined", "root", "walk"]
abbrev Vk:List Str:=["seen", "room", "numbers"]
noncomputable def XY:qS:=(qM (jv 3 (qp [.vl,.vl] vF (qd (qe 0) (qd (qp [.vl] vX (qd (qe 0) qA)) qA))))
  (qM (jv 4 (qp [.vl] wE (qd (qe 3) qA)))
  (qM (jv 5 (qT [] 2 [4] (jw (qe 3)) (kj 2 (qE (gNm 0) (qE (gNm 1) ki))) (wZ (qp [.vl] wA (qd (qe 1) qA))) (Qv (qd (qe 0) (qd (d2 ud (d2 ixD (qe 2) (qe 0)) (qe 1)) qA)))))
  (qM (Jx (jw (d2 ud (qe 3) (qe 5))) (kj 2 (qE (gNm 6) (qE (gNm 7) ki)))
  (sIf (wZ (qp [.vl,.vl,.vl] XU (qd (qe 7) (qd (qe 1) (qd (qe 2) qA))))) (jx (Qv (qd (qe 6) (qd (qe 7) qA)))) jm))
  (jx (dC .non))))))
noncomputable abbrev Vl:jC:=jJ XX [.val,.val,.val] (XY)
abbrev Uf (e0:Ev):=qC e0 4 "bar_of" Vk [.val,.val,.val] .sh (Vl)
theorem qbz (Z:ZtE e0 ca) (T:kr e0 "bar_of" Vj Vk) (B:zf e0) (O:qbx e0) (o:ye e0) (b:wC e0) (a:uQ e0):Uf e0:=
 dW [] T λcdv f A outer s H E d=>(qf (se (cN b (qc vr (qc (cN o (qc vr qg)) qg))))
  (qf (se (cN a (qc vr qg)))
  (qf (qhr (qH rfl vr) (λ_ _ _ _=>(wR (qc vr (qc (qZ (kD rfl) (ix vr vr) vr) qg)))) (hg:=λ_ _ _ _=>(wl rfl rfl (qR gC (qR gC kO)))) (ht:=λ_ _ _ _=>(zo (tv (jb B d (by decide) uh rfl (qc vr qg))))))
  (qf (jU aQ rfl (qH rfl (qZ (kD rfl) vr vO)) (wl rfl rfl (qR gn (qR gn kO)))
  (ql (ja (tv (cN O (qc vr (qc vr (qc vr qg))))) (ql (qo (wR (qc vr (qc vr qg))))) qJ)))
  (ql (qo Wb))))))
abbrev qgt:Stmt:=top 47
abbrev qlt:List Str:=["words", "look", "room", "numbers"]
abbrev qgu:List Str:=["words", "look", "room", "numbers"]
noncomputable def qi1:qS:=(jx (qp [.vl,.vl,.vl] Vl (qd (qp [.vl,.vl,.vl,.vl] uM (qd (qe 0) (qd (qe 1) (qd (qe 2) (qd (qe 3) qA))))) (qd (qe 2) (qd (qe 3) qA)))))
noncomputable abbrev qbA:jC:=jJ qlt [.val,.val,.val,.val] (qi1)
abbrev qbB (e0:Ev):=qC e0 7 "bar" qgu [.val,.val,.val,.val] .sh (qbA)
theorem qi2 (Z:ZtE e0 ca) (T:kr e0 "bar" qgt qgu) (o:ze e0) (O:Uf e0):qbB e0:=
 dW [] T λcdv f A outer s H E d=>(ql (qo (cN O (qc (cN o (qc vr (qc vr (qc vr (qc vr qg))))) (qc vr (qc vr qg))))))
abbrev zG:Stmt:=top 62
abbrev Gu:List Str:=["words", "look", "seen"]
abbrev zH:List Str:=["words", "look"]
noncomputable def Kj:qS:=(qM (jv 2 (qp [.vl,.vl] kL (qd (qe 0) (qd (qe 1) qA))))
  (jx (d2 qhj (qp [.vl,.vl,.vl,.vl] qbA (qd (qe 0) (qd (qe 1) (qd (d1 jW (qe 2)) (qd (d1 vJ (d1 jW (qe 2))) qA))))) (dC .non))))
noncomputable abbrev zI:jC:=jJ Gu [.val,.val] (Kj)
abbrev Jc (e0:Ev):=qC e0 8 "in_order" zH [.val,.val] .sh (zI)
theorem Yv (Z:ZtE e0 ca) (T:kr e0 "in_order" zG zH) (o:wq e0) (O:qbB e0):Jc e0:=
 dW [] T λcdv f A outer s H E d=>(qf (se (cN o (qc vr (qc vr qg))))
  (ql (qo (vA qie (cN O (qc vr (qc vr (qc (qw (je rfl) rfl Z.z_len qX vr) (qc (WO rfl rfl Z.z_tuple kz rfl Z.z_range xT (qw (je rfl) rfl Z.z_len qX vr)) qg))))) Wb))))
abbrev jM:Stmt:=qaf (top 64) 1
abbrev zg:List Str:=["self"]
theorem JG:FnScope zg ["self"] (qG jM):=fsc
noncomputable def wF (ca:Str->Addr):qS:=(jx (d1 Wr (d1 (qlm (ca "Book") "standing") (qe 0))))
noncomputable abbrev wG (ca:Str->Addr):jC:=jJ zg [.val] (wF ca)
abbrev yu (ca:Str->Addr) (e0:Ev):=qgq e0 1 (ca "Book") "places" ["self"] [.val] .fr (wG ca)
theorem JH (Z:ZtE e0 ca) (T:qgc e0.K (ca "Book") "places" "Book.places" jM ["self"]):yu ca e0:=
 qge (k:=0) (own':=[]) (fb:=wF ca) (hmr:=.inr λ_ _=>qiP) T JG λcdv f A outer s H E d=>(ql (qav (kC (US rfl) rfl Z.z_list yM (qiN rfl Z.b_cls (Z.b_no "standing" (by decide +kernel)) vr))))
abbrev zJ:Stmt:=top 21
abbrev Gv:List Str:=["thing", "room"]
abbrev zK:List Str:=["thing", "room"]
noncomputable def kZ:qS:=(qM (sIf (dOr (gb (wZ (d1 (Qd "tuple") (qe 0)))) (qV (d2 neD (d1 jW (qe 0)) (dC (.int 2))))) (jx (dC (.bl iN))) jm)
  (jx (Jv (qp [.vl] vh (qd (d2 ixD (qe 0) (dC (.int 0))) qA)) (qp [.vl,.vl,.vl] jp (qd (d2 ixD (qe 0) (dC (.int 1))) (qd (dC (.int 0)) (qd (d2 ZL (qe 1) (dC (.int 1))) qA)))))))
noncomputable abbrev yf:jC:=jJ Gv [.val,.val] (kZ)
abbrev Jd (e0:Ev):=qC e0 2 "is_worth" zK [.val,.val] .sh (yf)
theorem Yw (Z:ZtE e0 ca) (T:kr e0 "is_worth" zJ zK) (o:jL e0) (J:ul e0):Jd e0:=
 dW [] T λcdv f A outer s H E d=>(qf (ja (PW.pt (Qu (jt (tv (xJ rfl rfl Z.z_isinstance jf rfl Z.z_tuple kz vr))) (vH (qO (ZN rfl d.units) (qw (je rfl) rfl Z.z_len qX vr) qr)))) (ql (qo wY)) qJ)
  (ql (qo (JQ (cN J (qc (ix vr qr) qg)) (Wf (cN o (qc (ix vr qr) (qc qr (qc (qZ xB vr qr) qg)))))))))
abbrev yT:Stmt:=top 22
abbrev Yx:List Str:=["thing", "room", "letters"]
abbrev yU:List Str:=["thing", "room"]
noncomputable def yV:qS:=(qM (sIf (dOr (gb (wZ (d1 (Qd "tuple") (qe 0)))) (gb (wZ (d1 UT (qT [] 1 [1] (jw (qe 0)) (gNm 0) ftT (qp [.vl,.vl] yf (qd (qe 0) (qd (qe 1) qA)))))))) (jx (dC (.bl iN))) jm)
  (qM (jv 2 (qT [] 1 [] (jw (qe 0)) (gNm 0) ftT (d2 ixD (qe 0) (dC (.int 0)))))
  (jx (d2 eqD (qe 2) (d1 yc (qe 2))))))
noncomputable abbrev ku:jC:=jJ Yx [.val,.val] (yV)
abbrev gG (e0:Ev):=qC e0 3 "is_worths" yU [.val,.val] .sh (ku)
theorem Ug (Z:ZtE e0 ca) (T:kr e0 "is_worths" yT yU) (O:Jd e0):gG e0:=
 dW [] T λcdv f A outer s H E d=>(qf (ja (PW.pt (Qu (jt (tv (xJ rfl rfl Z.z_isinstance jf rfl Z.z_tuple kz vr))) (vH (jt (tv (qw (gh rfl rfl) rfl Z.z_all gl (cmp (qH rfl vr) (λ_ _ _ _=>(jb O d (by decide) uh rfl (qc vr (qc vr qg))))))))))) (ql (qo wY)) qJ)
  (qf (qhr (qH rfl vr) (λ_ _ _ _=>(ix vr qr)))
  (jK [2] (ql (qo (vA (uf rfl d.units) vr (JW rfl rfl rfl Z.z_sorted xU rfl Z.z_set XS vr)))))))
abbrev vQ:Stmt:=top 27
abbrev JI:List Str:=["thing", "room"]
abbrev vR:List Str:=["thing", "room"]
noncomputable def yv:qS:=(sIf (gb (wZ (qp [.vl,.vl] ku (qd (qe 0) (qd (qe 1) qA))))) (km "NoWorths" (qd (dC (.str "worths are a rising tuple of unlike letters, each with a number within the room")) qA)) jm)
noncomputable abbrev vS:jC:=jJ JI [.val,.val] (yv)
abbrev uR (e0:Ev):=qC e0 4 "check_worths" vR [.val,.val] .sh (vS)
theorem Je (Z:ZtE e0 ca) (T:kr e0 "check_worths" vQ vR) (O:gG e0):uR e0:=
 dW [] T λcdv f A outer s H E d=>(ql (ja (jt (tv (cN O (qc vr (qc vr qg))))) (ql (rz Z "NoWorths" (qc ue qg))) qJ))
abbrev Vm:Stmt:=top 34
abbrev qdR:List Str:=["total", "room"]
abbrev Vn:List Str:=["total", "room"]
noncomputable def XZ:qS:=(jx (dIf (qV (d2 geD (qe 0) (qe 1))) (d2 ZL (qe 0) (qe 1)) (qe 0)))
noncomputable abbrev Qg:jC:=jJ qdR [.val,.val] (XZ)
abbrev Uh (e0:Ev):=qC e0 1 "within" Vn [.val,.val] .sh (Qg)
theorem qbC (Z:ZtE e0 ca) (T:kr e0 "within" Vm Vn):Uh e0:=
 dW [] T λcdv f A outer s H E d=>(ql (qo (ZP (qO qid vr vr) (qZ xB vr vr) vr)))
abbrev zL:Stmt:=top 35
abbrev Gw:List Str:=["words", "look", "room", "worths", "seen", "worth_of"]
abbrev zM:List Str:=["words", "look", "room", "worths"]
noncomputable def zN:qS:=(qM (jv 4 (qp [.vl,.vl] kL (qd (qe 0) (qd (qe 1) qA))))
  (qM (kl (qp [.vl] vE (qd (qe 2) qA)))
  (qM (kl (qp [.vl,.vl] vS (qd (qe 3) (qd (qe 2) qA))))
  (qM (jv 5 (d1 qds (qe 3)))
  (qM (sIf (gb (wZ (d1 UT (qT [] 1 [5] (jw (qp [.vl] jh (qd (qe 4) qA))) (gNm 0) ftT (d2 inA (qe 0) (qe 1)))))) (km "NoWorths" (qd (dC (.str "a letter that is seen has no worth")) qA)) jm)
  (jx (d1 QA (qT [] 1 [2,5] (jw (qe 4)) (gNm 0) ftT (qp [.vl,.vl] Qg (qd (d2 ud (d2 ixD (qe 2) (d2 ixD (qe 0) (dC (.int 0)))) (d2 ixD (qe 2) (d2 ixD (qe 0) (dC (.int 1))))) (qd (qe 1) qA)))))))))))
noncomputable abbrev vY:jC:=jJ Gw [.val,.val,.val,.val] (zN)
abbrev Jf (e0:Ev):=qC e0 6 "numbered" zM [.val,.val,.val,.val] .sh (vY)
theorem Yy (Z:ZtE e0 ca) (T:kr e0 "numbered" zL zM) (C:wz e0) (V:uR e0) (o:wq e0) (m:kS e0) (O:Uh e0):Jf e0:=
 dW [] T λcdv f A outer s H E d=>(qf (se (cN o (qc vr (qc vr qg))))
  (qf (jn (cN C (qc vr qg)))
  (qf (jn (cN V (qc vr (qc vr qg))))
  (qf (se (kC (qfU rfl rfl) rfl Z.z_dict qbm vr))
  (qf (ja (jt (tv (qw (gh rfl rfl) rfl Z.z_all gl (cmp (qH rfl (cN m (qc vr qg))) (λ_ _ _ _=>(vA (Wv rfl d.units) vr vr)))))) (ql (rz Z "NoWorths" (qc ue qg))) qJ)
  (ql (qo (kC (KF rfl) rfl Z.z_tuple kz (cmp (qH rfl vr) (λ_ _ _ _=>(jb O d (by decide) uh rfl (qc (qZ (kD rfl) (ix vr (ix vr qr)) (ix vr (ix vr qr))) (qc vr qg)))))))))))))
abbrev jA:Stmt:=qaf (top 64) 0
abbrev uS:List Str:=["self", "words", "look", "room", "worths", "numbers", "word", "number"]
abbrev vo:List Str:=["self", "words", "look", "room", "worths"]
theorem gU:FnScope uS vo (qG jA):=fsc
noncomputable def vp (ca:Str->Addr):qS:=(qM (jv 5 (qp [.vl,.vl,.vl,.vl] vY (qd (qe 1) (qd (qe 2) (qd (qe 3) (qd (qe 4) qA))))))
  (qM (sIf (qV (d2 ltD (d1 yd (qe 5)) (d1 jW (qe 5)))) (km "Never" (qd (dC (.str "two words have one number")) qA)) jm)
  (qM (Gg (ca "Book") 0 "look" (qe 2))
  (qM (Gg (ca "Book") 0 "width" (qe 3))
  (qM (Gg (ca "Book") 0 "worths" (qe 4))
  (qbb (ca "Book") 0 "standing" (d2 qiJ (xD (qd (dC .non) qA)) (qe 3)) (qk4 (qd (qe 1) (qd (qe 5) qA))) (kj 2 (qE (gNm 6) (qE (gNm 7) ki))) (qe 6) (qe 7)
  (Gg (ca "Book") 0 "asked" (xD qA))))))))
noncomputable abbrev vt (ca:Str->Addr):jC:=jJ uS [.io,.val,.val,.val,.val] (vp ca)
abbrev wU (ca:Str->Addr) (e0:Ev):=qgp e0 7 (ca "Book") ["self", "words", "look", "room", "worths"] [.io,.val,.val,.val,.val] (vt ca)
theorem gW (Z:ZtE e0 ca) (T:qgd e0.K (ca "Book") "Book.__init__" jA vo) (O:Jf e0):wU ca e0:=
 qgf (k:=6) (own':=[0]) (fb:=vp ca) T gU λcdv f A outer s H E d=>(qf (se (cN O (qc vr (qc vr (qc vr (qc vr qg))))))
  (qf (ja (qO qc9 (Gf rfl rfl rfl Z.z_len qX rfl Z.z_set XS vr) (qw (je rfl) rfl Z.z_len qX vr)) (ql (rz Z "Never" (qc ue qg))) qJ)
  (qf (KM rfl Z.b_cls (Z.b_no "look" (by decide +kernel)) (i:=0) rfl (bY rfl) (by decide) vr)
  (qf (KM rfl Z.b_cls (Z.b_no "width" (by decide +kernel)) (i:=0) rfl (bY rfl) (by decide) vr)
  (qf (KM rfl Z.b_cls (Z.b_no "worths" (by decide +kernel)) (i:=0) rfl (bY rfl) (by decide) vr)
  (qdE (own:=[0]) (own1:=[]) rfl (λj=>by simp) Z.b_cls (Z.b_no "standing" (by decide +kernel)) (i:=0) rfl (bY rfl) (by decide) (qlp rfl) aQ rfl (qZ (qf8 rfl) (jV (qc Wb qg)) vr) (qf0 rfl rfl Z.z_zip vr vr) (wl rfl rfl (qR gn (qR gn kO))) vr vr
  (ql (KM rfl Z.b_cls (Z.b_no "asked" (by decide +kernel)) (i:=0) rfl (bY rfl) (by decide) (jV qg)))))))))
abbrev qbD:Stmt:=top 48
abbrev qi3:List Str:=["total", "room", "rest"]
abbrev qbE:List Str:=["total", "room"]
noncomputable def qeK:qS:=(qM (jv 2 (d2 yC (qe 0) (qe 1)))
  (jx (dIf (qV (d2 eqD (d2 yC (qe 2) (dC (.int 2))) (dC (.int 0)))) (d2 yD (qe 2) (dC (.int 2))) (d2 yD (d2 ud (qe 2) (qe 1)) (dC (.int 2))))))
noncomputable abbrev qbF:jC:=jJ qi3 [.val,.val] (qeK)
abbrev qbG (e0:Ev):=qC e0 1 "half" qbE [.val,.val] .sh (qbF)
theorem qgv (Z:ZtE e0 ca) (T:kr e0 "half" qbD qbE):qbG e0:=
 dW [] T λcdv f A outer s H E d=>(qf (se (qZ vb vr vr))
  (ql (qo (ZP (qO (uf rfl d.units) (qZ vb vr qr) qr) (qZ Qr vr qr) (qZ Qr (qZ (kD rfl) vr vr) qr)))))
abbrev wH:Stmt:=top 49
abbrev Vo:List Str:=["walk", "room", "numbers", "worth"]
abbrev wI:List Str:=["walk", "room", "numbers"]
noncomputable def kT:qS:=(qM (sIf (qV (d2 eqD (d1 jW (qe 0)) (dC (.int 0)))) (jx (d1 kQ (qe 1))) jm)
  (qM (jv 3 (qp [.vl,.vl] qbF (qd (qp [.vl,.vl,.vl] kY (qd (qe 0) (qd (qe 2) (qd (dC (.int 0)) qA)))) (qd (qe 1) qA))))
  (jx (dIf (qV (d2 eqD (d2 yC (qe 1) (dC (.int 2))) (dC (.int 0)))) (xD (qd (qe 3) (qd (d2 ud (qe 3) (d2 yD (qe 1) (dC (.int 2)))) qA))) (xD (qd (qe 3) qA))))))
noncomputable abbrev kU:jC:=jJ Vo [.val,.val,.val] (kT)
abbrev yw (e0:Ev):=qC e0 2 "root_worths" wI [.val,.val,.val] .sh (kU)
theorem JJ (Z:ZtE e0 ca) (T:kr e0 "root_worths" wH wI) (o:wB e0) (O:qbG e0):yw e0:=
 dW [] T λcdv f A outer s H E d=>(qf (ja (qO (uf rfl d.units) (qw (je rfl) rfl Z.z_len qX vr) qr) (ql (qo (JY rfl rfl Z.z_list yM rfl Z.z_range xT vr))) qJ)
  (qf (se (cN O (qc (cN o (qc vr (qc vr (qc qr qg)))) (qc vr qg))))
  (ql (qo (ZP (qO (uf rfl d.units) (qZ vb vr qr) qr) (jV (qc vr (qc (qZ (kD rfl) vr (qZ Qr vr qr)) qg))) (jV (qc vr qg)))))))
abbrev zO:Stmt:=top 50
abbrev Kk:List Str:=["seen", "room", "numbers", "ways", "first", "roots"]
abbrev zQ:List Str:=["seen", "room", "numbers"]
noncomputable def Kl:qS:=(qM (jv 3 (qp [.vl] vX (qd (qe 0) qA)))
  (qM (jv 4 (qp [.vl] wE (qd (qp [.vl,.vl] vF (qd (qe 0) (qd (qe 3) qA))) qA)))
  (qM (jv 5 (qT [] 1 [3] (jw (d1 kh (qe 3))) (gNm 0) (qV (d2 eqD (d2 ixD (d2 ixD (qe 1) (qe 0)) (dC (.int 0))) (qe 0))) (qe 0)))
  (jx (qT [] 1 [1,2,4] (jw (qe 5)) (gNm 0) ftT (Qv (qd (qe 0) (qd (qp [.vl,.vl,.vl] kU (qd (qdF (qe 3) (qe 0) (xD qA)) (qd (qe 1) (qd (qe 2) qA)))) qA))))))))
noncomputable abbrev vZ:jC:=jJ Kk [.val,.val,.val] (Kl)
abbrev yW (e0:Ev):=qC e0 4 "roots_of" zQ [.val,.val,.val] .sh (vZ)
theorem Yz (Z:ZtE e0 ca) (T:kr e0 "roots_of" zO zQ) (o:ye e0) (c:wC e0) (b:uQ e0) (a:yw e0):yW e0:=
 dW [] T λcdv f A outer s H E d=>(qf (se (cN o (qc vr qg)))
  (qf (se (cN b (qc (cN c (qc vr (qc vr qg))) qg)))
  (qf (qhr (qH rfl (qw (JZ rfl) rfl Z.z_sorted xU vr)) (λ_ _ _ _=>vr) (ht:=λ_ _ _ _=>(zo (qO (uf rfl d.units) (ix (ix vr vr) qr) vr))))
  (jK [5] (ql (qo (cmp (qH rfl vr) (λ_ _ _ _=>(wR (qc vr (qc (jb a d (by decide) uh rfl (qc (qgj d.units vr vr (jV qg)) (qc vr (qc vr qg)))) qg)))))))))))
abbrev zR:Stmt:=top 66
abbrev Km:List Str:=["words", "look", "room", "numbers", "count", "root", "choices"]
abbrev zS:List Str:=["words", "look", "room", "numbers"]
noncomputable def zT:qS:=(qM (sIf (qV (d2 qdd (qp [.vl,.vl,.vl,.vl] qbA (qd (qe 0) (qd (qe 1) (qd (qe 2) (qd (qe 3) qA))))) (dC .non))) (jx (dC (.int 0))) jm)
  (qM (jv 4 (dC (.int 1)))
  (qM (Jx (jw (qp [.vl,.vl,.vl] vZ (qd (qp [.vl,.vl] kL (qd (qe 0) (qd (qe 1) qA))) (qd (qe 2) (qd (qe 3) qA))))) (kj 2 (qE (gNm 5) (qE (gNm 6) ki)))
  (jv 4 (d2 qc8 (qe 4) (d1 jW (qe 6)))))
  (jx (qe 4)))))
noncomputable abbrev yg:jC:=jJ Km [.val,.val,.val,.val] (zT)
abbrev yX (e0:Ev):=qC e0 8 "how_many" zS [.val,.val,.val,.val] .sh (yg)
theorem YA (Z:ZtE e0 ca) (T:kr e0 "how_many" zR zS) (o:wq e0) (O:qbB e0) (K:yW e0):yX e0:=
 dW [] T λcdv f A outer s H E d=>(qf (ja (qO qfH (cN O (qc vr (qc vr (qc vr (qc vr qg))))) Wb) (ql (qo qr)) qJ)
  (qf (se qr)
  (qf (jU aQ rfl (qH rfl (cN K (qc (cN o (qc vr (qc vr qg))) (qc vr (qc vr qg))))) (wl rfl rfl (qR gn (qR gn kO)))
  (ql (se (qZ Xf vr (qw (je rfl) rfl Z.z_len qX vr)))))
  (ql (qo vr)))))
abbrev wJ:Stmt:=top 51
abbrev zh:List Str:=["seen", "room", "numbers", "starts", "ways", "found", "letter", "start"]
abbrev wK:List Str:=["seen", "room", "numbers", "starts"]
noncomputable def zi:qS:=(qM (jv 4 (qp [.vl] vX (qd (qe 0) qA)))
  (qM (jv 5 (xD qA))
  (qM (Jx (jw (d1 kh (qe 4))) (gNm 6)
  (qM (jv 7 (d2 ixD (qe 3) (d2 ixD (d2 ixD (qe 4) (qe 6)) (dC (.int 0)))))
  (kl (ge 5 Jy (Qv (qd (qe 6) (qd (d2 yC (qp [.vl,.vl,.vl] kY (qd (d2 ixD (d2 ixD (qe 4) (qe 6)) (dC (.int 1))) (qd (qe 2) (qd (qe 7) qA)))) (qe 1)) qA)))))))
  (jx (d1 QA (qe 5))))))
noncomputable abbrev wL:jC:=jJ zh [.val,.val,.val,.val] (zi)
abbrev yx (e0:Ev):=qC e0 4 "worths_from" wK [.val,.val,.val,.val] .sh (wL)
theorem JK (Z:ZtE e0 ca) (T:kr e0 "worths_from" wJ wK) (u:wB e0) (o:ye e0):yx e0:=
 dW [] T λcdv f A outer s H E d=>(qf (se (cN o (qc vr qg)))
  (qf (sO (jV qg))
  (qf (jU aQ rfl (qH rfl (qw (JZ rfl) rfl Z.z_sorted xU vr)) gn
  (qf (se (ix vr (ix (ix vr vr) qr)))
  (ql (jn (vV (i:=5) rfl rfl (bY rfl) (by decide) (wR (qc vr (qc (qZ vb (cN u (qc (ix (ix vr vr) qr) (qc vr (qc vr qg)))) vr) qg))))))))
  (ql (qo (kC (KF rfl) rfl Z.z_tuple kz vO))))))
abbrev yY:Stmt:=top 67
abbrev YB:List Str:=["roots", "at", "starts", "rest", "root", "choices"]
abbrev yZ:List Str:=["roots", "at"]
noncomputable def Jg:qS:=(qM (jv 2 (dC (.dct [])))
  (qM (jv 3 (qe 1))
  (qM (Jx (qlq (qe 0)) (kj 2 (qE (gNm 4) (qE (gNm 5) ki)))
  (qM (xQ 2 (d2 ixD (qe 5) (d2 yC (qe 3) (d1 jW (qe 5)))) (qe 4))
  (jv 3 (d2 yD (qe 3) (d1 jW (qe 5))))))
  (jx (qe 2)))))
noncomputable abbrev xa:jC:=jJ YB [.val,.val] (Jg)
abbrev gH (e0:Ev):=qC e0 1 "starts_at" yZ [.val,.val] .sh (xa)
theorem Ui (Z:ZtE e0 ca) (T:kr e0 "starts_at" yY yZ):gH e0:=
 dW [] T λcdv f A outer s H E d=>(qf (sO gZ)
  (qf (se vr)
  (qf (jU aQ rfl (qgl rfl rfl Z.z_reversed vr) (wl rfl rfl (qR gn (qR gn kO)))
  (qf (xR (n:=2) d.units rfl (bY rfl) (by decide) (ix vr (qZ vb vr (qw (je rfl) rfl Z.z_len qX vr))) vr)
  (ql (se (qZ Qr vr (qw (je rfl) rfl Z.z_len qX vr))))))
  (jK [2] (ql (qo vr))))))
abbrev xb:Stmt:=top 68
abbrev YC:List Str:=["words", "look", "room", "numbers", "at", "count", "seen"]
abbrev xc:List Str:=["words", "look", "room", "numbers", "at"]
noncomputable def Jh:qS:=(qM (jv 5 (qp [.vl,.vl,.vl,.vl] yg (qd (qe 0) (qd (qe 1) (qd (qe 2) (qd (qe 3) qA))))))
  (qM (sIf (gb (wZ (qp [.vl,.vl,.vl] jp (qd (qe 4) (qd (dC (.int 0)) (qd (d2 ZL (qe 5) (dC (.int 1))) qA)))))) (km "NoPlace" (qd (dC (.str "there are no worths of this number")) qA)) jm)
  (qM (jv 6 (qp [.vl,.vl] kL (qd (qe 0) (qd (qe 1) qA))))
  (jx (qp [.vl,.vl,.vl,.vl] wL (qd (qe 6) (qd (qe 2) (qd (qe 3) (qd (qp [.vl,.vl] xa (qd (qp [.vl,.vl,.vl] vZ (qd (qe 6) (qd (qe 2) (qd (qe 3) qA)))) (qd (qe 4) qA))) qA)))))))))
noncomputable abbrev xf:jC:=jJ YC [.val,.val,.val,.val,.val] (Jh)
abbrev gI (e0:Ev):=qC e0 9 "worths_at" xc [.val,.val,.val,.val,.val] .sh (xf)
theorem Uj (Z:ZtE e0 ca) (T:kr e0 "worths_at" xb xc) (g:jL e0) (o:wq e0) (K:yW e0) (Y:yx e0) (M:yX e0) (a:gH e0):gI e0:=
 dW [] T λcdv f A outer s H E d=>(qf (se (cN M (qc vr (qc vr (qc vr (qc vr qg))))))
  (qf (ja (jt (tv (cN g (qc vr (qc qr (qc (qZ xB vr qr) qg)))))) (ql (rz Z "NoPlace" (qc ue qg))) qJ)
  (qf (se (cN o (qc vr (qc vr qg))))
  (ql (qo (cN Y (qc vr (qc vr (qc vr (qc (cN a (qc (cN K (qc vr (qc vr (qc vr qg)))) (qc vr qg))) qg))))))))))
abbrev zU:Stmt:=top 70
abbrev Gx:List Str:=["_law_script", "_law_k"]
abbrev vT:List Str:=["_law_script", "_law_k"]
noncomputable def yh:qS:=(qM (sIf (qV (d2 ltD (qe 1) (d1 jW (qe 0)))) (jx (d2 ixD (qe 0) (qe 1))) jm)
  (qM (sIf (qV (d2 eqD (qe 0) (xD qA))) (jx (dC (.int 0))) jm)
  (jx (d2 ud (d2 qc8 (d2 ixD (qe 0) (d2 yC (qe 1) (d1 jW (qe 0)))) (dC (.int 31))) (qe 1)))))
noncomputable abbrev zV:jC:=jJ Gx [.val,.val] (yh)
abbrev Ji (e0:Ev):=qC e0 1 "_law_cell_at" vT [.val,.val] .sh (zV)
theorem YD (Z:ZtE e0 ca) (T:kr e0 "_law_cell_at" zU vT):Ji e0:=
 dW [] T λcdv f A outer s H E d=>(qf (ja (qO qc9 vr (qw (je rfl) rfl Z.z_len qX vr)) (ql (qo (ix vr vr))) qJ)
  (qf (ja (qO (uf rfl d.units) vr (jV qg)) (ql (qo qr)) qJ)
  (ql (qo (qZ (kD rfl) (qZ Xf (ix vr (qZ vb vr (qw (je rfl) rfl Z.z_len qX vr))) qr) vr)))))
abbrev Vp:Stmt:=top 71
abbrev qdS:List Str:=["_law_script", "_law_k", "_law_many", "_law_drawn"]
abbrev uT:List Str:=["_law_script", "_law_k", "_law_many"]
noncomputable def Za:qS:=(qM (jv 3 (d2 yC (d2 ud (d2 ud (d2 qc8 (qp [.vl,.vl] zV (qd (qe 0) (qd (qe 1) qA))) (dC (.int 1103515245))) (d2 qc8 (dC (.int 7919)) (qe 1))) (dC (.int 12345))) (dC (.int 2147483647))))
  (jx (d2 yC (d2 yC (d2 yC (d2 qll (qe 3) (dC (.int 5))) (dC (.int 2147483647))) (dC (.int 999983))) (qe 2))))
noncomputable abbrev Vq:jC:=jJ qdS [.val,.val,.val] (Za)
abbrev Uk (e0:Ev):=qC e0 2 "_law_mixed" uT [.val,.val,.val] .sh (Vq)
theorem qbH (Z:ZtE e0 ca) (T:kr e0 "_law_mixed" Vp uT) (O:Ji e0):Uk e0:=
 dW [] T λcdv f A outer s H E d=>(qf (se (qZ vb (qZ (kD rfl) (qZ (kD rfl) (qZ Xf (cN O (qc vr (qc vr qg))) qr) (qZ Xf qr vr)) qr) qr))
  (ql (qo (qZ vb (qZ vb (qZ vb (qZ qiI vr qr) qr) qr) vr))))
abbrev YE:Stmt:=top 72
abbrev qgw:List Str:=["_law_script", "_law_town", "_law_many"]
abbrev xg:List Str:=["_law_script", "_law_town", "_law_many"]
noncomputable def qbI:qS:=(qM (kl (ge 1 Jy (dC (.int 0))))
  (jx (qp [.vl,.vl,.vl] Vq (qd (qe 0) (qd (d1 jW (qe 1)) (qd (qe 2) qA))))))
noncomputable abbrev xh:jC:=jJ qgw [.val,.io,.val] (qbI)
abbrev zj (e0:Ev):=qC e0 3 "_law_draw" xg [.val,.io,.val] .sh (xh)
theorem qdT (Z:ZtE e0 ca) (T:kr e0 "_law_draw" YE xg) (O:Uk e0):zj e0:=
 dW [1] T λcdv f A outer s H E d=>(qf (jn (vV (i:=1) rfl rfl (bY rfl) (by decide) qr))
  (ql (qo (cN O (qc vr (qc (qw (je rfl) rfl Z.z_len qX vO) (qc vr qg)))))))
abbrev YF:Stmt:=top 73
abbrev qgx:List Str:=["_law_script", "_law_town", "_law_some"]
abbrev xi:List Str:=["_law_script", "_law_town", "_law_some"]
noncomputable def qbJ:qS:=(jx (d2 ixD (qe 2) (qp [.vl,.sl 1,.vl] xh (qd (qe 0) (wj (qd (d1 jW (qe 2)) qA))))))
noncomputable abbrev Jj:jC:=jJ qgx [.val,.io,.val] (qbJ)
abbrev Vr (e0:Ev):=qC e0 4 "_law_pick" xi [.val,.io,.val] .sh (Jj)
theorem qdU (Z:ZtE e0 ca) (T:kr e0 "_law_pick" YF xi) (o:zj e0):Vr e0:=
 dW [1] T λcdv f A outer s H E d=>(ql (qo (ix vr (cN o (qc vr (sl (qc (qw (je rfl) rfl Z.z_len qX vr) qg)))))))
abbrev YG:Stmt:=top 74
abbrev qgy:List Str:=["_law_script", "_law_town", "_law_letters", "_law_most"]
abbrev xj:List Str:=["_law_script", "_law_town", "_law_letters", "_law_most"]
noncomputable def qbK:qS:=(jx (d1 (qaZ "") (qT [1] 1 [0,1,2] (Qx (d2 ud (dC (.int 1)) (qp [.vl,.sl 1,.vl] xh (qd (qe 0) (wj (qd (qe 3) qA)))))) (gNm 0) ftT (qp [.vl,.sl 2,.vl] Jj (qd (qe 1) (wj (qd (qe 3) qA)))))))
noncomputable abbrev Vs:jC:=jJ qgy [.val,.io,.val,.val] (qbK)
abbrev Zb (e0:Ev):=qC e0 5 "_law_word" xj [.val,.io,.val,.val] .sh (Vs)
theorem qdV (Z:ZtE e0 ca) (T:kr e0 "_law_word" YG xj) (o:zj e0) (Q:Vr e0):Zb e0:=
 dW [1] T λcdv f A outer s H E d=>(ql (qo (qf5 rfl (cmp (JR rfl Z.z_range (qZ (kD rfl) qr (cN o (qc vr (Ky (i:=1) rfl (fE (bY rfl)) (by decide) (qc vr qg)))))) (λ_ _ _ _=>(jb Q d (by decide) uh rfl (qc vr (Ky (i:=2) rfl (by first | exact fE (fE rfl) | exact fE (bY rfl)) (by decide) (qc vr qg)))))))))
abbrev Vt:Stmt:=top 75
abbrev qdW:List Str:=["_law_script", "_law_town", "_law_most", "_law_letters", "_law_made", "_law_k", "_law_word_here"]
abbrev uU:List Str:=["_law_script", "_law_town", "_law_most"]
noncomputable def Zc:qS:=(qM (jv 3 (qp [.vl,.sl 1,.vl] Jj (qd (qe 0) (wj (qd (xD λρ=>.ok ([(.lst [(.str "a"),(.str "b")]),(.lst [(.str "a"),(.str "b"),(.str "c")]),(.lst [(.str "a"),(.str "b"),(.str "c"),(.str "d")]),(.lst [(.str "k"),(.str "m"),(.str "z"),(.str "a"),(.str "e")])],ρ)) qA)))))
  (qM (jv 4 (xD qA))
  (qM (Jx (Qx (d2 ud (dC (.int 1)) (qp [.vl,.sl 1,.vl] xh (qd (qe 0) (wj (qd (qe 2) qA)))))) (gNm 5)
  (qM (jv 6 (qp [.vl,.sl 1,.vl,.vl] Vs (qd (qe 0) (wj (qd (qe 3) (qd (dC (.int 6)) qA))))))
  (sIf (qV (d2 gN (qe 6) (qe 4))) (kl (ge 4 Jy (qe 6))) jm)))
  (jx (d1 QA (qe 4))))))
noncomputable abbrev Vu:jC:=jJ qdW [.val,.io,.val] (Zc)
abbrev Ul (e0:Ev):=qC e0 6 "_law_words" uU [.val,.io,.val] .sh (Vu)
theorem qbL (Z:ZtE e0 ca) (T:kr e0 "_law_words" Vt uU) (o:zj e0) (Q:Vr e0) (O:Zb e0):Ul e0:=
 dW [1] T λcdv f A outer s H E d=>(qf (se (cN Q (qc vr (sl (qc (qf9 16 rfl) qg)))))
  (qf (sO (jV qg))
  (qf (jU aQ rfl (JR rfl Z.z_range (qZ (kD rfl) qr (cN o (qc vr (sl (qc vr qg)))))) gn
  (qf (se (cN O (qc vr (sl (qc vr (qc qr qg))))))
  (ql (ja (qO (vW rfl d.units) vr vO) (ql (jn (vV (i:=4) rfl rfl (bY rfl) (by decide) vr))) qJ))))
  (ql (qo (kC (KF rfl) rfl Z.z_tuple kz vO))))))
abbrev YH:Stmt:=top 76
abbrev qgz:List Str:=["_law_script", "_law_town"]
abbrev xl:List Str:=["_law_script", "_law_town"]
noncomputable def qbM:qS:=(jx (Qv (qd (d2 ZL (qp [.vl,.sl 1,.vl] xh (qd (qe 0) (wj (qd (dC (.int 6)) qA)))) (dC (.int 3))) (qd (d2 ZL (qp [.vl,.sl 1,.vl] xh (qd (qe 0) (wj (qd (dC (.int 6)) qA)))) (dC (.int 3))) qA))))
noncomputable abbrev YI:jC:=jJ qgz [.val,.io] (qbM)
abbrev Zd (e0:Ev):=qC e0 4 "_law_look" xl [.val,.io] .sh (YI)
theorem qdX (Z:ZtE e0 ca) (T:kr e0 "_law_look" YH xl) (o:zj e0):Zd e0:=
 dW [1] T λcdv f A outer s H E d=>(ql (qo (wR (qc (qZ xB (cN o (qc vr (sl (qc qr qg)))) qr) (qc (qZ xB (cN o (qc vr (sl (qc qr qg)))) qr) qg)))))
abbrev qbN:Stmt:=top 77
abbrev qdY:List Str:=["_law_script", "_law_town", "_law_look_here", "_law_names", "_law_line", "_law_many", "_law_book"]
abbrev qi4:List Str:=["_law_script"]
theorem qi5:FnScope qdY qi4 (qG qbN):=fsc
noncomputable def qi6 (ca:Str->Addr):qS:=(qM (jv 1 (xD qA))
  (qM (jv 2 (qp [.vl,.sl 1] YI (qd (qe 0) (wj qA))))
  (qM (jv 3 (qp [.vl,.sl 1,.vl] Vu (qd (qe 0) (wj (qd (dC (.int 6)) qA)))))
  (qM (jv 4 (d1 vJ (d1 jW (qe 3))))
  (qM (jv 5 (qp [.vl,.vl,.vl,.vl] yg (qd (qe 3) (qd (qe 2) (qd (d1 jW (qe 3)) (qd (qe 4) qA))))))
  (qM (sIf (qV (d2 neD (qp [.vl,.vl] zI (qd (qe 3) (qd (qe 2) qA))) (d2 gtD (qe 5) (dC (.int 0))))) (jx (dC (.bl iN))) jm)
  (qM (sIf (qV (d2 eqD (qe 5) (dC (.int 0)))) (jx (dC (.bl iM))) jm)
  (qM (jv 6 (qa8 (ca "Book") (vt ca) (qd (qe 3) (qd (qe 2) (qd (d1 jW (qe 3)) (qd (qp [.vl,.vl,.vl,.vl,.vl] xf (qd (qe 3) (qd (qe 2) (qd (d1 jW (qe 3)) (qd (qe 4) (qd (d2 yD (qe 5) (dC (.int 2))) qA)))))) qA))))))
  (jx (Jv (d2 eqD (XO (ca "Book") "places" (wG ca) (qe 6)) (d1 Wr (qe 3))) (d2 inA (qe 2) (qp [.vl] Yt (qd (qe 3) qA)))))))))))))
noncomputable abbrev qdZ (ca:Str->Addr):jC:=jJ qdY [.val] (qi6 ca)
theorem qi7 {f:Addr} {fd:lH} (Z:ZtE e0 ca) (F:Fun e0.K "law" "law" qbN f fd) (O:XT e0) (e:Jc e0) (a:wU ca e0) (o:yu ca e0) (M:yX e0) (b:gI e0) (c:Ul e0) (t:Zd e0):FnOk e0.P e0.w e0.K e0.mg e0.base (CXk e0.P e0.w) 19 f fd qi4 (spD e0.K e0.cv [.val] .sh (qdZ ca)):=
 qj9 (k:=18) (own':=[]) (fb:=qi6 ca) F qi5 rfl (va rfl) (.inl rfl) (λcdv A outer s H E d=>(qf (sO (jV qg))
  (qf (se (cN t (qc vr (sl qg))))
  (qf (se (cN c (qc vr (sl (qc qr qg)))))
  (qf (se (WO rfl rfl Z.z_tuple kz rfl Z.z_range xT (qw (je rfl) rfl Z.z_len qX vr)))
  (qf (se (cN M (qc vr (qc vr (qc (qw (je rfl) rfl Z.z_len qX vr) (qc vr qg))))))
  (qf (ja (qO (ZN rfl d.units) (cN e (qc vr (qc vr qg))) (vA qic vr qr)) (ql (qo wY)) qJ)
  (qf (ja (qO (uf rfl d.units) vr qr) (ql (qo wY)) qJ)
  (qf (se (qgb a d (by decide) ZU rfl Z.m_Book (qc vr (qc vr (qc (qw (je rfl) rfl Z.z_len qX vr) (qc (cN b (qc vr (qc vr (qc (qw (je rfl) rfl Z.z_len qX vr) (qc vr (qc (qZ Qr vr qr) qg)))))) qg))))))
  (ql (qo (JQ (vA (uf rfl d.units) (qdD Z.b_cls o d (by decide) ZU vr) (kC (US rfl) rfl Z.z_list yM vr)) (Wf (vA (Wv rfl d.units) vr (cN O (qc vr qg)))))))))))))))) λ_=>.inr rfl
end
end Kx
namespace Kx
open PySem PySem.Spec L2 L2.D2
variable {ρ:Sl} {ds:List D} {d:D} {ms:List PM} {n:Nat} {x y:Str} {b:Bool}
section
variable {as:List AK} {os:List D} {i j:Int} {ks:List (Key×D)}
@[simp] theorem qmU:kI [] [] ρ=iI []:=rfl
@[simp] theorem qmV:kI (.sl n::as) (d::ds) ρ=match ρ[n]? with | some (iI d)=>(kI as ds ρ).map (d::·) | _=>none:=rfl
@[simp] theorem qmW:kI (.vl::as) (d::ds) ρ=(kI as ds ρ).map (d::·):=rfl
@[simp] theorem qmX:kI (.fr::as) (d::ds) ρ=(kI as ds ρ).map (d::·):=rfl
@[simp] theorem qmY:Qa [] [] ρ=ρ:=rfl
@[simp] theorem qmZ:Qa (.sl n::as) (d::ds) ρ=Qa as ds (ρ.set n (iI d)):=rfl
@[simp] theorem qm0:Qa (.vl::as) (d::ds) ρ=Qa as ds ρ:=rfl
@[simp] theorem qm1:Qa (.fr::as) (d::ds) ρ=Qa as ds ρ:=rfl
@[simp] theorem qm2:kc ρ n []=[]:=rfl
@[simp] theorem qm3:kc ρ n (.io::ms)=((ρ[n]?).getD iK).getD .non::kc ρ (n+1) ms:=rfl
@[simp] theorem qm4:kc ρ n (.val::ms)=.non::kc ρ (n+1) ms:=rfl
@[simp] theorem qm5:ud (.int i) (.int j)=.ok (.int (i+j)):=rfl
@[simp] theorem qm6:ud (.str x) (.str y)=if x.length+y.length<=sizeLine then .ok (.str (x++y)) else .bad:=rfl
@[simp] theorem qmN:ud (.lst ds) (.lst os)=if ds.length+os.length<=sizeLine then .ok (.lst (ds++os)) else .bad:=rfl
@[simp] theorem qm7:ud (.tup ds) (.tup os)=if ds.length+os.length<=sizeLine then .ok (.tup (ds++os)) else .bad:=rfl
@[simp] theorem qm8:qhj .non .non=.ok (.bl iM):=rfl
@[simp] theorem qm9:qhj (.tup ds) .non=.ok (.bl iN):=rfl
@[simp] theorem qna:qdd .non .non=.ok (.bl iN):=rfl
@[simp] theorem qnb:qdd (.tup ds) .non=.ok (.bl iM):=rfl
@[simp] theorem ylI:ltD (.int i) (.int j)=.ok (.bl (decide (i < j))):=rfl
@[simp] theorem ylS:ltD (.str x) (.str y)=.ok (.bl (kN x y)):=rfl
@[simp] theorem yeI:leD (.int i) (.int j)=.ok (.bl (decide (i<=j))):=rfl
@[simp] theorem yeS:leD (.str x) (.str y)=.ok (.bl (!kN y x)):=rfl
@[simp] theorem ygI:gtD (.int i) (.int j)=.ok (.bl (decide (j < i))):=rfl
@[simp] theorem ysI:ZL (.int i) (.int j)=.ok (.int (i - j)):=rfl
@[simp] theorem ytB:GJ (.bl b)=.ok b:=rfl
@[simp] theorem ytI:GJ (.int i)=.ok (i != 0):=rfl
@[simp] theorem ytN:GJ .non=.ok false:=rfl
@[simp] theorem ytL:GJ (.lst ds)=.ok (!ds.isEmpty):=rfl
@[simp] theorem ytT:GJ (.tup ds)=.ok (!ds.isEmpty):=rfl
@[simp] theorem ynS:jW (.str x)=.ok (.int x.length):=rfl
@[simp] theorem ynL:jW (.lst ds)=.ok (.int ds.length):=rfl
@[simp] theorem ynT:jW (.tup ds)=.ok (.int ds.length):=rfl
@[simp] theorem ynD:jW (.dct ks)=.ok (.int ks.length):=rfl
end
variable {α:Type}
theorem uV (xs:List α) (k:Nat):atI xs (k:Int)=xs[k]?:=by
 unfold atI ixN;rw [Aa (by lia)];by_cases h:k < xs.length;·rw [Aa (by lia)];simp
 ·rw [Ab (by lia),bx (by lia)];rfl
theorem qi8 {xs:List α} {i:Int} (a:0<=i) (h1:i < xs.length):∃ d,atI xs i=iI d/\d∈xs:=by
 obtain ⟨k,rfl⟩:=Int.eq_ofNat_of_zero_le a;have h:k < xs.length:=by lia
 exact ⟨xs[k],by rw [uV,aA h],bI h⟩
theorem big:2000<=sizeLine:=by rw [iY]; decide
abbrev scr (ns:List Int):D:=.lst (ns.map .int)
theorem qgA (ns:List Int) (k:Nat):∃ i,zV [scr ns,.int k]=.ok (.int i,[.non,.non]):=by
 by_cases h:k < ns.length;·refine ⟨ns[k],?_⟩;refine qu.trans ?_;simp [yh,qt,ixD,h,uV]
 ·by_cases a:ns=[]
  ·subst a;have b:¬((k:Int) < 0):=by lia
   exact ⟨0,by refine qu.trans ?_; simp [yh,qt,ixD,eqD,eqN,uY,b]⟩
  ·have hp:0 < ns.length:=d7.mpr a;have hm:k % ns.length < ns.length:=f7 _ hp;have e:atI (ns.map D.int) ((k:Int) % (ns.length:Int))=iI (.int ns[k % ns.length]):=by rw [show ((k:Int) % (ns.length:Int))=((k % ns.length:Nat):Int) by simp,uV,aH,aA hm];rfl
   refine ⟨ns[k % ns.length] * 31+k,?_⟩;refine qu.trans ?_;simp [yh,qt,ixD,eqD,eqN,h,a,yC,qc8,uc,hp,e,CMul]
variable {many:Int}
theorem qd0 (ns:List Int) (k:Nat) (hm:0 < many):∃ r,0<=r/\r < many/\Vq [scr ns,.int k,.int many]=.ok (.int r,[.non,.non,.non]):=by
 obtain ⟨c,h⟩:=qgA ns k;have h1:=cP (c * 1103515245+7919 * k+12345) (show (2147483647:Int)≠0 by decide);have h2:=ck (c * 1103515245+7919 * k+12345) (show (0:Int) < 2147483647 by decide);generalize hd:(c * 1103515245+7919 * (k:Int)+12345) % 2147483647=d at h1 h2;have a:L2.D2.qkp d 5:=⟨⟨by lia,by lia⟩,by lia,by lia⟩
 refine ⟨d ^ 5 % 2147483647 % 999983 % many,cP _ (by lia),ck _ hm,?_⟩;refine qu.trans ?_;simp [Za,qt,h,qc8,yC,qll,uc,hm,hd,a,show ∀ j,CMul 7919 j from λj=>.inl ⟨by lia,by lia⟩,show ∀ i,CMul i 1103515245 from λi=>.inr ⟨by lia,by lia⟩]
theorem Jk (ns:List Int) (t:List D) (hm:0 < many) (ht:t.length < 1000):∃ r,0<=r/\r < many/\xh [scr ns,.lst t,.int many]=.ok (.int r,[.non,.lst (t++[.int 0]),.non]):=by obtain ⟨r,a,h1,h⟩:=qd0 ns (t.length+1) hm;have hl:t.length < sizeLine:=aK (eR ht (by decide)) big;refine ⟨r,a,h1,?_⟩;simp at h;refine qu.trans ?_;simp [qbI,qt,yH,Jy,hl,h]
theorem qbO (ns:List Int) (t xs:List D) (hx:xs≠[]) (ht:t.length < 1000):∃ d,d∈xs/\Jj [scr ns,.lst t,.lst xs]=.ok (d,[.non,.lst (t++[.int 0]),.non]):=by have hp:0 < xs.length:=d7.mpr hx;obtain ⟨r,a,h1,h⟩:=Jk ns t (many:=(xs.length:Int)) (by lia) ht;obtain ⟨d,e,hd⟩:=qi8 (xs:=xs) a h1;refine ⟨d,hd,?_⟩;refine qu.trans ?_;simp [qbJ,qt,h,ixD,e]
def az (c:Nat):Prop:=97<=c/\c<=122
def qgB (w:Str):Prop:=1<=w.length/\w.length<=6/\∀ c∈w.cps.toList,az c
theorem Jl (x:Str):x.length=x.cps.size:=rfl
theorem qbP (x y:Str):(x++y).cps=x.cps++y.cps:=rfl
def qkt (ls:List Str):Prop:=ls≠[]/\∀ x∈ls,∃ c,az c/\x=⟨#[c]⟩
theorem qbQ:∀ cs:List Nat,fV (aD "") (cs.map λc=>(⟨#[c]⟩:Str))=⟨cs.toArray⟩:=by
 intro cs;have e:∀ cs:List Nat,Str.join (aD "") (cs.map λc=>(⟨#[c]⟩:Str))=⟨cs.toArray⟩:=by
  intro cs
  induction cs with
  | nil=>rfl
  | cons c cs j=>
   cases cs with
   | nil=>rfl
   | cons d ds=>
    show (⟨#[c]⟩:Str)++aD ""++Str.join (aD "") ((d::ds).map λc=>(⟨#[c]⟩:Str))=_;rw [j];have:((⟨#[c]⟩:Str)++aD ""++(⟨(d::ds).toArray⟩:Str)).cps=(c::d::ds).toArray:=by
     rw [qbP,qbP];have:(aD "").cps=#[]:=by decide +kernel
     rw [this];simp
    generalize h:(⟨#[c]⟩:Str)++aD ""++(⟨(d::ds).toArray⟩:Str)=x at this;obtain ⟨y⟩:=x;simp only at this;rw [this]
 unfold fV;rw [StrLaws.glued_eq_join];exact e cs
theorem Ze:∀ cs:List Nat,((cs.map λc=>(⟨#[c]⟩:Str)).map (·.length)).sum=cs.length
 | []=>rfl
 | c::cs=>by
  have j:=Ze cs;rw [aG,aG,List.sum_cons,j,ao];show 1 + _=_
  lia
theorem wb:∀ ws:List Str,zt (ws.map D.str)=iI ws
 | []=>rfl
 | w::ws=>by simp [zt,wb ws]
variable {ls:List Str}
theorem Um (ns:List Int) (hl:qkt ls):∀ (ds:List D) (t:List D) (k:Option D),t.length+ds.length < 1000 ->∃ (cs:List Nat) (a:List D) (k':Option D),a.length=t.length+ds.length/\cs.length=ds.length/\(∀ c∈cs,az c) /\
   jS (gNm 0) ftT (qp [.vl,.sl 2,.vl] Jj (qd (qe 1) (wj (qd (qe 3) qA)))) ds [k,iI (scr ns),iI (.lst t),iI (.lst (ls.map D.str))]
    = .ok ((cs.map λc=>(⟨#[c]⟩:Str)).map D.str,[k',iI (scr ns),iI (.lst a),iI (.lst (ls.map D.str))])
 | [],t,k,_=>⟨[],t,k,by simp,rfl,by simp,rfl⟩
 | d::ds,t,k,ht=>by
  rw [ao] at ht;obtain ⟨e,g,hp⟩:=qbO ns t (ls.map D.str) (by simpa using hl.1) (by lia);obtain ⟨x,hx,rfl⟩:=af.mp g;obtain ⟨c,h,rfl⟩:=hl.2 x hx;obtain ⟨cs,a,k',f,b,p,o⟩:=Um ns hl ds (t++[.int 0]) (iI d) (by rw [aq]; simp; lia);refine ⟨c::cs,a,k',?_,by simp [b],?_,?_⟩
  ·rw [f,aq,ao];simp
   lia
  ·intro y C;rcases ac.mp C with rfl | C;·exact h
   ·exact p y C
  ·simp [jS,Qz,hp,o]
theorem qgC (ns:List Int) (t:List D) (hl:qkt ls) (ht:t.length < 900):∃ w a,qgB w/\a.length<=t.length+8/\Vs [scr ns,.lst t,.lst (ls.map D.str),.int 6]=.ok (.str w,[.non,.lst a,.non,.non]):=by
 obtain ⟨r,r0,r1,d⟩:=Jk ns t (many:=6) (by lia) (by lia);have n:(Jw 0 (1+r).toNat).length=(1+r).toNat:=by simp [Jw]
 obtain ⟨cs,a,k',k,g,p,o⟩:=Um ns hl (Jw 0 (1+r).toNat) (t++[.int 0]) iK (by rw [n,aq]; simp; lia);rw [n] at k g;rw [aq] at k;simp at k;refine ⟨⟨cs.toArray⟩,a,⟨?_,?_,?_⟩,by lia,?_⟩;·show 1<=cs.toArray.size;simp; lia
 ·show cs.toArray.size<=6;simp; lia
 ·simpa using p
 ·refine qu.trans ?_;have b:-(2 ^ 62:Int)<=1+r/\1+r < 2 ^ 62:=by lia
  have hb:=big;have z:(Jw 0 (1+r).toNat).length<=sizeLine:=by rw [n]; lia
  have e0:ig (aD "")=0:=by decide +kernel
  have h:=Ze cs;have G:qaZ (aD "") (.lst ((cs.map λc=>(⟨#[c]⟩:Str)).map D.str))=.ok (.str ⟨cs.toArray⟩):=by unfold qaZ;simp only [wb,qbQ,h];rw [Aa ⟨by simp [e0]; lia,by show cs.toArray.size<=_; simp; lia⟩]
  simp only [qbK,qt,KJ,zu,qT];simp [-bo,d,Qx,-Int.reducePow,b,z,kJ,o,jR,G]
theorem wc (w:Str):∀ ws:List Str,Qt 7 (.str w) (ws.map D.str)=iI (decide (w∈ws))
 | []=>by simp [Qt]
 | a::ws=>by
  have j:=wc w ws;simp only [aG,Qt,j];simp [eqN,eqS];by_cases h:a=w;·simp [h]
  ·simp [h,be h]
def jP (ws:List Str):Prop:=1<=ws.length/\ws.length<=6/\ws.Nodup/\∀ w∈ws,qgB w
abbrev qbR:qS:=(qM (jv 6 (qp [.vl,.sl 1,.vl,.vl] Vs (qd (qe 0) (wj (qd (qe 3) (qd (dC (.int 6)) qA))))))
  (sIf (qV (d2 gN (qe 6) (qe 4))) (kl (ge 4 Jy (qe 6))) jm))
theorem zW (ns:List Int) (m:D) (h:qkt ls):∀ (ds:List D) (n:List D) (ws:List Str) (k u:Option D),n.length+8 * ds.length < 900->ws.length+ds.length<=100->ws.Nodup->(∀ w∈ws,qgB w) ->∃ (t:List D) (c:List Str) (k' V:Option D),t.length<=n.length+8 * ds.length/\c.length<=ws.length+ds.length/\ws.length<=c.length/\(ds≠[]->1<=c.length)/\c.Nodup/\(∀ w∈c,qgB w) /\
   kM (gNm 5) qbR ds [iI (scr ns),iI (.lst n),iI m,iI (.lst (ls.map D.str)),iI (.lst (ws.map D.str)),k,u]=.ok (.nx,[iI (scr ns),iI (.lst t),iI m,iI (.lst (ls.map D.str)),iI (.lst (c.map D.str)),k',V])
 | [],n,ws,k,u,_,_,hn,hw=>⟨n,ws,k,u,by simp,by simp,by simp,by simp,hn,hw,rfl⟩
 | d::ds,n,ws,k,u,ht,hl,hn,hw=>by
  rw [ao] at ht hl;obtain ⟨w,t1,W,y,hg⟩:=qgC ns n h (by lia);have hb:=big;have i:ws.length < sizeLine:=by lia
  by_cases hm:w∈ws
  ·obtain ⟨t,c,k',V,q,g,p,o,f,l,e⟩:=zW ns m h ds t1 ws (iI d) (iI (.str w)) (by lia) (by lia) hn hw;refine ⟨t,c,k',V,by rw [ao]; lia,by rw [ao]; lia,p,λ_=>?_,f,l,?_⟩
   ·have:0 < ws.length:=cg hm
    lia
   ·rw [<-e];simp [kM,qbR,hg,gN,ZO,inD,wc,hm]
  ·obtain ⟨t,c,k',V,q,g,p,o,f,l,e⟩:=zW ns m h ds t1 (ws++[w]) (iI d) (iI (.str w)) (by lia) (by rw [aq]; simp; lia) (bR.mpr ⟨hn,by simp,λa j b hb=>by
    rw [aw.mp hb];exact λz=>hm (z ▸ j)⟩) (λx hx=>by
    rcases ai.mp hx with hx | hx;·exact hw x hx
    ·rw [aw.mp hx];exact W)
   rw [aq] at g p;simp at g p;refine ⟨t,c,k',V,by rw [ao]; lia,by rw [ao]; lia,by lia,λ_=>by lia,f,l,?_⟩;rw [<-e];simp [kM,qbR,hg,gN,ZO,inD,wc,hm,yH,Jy,i]
noncomputable def qhs:List (List Str):=[["a", "b"],["a", "b", "c"],["a", "b", "c", "d"],["k", "m", "z", "a", "e"]]
theorem qgD:∀ ls∈qhs,qkt ls:=by
 have h1:∀ ls∈qhs,∀ x∈ls,x∈(["a", "b", "c", "d", "k", "m", "z", "e"]:List Str):=by decide +kernel
 have h2:∀ ls∈qhs,ls≠[]:=by decide +kernel
 intro ls h;refine ⟨h2 ls h,λx hx=>?_⟩;have f:=h1 ls h x hx;simp only [ac,aU,or_false] at f;rcases f with rfl | rfl | rfl | rfl | rfl | rfl | rfl | rfl;·exact ⟨97,by unfold az; decide,by decide +kernel⟩
 ·exact ⟨98,by unfold az; decide,by decide +kernel⟩
 ·exact ⟨99,by unfold az; decide,by decide +kernel⟩
 ·exact ⟨100,by unfold az; decide,by decide +kernel⟩
 ·exact ⟨107,by unfold az; decide,by decide +kernel⟩
 ·exact ⟨109,by unfold az; decide,by decide +kernel⟩
 ·exact ⟨122,by unfold az; decide,by decide +kernel⟩
 ·exact ⟨101,by unfold az; decide,by decide +kernel⟩
theorem qd1 (ns:List Int) (t:List D) (ht:t.length < 700):∃ ws a,jP ws/\ws.length<=6/\a.length<=t.length+50/\Vu [scr ns,.lst t,.int 6]=.ok (.tup (ws.map D.str),[.non,.lst a,.non]):=by
 obtain ⟨d,hd,hp⟩:=qbO ns t (qhs.map λl=>.lst (l.map D.str)) (by simp [qhs]) (by lia);obtain ⟨ls,h,rfl⟩:=af.mp hd;have hl:=qgD ls h;obtain ⟨r,r0,r1,b⟩:=Jk ns (t++[.int 0]) (many:=6) (by lia) (by rw [aq]; simp; lia);have n:(Jw 0 (1+r).toNat).length=(1+r).toNat:=by simp [Jw]
 obtain ⟨a,c,k',V,f,g,q,p,o,m,k⟩:=zW ns (.int 6) hl (Jw 0 (1+r).toNat) (t++[.int 0]++[.int 0]) [] iK iK (by rw [n,aq,aq]; simp; lia) (by rw [n]; simp; lia) cJ (by simp);have e:Jw 0 (1+r).toNat≠[]:=λz=>by
  rw [z] at n;simp at n
  lia
 refine ⟨c,a,⟨p e,?_,o,m⟩,?_,?_,?_⟩
 ·rw [n] at g;simp at g
  lia
 ·rw [n] at g;simp at g
  lia
 ·rw [n,aq,aq] at f;simp at f
  lia
 ·refine qu.trans ?_;have j:-(2 ^ 62:Int)<=1+r/\1+r < 2 ^ 62:=by lia
  have hb:=big;have i:4<=sizeLine:=by lia
  simp only [ba,fX,cB,bV] at k b;simp only [qhs,aG,bV] at hp;simp [Zc,qt,hp,b,Qx,-Int.reducePow,j,i,k,QA]
def UD (p q:Int):Prop:=(-3<=p/\p<=2)/\-3<=q/\q<=2
theorem qgE (ns:List Int) (t:List D) (ht:t.length < 900):∃ p q a,UD p q/\a.length=t.length+2/\YI [scr ns,.lst t]=.ok (.tup [.int p,.int q],[.non,.lst a]):=by
 obtain ⟨r,r0,r1,h⟩:=Jk ns t (many:=6) (by lia) (by lia);obtain ⟨u,c,b,d⟩:=Jk ns (t++[.int 0]) (many:=6) (by lia) (by rw [aq]; simp; lia);have hb:=big;have z:2<=sizeLine:=by lia
 refine ⟨r - 3,u - 3,t++[.int 0,.int 0],⟨⟨by lia,by lia⟩,by lia,by lia⟩,by simp,?_⟩;refine qu.trans ?_;simp only [ba,fX,cB] at d;simp [qbM,qt,h,d,uc,z]
noncomputable def zk (n:Nat) (p:Int):Nat:=(max 0 (min (if 0<=p then p else (n:Int)+p) ((n:Int) - 1))).toNat
noncomputable def qbS (w:Str) (p:Int):Str:=⟨#[(w.cps.toList[zk w.length p]?).getD 0]⟩
theorem gJ {w:Str} (h:qgB w) (p:Int):vj [.str w,.int p]=.ok (.str (qbS w p),[.non,.non]):=by
 have h1:=h.1;have a:(w.cps.toList.length:Int)=w.length:=by simp [Jl]
 have key:∀ q:Int,q=(if 0<=p then p else (w.length:Int)+p)->atI w.cps.toList (if 0 < (if (w.length:Int) - 1 < q then (w.length:Int) - 1 else q) then (if (w.length:Int) - 1 < q then (w.length:Int) - 1 else q) else 0)=iI ((w.cps.toList[zk w.length p]?).getD 0):=by
  intro q hq;have e:(if 0 < (if (w.length:Int) - 1 < q then (w.length:Int) - 1 else q) then (if (w.length:Int) - 1 < q then (w.length:Int) - 1 else q) else 0)=(zk w.length p:Int):=by
   unfold zk;rw [<-hq];have:1<=(w.length:Int):=by omega
   generalize (w.length:Int)=n at *;split <;> split <;> omega
  have hl:zk w.length p < w.cps.toList.length:=by
   have Z:w.cps.toList.length=w.length:=by simp [Jl]
   rw [Z];unfold zk;omega
  rw [e,uV,aA hl];rfl
 refine qu.trans ?_;by_cases hp:0<=p;·have k:=key p (by rw [Aa hp]);simp [yR,qt,geD,uc,hp,qkc,qkd,ixD,k,qbS]
 ·have k:=key (w.length+p) (by rw [Ab hp]);simp [yR,qt,geD,uc,hp,qkc,qkd,ixD,k,qbS]
variable {own:List Nat}
theorem yi (ρc:Sl):∀ (cap:List Nat) (n:Nat) (ρ:Sl),(∀ k∈cap,k∉own)->jR own ρc n cap ρ=ρ
 | [],n,ρ,_=>rfl
 | k::cap,n,ρ,h=>by unfold jR;rw [Ab (h k (aj ..))];exact yi ρc cap (n+1) ρ λx hx=>h x (ae _ hx)
theorem qi9 {fe:qU} {ft:ym} {P:D->Bool} {F:D->D} {c:Sl}:∀ (ds:List D) (x:Option D),(∀ d∈ds,ft (iI d::c)=.ok (P d,iI d::c))->(∀ d∈ds,P d=iM->fe (iI d::c)=.ok (F d,iI d::c))->∃ n,jS (gNm 0) ft fe ds (x::c)=.ok ((ds.filter P).map F,n::c)
 | [],x,_,_=>⟨x,rfl⟩
 | d::ds,x,h,h'=>by
  obtain ⟨n,e⟩:=qi9 ds (iI d) (λd' hd=>h d' (ae _ hd)) λd' hd=>h' d' (ae _ hd);refine ⟨n,?_⟩;have h1:=h d (aj ..);have h2:=h' d (aj ..);cases q:P d with
  | true=>simp [jS,Qz,h1,q,h2 q,e]
  | false=>simp [jS,Qz,h1,q,e]
variable {cap:List Nat} {ρ1:Sl}
theorem Zf {fi:vB} {fe:qU} {ft:ym} (P:D->Bool) (F:D->D) (l:∀ k∈cap,k∉own) (h:fi ρ=.ok (ds,ρ1)) (hl:ds.length<=sizeLine)
  (ht:∀ d∈ds,ft (iI d::cap.map λk=>(ρ1[k]?).getD iK)=.ok (P d,iI d::cap.map λk=>(ρ1[k]?).getD iK)) (g:∀ d∈ds,P d=iM->fe (iI d::cap.map λk=>(ρ1[k]?).getD iK)=.ok (F d,iI d::cap.map λk=>(ρ1[k]?).getD iK)) :
  qT own 1 cap fi (gNm 0) ft fe ρ=.ok (.lst ((ds.filter P).map F),ρ1):=by
 obtain ⟨n,e⟩:=qi9 ds iK ht g;unfold qT;rw [h];simp only [kq];rw [Aa hl,show kJ 1 cap ρ1=iK::cap.map λk=>(ρ1[k]?).getD iK from rfl,e];simp only [kq,yi _ _ _ _ l]
theorem qbT {fi:vB} {fe:qU} (F:D->D) (l:∀ k∈cap,k∉own) (h:fi ρ=.ok (ds,ρ1)) (hl:ds.length<=sizeLine) (ht:∀ d∈ds,fe (iI d::cap.map λk=>(ρ1[k]?).getD iK)=.ok (F d,iI d::cap.map λk=>(ρ1[k]?).getD iK)):qT own 1 cap fi (gNm 0) ftT fe ρ=.ok (.lst (ds.map F),ρ1):=by have e:=Zf (ft:=ftT) (λ_=>iM) F l h hl (λ_ _=>rfl) λd hd _=>ht d hd;rw [List.filter_eq_self.mpr λ_ _=>rfl] at e;exact e
theorem vw {fi:vB} {fe:qU} (F:D->D) (h:fi ρ=.ok (ds,ρ1)) (hl:ds.length<=sizeLine) (ht:∀ d∈ds,fe (iI d::cap.map λk=>(ρ1[k]?).getD iK)=.ok (F d,iI d::cap.map λk=>(ρ1[k]?).getD iK)):qT [] 1 cap fi (gNm 0) ftT fe ρ=.ok (.lst (ds.map F),ρ1):=qbT F (λ_ _=>by simp) h hl ht
noncomputable def qy (ws:List Str) (p q:Int):List (Str×Str):=ws.map λw=>(qbS w p,qbS w q)
noncomputable def qv (l:List (Str×Str)):List D:=l.map λx=>.tup [.str x.1,.str x.2]
theorem small (h:n<=2000):n<=sizeLine:=bU h big
abbrev Wd (ws:List Str):D:=.tup (ws.map D.str)
abbrev Ld (p q:Int):D:=.tup [.int p,.int q]
variable {ws:List Str} {p q:Int}
theorem Gy {G:jC} (h:jP ws) (a:∀ w∈ws,G [.str w,.int p]=.ok (.str (qbS w p),[.non,.non])/\G [.str w,.int q]=.ok (.str (qbS w q),[.non,.non])):qT [] 1 [1] (jw (qe 0)) (gNm 0) ftT (Qv (qd (qp [.vl,.vl] G (qd (qe 0) (qd (d2 ixD (qe 1) (dC (.int 0))) qA))) (qd (qp [.vl,.vl] G (qd (qe 0) (qd (d2 ixD (qe 1) (dC (.int 1))) qA))) qA))) [iI (Wd ws),iI (Ld p q)]
   = .ok (.lst (qv (qy ws p q)),[iI (Wd ws),iI (Ld p q)]):=by
 have e:=vw (cap:=[1]) (fi:=jw (qe 0)) (ρ:=[iI (Wd ws),iI (Ld p q)]) (ρ1:=[iI (Wd ws),iI (Ld p q)]) (ds:=ws.map D.str)
  (fe:=(Qv (qd (qp [.vl,.vl] G (qd (qe 0) (qd (d2 ixD (qe 1) (dC (.int 0))) qA))) (qd (qp [.vl,.vl] G (qd (qe 0) (qd (d2 ixD (qe 1) (dC (.int 1))) qA))) qA))))
  (λd=>match d with | .str w=>.tup [.str (qbS w p),.str (qbS w q)] | d=>d) (by simp [jo]) (by rw [ap]; exact small (by have:=h.2.1; lia)) (λd hd=>by obtain ⟨w,hm,rfl⟩:=af.mp hd;obtain ⟨h1,h2⟩:=a w hm;have z:2<=sizeLine:=small (by lia);simp [ixD,atI,ixN,h1,h2,z])
 rw [e];simp [qv,qy]
def Pl:D->Prop
 | .raw _=>False
 | .xcp _=>False
 | .ins _ _=>False
 | .dct _=>False
 | .at_ _ _=>False
 | _=>True
@[simp] theorem kk1:kn "NoneType" "int"=iI false:=by decide +kernel
@[simp] theorem kk2:kn "bool" "int"=iI true:=by decide +kernel
@[simp] theorem kk3:kn "int" "int"=iI true:=by decide +kernel
@[simp] theorem kk4:kn "str" "int"=iI false:=by decide +kernel
@[simp] theorem kk5:kn "tuple" "int"=iI false:=by decide +kernel
@[simp] theorem kk6:kn "list" "int"=iI false:=by decide +kernel
@[simp] theorem kb1:kn "NoneType" "bool"=iI false:=by decide +kernel
@[simp] theorem kb2:kn "bool" "bool"=iI true:=by decide +kernel
@[simp] theorem kb3:kn "int" "bool"=iI false:=by decide +kernel
@[simp] theorem kb4:kn "str" "bool"=iI false:=by decide +kernel
@[simp] theorem kb5:kn "tuple" "bool"=iI false:=by decide +kernel
@[simp] theorem kb6:kn "list" "bool"=iI false:=by decide +kernel
@[simp] theorem ks1:kn "NoneType" "str"=iI false:=by decide +kernel
@[simp] theorem ks2:kn "bool" "str"=iI false:=by decide +kernel
@[simp] theorem ks3:kn "int" "str"=iI false:=by decide +kernel
@[simp] theorem ks4:kn "str" "str"=iI true:=by decide +kernel
@[simp] theorem ks5:kn "tuple" "str"=iI false:=by decide +kernel
@[simp] theorem ks6:kn "list" "str"=iI false:=by decide +kernel
@[simp] theorem kt1:kn "NoneType" "tuple"=iI false:=by decide +kernel
@[simp] theorem kt2:kn "bool" "tuple"=iI false:=by decide +kernel
@[simp] theorem kt3:kn "int" "tuple"=iI false:=by decide +kernel
@[simp] theorem kt4:kn "str" "tuple"=iI false:=by decide +kernel
@[simp] theorem kt5:kn "tuple" "tuple"=iI true:=by decide +kernel
@[simp] theorem kt6:kn "list" "tuple"=iI false:=by decide +kernel
noncomputable def JL:D->Bool
 | .tup _=>iM
 | _=>iN
theorem qbU (h:Pl d):Qd "tuple" d=.ok (.bl (JL d)):=by cases d <;> first | exact h.elim | simp [Qd,tyN,JL]
noncomputable def qbV:D->Bool
 | .str x=>decide (x.length=1)&&(!kN x "a"&&!kN "z" x)
 | _=>iN
noncomputable def Js (lo hi:Int):D->Bool
 | .int i=>decide (lo<=i)&&decide (i<=hi)
 | _=>iN
theorem gK (h:Pl d):vh [d]=.ok (.bl (qbV d),[.non]):=by
 refine qu.trans ?_;cases d <;> first
  | exact h.elim
  | (simp [wo,qt,Qd,tyN,qbV]; done)
  | skip
 rename_i x;by_cases h1:x.length=1
 ·have c:(x.length:Int)=1:=by lia
  cases h2:kN x "a" <;> simp [wo,qt,Qd,tyN,eqD,eqN,eqS,qbV,h1,c,h2]
 ·have c:¬(x.length:Int)=1:=by lia
  simp [wo,qt,Qd,tyN,eqD,eqN,eqS,qbV,h1,c]
theorem jN (h:Pl d) (lo hi:Int):jp [d,.int lo,.int hi]=.ok (.bl (Js lo hi d),[.non,.non,.non]):=by
 refine qu.trans ?_;cases d <;> first
  | exact h.elim
  | (simp [uq,qt,Qd,tyN,Js]; done)
  | skip
 rename_i i;by_cases h1:lo<=i <;> simp [uq,qt,Qd,tyN,Js,h1]
theorem qeL {c:Nat} (h:az c):qbV (.str ⟨#[c]⟩)=true:=by
 have a:(aD "a").cps.toList=[97]:=by decide +kernel
 have z:(aD "z").cps.toList=[122]:=by decide +kernel
 obtain ⟨h1,h2⟩:=h;have f:¬([c]:List Nat) < [97]:=by rw [List.cons_lt_cons_iff];simp;omega
 have l:¬([122]:List Nat) < [c]:=by rw [List.cons_lt_cons_iff];simp;omega
 have e1:kN ⟨#[c]⟩ (aD "a")=false:=by unfold kN;rw [a];exact Ac f
 have i:kN (aD "z") ⟨#[c]⟩=false:=by unfold kN;rw [z];exact Ac l
 simp [qbV,Jl,e1,i]
theorem Kn (f:α->Bool):∀ l:List α,gf (l.map λx=>.bl (f x))=iI (l.map f)
 | []=>rfl
 | a::l=>by have j:=Kn f l;simp [gf,j]
theorem wM (f:α->Bool) (l:List α):UT (.lst (l.map λx=>.bl (f x)))=.ok (.bl (l.all f)):=by simp only [UT,Kn];simp [List.all_map,Function.comp_def]
theorem qbW {w:Str} (h:qgB w) (p:Int):∃ c,az c/\qbS w p=⟨#[c]⟩:=by
 have n:w.cps.toList.length=w.length:=by simp [Jl]
 have hl:zk w.length p < w.cps.toList.length:=by have:=h.1;rw [n];unfold zk;omega
 refine ⟨w.cps.toList[zk w.length p],h.2.2 _ (bI hl),?_⟩;unfold qbS;rw [aA hl];rfl
theorem Gz {w:Str} (h:qgB w):xV [.str w]=.ok (.bl iM,[.non]):=by
 refine qu.trans ?_;have e:=vw (cap:=[]) (fi:=jw (qe 0)) (ρ:=[iI (.str w)]) (ρ1:=[iI (.str w)]) (ds:=Wt w) (fe:=qp [.vl] vh (qd (qe 0) qA)) (λd=>.bl (qbV d)) (by simp [jo]) (by
   have:=h.2.1;simp [Wt,<-Jl];exact small (by lia)) (λd hd=>by
   obtain ⟨c,a,rfl⟩:=af.mp hd;have h1:=gK (d:=.str ⟨#[c]⟩) trivial;simp [h1])
 have f:(Wt w).all qbV=true:=by rw [aI];intro d hd;obtain ⟨c,a,rfl⟩:=af.mp hd;exact qeL (h.2.2 c a)
 have h1:(1:Int)<=w.length:=by have:=h.1; lia
 have b:(w.length:Int)<=6:=by have:=h.2.1; lia
 simp only [WQ,qt,aG,bV,ao,aV,Nat.reduceAdd,eS,c6,bj];simp [Qd,tyN,h1,b,e,wM,f]
theorem xm:∀ (ws ks:List Str),ws.Nodup->(∀ x∈ws,x∉ks)->ws.foldl gj ks=ks++ws
 | [],ks,_,_=>by simp
 | w::ws,ks,hn,hd=>by
  have h1:=aM.mp hn;rw [bW,show gj ks w=ks++[w] from Ab (hd w (aj ..)),xm ws (ks++[w]) h1.2 ?_];·simp
  ·intro x hx z;rcases ai.mp z with z | z;·exact hd x (ae _ hx) z
   ·rw [aw.mp z] at hx;exact h1.1 hx
theorem zl (ws:List Str):∀ ks:List Str,ks.Nodup->(ws.foldl gj ks).Nodup/\∀ x,x∈ws.foldl gj ks↔x∈ks\/x∈ws:=by
 induction ws with
 | nil=>intro ks n; exact ⟨n,λx=>by simp⟩
 | cons w ws j=>
  intro ks n;have d:(gj ks w).Nodup:=by
   unfold gj;split;·exact n
   ·rename_i h;exact bR.mpr ⟨n,by simp,λa f b hb=>by rw [aw.mp hb];exact λz=>h (z ▸ f)⟩
  obtain ⟨a,b⟩:=j (gj ks w) d;refine ⟨a,λx=>?_⟩;rw [bW,b x];unfold gj;split
  ·rename_i h;constructor
   ·rintro (q | q);·exact .inl q
    ·exact .inr (ae _ q)
   ·rintro (q | q);·exact .inl q
    ·rcases ac.mp q with rfl | q;·exact .inl h
     ·exact .inr q
  ·simp [ai,or_assoc]
theorem YJ (h:jP ws):zy [.tup (ws.map D.str)]=.ok (.bl iM,[.non]):=by
 refine qu.trans ?_;have e:=vw (cap:=[]) (fi:=jw (qe 0)) (ρ:=[iI (.tup (ws.map D.str))]) (ρ1:=[iI (.tup (ws.map D.str))]) (ds:=ws.map D.str) (fe:=qp [.vl] xV (qd (qe 0) qA)) (λd=>.bl iM) (by simp [jo]) (by
   rw [ap];exact small (by have:=h.2.1; lia)) (λd hd=>by
   obtain ⟨w,hm,rfl⟩:=af.mp hd;have h1:=Gz (h.2.2.2 w hm);simp [h1])
 have h1:(1:Int)<=ws.length:=by have:=h.1; lia
 have b:(ws.length:Int)<=6:=by have:=h.2.1; lia
 have f:ws.foldl gj []=ws:=by rw [xm ws [] h.2.2.1 (by simp)]; simp
 have c:ws.length < 4000:=by lia
 have a:=wM (λ_:D=>iM) (ws.map D.str);simp only [Kb,qt,aG,bV,ao,aV,Nat.reduceAdd,eS,c6,bj];simp [-bo,Qd,tyN,h1,b,e,a,QL,xO,wb,f,c,eqD,eqN,eqS]
theorem yy (w:jP ws):kR [.tup (ws.map D.str)]=.ok (.non,[.non]):=by refine qu.trans ?_;have h:=YJ w;simp [xW,qt,h]
theorem GA (hl:UD p q):QT [.tup [.int p,.int q]]=.ok (.bl iM,[.non]):=by
 refine qu.trans ?_;have e:=vw (cap:=[]) (fi:=jw (qe 0)) (ρ:=[iI (.tup [.int p,.int q])]) (ρ1:=[iI (.tup [.int p,.int q])]) (ds:=[.int p,.int q]) (fe:=qp [.vl,.vl,.vl] jp (qd (qe 0) (qd (dC (.int (-3))) (qd (dC (.int 2)) qA)))) (λd=>.bl (Js (-3) 2 d)) (by simp [jo]) (small (by simp)) (λd hd=>by
   have hd:d=.int p\/d=.int q:=by simpa using hd
   have h1:=jN (d:=.int p) trivial (-3) 2;have h2:=jN (d:=.int q) trivial (-3) 2;rcases hd with rfl | rfl;·simp [h1]
   ·simp [h2])
 have a:Js (-3) 2 (.int p)=true:=by simp [Js]; exact hl.1
 have f:Js (-3) 2 (.int q)=true:=by simp [Js]; exact hl.2
 simp only [WT,qt,aG,bV,ao,aV,Nat.reduceAdd,eS,c6,bj];simp [Qd,tyN,neD,eqN,eqS,e,UT,gf,a,f]
theorem Vv (hl:UD p q):ut [.tup [.int p,.int q]]=.ok (.non,[.non]):=by refine qu.trans ?_;have h:=GA hl;simp [gp,qt,h]
theorem Vw (h:jP ws) (hl:UD p q):kL [Wd ws,Ld p q]=.ok (.lst (qv (qy ws p q)),[.non,.non]):=by
 refine qu.trans ?_;have e:=Gy (G:=vj) h (p:=p) (q:=q) λw hm=>⟨gJ (h.2.2.2 w hm) p,gJ (h.2.2.2 w hm) q⟩
 have k:=yy h;have c2:=Vv hl;simp only [qbq,qt,aG,bV,ao,aV,Nat.reduceAdd,eS,c6,bj];simp [k,c2,e]
theorem qbX {a b:List Str} (f:a.Nodup) (hb:b.Nodup) (h:∀ x,x∈a↔x∈b):a.Perm b:=(List.perm_ext_iff_of_nodup f hb).mpr h
noncomputable def LS (l:List (Str×Str)):List Str:=jZ ((l.map (·.1)++l.map (·.2)).foldl gj [])
variable {l:List (Str×Str)}
theorem vG:x∈LS l↔∃ p∈l,x=p.1\/x=p.2:=by
 unfold LS;rw [(qK _).mem_iff,(zl _ [] cJ).2];simp only [aU,false_or,ai,af];constructor
 ·rintro (⟨p,hp,rfl⟩ | ⟨p,hp,rfl⟩);·exact ⟨p,hp,.inl rfl⟩
  ·exact ⟨p,hp,.inr rfl⟩
 ·rintro ⟨p,hp,rfl | rfl⟩;·exact .inl ⟨p,hp,rfl⟩
  ·exact .inr ⟨p,hp,rfl⟩
theorem wN (hl:l.length<=20):jh [.lst (qv l)]=.ok (.lst ((LS l).map D.str),[.non]):=by
 refine qu.trans ?_;have z:(qv l).length<=sizeLine:=by unfold qv;rw [ap];exact small (by lia)
 have e1:=vw (cap:=[]) (fi:=jw (qe 0)) (ρ:=[iI (.lst (qv l))]) (ρ1:=[iI (.lst (qv l))]) (ds:=qv l) (fe:=d2 ixD (qe 0) (dC (.int 0))) (λd=>match d with | .tup [a,b]=>a | d=>d) (by simp [jo]) z (λd hd=>by obtain ⟨x,hx,rfl⟩:=af.mp hd;simp [ixD,atI,ixN]);have i:=vw (cap:=[]) (fi:=jw (qe 0)) (ρ:=[iI (.lst (qv l))]) (ρ1:=[iI (.lst (qv l))]) (ds:=qv l) (fe:=d2 ixD (qe 0) (dC (.int 1))) (λd=>match d with | .tup [a,b]=>b | d=>d) (by simp [jo]) z (λd hd=>by obtain ⟨x,hx,rfl⟩:=af.mp hd;simp [ixD,atI,ixN]);have f1:(qv l).map (λd=>match d with | .tup [a,b]=>a | d=>d)=(l.map (·.1)).map D.str:=by simp [qv]
 have f2:(qv l).map (λd=>match d with | .tup [a,b]=>b | d=>d)=(l.map (·.2)).map D.str:=by simp [qv]
 rw [f1] at e1;rw [f2] at i;have c:l.length+l.length<=sizeLine:=small (by lia);have j:l.length+l.length < 64:=by lia
 simp only [gt,qt,aG,bV,ao,aV,Nat.reduceAdd,eS,c6,bj,KJ,zu,qk9,e1,i,kq];simp only [qmN,ap,Aa c,qk5,kq,<-bG,yc,xO,wb,aq,Aa j];simp [LS]
theorem at0 {a:D} {l:List D}:atI (a::l) 0=iI a:=by have:=uV (a::l) 0;simpa using this
theorem at1 {a b:D} {l:List D}:atI (a::b::l) 1=iI b:=by have:=uV (a::b::l) 1;simpa using this
noncomputable def prL (l:List (Str×Int)):List D:=l.map λx=>.tup [.str x.1,.int x.2]
noncomputable def qL (l:List (Str×Int)):List Str:=l.map (·.1)
noncomputable def bk (l:List (Str×Int)):List (Key×D):=l.map λx=>(.inr x.1,.int x.2)
theorem Uo:∀ l:List (Str×Int),yo (prL l)=iI (bk l)
 | []=>rfl
 | x::l=>by have j:=Uo l;unfold prL at j ⊢;rw [aG];simp [yo,qdr,QD,j,bk]
theorem qbY:∀ (l:List (Str×Int)) (a:List (Key×D)),(qL l).Nodup->(∀ x∈l,∀ p∈a,p.1≠.inr x.1)->(bk l).foldl (λa p=>wn a p.1 p.2) a=a++bk l
 | [],a,_,_=>by simp [bk]
 | x::l,a,hn,hd=>by
  have h1:=aM.mp (show (x.1::qL l).Nodup from hn);have hp:wn a (.inr x.1) (.int x.2)=a++[(.inr x.1,.int x.2)]:=by unfold wn;rw [Ab];simp only [fY,decide_eq_true_eq,not_exists,not_and];exact λp hp=>hd x (aj ..) p hp
  have j:=qbY l (a++[(.inr x.1,.int x.2)]) h1.2 (λy C p hp=>by
   rcases ai.mp hp with hp | hp;·exact hd y (ae _ C) p hp
   ·rw [aw.mp hp];intro z;have z:x.1=y.1:=bf.inj z;exact h1.1 (z ▸ af.mpr ⟨y,C,rfl⟩))
  show ((bk l).foldl (λa p=>wn a p.1 p.2) (wn a (.inr x.1) (.int x.2)))=a++(.inr x.1,.int x.2)::bk l;rw [hp,j];simp
theorem qgF {l:List (Str×Int)} (h:(qL l).Nodup):qds (.tup (prL l))=.ok (.dct (bk l)):=by have e:=qbY l [] h (λ_ _ p hp=>by cases hp);simp at e;simp [qds,Uo,e]
noncomputable def ju (l:List (Str×Int)) (x:Str):Int:=((l.find? λy=>decide (y.1=x)).map (·.2)).getD 0
theorem kx:∀ {l:List (Str×Int)} {x:Str},x∈qL l->(x,ju l x)∈l/\(bk l).find? (λkv=>decide (kv.1=bf x))=iI (.inr x,.int (ju l x))
 | [],x,h=>by cases h
 | a::l,x,h=>by
  by_cases e:a.1=x
  ·have c:ju (a::l) x=a.2:=by simp [ju,e]
   rw [c];refine ⟨?_,?_⟩;·rw [<-e];exact aj ..
   ·simp [bk,e]
  ·have hx:x∈qL l:=by
    rcases ac.mp (show x∈a.1::qL l from h) with z | z;·exact absurd z.symm e
    ·exact z
   obtain ⟨h1,h2⟩:=kx hx;have c:ju (a::l) x=ju l x:=by simp [ju,e]
   rw [c];refine ⟨ae _ h1,?_⟩;rw [<-h2];simp [bk,e]
theorem qgG {l:List (Str×Int)} (h:x∈qL l):ixD (.dct (bk l)) (.str x)=.ok (.int (ju l x)):=by simp [ixD,(kx h).2]
abbrev nn4:Sl:=[iI .non,iI .non,iI .non,iI .non]
theorem zm (h:Pl d):vE [d]=if Js 1 99 d=iM then .ok (.non,[.non]) else .exc "NoRoom" [iI .non]:=by refine qu.trans ?_;have h1:=jN h 1 99;have z:1<=sizeLine:=small (by lia);cases e:Js 1 99 d <;> simp [gA,qt,h1,e,km]
noncomputable def qku (l:List (Str×Int)) (s:List (Str×Str)) (r:Int):List D:=s.map λx=>.int ((ju l x.1+ju l x.2) % r)
theorem qB {f g:qS} (h:f ρ=.ok (.nx,ρ1)):GK ms (qM f g ρ)=GK ms (g ρ1):=by rw [QM,h];rfl
theorem qeM (w:jP ws) (p q:Int):(LS (qy ws p q)).length<=12:=by
 have c:(qy ws p q).length<=6:=by simp [qy]; exact w.2.1
 unfold LS;rw [(qK _).length_eq];have:=QE ((qy ws p q).map (·.1)++(qy ws p q).map (·.2)) [];simp only [aq,ap,aV] at this
 lia
theorem qja (a:jP ws) (p q:Int):∀ x∈LS (qy ws p q),∃ c,az c/\x=⟨#[c]⟩:=λx hx=>by
 obtain ⟨y,C,h⟩:=vG.mp hx;obtain ⟨w,hm,rfl⟩:=af.mp C;rcases h with rfl | rfl;·exact qbW (a.2.2.2 w hm) p
 ·exact qbW (a.2.2.2 w hm) q
abbrev Pr:=Str×Str
abbrev Wk:=List Nat
noncomputable def inL (l:Wk):List D:=l.map λ(k:Nat)=>.int (k:Nat)
abbrev lD (l:Wk):D:=.lst (inL l)
abbrev nD (ns:List Int):D:=.tup (ns.map D.int)
abbrev pD (p:Pr):D:=.tup [.str p.1,.str p.2]
noncomputable def nI (ns:List Int) (k:Nat):Int:=(ns[k]?).getD 0
variable {ns:List Int}
theorem qjb {k:Nat} (h:k < ns.length):ixD (nD ns) (.int (k:Nat))=.ok (.int (nI ns k)):=by unfold ixD nI;simp only [];rw [uV,aH,aA h];rfl
noncomputable def qN (ns:List Int) (t:Int) (l:Wk):Int:=l.foldl (λa k=>nI ns k - a) t
def qgH (nd:D) (ns:List Int):Prop:=∀ k:Nat,k < ns.length->ixD nd (.int (k:Nat))=.ok (.int (nI ns k))
theorem qbZ (ns:List Int):qgH (nD ns) ns:=λ_ h=>qjb h
theorem qjc (ns:List Int):qgH (.lst (ns.map D.int)) ns:=λk h=>by unfold ixD nI;simp only [];rw [uV,aH,aA h];rfl
theorem Ko {nd:D} {ns:List Int} (d:qgH nd ns) {a s:Option D}:∀ (l:Wk) (t:Int) (x:Option D),(∀ k∈l,k < ns.length)->∃ n,kM (gNm 4) (jv 3 (d2 ZL (d2 ixD (qe 1) (qe 4)) (qe 3))) (inL l) [a,iI nd,s,iI (.int t),x]=.ok (.nx,[a,iI nd,s,iI (.int (qN ns t l)),n])
 | [],t,x,_=>⟨x,rfl⟩
 | k::l,t,x,h=>by have b:=d k (h k (aj ..));obtain ⟨n,e⟩:=Ko d (a:=a) (s:=s) l (nI ns k - t) (iI (.int (k:Nat))) λj G=>h j (ae _ G);refine ⟨n,?_⟩;have e0:qN ns t (k::l)=qN ns (nI ns k - t) l:=rfl;rw [e0,<-e];simp [inL,kM,b,uc]
variable {nd:D}
theorem xn (d:qgH nd ns) {l:Wk} (h:∀ k∈l,k < ns.length) (t:Int):kY [lD l,nd,.int t]=.ok (.int (qN ns t l),[.non,.non,.non]):=by obtain ⟨n,e⟩:=Ko d (a:=iI (lD l)) (s:=iI (.int t)) l t iK h;refine qu.trans ?_;unfold Ki;rw [show qt Kh [lD l,nd,.int t]=[iI (lD l),iI nd,iI (.int t),iK,iK] from rfl];refine (qB (ρ1:=[iI (lD l),iI nd,iI (.int t),iI (.int t),iK]) (by simp)).trans ?_;refine (qB (ρ1:=[iI (lD l),iI nd,iI (.int t),iI (.int (qN ns t l)),n]) (by rw [kK]; exact e)).trans ?_;simp
noncomputable def odd (l:Wk):Bool:=decide (l.length % 2=1)
theorem Jm (l:Wk):wA [lD l]=.ok (.bl (odd l),[.non]):=by
 refine qu.trans ?_;have h:((inL l).length:Int) % 2=((l.length % 2:Nat):Int):=by simp [inL]
 by_cases q:l.length % 2=1;·simp [Vf,qt,yC,uc,eqD,eqN,eqS,h,odd,q]
 ·have f:¬((l.length % 2:Nat):Int)=1:=by omega
  simp [Vf,qt,yC,uc,eqD,eqN,eqS,h,odd,q,f];omega
noncomputable def GB (l:Wk) (r:Int) (ns:List Int):Bool:=if odd l=iM then decide (r % 2=0)&&decide (qN ns 0 l % 2=1) else !decide (qN ns 0 l % r=0)
variable {r:Int}
theorem qgI (d:qgH nd ns) {l:Wk} (h:∀ k∈l,k < ns.length) (b:1<=r):XU [lD l,.int r,nd]=.ok (.bl (GB l r ns),[.non,.non,.non]):=by
 have h1:=xn d h 0;have h2:=Jm l;have a:0 < r:=by omega
 refine qu.trans ?_;unfold GB;generalize qN ns 0 l=t at h1;cases q:odd l with
 | true=>rw [q] at h2;by_cases e1:r % 2=0 <;> simp [qbw,qt,h1,h2,yC,uc,eqD,eqN,eqS,e1] <;> rfl
 | false=>rw [q] at h2;simp [qbw,qt,h1,h2,yC,uc,neD,eqN,eqS,a];rfl
abbrev Wy:=List (Str×Str×Wk)
noncomputable def wD (W:Wy):List (Key×D):=W.map λe=>(.inr e.1,.tup [.str e.2.1,lD e.2.2])
noncomputable def kW (W:Wy):List Str:=W.map (·.1)
theorem qeN (W:Wy) (x:Str):ko (wD W) (.inr x)=decide (x∈kW W):=by
 unfold ko wD kW
 induction W with
 | nil=>rfl
 | cons e W j=>
  rw [aG,b7,j];by_cases h:e.1=x;·subst h; simp
  ·have h2:¬(bf e.1:Key)=bf x:=λz=>h (bf.inj z);have f:¬x=e.1:=λz=>h z.symm;simp [h2,f]
variable {W:Wy}
theorem qeO {r:Str} {l:Wk} (h:x∉kW W):wn (wD W) (.inr x) (.tup [.str r,lD l])=wD (W++[(x,r,l)]):=by
 unfold wn;have h1:((wD W).any λp=>decide (p.1=(bf x:Key)))=false:=by have:=qeN W x;unfold ko at this;rw [this];exact Ac h
 rw [h1,Ab bE];unfold wD;rw [bG];rfl
theorem qgJ:∀ {W:Wy} {e:Str×Str×Wk},(kW W).Nodup->e∈W->ixD (.dct (wD W)) (.str e.1)=.ok (.tup [.str e.2.1,lD e.2.2])
 | [],e,_,h=>by cases h
 | a::W,e,hn,h=>by
  have d:=aM.mp (show (a.1::kW W).Nodup from hn);rcases ac.mp h with rfl | h;·simp [ixD,wD]
  ·have b:a.1≠e.1:=λz=>d.1 (by rw [z]; exact af.mpr ⟨e,h,rfl⟩);have j:=qgJ d.2 h;unfold ixD at j ⊢;simp only [wD,aG] at j ⊢;have h2:¬(bf a.1:Key)=bf e.1:=λz=>b (bf.inj z);rw [bF (by simpa using h2)];exact j
inductive Path (seen:List Pr) (r:Str):Wk->Str->Prop
 | nil:Path seen r [] r
 | snoc {l:Wk} {x y:Str} {k:Nat} {p:Pr}:Path seen r l x->seen[k]?=iI p->(p=(x,y)\/p=(y,x))->Path seen r (l++[k]) y
variable {seen:List Pr}
theorem Path.lt {r:Str} {l:Wk} (h:Path seen r l x):∀ k∈l,k < seen.length:=by
 induction h with
 | nil=>simp
 | snoc _ e _ j=>
  intro k a;rcases ai.mp a with a | a;·exact j k a
  ·rw [aw.mp a];exact (aE.mp e).1
structure WI (seen:List Pr) (W:Wy):Prop where
 nd:(kW W).Nodup
 sub:∀ x∈kW W,x∈LS seen
 path:∀ e∈W,Path seen e.2.1 e.2.2 e.1
 len:∀ e∈W,e.2.2.length < W.length
theorem kH (W V:Wy):kW (W++V)=kW W++kW V:=by simp [kW]
theorem WI.add (h:WI seen W) {r:Str} {l:Wk} (hx:x∉kW W) (hm:x∈LS seen) (hp:Path seen r l x) (hl:l.length<=W.length):WI seen (W++[(x,r,l)]) where
 nd:=by rw [kH];refine bR.mpr ⟨h.nd,by simp [kW],λa f b hb=>?_⟩;rw [show kW [(x,r,l)]=[x] from rfl] at hb;rw [aw.mp hb];exact λz=>hx (z ▸ f)
 sub:=λy C=>by
  rw [kH] at C;rcases ai.mp C with C | C;·exact h.sub y C
  ·rw [show y=x from aw.mp C]; exact hm
 path:=λe g=>by
  rcases ai.mp g with g | g;·exact h.path e g
  ·rw [aw.mp g]; exact hp
 len:=λe g=>by
  rw [aq];rcases ai.mp g with g | g;·have:=h.len e g; simp; omega
  ·rw [aw.mp g]; simp; omega
theorem qb0:∀ {a b:List Str},a.Nodup->(∀ x∈a,x∈b)->a.length<=b.length
 | [],b,_,_=>aZ _
 | x::a,b,hn,h=>by have d:=aM.mp hn;have hx:=h x (aj ..);have j:=qb0 (b:=b.erase x) d.2 λy C=>(e9 (λz=>d.1 (by rw [<-z]; exact C))).mpr (h y (ae _ C));rw [cX hx] at j;have:=cg hx;rw [ao];omega
theorem WI.le (h:WI seen W):W.length<=(LS seen).length:=by have:=qb0 h.nd h.sub;simpa [kW] using this
noncomputable def oth (p:Pr) (x:Str):Str:=if x=p.1 then p.2 else p.1
theorem qd2 (p:Pr) (x:Str):kB [pD p,.str x]=.ok (.str (oth p x),[.non,.non]):=by refine qu.trans ?_;unfold oth;by_cases h:x=p.1 <;> simp [yt,qt,ixD,at0,at1,eqD,eqN,eqS,h]
theorem qgK (p:Pr) (x:Str):inA (.str x) (pD p)=.ok (.bl (decide (x=p.1\/x=p.2))):=by have h:=wc x [p.1,p.2];simp only [aG,bV] at h;show (inD (.str x) (pD p)).bind (λb=>Out.ok (D.bl b))=_;unfold inD;simp only [h];simp
theorem Zg (W:Wy) (x:Str):gN (.str x) (.dct (wD W))=.ok (.bl (!decide (x∈kW W))):=by unfold gN;simp only [QD];rw [qeN]
theorem qjd {p:Pr} (hp:p∈seen) (x:Str):oth p x∈LS seen:=by
 rw [vG];refine ⟨p,hp,?_⟩;unfold oth;split;·exact .inr rfl
 ·exact .inl rfl
abbrev spB:qS:=(qM (jv 7 (qp [.vl,.vl] kB (qd (qe 6) (qd (qe 4) qA))))
  (sIf (qev (qV (d2 inA (qe 4) (qe 6))) (qV (d2 gN (qe 7) (qe 2)))) (qM (xQ 2 (Qv (qd (qe 1) (qd (d2 ud (d2 ixD (d2O 2 ixD (qe 4)) (dC (.int 1))) (xD (qd (qe 5) qA))) qA))) (qe 7))
  (kl (ge 3 Jy (qe 7)))) jm))
theorem qgL {f g:qS} (h:f ρ=.ok (.nx,ρ1)):qM f g ρ=g ρ1:=by rw [QM,h];rfl
variable {g:D->Sl->Out Sl} {ρ2:Sl}
theorem yz {fb:qS} (h1:g d ρ=.ok ρ1) (h2:fb ρ1=.ok (.nx,ρ2)):kM g fb (d::ds) ρ=kM g fb ds ρ2:=by rw [kM,h1];simp only [Out.plain,kq];rw [h2];rfl
theorem qje {fb:qS} {v:D} (h1:g d ρ=.ok ρ1) (h2:fb ρ1=.ok (.rt v,ρ2)):kM g fb (d::ds) ρ=.ok (.rt v,ρ2):=by rw [kM,h1];simp only [Out.plain,kq];rw [h2];rfl
variable {root:Str} {ly:Wk}
theorem qgM (v:(LS seen).length<=20) (a:WI seen W) (C:(y,root,ly)∈W) {k:Nat} {p:Pr} (o:seen[k]?=iI p) (Q:List Str) (A:Q.length<=1000) (sd s:Option D):∃ (M:Wy) (d:Option D),WI seen (W++M)/\(∀ e∈M,e.2.1=root)/\M.length<=1/\((y=p.1\/y=p.2)->oth p y∈kW (W++M)) /\
   spB [sd,iI (.str root),iI (.dct (wD W)),iI (.lst (Q.map D.str)),iI (.str y),iI (.int (k:Nat)),iI (pD p),s]=.ok (.nx,[sd,iI (.str root),iI (.dct (wD (W++M))),iI (.lst ((Q++kW M).map D.str)),iI (.str y),iI (.int (k:Nat)),iI (pD p),d]):=by
 have h1:=qd2 p y;have h2:=qgK p y;have f:=Zg W (oth p y);have S:=a.le;have u:=big;have b:=a.len _ C;have m:p∈seen:=bg o;by_cases q:(y=p.1\/y=p.2)/\oth p y∉kW W
 ·refine ⟨[(oth p y,root,ly++[k])],iI (.str (oth p y)),a.add q.2 (qjd m y) (.snoc (a.path _ C) o ?_) (by rw [aq]; simp; simp at b; lia),by simp,by simp,λ_=>by rw [kH]; exact ai.mpr (.inr (by simp [kW])),?_⟩
  ·obtain ⟨p1,p2⟩:=p;unfold oth;rcases q.1 with e | e;·have e:y=p1:=e;subst e;simp
   ·have e:y=p2:=e;subst e;by_cases z:y=p1;·subst z; simp
    ·simp [z]
  ·unfold spB;rw [qgL (ρ1:=[sd,iI (.str root),iI (.dct (wD W)),iI (.lst (Q.map D.str)),iI (.str y),iI (.int (k:Nat)),iI (pD p),iI (.str (oth p y))]) (by simp [h1])];have h:decide (y=p.1\/y=p.2)=true:=Ad q.1;have g:(!decide (oth p y∈kW W))=true:=by rw [Ac q.2]; rfl
   rw [h] at h2;rw [g] at f;have V:=qgJ a.nd C;simp only [] at V;have c:ixD (.tup [.str root,lD ly]) (.int 1)=.ok (lD ly):=by simp [ixD,at1]
   have t:=qeO (W:=W) (x:=oth p y) (r:=root) (l:=ly++[k]) q.2;have hl:(inL ly).length+1<=sizeLine:=by simp [inL]; simp at b; lia
   have z1:1<=sizeLine:=by lia
   have z2:2<=sizeLine:=by lia
   have i:(wD W).length < sizeLine:=by simp [wD]; lia
   have j:Q.length < sizeLine:=by lia
   have n:inL ly++[.int (k:Nat)]=inL (ly++[k]):=by simp [inL]
   rw [qiF,show qev (qV (d2 inA (qe 4) (qe 6))) (qV (d2 gN (qe 7) (qe 2))) [sd,iI (.str root),iI (.dct (wD W)),iI (.lst (Q.map D.str)),iI (.str y),iI (.int (k:Nat)),iI (pD p),iI (.str (oth p y))]=.ok (iM,[sd,iI (.str root),iI (.dct (wD W)),iI (.lst (Q.map D.str)),iI (.str y),iI (.int (k:Nat)),iI (pD p),iI (.str (oth p y))]) by simp [h2,f]];simp only [kq,if_true];rw [qgL (ρ1:=[sd,iI (.str root),iI (.dct (wD (W++[(oth p y,root,ly++[k])]))),iI (.lst (Q.map D.str)),iI (.str y),iI (.int (k:Nat)),iI (pD p),iI (.str (oth p y))]) (by simp [xQ,d2O,V,c,z1,z2,hl,n,QD,i,t])];simp [yH,Jy,j,kW]
 ·refine ⟨[],iI (.str (oth p y)),by simpa using a,by simp,by simp,λz=>?_,?_⟩;·rw [bj];exact bB λw=>q ⟨z,w⟩
  ·unfold spB;rw [qgL (ρ1:=[sd,iI (.str root),iI (.dct (wD W)),iI (.lst (Q.map D.str)),iI (.str y),iI (.int (k:Nat)),iI (pD p),iI (.str (oth p y))]) (by simp [h1])];by_cases z:y=p.1\/y=p.2
   ·have h:decide (y=p.1\/y=p.2)=true:=Ad z;have hm:oth p y∈kW W:=bB λw=>q ⟨z,w⟩;have g:(!decide (oth p y∈kW W))=false:=by rw [Ad hm]; rfl
    rw [h] at h2;rw [g] at f;simp [h2,f,kW]
   ·have h:decide (y=p.1\/y=p.2)=false:=Ac z;rw [h] at h2;simp [h2,kW]
noncomputable def en (k0:Nat) (rest:List Pr):List D:=(rest.zipIdx k0).map λp=>.tup [.int (p.2:Nat),pD p.1]
theorem qjf (seen:List Pr):gP (qv seen)=en 0 seen:=by unfold gP en qv;rw [List.zipIdx_map,bo];rfl
theorem qeP (s:(LS seen).length<=20) (sd:Option D):∀ (rest:List Pr) (k0:Nat) (W:Wy) (Q:List Str) (a x V:Option D),seen.drop k0=rest->WI seen W->(y,root,ly)∈W->Q.length+rest.length<=500 ->∃ (M:Wy) (U d c:Option D),WI seen (W++M)/\(∀ e∈M,e.2.1=root)/\(∀ p∈rest,(y=p.1\/y=p.2)->oth p y∈kW (W++M))/\M.length<=rest.length /\
   kM (kj 2 (qE (gNm 5) (qE (gNm 6) ki))) spB (en k0 rest) [sd,iI (.str root),iI (.dct (wD W)),iI (.lst (Q.map D.str)),iI (.str y),a,x,V]=.ok (.nx,[sd,iI (.str root),iI (.dct (wD (W++M))),iI (.lst ((Q++kW M).map D.str)),iI (.str y),U,d,c])
 | [],k0,W,Q,a,x,V,_,hW,_,_=>⟨[],a,x,V,by simpa using hW,by simp,by simp,by simp,by simp [en,kM,kW]⟩
 | p::rest,k0,W,Q,a,x,V,hd,hW,hy,hQ=>by
  rw [ao] at hQ;have k:seen[k0]?=iI p:=by have:=congrArg List.head? hd;rw [List.head?_drop] at this;simpa using this
  have hd2:seen.drop (k0+1)=rest:=by have:=congrArg List.tail hd;rw [List.tail_drop] at this;simpa using this
  obtain ⟨b,r1,t,r,q,o,n⟩:=qgM s hW hy k Q (by lia) sd V;have f:(kW b).length<=1:=by simpa [kW] using q
  obtain ⟨M2,U,d,c,m,l,j,u,i⟩:=qeP s sd rest (k0+1) (W++b) (Q++kW b) (iI (.int (k0:Nat))) (iI (pD p)) r1 hd2 t (ai.mpr (.inl hy)) (by rw [aq]; lia);refine ⟨b++M2,U,d,c,by rw [<-ba]; exact m,λe g=>?_,λZ h z=>?_,by rw [aq,ao]; lia,?_⟩
  ·rcases ai.mp g with g | g;·exact r e g
   ·exact l e g
  ·rw [<-ba,kH];rcases ac.mp h with rfl | h;·exact ai.mpr (.inl (o z))
   ·have:=j Z h z;rw [kH] at this;exact this
  ·rw [kH,<-ba,<-ba];refine dQ ?_ i;have e0:en k0 (p::rest)=.tup [.int (k0:Nat),pD p]::en (k0+1) rest:=by simp [en,dU]
   rw [e0];exact yz rfl n
theorem qd3 {ft:ym} {fb:qS} (h1:ft ρ=.ok (iM,ρ1)) (h2:fb ρ1=.ok (.nx,ρ2)):jO ft fb (n+1) ρ=jO ft fb n ρ2:=by rw [jO,h1];simp only [kq,if_true];rw [h2];rfl
theorem qb1 {ft:ym} {fb:qS} (h1:ft ρ=.ok (iN,ρ1)):jO ft fb (n+1) ρ=.ok (.nx,ρ1):=by rw [jO,h1];rfl
abbrev spC:ym:=qV (d2 gtD (d1 jW (qe 3)) (dC (.int 0)))
abbrev spW:qS:=(qM (jv 4 (qbe 3)) (Jx (WJ (qe 0)) (kj 2 (qE (gNm 5) (qE (gNm 6) ki))) spB))
abbrev sD (seen:List Pr):D:=.lst (qv seen)
theorem Zh (v:seen.length<=10) (s:(LS seen).length<=20) (root:Str):∀ (n:Nat) (W:Wy) (Q:List Str) (c b a V:Option D),n<=100->WI seen W->(∀ x∈Q,∃ l,(x,root,l)∈W)->Q.length+((LS seen).length - W.length) < n ->∃ (M:Wy) (u U i f:Option D),WI seen (W++M)/\(∀ e∈M,e.2.1=root)/\(∀ x,x∈Q\/x∈kW M->∀ p∈seen,(x=p.1\/x=p.2)->oth p x∈kW (W++M)) /\
   jO spC spW n [iI (sD seen),iI (.str root),iI (.dct (wD W)),iI (.lst (Q.map D.str)),c,b,a,V]=.ok (.nx,[iI (sD seen),iI (.str root),iI (.dct (wD (W++M))),iI (.lst []),u,U,i,f])
 | 0,W,Q,c,b,a,V,_,_,_,h=>absurd h (dB _)
 | n+1,W,[],c,b,a,V,_,hW,_,_=>⟨[],c,b,a,V,by simpa using hW,by simp,by simp [kW],by rw [bj];exact qb1 (by simp [uc])⟩
 | n+1,W,y::Q,c,b,a,V,h100,hW,hQ,hm=>by
  obtain ⟨ly,C⟩:=hQ y (aj ..);rw [ao] at hm;obtain ⟨d,U,i,f,k,j,H,I,G⟩:=qeP s (iI (sD seen)) seen 0 W Q b a V (by simp) hW C (by lia);have S:=k.le;rw [aq] at S;obtain ⟨M2,t,r,o,m,E,B,A,w⟩:=Zh v s root n (W++d) (Q++kW d) (iI (.str y)) U i f (by lia) k (λx hx=>by
   rcases ai.mp hx with hx | hx;·obtain ⟨l,hl⟩:=hQ x (ae _ hx);exact ⟨l,ai.mpr (.inl hl)⟩
   ·obtain ⟨e,g,rfl⟩:=af.mp hx;refine ⟨e.2.2,ai.mpr (.inr ?_)⟩;rw [<-j e g];exact g) (by
   rw [aq,aq,show (kW d).length=d.length by simp [kW]]
   lia)
  refine ⟨d++M2,t,r,o,m,by rw [<-ba]; exact E,λe g=>?_,λx hx p hp z=>?_,?_⟩
  ·rcases ai.mp g with g | g;·exact j e g
   ·exact B e g
  ·rw [<-ba];by_cases q:x=y;·subst q;rw [kH];exact ai.mpr (.inl (H p hp z))
   ·refine A x ?_ p hp z;rcases hx with hx | hx
    ·rcases ac.mp hx with e | hx;·exact absurd e q
     ·exact .inl (ai.mpr (.inl hx))
    ·rw [kH] at hx;rcases ai.mp hx with hx | hx;·exact .inl (ai.mpr (.inr hx))
     ·exact .inr hx
  ·rw [<-ba];refine dQ ?_ w;refine qd3 (ρ1:=[iI (sD seen),iI (.str root),iI (.dct (wD W)),iI (.lst ((y::Q).map D.str)),c,b,a,V]) (by
    have:(0:Int) < (Q.length:Int)+1:=by lia
    simp [uc,this]) ?_
   unfold spW;rw [qgL (ρ1:=[iI (sD seen),iI (.str root),iI (.dct (wD W)),iI (.lst (Q.map D.str)),iI (.str y),b,a,V]) (by simp [qbe])];rw [kK,show WJ (qe 0) [iI (sD seen),iI (.str root),iI (.dct (wD W)),iI (.lst (Q.map D.str)),iI (.str y),b,a,V]=.ok (gP (qv seen),[iI (sD seen),iI (.str root),iI (.dct (wD W)),iI (.lst (Q.map D.str)),iI (.str y),b,a,V]) from rfl,kq,qjf];exact G
theorem qb2 (n:seen.length<=6) (s:(LS seen).length<=12) (b:WI seen W) (d:root∉kW W) (hm:root∈LS seen):∃ M:Wy,WI seen (W++M)/\(∀ e∈M,e.2.1=root)/\(root,root,[])∈M/\(∀ x∈kW M,∀ p∈seen,(x=p.1\/x=p.2)->oth p x∈kW (W++M))/\Qf [sD seen,.str root,.dct (wD W)]=.ok (.non,[.non,.non,.dct (wD (W++M))]):=by
 have h:=b.add d hm (r:=root) (l:=[]) .nil (aZ _);have S:=h.le;have a:=b.le;have u:=big;obtain ⟨M,m,U,j,y,k,f,c,o⟩:=Zh (by lia) (by lia) root 20 (W++[(root,root,[])]) [root] iK iK iK iK (by lia) h (λx hx=>⟨[],by rw [aw.mp hx]; exact ai.mpr (.inr (aw.mpr rfl))⟩) (by simp; lia);rw [ba] at k c o;refine ⟨[(root,root,[])]++M,k,λe g=>?_,ai.mpr (.inl (aw.mpr rfl)),λx hx p hp z=>c x ?_ p hp z,?_⟩
 ·rcases ai.mp g with g | g;·rw [aw.mp g]
  ·exact f e g
 ·rw [kH] at hx;rcases ai.mp hx with hx | hx;·exact .inl hx
  ·exact .inr hx
 ·refine qu.trans ?_;unfold XW;rw [show qt XV [sD seen,.str root,.dct (wD W)]=[iI (sD seen),iI (.str root),iI (.dct (wD W)),iK,iK,iK,iK,iK] from rfl];have t:=qeO (W:=W) (x:=root) (r:=root) (l:=[]) d;rw [show lD []=.lst [] from rfl] at t;have z2:2<=sizeLine:=by lia
  have z1:1<=sizeLine:=by lia
  have i:(wD W).length < sizeLine:=by simp [wD]; lia
  refine (qB (ρ1:=[iI (sD seen),iI (.str root),iI (.dct (wD (W++[(root,root,[])]))),iK,iK,iK,iK,iK]) (by simp [xQ,z2,QD,i,t])).trans ?_;refine (qB (ρ1:=[iI (sD seen),iI (.str root),iI (.dct (wD (W++[(root,root,[])]))),iI (.lst [.str root]),iK,iK,iK,iK]) (by simp [z1])).trans ?_;exact (congrArg (GK [.val,.val,.io]) o).trans rfl
def CI (seen:List Pr) (W:Wy):Prop:=∀ e∈W,∀ p∈seen,(e.1=p.1\/e.1=p.2)->∃ a∈W,a.1=oth p e.1/\a.2.1=e.2.1
def RI (W:Wy):Prop:=∀ e∈W,(e.2.1,e.2.1,[])∈W
theorem qgN {p:Pr} (h:x=p.1\/x=p.2):oth p (oth p x)=x/\(oth p x=p.1\/oth p x=p.2):=by
 obtain ⟨a,b⟩:=p;unfold oth;simp only [];by_cases q:x=a
 ·subst q;simp only [if_true];by_cases d:b=x;·subst d; simp
  ·simp [d]
 ·have:x=b:=by rcases h with h | h; exact absurd h q; exact h
  subst this;simp [q]
theorem Qh:∀ {W:Wy},(kW W).Nodup->∀ {e b:Str×Str×Wk},e∈W->b∈W->e.1=b.1->e=b
 | [],_,e,b,h,_,_=>by cases h
 | a::W,hn,e,b,h,h',q=>by
  have d:=aM.mp (show (a.1::kW W).Nodup from hn);rcases ac.mp h with h1 | h1
  ·rcases ac.mp h' with h2 | h2;·rw [h1,h2]
   ·exact absurd (show a.1∈kW W from af.mpr ⟨b,h2,by rw [<-q,h1]⟩) d.1
  ·rcases ac.mp h' with h2 | h2;·exact absurd (show a.1∈kW W from af.mpr ⟨e,h1,by rw [q,h2]⟩) d.1
   ·exact Qh d.2 h1 h2 q
abbrev woB:qS:=(sIf (qV (d2 gN (qe 2) (qe 1))) (kl (qp [.vl,.vl,.sl 1] Qf (qd (qe 0) (qd (qe 2) (wj qA))))) jm)
def MI (W:Wy):Prop:=∀ e∈W,leS e.2.1 e.1
theorem qd4 (x:Str):leS x x:=(WE x x).elim id id
theorem Jn (B:seen.length<=6) (w:(LS seen).length<=12):∀ (xs:List Str) (W:Wy) (x:Option D),(∀ x∈xs,x∈LS seen)->xs.Pairwise leS->(∀ z∈LS seen,z∈kW W\/z∈xs)->WI seen W->CI seen W->RI W->MI W ->∃ (M:Wy) (n:Option D),WI seen (W++M)/\CI seen (W++M)/\RI (W++M)/\MI (W++M)/\(∀ x∈xs,x∈kW (W++M))/\kM (gNm 2) woB (xs.map D.str) [iI (sD seen),iI (.dct (wD W)),x]=.ok (.nx,[iI (sD seen),iI (.dct (wD (W++M))),n])
 | [],W,x,_,_,_,hW,hC,hR,hM=>⟨[],x,by simpa using hW,by simpa using hC,by simpa using hR,by simpa using hM,by simp,by simp [kM]⟩
 | y::xs,W,x,hx,hso,hal,hW,hC,hR,hM=>by
  have b:=aT.mp hso;have k:=Zg W y;by_cases q:y∈kW W
  ·obtain ⟨M,n,v,u,t,o,s,r⟩:=Jn B w xs W (iI (.str y)) (λz a=>hx z (ae _ a)) b.2 (λz a=>by
    rcases hal z a with h | h;·exact .inl h
    ·rcases ac.mp h with rfl | h;·exact .inl q
     ·exact .inr h) hW hC hR hM
   refine ⟨M,n,v,u,t,o,λz a=>?_,?_⟩
   ·rcases ac.mp a with rfl | a;·rw [kH]; exact ai.mpr (.inl q)
    ·exact s z a
   ·refine dQ (yz (ρ1:=[iI (sD seen),iI (.dct (wD W)),iI (.str y)]) rfl ?_) r;rw [Ad q] at k;simp [k]
  ·obtain ⟨j,i,m,I,O,N⟩:=qb2 B w hW q (hx y (aj ..));have E:RI (W++j):=λe g=>by
    rcases ai.mp g with g | g;·exact ai.mpr (.inl (hR e g))
    ·rw [m e g];exact ai.mpr (.inr I)
   have H:CI seen (W++j):=λe g p hp a=>by
    rcases ai.mp g with g | g;·obtain ⟨f,h1,h2⟩:=hC e g p hp a;exact ⟨f,ai.mpr (.inl h1),h2⟩
    ·have L:=O e.1 (af.mpr ⟨e,g,rfl⟩) p hp a;obtain ⟨f,h1,h2⟩:=af.mp L;refine ⟨f,h1,h2,?_⟩;rcases ai.mp h1 with c | c
     ·exfalso;obtain ⟨o1,o2⟩:=qgN a;rw [<-h2] at o1 o2;obtain ⟨l,K,J,_⟩:=hC f c p hp o2;rw [o1] at J;have:=Qh i.nd (ai.mpr (.inl K)) (ai.mpr (.inr g)) J;subst this;have d:=i.nd;rw [kH] at d;exact (bR.mp d).2.2 l.1 (af.mpr ⟨l,K,rfl⟩) l.1 (af.mpr ⟨l,g,rfl⟩) rfl
     ·rw [m f c,m e g]
   have G:MI (W++j):=λe g=>by
    rcases ai.mp g with g | g;·exact hM e g
    ·rw [m e g];have d:=i.nd;rw [kH] at d;have A:e.1∉kW W:=λz=>(bR.mp d).2.2 e.1 z e.1 (af.mpr ⟨e,g,rfl⟩) rfl;have C:=i.sub e.1 (by rw [kH]; exact ai.mpr (.inr (af.mpr ⟨e,g,rfl⟩)));rcases hal e.1 C with h | h;·exact absurd h A
     ·rcases ac.mp h with h | h;·rw [h]; exact qd4 _
      ·exact b.1 e.1 h
   obtain ⟨M2,n,v,u,t,o,s,r⟩:=Jn B w xs (W++j) (iI (.str y)) (λz a=>hx z (ae _ a)) b.2 (λz a=>by
    rcases hal z a with h | h;·exact .inl (by rw [kH]; exact ai.mpr (.inl h))
    ·rcases ac.mp h with rfl | h;·exact .inl (by rw [kH]; exact ai.mpr (.inr (af.mpr ⟨_,I,rfl⟩)))
     ·exact .inr h) i H E G
   rw [ba] at v u t o s r;refine ⟨j++M2,n,v,u,t,o,λz a=>?_,?_⟩
   ·rcases ac.mp a with rfl | a;·rw [kH,kH];exact ai.mpr (.inr (ai.mpr (.inl (af.mpr ⟨_,I,rfl⟩))))
    ·exact s z a
   ·refine dQ (yz (ρ1:=[iI (sD seen),iI (.dct (wD W)),iI (.str y)]) rfl ?_) r;rw [Ac q] at k;simp [k,N]
theorem GC (d:seen.length<=6) (s:(LS seen).length<=12):∃ W:Wy,WI seen W/\CI seen W/\RI W/\MI W/\(∀ x∈LS seen,x∈kW W)/\vX [sD seen]=.ok (.dct (wD W),[.non]):=by obtain ⟨W,n,k,b,p,o,a,m⟩:=Jn d s (LS seen) [] iK (λ_ h=>h) (by unfold LS; exact jg _) (λz c=>.inr c) ⟨by simp [kW],by simp [kW],by simp,by simp⟩ (λe g=>by cases g) (λe g=>by cases g) (λe g=>by cases g);rw [cB] at k b p o a m;refine ⟨W,k,b,p,o,a,?_⟩;have t:=wN (l:=seen) (by lia);refine qu.trans ?_;unfold Ud;rw [show qt Uc [sD seen]=[iI (sD seen),iK,iK] from rfl];refine (qB (ρ1:=[iI (sD seen),iI (.dct []),iK]) (by simp)).trans ?_;refine (qB (ρ1:=[iI (sD seen),iI (.dct (wD W)),n]) (by rw [kK,show jw (qp [.vl] jh (qd (qe 0) qA)) [iI (sD seen),iI (.dct []),iK]=.ok ((LS seen).map D.str,[iI (sD seen),iI (.dct []),iK]) by simp [t,jo],kq];exact m)).trans ?_;simp
noncomputable def qI (W:Wy) (x:Str):Str×Wk:=((W.find? λe=>decide (e.1=x)).map (·.2)).getD (⟨#[]⟩,[])
theorem jq (h:x∈kW W):(x,qI W x)∈W:=by
 unfold qI;cases q:W.find? λe=>decide (e.1=x) with
 | none=>obtain ⟨e,g,rfl⟩:=af.mp h;have:=cm.mp q e g;simp at this
 | some e=>
  have h1:=bD q;have h2:e.1=x:=by simpa using hZ q
  rw [<-h2];exact h1
theorem Vx (n:(kW W).Nodup) (h:x∈kW W):ixD (.dct (wD W)) (.str x)=.ok (.tup [.str (qI W x).1,lD (qI W x).2]):=qgJ n (jq h)
theorem qlu {a b:D}:ixD (.tup [a,b]) (.int 0)=.ok a:=by simp [ixD,at0]
theorem qlv {a b:D}:ixD (.tup [a,b]) (.int 1)=.ok b:=by simp [ixD,at1]
theorem qgO (a b:Wk):inL a++inL b=inL (a++b):=by simp [inL]
theorem qb3 (a:Wk):(inL a).length=a.length:=by simp [inL]
theorem qjg (l:Wk):xS (lD l)=.ok (lD l.reverse):=by simp [xS,inL]
theorem qb4 {a b:Wk} (h:a.length+b.length<=2000):ud (lD a) (lD b)=.ok (lD (a++b)):=by
 have z:(inL a).length+(inL b).length<=sizeLine:=by rw [qb3,qb3]; exact small h
 show (if (inL a).length+(inL b).length<=sizeLine then Out.ok (D.lst (inL a++inL b)) else .bad)=_;rw [Aa z,qgO]
abbrev Ci:=Str×Wk
noncomputable def cd (c:Ci):D:=.tup [.str c.1,lD c.2]
noncomputable def cD (C:List Ci):List D:=C.map cd
noncomputable def YK (W:Wy) (p:Pr) (k:Nat):Ci:=((qI W p.1).1,(qI W p.1).2++[k]++(qI W p.2).2.reverse)
noncomputable def CL (W:Wy) (k0:Nat) (rest:List Pr):List Ci:=(rest.zipIdx k0).map λp=>YK W p.1 p.2
abbrev ciB:qS:=(qM (jv 5 (d1 xS (d2 ixD (d2 ixD (qe 1) (d2 ixD (qe 4) (dC (.int 1)))) (dC (.int 1)))))
  (kl (ge 2 Jy (Qv (qd (d2 ixD (d2 ixD (qe 1) (d2 ixD (qe 4) (dC (.int 0)))) (dC (.int 0))) (qd (d2 ud (d2 ud (d2 ixD (d2 ixD (qe 1) (d2 ixD (qe 4) (dC (.int 0)))) (dC (.int 1))) (xD (qd (qe 3) qA))) (qe 5)) qA))))))
theorem qgP (s:(LS seen).length<=20) (h:WI seen W) {p:Pr} (h1:p.1∈kW W) (h2:p.2∈kW W) {k:Nat} {acc:List D} (e:acc.length < 1000) (sd x:Option D):∃ U,ciB [sd,iI (.dct (wD W)),iI (.lst acc),iI (.int (k:Nat)),iI (pD p),x]=.ok (.nx,[sd,iI (.dct (wD W)),iI (.lst (acc++[cd (YK W p k)])),iI (.int (k:Nat)),iI (pD p),U]):=by
 have i1:=Vx h.nd h1;have i2:=Vx h.nd h2;have f:=h.len _ (jq h1);have d:=h.len _ (jq h2);have S:=h.le;have u:=big;simp only [] at f d;have z1:1<=sizeLine:=by lia
 have z2:2<=sizeLine:=by lia
 have l:acc.length < sizeLine:=by lia
 have c:=qb4 (a:=(qI W p.1).2) (b:=[k]) (by simp; lia);have g:=qb4 (a:=(qI W p.1).2++[k]) (b:=(qI W p.2).2.reverse) (by simp; lia);have c:ud (lD (qI W p.1).2) (.lst [.int (k:Nat)])=.ok (lD ((qI W p.1).2++[k])):=c;have r2:=qjg (qI W p.2).2;refine ⟨iI (lD (qI W p.2).2.reverse),?_⟩;unfold ciB YK cd;rw [qgL (ρ1:=[sd,iI (.dct (wD W)),iI (.lst acc),iI (.int (k:Nat)),iI (pD p),iI (lD (qI W p.2).2.reverse)]) (by simp [qlv,i2,r2])];simp [yH,qlu,qlv,i1,c,g,z1,z2,Jy,l]
theorem qb5 (s:(LS seen).length<=20) (b:WI seen W) (sd:Option D):∀ (rest:List Pr) (k0:Nat) (acc:List Ci) (x c a:Option D),(∀ p∈rest,p.1∈kW W/\p.2∈kW W)->acc.length+rest.length<=500 ->∃ y u U,kM (kj 2 (qE (gNm 3) (qE (gNm 4) ki))) ciB (en k0 rest) [sd,iI (.dct (wD W)),iI (.lst (cD acc)),x,c,a]=.ok (.nx,[sd,iI (.dct (wD W)),iI (.lst (cD (acc++CL W k0 rest))),y,u,U])
 | [],k0,acc,x,c,a,_,_=>⟨x,c,a,by simp [en,CL,kM]⟩
 | p::rest,k0,acc,x,c,a,h,hl=>by
  rw [ao] at hl;obtain ⟨h1,h2⟩:=h p (aj ..);obtain ⟨r5,e⟩:=qgP s b h1 h2 (k:=k0) (acc:=cD acc) (by simp [cD]; lia) sd a;obtain ⟨y,u,U,j⟩:=qb5 s b sd rest (k0+1) (acc++[YK W p k0]) (iI (.int (k0:Nat))) (iI (pD p)) r5 (λq hq=>h q (ae _ hq)) (by rw [aq]; simp; lia);refine ⟨y,u,U,?_⟩;have e0:en k0 (p::rest)=.tup [.int (k0:Nat),pD p]::en (k0+1) rest:=by simp [en,dU]
  have e1:acc++CL W k0 (p::rest)=(acc++[YK W p k0])++CL W (k0+1) rest:=by simp [CL,dU]
  rw [e0,e1];refine dQ (yz rfl e) ?_;rw [show cD acc++[cd (YK W p k0)]=cD (acc++[YK W p k0]) by simp [cD]];exact j
theorem vx (f:∀ x∈LS seen,x∈kW W):∀ p∈seen,p.1∈kW W/\p.2∈kW W:=λp hp=>⟨f _ (vG.mpr ⟨p,hp,.inl rfl⟩),f _ (vG.mpr ⟨p,hp,.inr rfl⟩)⟩
theorem Kp (n:seen.length<=6) (c:(LS seen).length<=20) (h:WI seen W) (f:∀ x∈LS seen,x∈kW W):vF [sD seen,.dct (wD W)]=.ok (.lst (cD (CL W 0 seen)),[.non,.non]):=by obtain ⟨y,u,U,e⟩:=qb5 c h (iI (sD seen)) seen 0 [] iK iK iK (vx f) (by simp; lia);rw [cB] at e;refine qu.trans ?_;unfold gF;rw [show qt gE [sD seen,.dct (wD W)]=[iI (sD seen),iI (.dct (wD W)),iK,iK,iK,iK] from rfl];refine (qB (ρ1:=[iI (sD seen),iI (.dct (wD W)),iI (.lst []),iK,iK,iK]) (by simp)).trans ?_;refine (qB (ρ1:=[iI (sD seen),iI (.dct (wD W)),iI (.lst (cD (CL W 0 seen))),y,u,U]) (by rw [kK,show WJ (qe 0) [iI (sD seen),iI (.dct (wD W)),iI (.lst []),iK,iK,iK]=.ok (gP (qv seen),[iI (sD seen),iI (.dct (wD W)),iI (.lst []),iK,iK,iK]) from rfl,kq,qjf];exact e)).trans ?_;simp
theorem qjh (a:WI seen W) (f:∀ x∈LS seen,x∈kW W):∀ c∈CL W 0 seen,∀ k∈c.2,k < seen.length:=by
 intro c d k h;obtain ⟨q,hq,rfl⟩:=af.mp d;obtain ⟨p,j⟩:=q;have G:=List.mem_zipIdx hq;have hp:p∈seen:=by rw [G.2.2]; exact bI _
 obtain ⟨h1,h2⟩:=vx f p hp;unfold YK at h;simp only [ai,dY,aw] at h;rcases h with (h | h) | h;·exact (a.path _ (jq h1)).lt k h
 ·have:=G.2.1;omega
 ·exact (a.path _ (jq h2)).lt k h
noncomputable def fD (F:List Ci):List (Key×D):=F.map λc=>(.inr c.1,lD c.2)
noncomputable def kF (F:List Ci):List Str:=F.map (·.1)
theorem qeQ (F:List Ci) (x:Str):ko (fD F) (.inr x)=decide (x∈kF F):=by
 unfold ko fD kF
 induction F with
 | nil=>rfl
 | cons e F j=>
  rw [aG,b7,j];by_cases h:e.1=x;·subst h; simp
  ·have h2:¬(bf e.1:Key)=bf x:=λz=>h (bf.inj z);have f:¬x=e.1:=λz=>h z.symm;simp [h2,f]
variable {F:List Ci}
theorem qji {l:Wk} (h:x∉kF F):wn (fD F) (.inr x) (lD l)=fD (F++[(x,l)]):=by
 unfold wn;have h1:((fD F).any λp=>decide (p.1=(bf x:Key)))=false:=by have:=qeQ F x;unfold ko at this;rw [this];exact Ac h
 rw [h1,Ab bE];unfold fD;rw [bG];rfl
noncomputable def yk (F:List Ci) (x:Str):Wk:=((F.find? λc=>decide (c.1=x)).map (·.2)).getD []
theorem YL:∀ (F:List Ci) (x:Str),(fD F).find? (λkv=>decide (kv.1=(bf x:Key)))=(F.find? λc=>decide (c.1=x)).map λc=>(bf c.1,lD c.2)
 | [],x=>rfl
 | c::F,x=>by
  have j:=YL F x;unfold fD at j ⊢;rw [aG];by_cases h:c.1=x;·rw [bM (by simp [h]),bM (by simp [h])];rfl
  ·have h2:¬(bf c.1:Key)=bf x:=λz=>h (bf.inj z);rw [bF (by simpa using h2),bF (by simpa using h),j]
theorem qlw (h:x∈kF F):ixD (.dct (fD F)) (.str x)=.ok (lD (yk F x)):=by
 unfold ixD yk;simp only [YL];cases q:F.find? λc=>decide (c.1=x) with
 | none=>obtain ⟨e,g,rfl⟩:=af.mp h;have:=cm.mp q e g;simp at this
 | some c=>rfl
theorem qjj (F:List Ci) (x:Str):qkq (fD F) (.inr x) (.lst [])=lD (yk F x):=by unfold qkq yk;rw [YL];cases F.find? λc=>decide (c.1=x) <;> rfl
noncomputable def FO:List Ci->List Ci->List Ci
 | F,[]=>F
 | F,c::C=>FO (if odd c.2=iM/\c.1∉kF F then F++[c] else F) C
theorem Jo:∀ (C F:List Ci),(∀ c∈FO F C,c∈F\/c∈C)/\(∀ x∈kF F,x∈kF (FO F C))/\(∀ c∈C,odd c.2=iM->c.1∈kF (FO F C))/\(FO F C).length<=F.length+C.length
 | [],F=>⟨λc h=>.inl h,λx h=>h,by simp,by simp [FO]⟩
 | c::C,F=>by
  unfold FO;by_cases q:odd c.2=iM/\c.1∉kF F
  ·rw [Aa q];obtain ⟨a,b,d,e⟩:=Jo C (F++[c]);refine ⟨λy f=>?_,λx hx=>b x (by simp [kF] at hx ⊢; exact .inl hx),λy f l=>?_,by rw [aq] at e; simp at e ⊢; lia⟩
   ·rcases a y f with h | h
    ·rcases ai.mp h with h | h;·exact .inl h
     ·exact .inr (by rw [aw.mp h]; exact aj ..)
    ·exact .inr (ae _ h)
   ·rcases ac.mp f with rfl | f;·exact b _ (by simp [kF])
    ·exact d y f l
  ·rw [Ab q];obtain ⟨a,b,d,e⟩:=Jo C F;refine ⟨λy f=>?_,b,λy f l=>?_,by simp at e ⊢; lia⟩
   ·rcases a y f with h | h;·exact .inl h
    ·exact .inr (ae _ h)
   ·rcases ac.mp f with rfl | f;·exact b _ (bB λw=>q ⟨l,w⟩)
    ·exact d y f l
abbrev foB:qS:=(sIf (qev (wZ (qp [.vl] wA (qd (qe 3) qA))) (qV (d2 gN (qe 2) (qe 1)))) (xQ 1 (qe 3) (qe 2)) jm)
theorem qjk (F:List Ci) (x:Str):gN (.str x) (.dct (fD F))=.ok (.bl (!decide (x∈kF F))):=by unfold gN;simp only [QD];rw [qeQ]
theorem YM (a:Option D):∀ (C F:List Ci) (f e:Option D),F.length+C.length<=500->∃ b y,kM (kj 2 (qE (gNm 2) (qE (gNm 3) ki))) foB (cD C) [a,iI (.dct (fD F)),f,e]=.ok (.nx,[a,iI (.dct (fD (FO F C))),b,y])
 | [],F,f,e,_=>⟨f,e,rfl⟩
 | c::C,F,f,e,hl=>by
  rw [ao] at hl;have h1:=Jm c.2;have h2:=qjk F c.1;have i:(fD F).length < sizeLine:=aK (by simp [fD]; lia) big;unfold FO;by_cases q:odd c.2=iM/\c.1∉kF F;·rw [Aa q];obtain ⟨b,y,j⟩:=YM a C (F++[c]) (iI (.str c.1)) (iI (lD c.2)) (by rw [aq]; simp; lia);refine ⟨b,y,dQ (yz (d:=cd c) (ρ1:=[a,iI (.dct (fD F)),iI (.str c.1),iI (lD c.2)]) rfl ?_) j⟩;rw [q.1] at h1;rw [Ac q.2] at h2;have hp:=qji (F:=F) (x:=c.1) (l:=c.2) q.2;simp [h1,h2,xQ,QD,i,hp]
  ·rw [Ab q];obtain ⟨b,y,j⟩:=YM a C F (iI (.str c.1)) (iI (lD c.2)) (by lia);refine ⟨b,y,dQ (yz (d:=cd c) (ρ1:=[a,iI (.dct (fD F)),iI (.str c.1),iI (lD c.2)]) rfl ?_) j⟩;cases g:odd c.2 with
   | false=>rw [g] at h1;simp [h1]
   | true=>rw [g] at h1;have:c.1∈kF F:=bB λw=>q ⟨g,w⟩;rw [Ad this] at h2;simp [h1,h2]
theorem Zi (C:List Ci) (hl:C.length<=400):wE [.lst (cD C)]=.ok (.dct (fD (FO [] C)),[.non]):=by obtain ⟨b,y,e⟩:=YM (iI (.lst (cD C))) C [] iK iK (by simp; lia);refine qu.trans ?_;unfold Jb;rw [show qt Ja [.lst (cD C)]=[iI (.lst (cD C)),iK,iK,iK] from rfl];refine (qB (ρ1:=[iI (.lst (cD C)),iI (.dct []),iK,iK]) (by simp)).trans ?_;refine (qB (ρ1:=[iI (.lst (cD C)),iI (.dct (fD (FO [] C))),b,y]) (by rw [kK,show jw (qe 0) [iI (.lst (cD C)),iI (.dct []),iK,iK]=.ok (cD C,[iI (.lst (cD C)),iI (.dct []),iK,iK]) from rfl,kq];exact e)).trans ?_;simp
noncomputable def JN (F C:List Ci):List Ci:=(C.filter λc=>odd c.2).map λc=>(c.1,yk F c.1++c.2)
abbrev joT:ym:=wZ (qp [.vl] wA (qd (qe 1) qA))
abbrev joE:qU:=Qv (qd (qe 0) (qd (d2 ud (d2 ixD (qe 2) (qe 0)) (qe 1)) qA))
theorem qb6 (h:∀ c∈F,c.2.length<=100):∀ (C:List Ci) (x y:Option D),(∀ c∈C,c.2.length<=100)->(∀ c∈C,odd c.2=iM->c.1∈kF F) ->∃ n s,jS (kj 2 (qE (gNm 0) (qE (gNm 1) ki))) joT joE (cD C) [x,y,iI (.dct (fD F))]=.ok (cD (JN F C),[n,s,iI (.dct (fD F))])
 | [],x,y,_,_=>⟨x,y,rfl⟩
 | c::C,x,y,hl,hk=>by
  obtain ⟨n,s,j⟩:=qb6 h C (iI (.str c.1)) (iI (lD c.2)) (λd hd=>hl d (ae _ hd)) λd hd=>hk d (ae _ hd);refine ⟨n,s,?_⟩;have h1:=Jm c.2;have z2:2<=sizeLine:=small (by lia);have e0:cD (c::C)=.tup [.str c.1,lD c.2]::cD C:=rfl;cases q:odd c.2 with
  | false=>
   rw [q] at h1;have e1:JN F (c::C)=JN F C:=by simp [JN,q]
   rw [e0,e1];simp [jS,Qz,kj,qE,ki,h1,j]
  | true=>
   rw [q] at h1;have e1:JN F (c::C)=(c.1,yk F c.1++c.2)::JN F C:=by simp [JN,q]
   have hm:=hk c (aj ..) q;have i1:=qlw hm;have hg:(yk F c.1).length<=100:=by
    unfold yk;cases w:F.find? λd=>decide (d.1=c.1) with
    | none=>simp
    | some d=>exact h d (bD w)
   have l:=hl c (aj ..);have k:=qb4 (a:=yk F c.1) (b:=c.2) (by lia);rw [e0,e1];simp [jS,Qz,kj,qE,ki,h1,i1,k,z2,j];simp [cD,cd]
theorem qd5 {nt:Nat} {fi:vB} {ft:ym} {fe:qU} {es:List D} (h:fi ρ=.ok (ds,ρ1)) (hl:ds.length<=sizeLine) (d:jS g ft fe ds (kJ nt cap ρ1)=.ok (es,ρ2)):qT own nt cap fi g ft fe ρ=.ok (.lst es,jR own ρ2 nt cap ρ1):=by unfold qT;rw [h];simp only [kq];rw [Aa hl,d];rfl
abbrev baB:qS:=(sIf (wZ (qp [.vl,.vl,.vl] XU (qd (qe 7) (qd (qe 1) (qd (qe 2) qA))))) (jx (Qv (qd (qe 6) (qd (qe 7) qA)))) jm)
theorem qb7 (e:qgH nd ns) (f:1<=r) (a b c d:Option D):∀ (L:List Ci) (x y:Option D),(∀ w∈L,∀ k∈w.2,k < ns.length)->∃ ρ,kM (kj 2 (qE (gNm 6) (qE (gNm 7) ki))) baB (cD L) [a,iI (.int r),iI nd,b,c,d,x,y]=.ok (match L.find? λw=>GB w.2 r ns with | some w=>.rt (cd w) | none=>.nx,ρ)
 | [],x,y,_=>⟨_,rfl⟩
 | w::L,x,y,h=>by
  have h1:=qgI e (h w (aj ..)) f;have z2:2<=sizeLine:=small (by lia);cases q:GB w.2 r ns with
  | true=>rw [q] at h1;refine ⟨[a,iI (.int r),iI nd,b,c,d,iI (.str w.1),iI (lD w.2)],?_⟩;rw [bM (by simpa using q)];exact qje (d:=cd w) (ρ1:=[a,iI (.int r),iI nd,b,c,d,iI (.str w.1),iI (lD w.2)]) rfl (by simp [h1,z2,cd])
  | false=>rw [q] at h1;obtain ⟨ρ,j⟩:=qb7 e f a b c d L (iI (.str w.1)) (iI (lD w.2)) λv g=>h v (ae _ g);refine ⟨ρ,?_⟩;rw [bF (by simpa using q)];exact dQ (yz (d:=cd w) (ρ1:=[a,iI (.int r),iI nd,b,c,d,iI (.str w.1),iI (lD w.2)]) rfl (by simp [h1])) j
noncomputable def BO (W:Wy) (seen:List Pr) (r:Int) (ns:List Int):Option Ci:=(CL W 0 seen++JN (FO [] (CL W 0 seen)) (CL W 0 seen)).find? λw=>GB w.2 r ns
theorem qjl (s:(LS seen).length<=20) (h:WI seen W) (a:∀ x∈LS seen,x∈kW W):∀ c∈CL W 0 seen,c.2.length<=100:=by
 intro c d;obtain ⟨q,hq,rfl⟩:=af.mp d;obtain ⟨p,j⟩:=q;have G:=List.mem_zipIdx hq;have hp:p∈seen:=by rw [G.2.2]; exact bI _
 obtain ⟨h1,h2⟩:=vx a p hp;have f:=h.len _ (jq h1);have l:=h.len _ (jq h2);have S:=h.le;simp only [] at f l;unfold YK;simp
 lia
theorem qb8 (W:Wy) (k0:Nat) (seen:List Pr):(CL W k0 seen).length=seen.length:=by simp [CL]
structure Sn (seen:List Pr) (W:Wy):Prop where
 n:seen.length<=6
 s:(LS seen).length<=12
 w:WI seen W
 C:CI seen W
 R:RI W
 a:∀ x∈LS seen,x∈kW W
 e:vX [sD seen]=.ok (.dct (wD W),[.non])
 z:∀ x∈LS seen,x.length<=2000
 m:MI W
theorem qb9 (S:Sn seen W) (m:qgH nd ns) (y:ns.length=seen.length) (B:1<=r):Vl [sD seen,.int r,nd]=.ok (match BO W seen r ns with | some w=>cd w | none=>.non,[.non,.non,.non]):=by
 have u:(LS seen).length<=20:=by have:=S.s; lia
 have h1:=Kp S.n u S.w S.a;have o:=qb8 W 0 seen;have J:=S.n;have h2:=Zi (CL W 0 seen) (by lia);have b:=qjl u S.w S.a;have t:=qjh S.w S.a;obtain ⟨f1,_,p,f4⟩:=Jo (CL W 0 seen) [];have D:∀ c∈FO [] (CL W 0 seen),c∈CL W 0 seen:=λc i=>by
  rcases f1 c i with h | h;·cases h
  ·exact h
 unfold BO;generalize K:CL W 0 seen=C at h1 h2 o b t p D;generalize G:FO [] C=F at h2 p D;obtain ⟨I,H,z⟩:=qb6 (F:=F) (λc i=>b c (D c i)) C iK iK b p;refine qu.trans ?_;unfold XY;rw [show qt XX [sD seen,.int r,nd]=[iI (sD seen),iI (.int r),iI (nd),iK,iK,iK,iK,iK] from rfl];have j:=S.e;refine (qB (ρ1:=[iI (sD seen),iI (.int r),iI (nd),iI (.lst (cD C)),iK,iK,iK,iK]) (by simp [j,h1])).trans ?_;refine (qB (ρ1:=[iI (sD seen),iI (.int r),iI (nd),iI (.lst (cD C)),iI (.dct (fD F)),iK,iK,iK]) (by simp [h2])).trans ?_;have x:=qd5 (own:=[]) (cap:=[4]) (nt:=2) (fi:=jw (qe 3)) (g:=kj 2 (qE (gNm 0) (qE (gNm 1) ki))) (ft:=joT) (fe:=joE) (ρ:=[iI (sD seen),iI (.int r),iI (nd),iI (.lst (cD C)),iI (.dct (fD F)),iK,iK,iK]) (ρ1:=[iI (sD seen),iI (.int r),iI (nd),iI (.lst (cD C)),iI (.dct (fD F)),iK,iK,iK]) (ds:=cD C) rfl (by simp [cD]; exact small (by lia)) z;refine (qB (ρ1:=[iI (sD seen),iI (.int r),iI (nd),iI (.lst (cD C)),iI (.dct (fD F)),iI (.lst (cD (JN F C))),iK,iK]) (by rw [QN,x]; rfl)).trans ?_;have E:(JN F C).length<=6:=by
  unfold JN;rw [ap];have:=cK (λc:Ci=>odd c.2) C
  lia
 have A:(cD C).length+(cD (JN F C)).length<=sizeLine:=by simp [cD]; exact small (by lia)
 have l:∀ w∈C++JN F C,∀ k∈w.2,k < ns.length:=λw j k v=>by
  rw [y];rcases ai.mp j with h | h;·exact t w h k v
  ·obtain ⟨c,i,rfl⟩:=af.mp h;have i:=(br.mp i).1;rcases ai.mp v with h | h
   ·unfold yk at h;cases w:F.find? λd=>decide (d.1=c.1) with
    | none=>rw [w] at h; cases h
    | some d=>rw [w] at h;exact t d (D d (bD w)) k h
   ·exact t c i k h
 obtain ⟨ρ,e⟩:=qb7 m B (iI (sD seen)) (iI (.lst (cD C))) (iI (.dct (fD F))) (iI (.lst (cD (JN F C)))) (C++JN F C) iK iK l;have f:Jx (jw (d2 ud (qe 3) (qe 5))) (kj 2 (qE (gNm 6) (qE (gNm 7) ki))) baB [iI (sD seen),iI (.int r),iI (nd),iI (.lst (cD C)),iI (.dct (fD F)),iI (.lst (cD (JN F C))),iK,iK]=kM (kj 2 (qE (gNm 6) (qE (gNm 7) ki))) baB (cD (C++JN F C)) [iI (sD seen),iI (.int r),iI (nd),iI (.lst (cD C)),iI (.dct (fD F)),iI (.lst (cD (JN F C))),iK,iK]:=by rw [kK,show jw (d2 ud (qe 3) (qe 5)) [iI (sD seen),iI (.int r),iI (nd),iI (.lst (cD C)),iI (.dct (fD F)),iI (.lst (cD (JN F C))),iK,iK]=.ok (cD (C++JN F C),[iI (sD seen),iI (.int r),iI (nd),iI (.lst (cD C)),iI (.dct (fD F)),iI (.lst (cD (JN F C))),iK,iK]) by simp [A,jo];simp [cD]];rfl
 cases q:(C++JN F C).find? λw=>GB w.2 r ns with
 | some w=>rw [q] at e;rw [QM,f.trans e];rfl
 | none=>rw [q] at e;refine (qB (f.trans e)).trans ?_;rfl
theorem Qi (w:jP ws) (hl:UD p q):kL [Wd ws,Ld p q]=.ok (sD (qy ws p q),[.non,.non]):=Vw w hl
def vy (n:Nat) (r:Int) (ns:List Int):Prop:=ns.length=n/\∀ i∈ns,0<=i/\i < r
theorem Vy (h:vy n r ns) (b:n<=50):uI [nD ns,.int (n:Nat),.int r]=.ok (.bl iM,[.non,.non,.non]):=by
 have ht:=qbU (d:=nD ns) trivial;have e:=vw (cap:=[2]) (fi:=jw (qe 0)) (ρ:=[iI (nD ns),iI (.int (n:Nat)),iI (.int r)]) (ρ1:=[iI (nD ns),iI (.int (n:Nat)),iI (.int r)]) (ds:=ns.map D.int) (fe:=qp [.vl,.vl,.vl] jp (qd (qe 0) (qd (dC (.int 0)) (qd (d2 ZL (qe 1) (dC (.int 1))) qA)))) (λd=>.bl (Js 0 (r - 1) d)) (by simp [jo]) (by rw [ap,h.1]; exact small (by lia)) (λd hd=>by obtain ⟨i,hi,rfl⟩:=af.mp hd;have h1:=jN (d:=.int i) trivial 0 (r - 1);simp [uc,h1]);have f:=wM (Js 0 (r - 1)) (ns.map D.int);have c:(ns.map D.int).all (Js 0 (r - 1))=true:=by
  rw [aI];intro d hd;obtain ⟨i,hi,rfl⟩:=af.mp hd;have:=h.2 i hi;simp [Js]
  lia
 rw [c] at f;have a:(ns.map D.int).length=n:=by rw [ap,h.1]
 refine qu.trans ?_;simp [-bo,gB,qt,ht,JL,neD,eqN,eqS,h.1,e,f]
theorem gX (h:vy n r ns) (a:n<=50):vn [nD ns,.int (n:Nat),.int r]=.ok (.non,[.non,.non,.non]):=by have h1:=Vy h a;refine qu.trans ?_;simp [uJ,qt,h1]
theorem qgQ (w:jP ws) (hl:UD p q) (a:1<=r) (h1:r<=99) (n:vy ws.length r ns):uM [Wd ws,Ld p q,.int r,nD ns]=.ok (sD (qy ws p q),[.non,.non,.non,.non]):=by have e1:=Qi w hl;have i:=zm (d:=.int r) trivial;rw [Aa (by simp [Js]; exact ⟨a,h1⟩)] at i;have D:=gX n (by have:=w.2.1; lia);refine qu.trans ?_;simp [gD,qt,e1,i,D]
theorem qlx (w:jP ws) (p q:Int):∃ W,Sn (qy ws p q) W:=by
 have h1:(qy ws p q).length<=6:=by simp [qy]; exact w.2.1
 have h2:=qeM w p q;obtain ⟨W,a,b,c,m,d,e⟩:=GC h1 h2;exact ⟨W,h1,h2,a,b,c,d,e,λx hx=>by
  obtain ⟨k,_,rfl⟩:=qja w p q x hx;show 1<=2000
  lia,m⟩
theorem qeR (h:jP ws) (hl:UD p q) (a:1<=r) (h1:r<=99) (n:vy ws.length r ns) (S:Sn (qy ws p q) W):qbA [Wd ws,Ld p q,.int r,nD ns]=.ok (match BO W (qy ws p q) r ns with | some w=>cd w | none=>.non,[.non,.non,.non,.non]):=by have e1:=qgQ h hl a h1 n;have i:=qb9 S (qbZ ns) (by rw [n.1]; simp [qy]) a;refine qu.trans ?_;simp [qi1,qt,e1,i]
noncomputable def zn (t r:Int):Int:=if t % r % 2=0 then t % r / 2 else (t % r+r) / 2
theorem qgR (t:Int) (h:1<=r):qbF [.int t,.int r]=.ok (.int (zn t r),[.non,.non]):=by
 have a:0 < r:=by lia
 have d:∀ i,qfg i 2:=λi=>⟨by lia,by lia⟩
 unfold zn;refine qu.trans ?_;by_cases q:t % r % 2=0 <;> simp [qeK,qt,yC,uc,a,eqD,eqN,eqS,yD,d,q]
noncomputable def rW (l:Wk) (r:Int) (ns:List Int):List Int:=if l=[] then (aN r.toNat).map λ(j:Nat)=>(j:Int) else if r % 2=0 then [zn (qN ns 0 l) r,zn (qN ns 0 l) r+r / 2] else [zn (qN ns 0 l) r]
abbrev iD (xs:List Int):D:=.lst (xs.map D.int)
theorem JM {l:Wk} (h:∀ k∈l,k < ns.length) (d:1<=r) (g:r<=99):kU [lD l,.int r,nD ns]=.ok (iD (rW l r ns),[.non,.non,.non]):=by
 have z2:2<=sizeLine:=small (by lia);have z1:1<=sizeLine:=small (by lia);have c:∀ i,qfg i 2:=λi=>⟨by lia,by lia⟩
 refine qu.trans ?_;unfold rW;cases l with
 | nil=>
  have f:qa3 0 r/\r - 0<=1000000:=⟨⟨⟨by lia,by lia⟩,by lia,by lia⟩,by lia⟩
  have e:kQ (.int r)=.ok (.lst ((aN r.toNat).map λ(j:Nat)=>.int (j:Int))):=by unfold kQ;dsimp only;rw [Aa f,Int.sub_zero];simp [Jw]
  rw [Aa rfl,show iD ((aN r.toNat).map λ(j:Nat)=>(j:Int))=.lst ((aN r.toNat).map λ(j:Nat)=>.int (j:Int)) by simp [iD]];simp [kT,qt,inL,eqD,eqN,eqS,e]
 | cons a l=>
  have h1:=xn (qbZ ns) h 0;have h2:=qgR (qN ns 0 (a::l)) d;have n:¬inL (a::l)=[]:=by simp [inL]
  rw [Ab (by simp)];generalize hx:qN ns 0 (a::l)=t at h1 h2;generalize C:zn t r=w at h2;generalize z:lD (a::l)=ld at h1;have b:jW ld=.ok (.int ((inL (a::l)).length:Int)):=by rw [<-z]; rfl
  by_cases q:r % 2=0;·rw [Aa q];simp [kT,qt,b,eqD,eqN,eqS,n,h1,h2,yC,uc,q,yD,c,z2]
  ·rw [Ab q];simp [kT,qt,b,eqD,eqN,eqS,n,h1,h2,yC,uc,q,z1]
noncomputable def RT (W:Wy):List Str:=(jZ (kW W)).filter λx=>decide ((qI W x).1=x)
abbrev Rt:=Str×List Int
noncomputable def rd (x:Rt):D:=.tup [.str x.1,iD x.2]
noncomputable def RO (W:Wy) (seen:List Pr) (r:Int) (ns:List Int):List Rt:=(RT W).map λx=>(x,rW (yk (FO [] (CL W 0 seen)) x) r ns)
theorem YN:∀ W:Wy,Ye (wD W)=iI (kW W)
 | []=>rfl
 | e::W=>by have j:=YN W;show (Ye (wD W)).map (e.1::·)=_;rw [j];rfl
theorem Jp (S:Sn seen W) (g:ns.length=seen.length) (H:1<=r) (M:r<=99):vZ [sD seen,.int r,nD ns]=.ok (.lst ((RO W seen r ns).map rd),[.non,.non,.non]):=by
 have G:(LS seen).length<=20:=by have:=S.s; lia
 have h1:=Kp S.n G S.w S.a;have j:=qb8 W 0 seen;have P:=S.n;have h2:=Zi (CL W 0 seen) (by lia);have t:=qjh S.w S.a;obtain ⟨f1,_,u,f4⟩:=Jo (CL W 0 seen) [];have p:∀ c∈FO [] (CL W 0 seen),c∈CL W 0 seen:=λc J=>by
  rcases f1 c J with h | h;·cases h
  ·exact h
 unfold RO;generalize Q:CL W 0 seen=C at h1 h2 j t u p;generalize L:FO [] C=F at h2 u p;have I:=S.w.le;have q:=S.s;have b:(kW W).length < 64:=by simp [kW]; lia
 have i:((kW W).all λy=>decide (y.length<=sizeLine))=true:=by rw [aI];intro y A;exact Ad (small (S.z y (S.w.sub y A)))
 have o:kh (.dct (wD W))=.ok (.lst ((jZ (kW W)).map D.str)):=by unfold kh;simp only [YN];rw [Aa ⟨b,i⟩]
 have m:∀ x∈jZ (kW W),x∈kW W:=λx hx=>(qK _).mem_iff.mp hx;have E:(jZ (kW W)).length<=12:=by rw [(qK _).length_eq]; simp [kW]; lia
 refine qu.trans ?_;unfold Kl;rw [show qt Kk [sD seen,.int r,nD ns]=[iI (sD seen),iI (.int r),iI (nD ns),iK,iK,iK] from rfl];have B:=S.e;refine (qB (ρ1:=[iI (sD seen),iI (.int r),iI (nD ns),iI (.dct (wD W)),iK,iK]) (by simp [B])).trans ?_;refine (qB (ρ1:=[iI (sD seen),iI (.int r),iI (nD ns),iI (.dct (wD W)),iI (.dct (fD F)),iK]) (by simp [h1,h2])).trans ?_;have v:=Zf (own:=[]) (cap:=[3]) (fi:=jw (d1 kh (qe 3))) (ft:=qV (d2 eqD (d2 ixD (d2 ixD (qe 1) (qe 0)) (dC (.int 0))) (qe 0))) (fe:=qe 0) (ρ:=[iI (sD seen),iI (.int r),iI (nD ns),iI (.dct (wD W)),iI (.dct (fD F)),iK]) (ρ1:=[iI (sD seen),iI (.int r),iI (nD ns),iI (.dct (wD W)),iI (.dct (fD F)),iK]) (ds:=(jZ (kW W)).map D.str) (λd=>match d with | .str x=>decide ((qI W x).1=x) | _=>iN) (λd=>d) (by simp) (by simp [o,jo]) (by rw [ap]; exact small (by lia)) (λd hd=>by obtain ⟨x,hx,rfl⟩:=af.mp hd;have i1:=Vx S.w.nd (m x hx);simp [i1,qlu,eqD,eqN,eqS];rfl) (λd hd _=>by simp);have e1:(((jZ (kW W)).map D.str).filter λd=>match d with | .str x=>decide ((qI W x).1=x) | _=>iN).map (λd=>d)=(RT W).map D.str:=by rw [f9,h7];rfl
 rw [e1] at v;refine (qB (ρ1:=[iI (sD seen),iI (.int r),iI (nD ns),iI (.dct (wD W)),iI (.dct (fD F)),iI (.lst ((RT W).map D.str))]) (by rw [QN,v]; rfl)).trans ?_;have K:(RT W).length<=12:=by
  have:=cK (λx=>decide ((qI W x).1=x)) (jZ (kW W));unfold RT
  lia
 have z2:2<=sizeLine:=small (by lia);have c2:=vw (cap:=[1,2,4]) (fi:=jw (qe 5)) (fe:=Qv (qd (qe 0) (qd (qp [.vl,.vl,.vl] kU (qd (qdF (qe 3) (qe 0) (xD qA)) (qd (qe 1) (qd (qe 2) qA)))) qA))) (ρ:=[iI (sD seen),iI (.int r),iI (nD ns),iI (.dct (wD W)),iI (.dct (fD F)),iI (.lst ((RT W).map D.str))]) (ρ1:=[iI (sD seen),iI (.int r),iI (nD ns),iI (.dct (wD W)),iI (.dct (fD F)),iI (.lst ((RT W).map D.str))]) (ds:=(RT W).map D.str) (λd=>match d with | .str x=>rd (x,rW (yk F x) r ns) | d=>d) (by simp [jo]) (by rw [ap]; exact small (by lia)) (λd hd=>by
  obtain ⟨x,hx,rfl⟩:=af.mp hd;have g1:=qjj F x;have l:∀ k∈yk F x,k < ns.length:=λk f=>by
   unfold yk at f;cases w:F.find? λd=>decide (d.1=x) with
   | none=>rw [w] at f; cases f
   | some d=>rw [w] at f;rw [g];exact t d (p d (bD w)) k f
  have N:=JM l H M;simp [qdF,QD,g1,N,z2,rd])
 have O:((RT W).map D.str).map (λd=>match d with | .str x=>rd (x,rW (yk F x) r ns) | d=>d)=((RT W).map λx=>(x,rW (yk F x) r ns)).map rd:=by rw [bo,bo];rfl
 rw [O] at c2;rw [KJ,c2];rfl
noncomputable def HM (W:Wy) (seen:List Pr) (r:Int) (ns:List Int):Int:=match BO W seen r ns with
 | some _=>0
 | none=>(RO W seen r ns).foldl (λa x=>a * (x.2.length:Int)) 1
theorem qeS (l:Wk) (d:1<=r) (g:r<=99) (ns:List Int):(rW l r ns).length<=99:=by
 unfold rW;split;·simp; omega
 ·split <;> simp
theorem qca (a b c d:Option D):∀ (L:List Rt) (t:Int) (x y:Option D),(∀ w∈L,w.2.length<=99)->∃ n s,kM (kj 2 (qE (gNm 5) (qE (gNm 6) ki))) (jv 4 (d2 qc8 (qe 4) (d1 jW (qe 6)))) (L.map rd) [a,b,c,d,iI (.int t),x,y]=.ok (.nx,[a,b,c,d,iI (.int (L.foldl (λa x=>a * (x.2.length:Int)) t)),n,s])
 | [],t,x,y,_=>⟨x,y,rfl⟩
 | w::L,t,x,y,h=>by have g:=h w (aj ..);obtain ⟨n,s,j⟩:=qca a b c d L (t * (w.2.length:Int)) (iI (.str w.1)) (iI (iD w.2)) λv e=>h v (ae _ e);have f:CMul t (w.2.length:Int):=.inr ⟨by lia,by lia⟩;refine ⟨n,s,dQ (yz (d:=rd w) (ρ1:=[a,b,c,d,iI (.int t),iI (.str w.1),iI (iD w.2)]) rfl ?_) j⟩;simp [qc8,uc,f]
theorem Jq (h:jP ws) (hl:UD p q) (b:1<=r) (g:r<=99) (n:vy ws.length r ns) (S:Sn (qy ws p q) W):yg [Wd ws,Ld p q,.int r,nD ns]=.ok (.int (HM W (qy ws p q) r ns),[.non,.non,.non,.non]):=by
 have e1:=qeR h hl b g n S;have i:=Qi h hl;have D:=Jp S (ns:=ns) (by rw [n.1]; simp [qy]) b g;refine qu.trans ?_;unfold HM;cases O:BO W (qy ws p q) r ns with
 | some c=>rw [O] at e1;simp [zT,qt,e1,cd]
 | none=>rw [O] at e1;obtain ⟨d,s,e⟩:=qca (iI (Wd ws)) (iI (Ld p q)) (iI (.int r)) (iI (nD ns)) (RO W (qy ws p q) r ns) 1 iK iK (λw h=>by obtain ⟨x,_,rfl⟩:=af.mp h;exact qeS _ b g _);unfold zT;rw [show qt Km [Wd ws,Ld p q,.int r,nD ns]=[iI (Wd ws),iI (Ld p q),iI (.int r),iI (nD ns),iK,iK,iK] from rfl];refine (qB (ρ1:=[iI (Wd ws),iI (Ld p q),iI (.int r),iI (nD ns),iK,iK,iK]) (by simp [e1])).trans ?_;refine (qB (ρ1:=[iI (Wd ws),iI (Ld p q),iI (.int r),iI (nD ns),iI (.int 1),iK,iK]) (by simp)).trans ?_;refine (qB (ρ1:=[iI (Wd ws),iI (Ld p q),iI (.int r),iI (nD ns),iI (.int ((RO W (qy ws p q) r ns).foldl (λa x=>a * (x.2.length:Int)) 1)),d,s]) (by rw [kK,show jw (qp [.vl,.vl,.vl] vZ (qd (qp [.vl,.vl] kL (qd (qe 0) (qd (qe 1) qA))) (qd (qe 2) (qd (qe 3) qA)))) [iI (Wd ws),iI (Ld p q),iI (.int r),iI (nD ns),iI (.int 1),iK,iK]=.ok ((RO W (qy ws p q) r ns).map rd,[iI (Wd ws),iI (Ld p q),iI (.int r),iI (nD ns),iI (.int 1),iK,iK]) by simp [i,D,jo],kq];exact e)).trans ?_;simp
theorem qcb (l:List Pr):(LS l).Nodup:=(qK _).nodup_iff.mpr (zl _ [] cJ).1
noncomputable def yl (l:List (Str×Int)) (s:List Pr) (r:Int):List Int:=s.map λx=>(ju l x.1+ju l x.2) % r
noncomputable def sg (l:Wk):Int:=if odd l=iM then -1 else 1
theorem qd6 (k:Nat) (l:Wk):odd (k::l)=!odd l:=by
 unfold odd;rw [ao];by_cases h:l.length % 2=1;·rw [Ad h,Ac (by lia)]; rfl
 ·rw [Ac h,Ad (by lia)]; rfl
theorem qgS (k:Nat) (l:Wk):sg (k::l)=- sg l:=by unfold sg;rw [qd6];cases odd l <;> rfl
theorem uW (ns:List Int) (t:Int) (a b:Wk):qN ns t (a++b)=qN ns (qN ns t a) b:=fJ ..
theorem zX (ns:List Int) (t:Int) (k:Nat) (l:Wk):qN ns t (k::l)=qN ns (nI ns k - t) l:=rfl
theorem wO (ns:List Int):∀ (l:Wk) (t:Int),qN ns t l=qN ns 0 l+sg l * t
 | [],t=>by simp [qN,sg,odd]
 | k::l,t=>by
  have h1:=wO ns l (nI ns k - t);have h2:=wO ns l (nI ns k - 0);rw [zX,zX,h1,h2,qgS,iF,iF,Int.neg_mul];simp
  lia
theorem Up (ns:List Int):∀ (l:Wk) (s:Int),qN ns (qN ns s l) l.reverse=s
 | [],s=>rfl
 | k::l,s=>by
  have h:=Up ns l (nI ns k - s);rw [zX,cw,uW,h];show nI ns k - (nI ns k - s)=s
  lia
theorem qd7 (l:Wk):sg l=1\/sg l=-1:=by
 unfold sg;split;·exact .inr rfl
 ·exact .inl rfl
variable {a:Int}
theorem qjm (l:Wk):r ∣ sg l * a↔r ∣ a:=by
 rcases qd7 l with h | h;·rw [h,fK]
 ·rw [h,Int.neg_one_mul,ia]
theorem YO {b:Int}:a % r=b % r↔r ∣ a - b:=by rw [cx,Int.dvd_iff_emod_eq_zero]
theorem qd8 {b:Int} (h:r ∣ a - b) (e:0<=a) (k:a < r) (d:0<=b) (c:b < r):a=b:=by have:=YO.mpr h;rwa [bb e k,bb d c] at this
def Sol (seen:List Pr) (r:Int) (ns:List Int) (v:Str->Int):Prop:=∀ (k:Nat) (p:Pr),seen[k]?=iI p->r ∣ v p.1+v p.2 - nI ns k
variable {v:Str->Int}
theorem Path.val (S:Sol seen r ns v) {ρ:Str} {l:Wk} (h:Path seen ρ l x):r ∣ v x - qN ns (v ρ) l:=by
 induction h with
 | nil=>show r ∣ v ρ - v ρ;rw [Int.sub_self];exact ⟨0,by simp⟩
 | snoc hp e hq j=>
  rename_i l x y k p;have a:=S k p e;have m:r ∣ v x+v y - nI ns k:=by
   rcases hq with rfl | rfl;·exact a
   ·rw [Int.add_comm (v x)]; exact a
  rw [uW];show r ∣ v y - (nI ns k - qN ns (v ρ) l);have e1:v y - (nI ns k - qN ns (v ρ) l)=(v x+v y - nI ns k) - (v x - qN ns (v ρ) l):=by lia
  rw [e1];exact dj m j
def okS (r:Int) (ns:List Int) (c:Wk) (s:Int):Prop:=r ∣ qN ns s c - s
theorem Vz {c:Wk} (h:odd c=iN) (s:Int):okS r ns c s↔r ∣ qN ns 0 c:=by unfold okS;rw [wO,show sg c=1 by unfold sg; rw [h]; rfl,fK,Int.add_sub_cancel]
theorem VA {c:Wk} (h:odd c=iM) (s:Int):okS r ns c s↔r ∣ qN ns 0 c - 2 * s:=by unfold okS;rw [wO,show sg c=-1 by unfold sg; rw [h]; rfl,show qN ns 0 c + -1 * s - s=qN ns 0 c - 2 * s by lia]
theorem qcc (W:Wy) (p:Pr) (k:Nat) (r:Int) (ns:List Int) (s:Int):okS r ns (YK W p k).2 s↔r ∣ qN ns s (qI W p.1).2+qN ns s (qI W p.2).2 - nI ns k:=by
 unfold okS YK;simp only [];rw [uW,uW];have h1:=Up ns (qI W p.2).2 s;generalize qN ns s (qI W p.1).2=A;generalize qN ns s (qI W p.2).2=B at h1;generalize (qI W p.2).2.reverse=L at h1;show r ∣ qN ns (nI ns k - A) L - s↔_;have e:qN ns (nI ns k - A) L - s=sg L * (nI ns k - A - B):=by
  have h2:=wO ns L (nI ns k - A);have f:=wO ns L B;rw [h1] at f;rw [h2,iF (sg L) (nI ns k - A) B]
  lia
 rw [e,qjm,show nI ns k - A - B=-(A+B - nI ns k) by lia,ia]
theorem qjn {k:Nat} {p:Pr} (h:seen[k]?=iI p):YK W p k∈CL W 0 seen:=af.mpr ⟨(p,k),List.mem_zipIdx_iff_getElem?.mpr h,rfl⟩
theorem qgT {c:Ci} (h:c∈CL W 0 seen):∃ (k:Nat) (p:Pr),seen[k]?=iI p/\c=YK W p k:=by obtain ⟨q,hq,rfl⟩:=af.mp h;obtain ⟨p,k⟩:=q;exact ⟨k,p,List.mem_zipIdx_iff_getElem?.mp hq,rfl⟩
theorem qgU (p:Pr):oth p p.1=p.2:=by unfold oth; rw [Aa rfl]
theorem Uq (S:Sn seen W) {p:Pr} (hp:p∈seen):(qI W p.1).1=(qI W p.2).1:=by obtain ⟨h1,h2⟩:=vx S.a p hp;obtain ⟨e,g,e1,i⟩:=S.C _ (jq h1) p hp (.inl rfl);simp only [] at e1 i;rw [qgU] at e1;have:=Qh S.w.nd g (jq h2) e1;rw [this] at i;exact i.symm
theorem qeT (S:Sn seen W) (h:Sol seen r ns v):∀ c∈CL W 0 seen,okS r ns c.2 (v c.1):=by
 intro c f;obtain ⟨k,p,d,rfl⟩:=qgT f;have hp:=bg d;obtain ⟨h1,h2⟩:=vx S.a p hp;have n:=(S.w.path _ (jq h1)).val h;have b:=(S.w.path _ (jq h2)).val h;simp only [] at n b;rw [<-Uq S hp] at b;show okS r ns (YK W p k).2 (v (qI W p.1).1);rw [qcc];have s:=h k p d;generalize qN ns (v (qI W p.1).1) (qI W p.1).2=A at n;generalize qN ns (v (qI W p.1).1) (qI W p.2).2=B at b;have e:A+B - nI ns k=(v p.1+v p.2 - nI ns k) - (v p.1 - A) - (v p.2 - B):=by lia
 rw [e];exact dj (dj s n) b
noncomputable def vO (W:Wy) (r:Int) (ns:List Int) (σ:Str->Int) (x:Str):Int:=qN ns (σ (qI W x).1) (qI W x).2 % r
theorem qeU (S:Sn seen W) {σ:Str->Int} (h:∀ c∈CL W 0 seen,okS r ns c.2 (σ c.1)):Sol seen r ns (vO W r ns σ):=by
 intro k p a;have hp:=bg a;have h1:=h _ (qjn a);have h1:okS r ns (YK W p k).2 (σ (qI W p.1).1):=h1;rw [qcc] at h1;unfold vO;rw [<-Uq S hp];generalize qN ns (σ (qI W p.1).1) (qI W p.1).2=A at h1;generalize qN ns (σ (qI W p.1).1) (qI W p.2).2=B at h1;have d1:r ∣ A - A % r:=dG;have d2:r ∣ B - B % r:=dG;have e:A % r+B % r - nI ns k=(A+B - nI ns k) - (A - A % r) - (B - B % r):=by lia
 rw [e];exact dj (dj h1 d1) d2
theorem qcd:∀ (C F:List Ci),∀ c∈FO F C,c∈F\/(c∈C/\odd c.2=iM)
 | [],F,c,h=>.inl h
 | d::C,F,c,h=>by
  unfold FO at h;by_cases q:odd d.2=iM/\d.1∉kF F
  ·rw [Aa q] at h;rcases qcd C _ c h with h | h
   ·rcases ai.mp h with h | h;·exact .inl h
    ·rw [aw.mp h];exact .inr ⟨aj ..,q.1⟩
   ·exact .inr ⟨ae _ h.1,h.2⟩
  ·rw [Ab q] at h;rcases qcd C _ c h with h | h;·exact .inl h
   ·exact .inr ⟨ae _ h.1,h.2⟩
theorem VB (h:x∈kF F):(x,yk F x)∈F:=by
 unfold yk;cases q:F.find? λc=>decide (c.1=x) with
 | none=>obtain ⟨e,g,rfl⟩:=af.mp h;have:=cm.mp q e g;simp at this
 | some c=>
  have h1:=bD q;have h2:c.1=x:=by simpa using hZ q
  rw [<-h2];exact h1
theorem qd9 (h:x∉kF F):yk F x=[]:=by
 unfold yk;cases q:F.find? λc=>decide (c.1=x) with
 | none=>rfl
 | some c=>
  have h1:=bD q;have h2:c.1=x:=by simpa using hZ q
  exact absurd (af.mpr ⟨c,h1,h2⟩) h
theorem qce (a b:Wk):odd (a++b)=(odd a != odd b):=by
 unfold odd;rw [aq];by_cases h1:a.length % 2=1 <;> by_cases h2:b.length % 2=1;·rw [Ad h1,Ad h2,Ac (by lia)]; rfl
 ·rw [Ad h1,Ac h2,Ad (by lia)]; rfl
 ·rw [Ac h1,Ad h2,Ad (by lia)]; rfl
 ·rw [Ac h1,Ac h2,Ac (by lia)]; rfl
theorem Qj {c:Wk} (h:odd c=iN):GB c r ns=iN↔r ∣ qN ns 0 c:=by unfold GB;rw [h,Ab bE,Int.dvd_iff_emod_eq_zero];simp
theorem qcf {c:Wk} (h:odd c=iM):GB c r ns=iN↔¬(r % 2=0/\qN ns 0 c % 2=1):=by unfold GB;rw [h,Aa rfl];simp
theorem qeV (ns:List Int) (f c:Wk) (h:odd c=iM):qN ns 0 (f++c)=qN ns 0 c - qN ns 0 f:=by
 rw [uW,wO,show sg c=-1 by unfold sg; rw [h]; rfl]
 lia
section
abbrev FF (W:Wy) (seen:List Pr):List Ci:=FO [] (CL W 0 seen)
theorem qcg {c:Ci} (h:c∈FF W seen):c∈CL W 0 seen/\odd c.2=true:=by
 rcases qcd _ _ c h with h | h;·cases h
 ·exact h
theorem qch:BO W seen r ns=iK↔∀ c∈CL W 0 seen,(odd c.2=iN->r ∣ qN ns 0 c.2)/\(odd c.2=iM->¬(r % 2=0/\qN ns 0 c.2 % 2=1)/\r ∣ qN ns 0 c.2 - qN ns 0 (yk (FF W seen) c.1)):=by
 unfold BO;rw [cm];have k:∀ c∈CL W 0 seen,odd c.2=iM->odd (yk (FF W seen) c.1)=true:=λc d l=>(qcg (VB ((Jo _ _).2.2.1 c d l))).2;constructor
 ·intro h c d;have h1:GB c.2 r ns=false:=by simpa using h c (ai.mpr (.inl d))
  refine ⟨λl=>(Qj l).mp h1,λl=>⟨(qcf l).mp h1,?_⟩⟩;have h2:GB (yk (FF W seen) c.1++c.2) r ns=false:=by have:=h (c.1,yk (FF W seen) c.1++c.2) (ai.mpr (.inr (af.mpr ⟨c,br.mpr ⟨d,by simpa using l⟩,rfl⟩)));simpa using this
  rw [Qj (by rw [qce,k c d l,l]; rfl),qeV _ _ _ l] at h2;exact h2
 ·intro h w a;rcases ai.mp a with a | a
  ·cases l:odd w.2 with
   | false=>simpa using (Qj l).mpr ((h w a).1 l)
   | true=>simpa using (qcf l).mpr ((h w a).2 l).1
  ·obtain ⟨c,d,rfl⟩:=af.mp a;obtain ⟨d,l⟩:=br.mp d;have l:odd c.2=true:=by simpa using l
   have:GB (yk (FF W seen) c.1++c.2) r ns=false:=by rw [Qj (by rw [qce,k c d l,l]; rfl),qeV _ _ _ l];exact ((h c d).2 l).2
   simpa using this
theorem qgV (S:Sn seen W) (h:Sol seen r ns v):BO W seen r ns=none:=by
 have hok:=qeT S h;rw [qch];intro c d;refine ⟨λl=>(Vz l _).mp (hok c d),λl=>?_⟩;have h1:=(VA l _).mp (hok c d);have hm:=VB ((Jo (CL W 0 seen) []).2.2.1 c d l);obtain ⟨f1,f2⟩:=qcg hm;have h2:=(VA f2 _).mp (hok _ f1);refine ⟨λ⟨e1,i⟩=>?_,?_⟩
 ·obtain ⟨m,hm⟩:=h1;obtain ⟨j,G⟩:=dg e1;rw [G,fR] at hm
  lia
 ·simp only [] at h2;have e:qN ns 0 c.2 - qN ns 0 (yk (FF W seen) c.1)=(qN ns 0 c.2 - 2 * v c.1) - (qN ns 0 (yk (FF W seen) c.1) - 2 * v c.1):=by lia
  rw [e];exact dj h1 h2
end
theorem qci {t s:Int} (i:1<=r) (s0:0<=s) (s1:s < r) (hp:¬(r % 2=0/\t % 2=1)):r ∣ t - 2 * s↔s∈(if r % 2=0 then [zn t r,zn t r+r / 2] else [zn t r]):=by
 have c:0 < r:=by lia
 have g:=cP t (show r≠0 by lia);have t1:=ck t c;have hd:r ∣ t - t % r:=dG;have a:r % 2=0->t % r % 2=0:=λe=>by
  obtain ⟨m,hm⟩:=hd;obtain ⟨j,G⟩:=dg e;have:t % 2=0:=by
   have:=Int.emod_two_eq t;rcases this with h | h;·exact h
   ·exact absurd ⟨e,h⟩ hp
  have k:r * m=2 * (j * m):=by rw [G,fR]
  generalize t % r=u at hm ⊢
  lia
 have key:r ∣ t - 2 * s↔(t % r - 2 * s=0\/t % r - 2 * s=-r):=by
  constructor
  ·intro h;have h2:r ∣ t % r - 2 * s:=by
    have e:t % r - 2 * s=(t - 2 * s) - (t - t % r):=by lia
    rw [e];exact dj h hd
   generalize t % r=u at *;by_cases q:2 * s<=u;·refine .inl ?_;have:=b6 h2;rwa [bb (by lia) (by lia)] at this
   ·by_cases d:2 * s<=u+r
    ·refine .inr ?_;have f:r ∣ u - 2 * s+r:=eI h2 ⟨1,by simp⟩;have:=b6 f;rw [bb (by lia) (by lia)] at this
     lia
    ·exfalso;have f:r ∣ u - 2 * s+r+r:=eI (eI h2 ⟨1,by simp⟩) ⟨1,by simp⟩;have:=b6 f;rw [bb (by lia) (by lia)] at this
     lia
  ·intro h;have e:t - 2 * s=(t - t % r)+(t % r - 2 * s):=by lia
   rw [e];refine eI hd ?_;rcases h with h | h;·rw [h]; exact ⟨0,by simp⟩
   ·rw [h]; exact ⟨-1,by simp⟩
 rw [key];clear hp hd key;unfold zn;by_cases q:r % 2=0
 ·have b:=a q;clear a;rw [Aa q,Aa b];generalize t % r=u at *;simp only [ac,aU,or_false];constructor
  ·rintro (h | h);·exact .inl (by lia)
   ·exact .inr (by lia)
  ·rintro (h | h);·exact .inl (by lia)
   ·exact .inr (by lia)
 ·rw [Ab q];clear a;generalize t % r=u at *;rw [aw];by_cases d:u % 2=0
  ·rw [Aa d];constructor;·rintro (h | h) <;> lia
   ·intro h; exact .inl (by lia)
  ·rw [Ab d];constructor;·rintro (h | h) <;> lia
   ·intro h; exact .inr (by lia)
theorem qgW {t:Int} (d:1<=r):0<=zn t r/\zn t r < r/\(r % 2=0->t % r % 2=0->zn t r+r / 2 < r):=by have g:=cP t (show r≠0 by lia);have t1:=ck t (show 0 < r by lia);unfold zn;generalize t % r=u at *;split <;> refine ⟨by lia,by lia,λh h2=>by lia⟩
section
abbrev ch (W:Wy) (seen:List Pr) (r:Int) (ns:List Int) (x:Str):List Int:=rW (yk (FF W seen) x) r ns
theorem qgX (k:1<=r) (hb:BO W seen r ns=iK) (x:Str) (s:Int):s∈ch W seen r ns x↔(0<=s/\s < r)/\∀ c∈CL W 0 seen,c.1=x->okS r ns c.2 s:=by
 have a:=qch.mp hb;unfold ch rW;by_cases q:x∈kF (FF W seen)
 ·have hm:=VB q;obtain ⟨f1,f2⟩:=qcg hm;simp only [] at f2;have o:yk (FF W seen) x≠[]:=λz=>by rw [z] at f2; exact absurd f2 (by decide)
  have f:=(a _ f1).2 f2;simp only [] at f;rw [Ab o];have T:∀ s,(∀ c∈CL W 0 seen,c.1=x->okS r ns c.2 s)↔r ∣ qN ns 0 (yk (FF W seen) x) - 2 * s:=λs=>by
   constructor;·intro h;exact (VA f2 s).mp (h _ f1 rfl)
   ·intro h c g p;cases l:odd c.2 with
    | false=>exact (Vz l s).mpr ((a c g).1 l)
    | true=>
     have h1:=((a c g).2 l).2;rw [p] at h1;rw [VA l];have e:qN ns 0 c.2 - 2 * s=(qN ns 0 c.2 - qN ns 0 (yk (FF W seen) x))+(qN ns 0 (yk (FF W seen) x) - 2 * s):=by lia
     rw [e];exact eI h1 h
  rw [T s];generalize qN ns 0 (yk (FF W seen) x)=t at f;have n:=qgW (t:=t) k;have d:r % 2=0->t % r % 2=0:=λe=>by
   obtain ⟨m,hm⟩:r ∣ t - t % r:=dG;obtain ⟨j,G⟩:=dg e;have:t % 2=0:=by
    rcases Int.emod_two_eq t with h | h;·exact h
    ·exact absurd ⟨e,h⟩ f.1
   have v:r * m=2 * (j * m):=by rw [G,fR]
   generalize t % r=u at hm ⊢
   lia
  constructor
  ·intro h;have b:0<=s/\s < r:=by
    by_cases i:r % 2=0
    ·rw [Aa i] at h;simp only [ac,aU,or_false] at h;have:=n.2.2 i (d i);rcases h with rfl | rfl;·exact ⟨n.1,n.2.1⟩
     ·exact ⟨by lia,this⟩
    ·rw [Ab i] at h;rw [aw.mp h];exact ⟨n.1,n.2.1⟩
   exact ⟨b,(qci k b.1 b.2 f.1).mpr h⟩
  ·rintro ⟨b,h⟩;exact (qci k b.1 b.2 f.1).mp h
 ·rw [qd9 q,Aa rfl];constructor
  ·intro h;obtain ⟨j,G,rfl⟩:=af.mp h;have:=aX.mp G;refine ⟨⟨by lia,by lia⟩,λc g p=>?_⟩;cases l:odd c.2 with
   | false=>exact (Vz l _).mpr ((a c g).1 l)
   | true=>exact absurd (by rw [<-p]; exact (Jo (CL W 0 seen) []).2.2.1 c g l) q
  ·rintro ⟨⟨s0,s1⟩,_⟩;exact af.mpr ⟨s.toNat,aX.mpr (by lia),by lia⟩
theorem qly (d:1<=r) (x:Str):(ch W seen r ns x).Nodup:=by
 unfold ch rW;split;·have:(aN r.toNat).Nodup:=eY;exact fL _ (λa b h=>by lia) this
 ·split
  ·refine aM.mpr ⟨λh=>?_,by simp⟩;have:=aw.mp h
   lia
  ·simp
end
abbrev Ln:=List (Str×Int)
noncomputable def evS (r:Int) (x:Str) (rows:List Ln):List Ln:=rows.flatMap λl=>(aN r.toNat).map λ(j:Nat)=>l++[(x,(j:Int))]
noncomputable def EV (r:Int) (rows:List Ln):List Str->List Ln
 | []=>rows
 | x::L=>EV r (evS r x rows) L
variable {rows:List Ln}
theorem YQ (d:1<=r) {l:Ln}:l∈evS r x rows↔∃ a∈rows,∃ i:Int,0<=i/\i < r/\l=a++[(x,i)]:=by
 unfold evS;rw [dZ];constructor;·rintro ⟨a,b,h⟩;obtain ⟨j,G,rfl⟩:=af.mp h;have:=aX.mp G;exact ⟨a,b,j,by lia,by lia,rfl⟩
 ·rintro ⟨a,b,i,c,i1,rfl⟩;exact ⟨a,b,af.mpr ⟨i.toNat,aX.mpr (by lia),by rw [Int.toNat_of_nonneg c]⟩⟩
theorem qeW (d:1<=r):∀ (L:List Str) (rows:List Ln) (l:Ln),l∈EV r rows L↔∃ b∈rows,∃ m:Ln,l=b++m/\qL m=L/\∀ e∈m,0<=e.2/\e.2 < r
 | [],rows,l=>by
  constructor;·intro h;exact ⟨l,h,[],by simp,rfl,by simp⟩
  ·rintro ⟨b,c,m,rfl,k,_⟩;have:m=[]:=by cases m with
    | nil=>rfl
    | cons a m=>cases k
   subst this;rw [bj];exact c
 | x::L,rows,l=>by
  show l∈EV r (evS r x rows) L↔_;rw [qeW d L];constructor
  ·rintro ⟨j,h1,m,rfl,k,hm⟩;obtain ⟨b,c,i,f,i1,rfl⟩:=(YQ d).mp h1;refine ⟨b,c,(x,i)::m,by simp,by simp [qL] at k ⊢; exact k,λe g=>?_⟩;rcases ac.mp g with rfl | g;·exact ⟨f,i1⟩
   ·exact hm e g
  ·rintro ⟨b,c,m,rfl,k,hm⟩;cases m with
   | nil=>cases k
   | cons a m=>obtain ⟨y,i⟩:=a;have k:y::qL m=x::L:=k;injection k with h1 h2;subst h1;have:=hm (y,i) (aj ..);exact ⟨b++[(y,i)],(YQ d).mpr ⟨b,c,i,this.1,this.2,rfl⟩,m,by simp,h2,λe g=>hm e (ae _ g)⟩
theorem qjo (h:rows.Nodup):(evS r x rows).Nodup:=by
 unfold evS;unfold List.Nodup;rw [dH];constructor;·intro l hl;have:(aN r.toNat).Nodup:=eY;exact fL _ (λa b h=>λz=>by have:=List.append_cancel_left z;simp at this;exact h (by lia)) this
 ·refine cS (λ{a b} c=>?_) h;intro y C z d e;obtain ⟨i,_,rfl⟩:=af.mp C;obtain ⟨j,_,rfl⟩:=af.mp d;exact c (List.append_inj_left' e rfl)
theorem qjp:∀ (L:List Str) (rows:List Ln),rows.Nodup->(EV r rows L).Nodup
 | [],rows,h=>h
 | x::L,rows,h=>qjp L _ (qjo h)
abbrev EV0 (r:Int) (L:List Str):List Ln:=EV r [[]] L
theorem VC (d:1<=r) {L:List Str} {l:Ln}:l∈EV0 r L↔qL l=L/\∀ e∈l,0<=e.2/\e.2 < r:=by
 rw [qeW d];constructor;·rintro ⟨b,a,m,rfl,h⟩;rw [aw.mp a,cB];exact h
 ·intro h;exact ⟨[],aw.mpr rfl,l,rfl,h⟩
theorem wP (f:Str->Int):∀ {L:List Str} {x:Str},x∈L->ju (L.map λx=>(x,f x)) x=f x
 | [],x,h=>by cases h
 | y::L,x,h=>by
  unfold ju;rw [aG];by_cases q:y=x;·subst q;rw [bM (by simp)];rfl
  ·rw [bF (by simpa using q)];rcases ac.mp h with h | h;·exact absurd h.symm q
   ·exact wP f h
theorem zY:∀ {l:Ln},(qL l).Nodup->l=(qL l).map λx=>(x,ju l x)
 | [],_=>rfl
 | (y,i)::l,h=>by
  have n:=aM.mp (show (y::qL l).Nodup from h);have j:=zY n.2;show (y,i)::l=(y,ju ((y,i)::l) y)::(qL l).map λx=>(x,ju ((y,i)::l) x)
  have e1:ju ((y,i)::l) y=i:=by unfold ju; rw [bM (by simp)]; rfl
  have e:((qL l).map λx=>(x,ju ((y,i)::l) x))=(qL l).map λx=>(x,ju l x):=by refine c7 λx hx=>?_;have:y≠x:=λz=>n.1 (z ▸ hx);show (x,ju ((y,i)::l) x)=_;unfold ju;rw [bF (by simpa using this)]
  rw [e1,e,<-j]
theorem Qk (f:Str->Int) (L:List Str):qL (L.map λx=>(x,f x))=L:=by unfold qL;rw [bo];exact f9 L
theorem VD {α:Type} [DecidableEq α]:∀ {a b:List α},a.Nodup->(∀ x∈a,x∈b)->a.length<=b.length
 | [],b,_,_=>aZ _
 | x::a,b,hn,h=>by
  have d:=aM.mp hn;have hx:=h x (aj ..);have j:=VD (b:=b.erase x) d.2 λy C=>(e9 (λz=>d.1 (by rw [<-z]; exact C))).mpr (h y (ae _ C));rw [cX hx] at j;have:=cg hx;rw [ao]
  lia
variable {β:Type}
theorem qcj [DecidableEq β] {A:List α} {B:List β} (f:α->β) (hA:A.Nodup) (d:∀ a∈A,f a∈B) (hi:∀ a∈A,∀ b∈A,f a=f b->a=b):A.length<=B.length:=by
 have hm:(A.map f).Nodup:=by unfold List.Nodup;rw [cT];refine ei (λ{a b} h hb c=>λz=>c (hi a h b hb z)) hA
 have:=VD hm (b:=B) λx hx=>by obtain ⟨a,h,rfl⟩:=af.mp hx;exact d a h
 rwa [ap] at this
noncomputable def PV (c:Str->List Int):List Str->List Ln
 | []=>[[]]
 | x::R=>(c x).flatMap λs=>(PV c R).map λl=>(x,s)::l
theorem qck {γ:Type} (P:List β) (g:α->β->γ):∀ c:List α,(c.flatMap λs=>P.map (g s)).length=c.length * P.length
 | []=>by simp
 | a::c=>by
  rw [dN,aq,qck P g c,ap,ao,iu]
  lia
theorem Zj (c:Str->List Int):∀ (R:List Str) (t:Int),(R.map λx=>((x,c x):Rt)).foldl (λa x=>a * (x.2.length:Int)) t=t * ((PV c R).length:Int)
 | [],t=>by simp [PV]
 | x::R,t=>by rw [aG,bW,Zj c R,show PV c (x::R)=(c x).flatMap λs=>(PV c R).map λl=>(x,s)::l from rfl,qck,Int.natCast_mul,fR]
theorem wV (c:Str->List Int):∀ {R:List Str} {l:Ln},l∈PV c R↔qL l=R/\∀ e∈l,e.2∈c e.1
 | [],l=>by
  constructor;·intro h;rw [aw.mp h];exact ⟨rfl,by simp⟩
  ·rintro ⟨h,_⟩;cases l with
   | nil=>exact aw.mpr rfl
   | cons a l=>cases h
 | x::R,l=>by
  unfold PV;rw [dZ];constructor
  ·rintro ⟨s,d,h⟩;obtain ⟨b,hl,rfl⟩:=af.mp h;obtain ⟨h1,h2⟩:=(wV c).mp hl;refine ⟨by show x::qL b=_; rw [h1],λe g=>?_⟩;rcases ac.mp g with rfl | g;·exact d
   ·exact h2 e g
  ·rintro ⟨h1,h2⟩;cases l with
   | nil=>cases h1
   | cons a l=>obtain ⟨y,s⟩:=a;have h1:y::qL l=x::R:=h1;injection h1 with h3 h4;subst h3;exact ⟨s,h2 _ (aj ..),af.mpr ⟨l,(wV c).mpr ⟨h4,λe g=>h2 e (ae _ g)⟩,rfl⟩⟩
theorem qjq (c:Str->List Int) (f:∀ x,(c x).Nodup):∀ R:List Str,(PV c R).Nodup
 | []=>by simp [PV]
 | x::R=>by
  unfold PV;unfold List.Nodup;rw [dH];constructor;·intro s i;exact fL _ (λa b h=>λz=>by injection z with _ z; exact h z) (qjq c f R)
  ·refine cS (λ{a b} d=>?_) (f x);intro y C z g e;obtain ⟨l,_,rfl⟩:=af.mp C;obtain ⟨m,_,rfl⟩:=af.mp g;injection e with e _;injection e with _ e;exact d e
section
theorem Zk (n:vy seen.length r ns) (l:Ln):yl l seen r=ns↔Sol seen r ns (ju l):=by
 have a:∀ k p,seen[k]?=iI p->∃ i,ns[k]?=iI i/\nI ns k=i/\0<=i/\i < r:=λk p h=>by
  have t:k < ns.length:=by rw [n.1]; exact (aE.mp h).1
  refine ⟨ns[k],aA t,by unfold nI; rw [aA t]; rfl,n.2 _ (bI t)⟩
 constructor
 ·intro h k p hp;obtain ⟨i,e1,e,c,i1⟩:=a k p hp;rw [<-h] at e1;unfold yl at e1;rw [aH,hp] at e1;have e1:(ju l p.1+ju l p.2) % r=i:=by simpa using e1
  rw [e];apply YO.mp;rw [e1,bb c i1]
 ·intro h;apply dL;intro k;unfold yl;rw [aH];cases hp:seen[k]? with
  | none=>
   have:ns[k]?=none:=by rw [List.getElem?_eq_none_iff] at hp ⊢;rw [n.1];exact hp
   rw [this];rfl
  | some p=>obtain ⟨i,e1,e,c,i1⟩:=a k p hp;have:=YO.mpr (h k p hp);rw [e,bb c i1] at this;rw [e1,<-this];rfl
theorem xo (S:Sn seen W) (C:y∈kW W):(qI W y).1∈kW W/\qI W (qI W y).1=((qI W y).1,[]):=by have h1:=S.R _ (jq C);have h2:(qI W y).1∈kW W:=af.mpr ⟨_,h1,rfl⟩;have:=Qh S.w.nd (jq h2) h1 rfl;refine ⟨h2,?_⟩;injection this
theorem gL:x∈RT W↔x∈kW W/\(qI W x).1=x:=by unfold RT;rw [br,(qK _).mem_iff];simp
theorem GD (S:Sn seen W):(RT W).Nodup:=((qK _).nodup_iff.mpr S.w.nd).filter _
theorem count (S:Sn seen W) (O:1<=r) (hn:vy seen.length r ns):HM W seen r ns=(((EV0 r (LS seen)).filter λl=>decide (yl l seen r=ns)).length:Int)/\(BO W seen r ns=iK↔0 < ((EV0 r (LS seen)).filter λl=>decide (yl l seen r=ns)).length):=by
 have hA:∀ l,l∈(EV0 r (LS seen)).filter (λl=>decide (yl l seen r=ns))↔(qL l=LS seen/\∀ e∈l,0<=e.2/\e.2 < r)/\Sol seen r ns (ju l):=λl=>by rw [br,VC O,decide_eq_true_eq,Zk hn]
 have D:((EV0 r (LS seen)).filter λl=>decide (yl l seen r=ns)).Nodup:=(qjp _ _ (by simp)).filter _;generalize (EV0 r (LS seen)).filter (λl=>decide (yl l seen r=ns))=A at hA D;have h:∀ l∈A,∀ x∈LS seen,0<=ju l x/\ju l x < r:=λl hl x hx=>by obtain ⟨⟨h1,h2⟩,_⟩:=(hA l).mp hl;exact h2 _ (kx (by rw [h1]; exact hx)).1
 unfold HM;cases hb:BO W seen r ns with
 | some c=>
  have:A=[]:=by
   cases A with
   | nil=>rfl
   | cons l A=>have:=qgV S ((hA l).mp (aj ..)).2;rw [hb] at this;cases this
  rw [this];simp
 | none=>
  have f:=qgX O hb;have L:∀ x∈RT W,x∈LS seen:=λx hx=>S.w.sub x (gL.mp hx).1;have R:∀ c∈CL W 0 seen,c.1∈RT W:=λc i=>by obtain ⟨k,p,G,rfl⟩:=qgT i;have hp:=(vx S.a p (bg G)).1;obtain ⟨h1,h2⟩:=xo S hp;exact gL.mpr ⟨h1,by show (qI W (qI W p.1).1).1=_; rw [h2]; rfl⟩
  have K:A.length<=(PV (ch W seen r ns) (RT W)).length:=by
   refine qcj (λl=>(RT W).map λx=>(x,ju l x)) D (λl hl=>?_) (λa H b g e=>?_);·refine (wV _).mpr ⟨Qk _ _,λe v=>?_⟩;obtain ⟨x,hx,rfl⟩:=af.mp v;refine (f x _).mpr ⟨h l hl x (L x hx),λc i Q=>?_⟩;have:=qeT S ((hA l).mp hl).2 c i;rw [Q] at this;exact this
   ·obtain ⟨⟨q,X⟩,a3⟩:=(hA a).mp H;obtain ⟨⟨o,V⟩,b3⟩:=(hA b).mp g;have t:∀ x∈RT W,ju a x=ju b x:=λx hx=>by have h1:=wP (ju a) hx;have h2:=wP (ju b) hx;rw [<-h1,<-h2];exact congrArg (λl=>ju l x) e
    have B:∀ y∈LS seen,ju a y=ju b y:=λy C=>by
     have j:=S.a y C;obtain ⟨r1,r2⟩:=xo S j;have N:(qI W y).1∈RT W:=gL.mpr ⟨r1,by rw [r2]⟩;have I:=(S.w.path _ (jq j)).val a3;have T:=(S.w.path _ (jq j)).val b3;simp only [] at I T;rw [t _ N] at I;have h1:=h a H y C;have h2:=h b g y C;refine qd8 ?_ h1.1 h1.2 h2.1 h2.2;have e1:ju a y - ju b y=(ju a y - qN ns (ju b (qI W y).1) (qI W y).2) - (ju b y - qN ns (ju b (qI W y).1) (qI W y).2):=by lia
     rw [e1];exact dj I T
    have n:(qL a).Nodup:=by rw [q]; exact qcb _
    have d:(qL b).Nodup:=by rw [o]; exact qcb _
    rw [zY n,zY d,q,o];exact c7 λy C=>by rw [B y C]
  have J:(PV (ch W seen r ns) (RT W)).length<=A.length:=by
   refine qcj (λl=>(LS seen).map λx=>(x,vO W r ns (ju l) x)) (qjq _ (λx=>qly O x) _) (λl hl=>?_) (λa H b g e=>?_)
   ·obtain ⟨F,Z⟩:=(wV _).mp hl;have hok:∀ c∈CL W 0 seen,okS r ns c.2 (ju l c.1):=λc i=>by have:=Z _ (kx (by rw [F]; exact R c i)).1;exact ((f _ _).mp this).2 c i rfl
    have hs:=qeU S hok;refine (hA _).mpr ⟨⟨Qk _ _,λe v=>?_⟩,λk p G=>?_⟩;·obtain ⟨x,_,rfl⟩:=af.mp v;exact ⟨cP _ (by lia),ck _ (by lia)⟩
    ·have hp:=bg G;have m1:p.1∈LS seen:=vG.mpr ⟨p,hp,.inl rfl⟩;have Y:p.2∈LS seen:=vG.mpr ⟨p,hp,.inr rfl⟩;rw [wP (vO W r ns (ju l)) m1,wP (vO W r ns (ju l)) Y];exact hs k p G
   ·obtain ⟨q,X⟩:=(wV _).mp H;obtain ⟨o,V⟩:=(wV _).mp g;have M:∀ x∈RT W,ju a x=ju b x:=λx hx=>by
     have m:=L x hx;have h1:=wP (vO W r ns (ju a)) m;have h2:=wP (vO W r ns (ju b)) m;have E:vO W r ns (ju a) x=vO W r ns (ju b) x:=by rw [<-h1,<-h2];exact congrArg (λl=>ju l x) e
     obtain ⟨k1,k2⟩:=gL.mp hx;obtain ⟨_,r2⟩:=xo S k1;rw [k2] at r2;unfold vO at E;rw [r2] at E;have E:ju a x % r=ju b x % r:=E;have U:=((f x _).mp (X _ (kx (by rw [q]; exact hx)).1)).1;have c2:=((f x _).mp (V _ (kx (by rw [o]; exact hx)).1)).1;rwa [bb U.1 U.2,bb c2.1 c2.2] at E
    have n:(qL a).Nodup:=by rw [q]; exact GD S
    have d:(qL b).Nodup:=by rw [o]; exact GD S
    rw [zY n,zY d,q,o];exact c7 λy C=>by rw [M y C]
  have u:A.length=(PV (ch W seen r ns) (RT W)).length:=hJ K J;have s:0 < (PV (ch W seen r ns) (RT W)).length:=by
   have hl:((RT W).map λx=>(x,((ch W seen r ns x).head?).getD 0))∈PV (ch W seen r ns) (RT W):=(wV _).mpr ⟨Qk _ _,λe v=>by
    obtain ⟨x,_,rfl⟩:=af.mp v;show ((ch W seen r ns x).head?).getD 0∈ch W seen r ns x;have P:ch W seen r ns x≠[]:=by
     unfold ch rW;split
     ·intro z;have:=congrArg iC z;simp at this
      lia
     ·split <;> simp
    cases i:ch W seen r ns x with
    | nil=>exact absurd i P
    | cons a l=>exact aj ..⟩
   exact cg hl
  refine ⟨?_,λ_=>by rw [u]; exact s,λ_=>rfl⟩;have:=Zj (ch W seen r ns) (RT W) 1;rw [fK,<-u] at this;exact this
end
noncomputable def bl (W:Wy) (r:Int) (ns:List Int) (L:List Str) (l:Ln):Ln:=L.map λx=>(x,vO W r ns (ju l) x)
section
theorem qlz (S:Sn seen W) (f:1<=r) (n:vy seen.length r ns) (hb:BO W seen r ns=iK) {l:Ln} (hl:l∈PV (ch W seen r ns) (RT W)):bl W r ns (LS seen) l∈(EV0 r (LS seen)).filter λl=>decide (yl l seen r=ns):=by
 have b:=qgX f hb;have R:∀ c∈CL W 0 seen,c.1∈RT W:=λc d=>by obtain ⟨k,p,h,rfl⟩:=qgT d;have hp:=(vx S.a p (bg h)).1;obtain ⟨h1,h2⟩:=xo S hp;exact gL.mpr ⟨h1,by show (qI W (qI W p.1).1).1=_; rw [h2]; rfl⟩
 obtain ⟨i,g⟩:=(wV _).mp hl;have hok:∀ c∈CL W 0 seen,okS r ns c.2 (ju l c.1):=λc d=>by have:=g _ (kx (by rw [i]; exact R c d)).1;exact ((b _ _).mp this).2 c d rfl
 have s:=qeU S hok;rw [br,VC f,decide_eq_true_eq,Zk n];unfold bl;refine ⟨⟨Qk _ _,λe j=>?_⟩,λk p h=>?_⟩;·obtain ⟨x,_,rfl⟩:=af.mp j;exact ⟨cP _ (by lia),ck _ (by lia)⟩
 ·have hp:=bg h;have m1:p.1∈LS seen:=vG.mpr ⟨p,hp,.inl rfl⟩;have A:p.2∈LS seen:=vG.mpr ⟨p,hp,.inr rfl⟩;rw [wP (vO W r ns (ju l)) m1,wP (vO W r ns (ju l)) A];exact s k p h
end
theorem qcl (S:Sn seen W):jZ (kW W)=LS seen:=by refine xN ?_ (jg _) (by unfold LS; exact jg _);exact (qK _).trans (qbX S.w.nd (qcb _) λx=>⟨λh=>S.w.sub x h,λh=>S.a x h⟩)
abbrev wfB:qS:=(qM (jv 7 (d2 ixD (qe 3) (d2 ixD (d2 ixD (qe 4) (qe 6)) (dC (.int 0)))))
  (kl (ge 5 Jy (Qv (qd (qe 6) (qd (d2 yC (qp [.vl,.vl,.vl] kY (qd (d2 ixD (d2 ixD (qe 4) (qe 6)) (dC (.int 1))) (qd (qe 2) (qd (qe 7) qA)))) (qe 1)) qA))))))
variable {st:Ln}
theorem qcm (S:Sn seen W) (m:1<=r) (h:ns.length=seen.length) (c:∀ y∈kW W,(qI W y).1∈qL st) (a:Option D):∀ (L:List Str) (acc:Ln) (x y:Option D),(∀ z∈L,z∈kW W)->acc.length+L.length<=100 ->∃ n s,kM (gNm 6) wfB (L.map D.str) [a,iI (.int r),iI (nD ns),iI (.dct (bk st)),iI (.dct (wD W)),iI (.lst (prL acc)),x,y]=.ok (.nx,[a,iI (.int r),iI (nD ns),iI (.dct (bk st)),iI (.dct (wD W)),iI (.lst (prL (acc++bl W r ns L st))),n,s])
 | [],acc,x,y,_,_=>⟨x,y,by simp [kM,bl]⟩
 | z::L,acc,x,y,hL,hl=>by
  rw [ao] at hl;have f:=hL z (aj ..);have i1:=Vx S.w.nd f;have i2:=qgG (c z f);have t:∀ k∈(qI W z).2,k < ns.length:=λk p=>by rw [h];exact (S.w.path _ (jq f)).lt k p
  have i:=xn (qbZ ns) t (ju st (qI W z).1);obtain ⟨n,s,j⟩:=qcm S m h c a L (acc++[(z,vO W r ns (ju st) z)]) (iI (.str z)) (iI (.int (ju st (qI W z).1))) (λw l=>hL w (ae _ l)) (by rw [aq]; simp; lia);have g:0 < r:=by lia
  have z2:2<=sizeLine:=small (by lia);have b:(prL acc).length < sizeLine:=aK (by simp [prL]; lia) big;have e:acc++[(z,vO W r ns (ju st) z)]++bl W r ns L st=acc++bl W r ns (z::L) st:=by simp [bl]
  rw [e] at j;have q:prL (acc++[(z,vO W r ns (ju st) z)])=prL acc++[.tup [.str z,.int (qN ns (ju st (qI W z).1) (qI W z).2 % r)]]:=by simp [prL,vO]
  refine ⟨n,s,dQ (yz (d:=.str z) (ρ1:=[a,iI (.int r),iI (nD ns),iI (.dct (bk st)),iI (.dct (wD W)),iI (.lst (prL acc)),iI (.str z),y]) rfl ?_) j⟩;rw [q];unfold wfB;rw [qgL (ρ1:=[a,iI (.int r),iI (nD ns),iI (.dct (bk st)),iI (.dct (wD W)),iI (.lst (prL acc)),iI (.str z),iI (.int (ju st (qI W z).1))]) (by generalize D.dct (bk st)=Y at i2 ⊢;generalize D.dct (wD W)=Z at i1 ⊢;simp [i1,qlu,i2])];have hi:yH ([a,iI (.int r),iI (nD ns),iI (.dct (bk st)),iI (.dct (wD W)),iI (.lst (prL acc)),iI (.str z),iI (.int (ju st (qI W z).1))]:Sl)[5]?=true:=rfl;generalize D.dct (bk st)=Y at i2 hi ⊢;generalize D.dct (wD W)=Z at i1 hi ⊢;generalize o:lD (qI W z).2=U at i1 i;simp [i1,qlv,i,yC,uc,g,z2,Jy,b,yH]
theorem qgY (S:Sn seen W) (j:1<=r) (h:ns.length=seen.length) (c:∀ y∈kW W,(qI W y).1∈qL st):wL [sD seen,.int r,nD ns,.dct (bk st)]=.ok (.tup (prL (bl W r ns (LS seen) st)),[.non,.non,.non,.non]):=by
 have k:=S.w.le;have q:=S.s;have b:(kW W).length < 64:=by simp [kW]; lia
 have i:((kW W).all λy=>decide (y.length<=sizeLine))=true:=by rw [aI];intro y C;exact Ad (small (S.z y (S.w.sub y C)))
 have o:kh (.dct (wD W))=.ok (.lst ((LS seen).map D.str)):=by unfold kh;simp only [YN];rw [Aa ⟨b,i⟩,qcl S]
 obtain ⟨n,d,e⟩:=qcm S j h c (iI (sD seen)) (LS seen) [] iK iK (λz f=>S.a z f) (by simp; lia);rw [cB] at e;have g:=S.e;refine qu.trans ?_;unfold zi;rw [show qt zh [sD seen,.int r,nD ns,.dct (bk st)]=[iI (sD seen),iI (.int r),iI (nD ns),iI (.dct (bk st)),iK,iK,iK,iK] from rfl];refine (qB (ρ1:=[iI (sD seen),iI (.int r),iI (nD ns),iI (.dct (bk st)),iI (.dct (wD W)),iK,iK,iK]) (by simp [g])).trans ?_;refine (qB (ρ1:=[iI (sD seen),iI (.int r),iI (nD ns),iI (.dct (bk st)),iI (.dct (wD W)),iI (.lst []),iK,iK]) (by simp)).trans ?_;refine (qB (ρ1:=[iI (sD seen),iI (.int r),iI (nD ns),iI (.dct (bk st)),iI (.dct (wD W)),iI (.lst (prL (bl W r ns (LS seen) st))),n,d]) (by rw [kK,show jw (d1 kh (qe 4)) [iI (sD seen),iI (.int r),iI (nD ns),iI (.dct (bk st)),iI (.dct (wD W)),iI (.lst []),iK,iK]=.ok ((LS seen).map D.str,[iI (sD seen),iI (.int r),iI (nD ns),iI (.dct (bk st)),iI (.dct (wD W)),iI (.lst []),iK,iK]) by simp [o,jo],kq];exact e)).trans ?_;simp [QA]
def qme (d:D):Prop:=Pl d/\∀ xs,d=.tup xs->∀ x∈xs,Pl x
noncomputable def qcn (room:Int):D->Bool
 | .tup [a,b]=>qbV a&&Js 0 (room - 1) b
 | _=>iN
theorem YR (h:qme d) (room:Int):yf [d,.int room]=.ok (.bl (qcn room d),[.non,.non]):=by
 refine qu.trans ?_;have ht:=qbU h.1;cases d with
 | tup xs=>
  have hp:=h.2 xs rfl
  match xs,hp with
  | [],_=>simp [kZ,qt,ht,JL,neD,eqN,eqS,qcn]
  | [a],_=>simp [kZ,qt,ht,JL,neD,eqN,eqS,qcn]
  | [a,b],hp=>have h1:=gK (hp a (by simp));have h2:=jN (hp b (by simp)) 0 (room - 1);cases hb:qbV a <;> simp [kZ,qt,ht,JL,neD,eqN,eqS,qcn,ixD,at0,at1,h1,h2,hb,uc]
  | a::b::c::l,_=>
   have e:¬((l.length:Int)+1+1+1=2):=by lia
   simp [kZ,qt,ht,JL,neD,eqN,eqS,qcn,e]
 | _=>first | exact h.1.elim | simp [kZ,qt,ht,JL,qcn]
def OkW (room:Int) (l:List (Str×Int)):Prop:=∀ x∈l,qbV (.str x.1)=iM/\0<=x.2/\x.2 < room
variable {room:Int}
theorem qgZ {l:List (Str×Int)} (h:OkW room l):(prL l).all (qcn room)=true:=by
 rw [aI];intro d hd;obtain ⟨x,hx,rfl⟩:=af.mp hd;obtain ⟨h1,h2,f⟩:=h x hx;simp [qcn,h1,Js,h2]
 lia
theorem Ur:∀ (a b:List Str),uY (eqN 7) (a.map D.str) (b.map D.str)=iI (decide (a.take (min a.length b.length)=b.take (min a.length b.length)))
 | [],b=>by simp [uY]
 | a::l,[]=>by simp [uY]
 | a::l,b::m=>by have j:=Ur l m;simp only [aG,uY,j,eqN,eqS,ao,Nat.succ_eq_add_one,Nat.add_min_add_right,List.take_succ_cons];by_cases h:a=b <;> simp [h]
theorem Zl (a b:List Str):eqD (.lst (a.map D.str)) (.lst (b.map D.str))=.ok (.bl (decide (a=b))):=by
 by_cases h:a.length=b.length;·have e:=Ur a b;rw [h,Nat.min_self,fW,<-h,fW] at e;simp [eqD,eqN,h,e]
 ·have c:a≠b:=λz=>h (by rw [z]);simp [eqD,eqN,h,c]
noncomputable def YS (l:List (Str×Int)):Bool:=decide (qL l=jZ ((qL l).foldl gj []))
theorem Us (h:∀ d∈ds,qme d) (hl:ds.length<=50) (room:Int):(ds.all (qcn room)=iN->ku [.tup ds,.int room]=.ok (.bl iN,[.non,.non]))/\∀ l,ds=prL l->OkW room l->ku [.tup ds,.int room]=.ok (.bl (YS l),[.non,.non]):=by
 have z:ds.length<=sizeLine:=small (by lia);have ht:=qbU (d:=.tup ds) trivial;have e1:=vw (cap:=[1]) (fi:=jw (qe 0)) (ρ:=[iI (.tup ds),iI (.int room),iK]) (ρ1:=[iI (.tup ds),iI (.int room),iK]) (ds:=ds) (fe:=qp [.vl,.vl] yf (qd (qe 0) (qd (qe 1) qA))) (λd=>.bl (qcn room d)) (by simp [jo]) z (λd hd=>by have h1:=YR (h d hd) room;simp [h1]);have f:=wM (qcn room) ds;constructor;·intro hb;refine qu.trans ?_;simp [yV,qt,ht,JL,e1,f,hb]
 ·rintro l rfl w;refine qu.trans ?_;have hb:=qgZ w;have i:=vw (cap:=[]) (fi:=jw (qe 0)) (ρ:=[iI (.tup (prL l)),iI (.int room),iK]) (ρ1:=[iI (.tup (prL l)),iI (.int room),iK]) (ds:=prL l) (fe:=d2 ixD (qe 0) (dC (.int 0))) (λd=>match d with | .tup [a,b]=>a | d=>d) (by simp [jo]) z (λd hd=>by obtain ⟨x,hx,rfl⟩:=af.mp hd;simp [ixD,at0]);have f2:(prL l).map (λd=>match d with | .tup [a,b]=>a | d=>d)=(qL l).map D.str:=by simp [prL,qL]
  rw [f2] at i;have j:(qL l).length < 64:=by
   simp [qL];simp [prL] at hl
   lia
  have m:=Zl (qL l) (jZ ((qL l).foldl gj []));simp [yV,qt,ht,JL,e1,f,hb,i,yc,xO,wb,j,m,YS]
noncomputable def YT:List Str->Bool
 | x::y::l=>kN x y&&YT (y::l)
 | _=>iM
theorem qlA (h:kN x y=iM):leS x y/\x≠y:=by
 unfold kN at h;have h:=Ae h;constructor;·exact List.le_of_lt h
 ·rintro rfl;exact List.lt_irrefl _ h
theorem qlB (h:leS x y) (n:x≠y):kN x y=true:=by
 cases e:kN x y with
 | true=>rfl
 | false=>exact absurd (xM h (yK.mp e)) n
theorem YU:∀ (l:List Str),YT l=iM->l.Pairwise (λx y=>leS x y/\x≠y)
 | [],_=>eQ
 | [x],_=>eG _ _
 | x::y::l,h=>by
  have h:(kN x y&&YT (y::l))=true:=h;rw [aR] at h;have j:=YU (y::l) h.2;have b:=qlA h.1;refine aT.mpr ⟨λz c=>?_,j⟩;rcases ac.mp c with rfl | c;·exact b
  ·have a:=(aT.mp j).1 z c;refine ⟨xL b.1 a.1,λe=>?_⟩;subst e;exact b.2 (xM b.1 a.1)
theorem YV:∀ (l:List Str),l.Pairwise (λx y=>leS x y/\x≠y)->YT l=iM
 | [],_=>rfl
 | [x],_=>rfl
 | x::y::l,h=>by have h1:=aT.mp h;have b:=h1.1 y (aj ..);show (kN x y&&YT (y::l))=iM;rw [qlB b.1 b.2,YV (y::l) h1.2];rfl
theorem Zm {l:List Str} (h:l.Pairwise (λx y=>leS x y/\x≠y)):l.Nodup:=h.imp λh=>h.2
theorem Zn (L:List Str):decide (L=jZ (L.foldl gj []))=YT L:=by
 cases e:YT L with
 | true=>
  have p:=YU L e;have n:=Zm p;have f:L.foldl gj []=L:=by rw [xm L [] n (by simp)]; simp
  rw [f];exact Ad (xN (qK L).symm (p.imp λh=>h.1) (jg L))
 | false=>refine Ac λz=>?_;have n:(jZ (L.foldl gj [])).Nodup:=(qK _).nodup_iff.mpr (zl L [] cJ).1;have c:=jg (L.foldl gj []);rw [<-z] at n c;have p:L.Pairwise (λx y=>leS x y/\x≠y):=c.and n;rw [YV L p] at e;cases e
theorem GE {l:List (Str×Int)} (h:YS l=iM):(qL l).Nodup:=by unfold YS at h;rw [Zn] at h;exact Zm (YU _ h)
theorem qjr (l:List (Str×Int)) (x:Str):ko (bk l) (.inr x)=decide (x∈qL l):=by
 unfold ko bk qL;rw [List.any_map]
 induction l with
 | nil=>simp
 | cons a l j=>
  simp only [b7,aG,ac,j];by_cases h:a.1=x;·simp [h]
  ·simp [h,be h]
theorem qeX {l:List (Str×Int)} (w:OkW room l) (h:x∈qL l):0<=ju l x/\ju l x < room:=(w _ (kx h).1).2
theorem Jr (h:ku [d,.int room]=.ok (.bl b,[.non,.non])):vS [d,.int room]=if b=iM then .ok (.non,[.non,.non]) else .exc "NoWorths" [iI .non,iI .non]:=by refine qu.trans ?_;cases b <;> simp [yv,qt,h,km]
theorem qco (t room:Int):Qg [.int t,.int room]=.ok (.int (if room<=t then t - room else t),[.non,.non]):=by refine qu.trans ?_;by_cases h:room<=t <;> simp [XZ,qt,geD,uc,h]
theorem qmO {b:Int} (f:0<=a/\a < r) (hb:0<=b/\b < r):(if r<=a+b then a+b - r else a+b)=(a+b) % r:=by
 split;·rw [<-Int.sub_emod_right,bb (by lia) (by lia)]
 ·rw [bb (by lia) (by lia)]
theorem YW (w:jP ws) (hl:UD p q) {l:List (Str×Int)} (t:Js 1 99 (.int r)=iM) (o:OkW r l) (s:YS l=iM) (h:ku [.tup (prL l),.int r]=.ok (.bl iM,[.non,.non])):vY [Wd ws,Ld p q,.int r,.tup (prL l)]=if (LS (qy ws p q)).all (λx=>decide (x∈qL l))=iM then .ok (.tup (qku l (qy ws p q) r),[.non,.non,.non,.non]) else .exc "NoWorths" nn4:=by
 refine qu.trans ?_;have h1:=Vw w hl;have h2:=zm (d:=.int r) trivial;rw [t] at h2;have i:=Jr h;have g:=qgF (GE s);have v:(qy ws p q).length<=6:=by simp [qy]; exact w.2.1
 have u:=wN (l:=qy ws p q) (by omega);have c:(LS (qy ws p q)).length<=2000:=by unfold LS;rw [(qK _).length_eq];have:=QE ((qy ws p q).map (·.1)++(qy ws p q).map (·.2)) [];simp only [aq,ap,aV] at this;omega
 have e1:=vw (cap:=[5]) (fi:=jw (qp [.vl] jh (qd (qe 4) qA))) (ρ:=[iI (Wd ws),iI (Ld p q),iI (.int r),iI (.tup (prL l)),iI (.lst (qv (qy ws p q))),iI (.dct (bk l))]) (ρ1:=[iI (Wd ws),iI (Ld p q),iI (.int r),iI (.tup (prL l)),iI (.lst (qv (qy ws p q))),iI (.dct (bk l))]) (ds:=(LS (qy ws p q)).map D.str)
  (fe:=d2 inA (qe 0) (qe 1)) (λd=>match d with | .str x=>.bl (decide (x∈qL l)) | d=>d) (by simp [u,jo]) (by rw [ap]; exact small c) (λd hd=>by obtain ⟨x,hx,rfl⟩:=af.mp hd;simp [inA,QD,qjr])
 rw [bo] at e1;have f:=wM (λx=>decide (x∈qL l)) (LS (qy ws p q));have e:qT [] 1 [5] (jw (qp [.vl] jh (qd (qe 4) qA))) (gNm 0) ftT (d2 inA (qe 0) (qe 1)) [iI (Wd ws),iI (Ld p q),iI (.int r),iI (.tup (prL l)),iI (.lst (qv (qy ws p q))),iI (.dct (bk l))]=.ok (.lst ((LS (qy ws p q)).map λx=>.bl (decide (x∈qL l))),[iI (Wd ws),iI (Ld p q),iI (.int r),iI (.tup (prL l)),iI (.lst (qv (qy ws p q))),iI (.dct (bk l))]):=e1;cases hA:(LS (qy ws p q)).all (λx=>decide (x∈qL l)) with
 | false=>rw [hA] at f;simp [zN,qt,h1,h2,i,g,e,f,km]
 | true=>
  rw [hA] at f;have n:∀ x∈qy ws p q,x.1∈qL l/\x.2∈qL l:=λx hx=>by rw [aI] at hA;exact ⟨Ae (hA x.1 (vG.mpr ⟨x,hx,.inl rfl⟩)),Ae (hA x.2 (vG.mpr ⟨x,hx,.inr rfl⟩))⟩
  have j:=vw (cap:=[2,5]) (fi:=jw (qe 4)) (ρ:=[iI (Wd ws),iI (Ld p q),iI (.int r),iI (.tup (prL l)),iI (.lst (qv (qy ws p q))),iI (.dct (bk l))]) (ρ1:=[iI (Wd ws),iI (Ld p q),iI (.int r),iI (.tup (prL l)),iI (.lst (qv (qy ws p q))),iI (.dct (bk l))]) (ds:=qv (qy ws p q))
   (fe:=qp [.vl,.vl] Qg (qd (d2 ud (d2 ixD (qe 2) (d2 ixD (qe 0) (dC (.int 0)))) (d2 ixD (qe 2) (d2 ixD (qe 0) (dC (.int 1))))) (qd (qe 1) qA))) (λd=>match d with | .tup [.str a,.str b]=>.int ((ju l a+ju l b) % r) | d=>d) (by simp [jo]) (by simp [qv]; exact small (by omega)) (λd hd=>by
    obtain ⟨x,hx,rfl⟩:=af.mp hd;obtain ⟨i1,i2⟩:=n x hx;have m:=qgG i1;have k:=qgG i2;have wr:=qmO (qeX o i1) (qeX o i2);have wi:=qco (ju l x.1+ju l x.2) r;rw [wr] at wi;have k0:ixD (.tup [.str x.1,.str x.2]) (.int 0)=.ok (.str x.1):=by simp [ixD,at0]
    have k1:ixD (.tup [.str x.1,.str x.2]) (.int 1)=.ok (.str x.2):=by simp [ixD,at1]
    simp [k0,k1,m,k,wi])
  have f2:(qv (qy ws p q)).map (λd=>match d with | .tup [.str a,.str b]=>.int ((ju l a+ju l b) % r) | d=>d)=qku l (qy ws p q) r:=by simp [qv,qku]
  rw [f2] at j;simp [zN,qt,h1,h2,i,g,e,f,j,QA]
theorem qjs (S:Sn seen W) (d:1<=r) (n:vy seen.length r ns) (hb:BO W seen r ns=iK):∀ x∈RT W,ch W seen r ns x≠[]:=by
 obtain ⟨k,c2⟩:=count S d n;have s:=c2.mp hb;have a:HM W seen r ns=((PV (ch W seen r ns) (RT W)).length:Int):=by unfold HM;rw [hb];have:=Zj (ch W seen r ns) (RT W) 1;rw [fK] at this;exact this
 have hp:0 < (PV (ch W seen r ns) (RT W)).length:=by omega
 intro x hx z;obtain ⟨l,hl⟩:=List.exists_mem_of_length_pos hp;obtain ⟨k1,k2⟩:=(wV _).mp hl;have:=k2 _ (kx (by rw [k1]; exact hx)).1;rw [show ch W seen r ns (x,ju l x).1=[] from z] at this;cases this
theorem qlC:(RO W seen r ns).map rd=(RT W).map λx=>rd (x,ch W seen r ns x):=by unfold RO;rw [bo];rfl
theorem qjt (S:Sn seen W):(RT W).length<=100:=by
 have l:=cK (λx=>decide ((qI W x).1=x)) (jZ (kW W));have b:(jZ (kW W)).length=(LS seen).length:=by rw [qcl S]
 have:=S.s;unfold RT
 lia
noncomputable def ltL (a b:Ln):Bool:=ltZ (a.map (·.2)) (b.map (·.2))
theorem VE:∀ a b:List Int,ltZ a b=iM->ltZ b a=iN
 | [],[],h=>by simp [ltZ] at h
 | [],_::_,_=>rfl
 | _::_,[],h=>by simp [ltZ] at h
 | x::a,y::b,h=>by
  unfold ltZ at h ⊢;by_cases q:x=y;·rw [Aa q] at h;rw [Aa q.symm];exact VE a b h
  ·rw [Ab q] at h;rw [Ab λz=>q z.symm];have:=Ae h;exact Ac (by lia)
theorem qcp:∀ (a b:List Int) (i j:Int),a.length=b.length->ltZ a b=iM->ltZ (a++[i]) (b++[j])=iM
 | [],[],_,_,_,h=>by simp [ltZ] at h
 | [],_::_,_,_,h,_=>by cases h
 | _::_,[],_,_,h,_=>by cases h
 | x::a,y::b,i,j,hl,h=>by
  unfold ltZ at h;show (if x=y then ltZ (a++[i]) (b++[j]) else decide (x < y))=iM;by_cases q:x=y;·rw [Aa q] at h ⊢;exact qcp a b i j (by simpa using hl) h
  ·rw [Ab q] at h ⊢;exact h
theorem Zo:∀ (a:List Int) (i j:Int),i < j->ltZ (a++[i]) (a++[j])=iM
 | [],i,j,h=>by show (if i=j then _ else decide (i < j))=iM;rw [Ab (by lia)];exact Ad h
 | x::a,i,j,h=>by show (if x=x then ltZ (a++[i]) (a++[j]) else _)=iM;rw [Aa rfl];exact Zo a i j h
theorem Ut (f g:Str->Int) (x:Str) (hx:f x < g x) (a:List Str):∀ L:List Str,(∀ y∈L,f y=g y)->ltZ ((L++x::a).map f) ((L++x::a).map g)=iM
 | [],_=>by show (if f x=g x then _ else decide (f x < g x))=iM;rw [Ab (by lia)];exact Ad hx
 | y::L,h=>by show (if f y=g y then ltZ ((L++x::a).map f) ((L++x::a).map g) else _)=iM;rw [Aa (h y (aj ..))];exact Ut f g x hx a L λz b=>h z (ae _ b)
theorem qeY (f g:Str->Int):∀ R:List Str,ltZ (R.map f) (R.map g)=iM->∃ b x R2,R=b++x::R2/\(∀ y∈b,f y=g y)/\f x < g x
 | [],h=>by simp [ltZ] at h
 | x::R,h=>by
  have h:(if f x=g x then ltZ (R.map f) (R.map g) else decide (f x < g x))=true:=h;by_cases q:f x=g x
  ·rw [Aa q] at h;obtain ⟨b,y,R2,e,h1,h2⟩:=qeY f g R h;refine ⟨x::b,y,R2,by rw [e]; rfl,λz a=>?_,h2⟩;rcases ac.mp a with rfl | a;·exact q
   ·exact h1 z a
  ·rw [Ab q] at h;exact ⟨[],x,R,rfl,(λy a=>by cases a),Ae h⟩
theorem qju (hl:∀ l∈rows,l.length=n) (h:rows.Pairwise λa b=>ltL a b=iM):(evS r x rows).Pairwise λa b=>ltL a b=true:=by
 unfold evS;rw [dH];constructor;·intro l _;refine cT.mpr (cS (λ{i j} e=>?_) List.pairwise_lt_range);unfold ltL;rw [bG,bG];exact Zo _ _ _ (by show (i:Int) < (j:Int); lia)
 ·refine ei (λ{a b} f hb c=>?_) h;intro y C z d;obtain ⟨i,_,rfl⟩:=af.mp C;obtain ⟨j,_,rfl⟩:=af.mp d;unfold ltL at c ⊢;rw [bG,bG];exact qcp _ _ _ _ (by rw [ap,ap,hl a f,hl b hb]) c
theorem qjv (d:1<=r):∀ (L:List Str) (n:Nat) (rows:List Ln),(∀ l∈rows,l.length=n)->(rows.Pairwise λa b=>ltL a b=iM)->(EV r rows L).Pairwise λa b=>ltL a b=iM
 | [],_,_,_,h=>h
 | x::L,n,rows,hl,h=>qjv d L (n+1) (evS r x rows) (λl h'=>by obtain ⟨c,e,i,_,_,rfl⟩:=(YQ d).mp h';rw [aq,hl c e];rfl) (qju hl h)
theorem qjw (c:Str->List Int) (e:∀ x,(c x).Pairwise (· < ·)):∀ R:List Str,(PV c R).Pairwise λa b=>ltL a b=iM
 | []=>by simp [PV]
 | x::R=>by
  have j:=qjw c e R;unfold PV;rw [dH];constructor
  ·intro s _;refine cT.mpr (cS (λ{a b} d=>?_) j);show (if s=s then ltZ (a.map (·.2)) (b.map (·.2)) else _)=iM;rw [Aa rfl];exact d
  ·refine cS (λ{s t} h=>?_) (e x);intro y C z f;obtain ⟨a,_,rfl⟩:=af.mp C;obtain ⟨b,_,rfl⟩:=af.mp f;show (if s=t then _ else decide (s < t))=iM;rw [Ab (by lia)];exact Ad h
theorem qeZ:∀ a b:List Ln,(a.Pairwise λx y=>ltL x y=iM)->(b.Pairwise λx y=>ltL x y=iM)->(∀ x∈a,x∈b)->b.length<=a.length->a=b
 | [],b,_,_,_,hl=>(List.eq_nil_of_length_eq_zero (by simpa using hl)).symm
 | x::a,[],_,_,h,_=>by have:=h x (aj ..); cases this
 | x::a,y::b,ha,hb,h,hl=>by
  have i:∀ l:Ln,ltL l l=iM->False:=λl q=>by have:=VE _ _ q;unfold ltL at q;rw [q] at this;cases this
  have n:∀ l m:Ln,ltL l m=iM->ltL m l=iM->False:=λl m q o=>by have:=VE _ _ q;unfold ltL at o;rw [o] at this;cases this
  have B:=aT.mp ha;have g:=aT.mp hb;by_cases q:x=y
  ·subst q;rw [qeZ a b B.2 g.2 (λz c=>by
    rcases ac.mp (h z (ae _ c)) with e | e;·exact (i x (by have:=B.1 z c; rw [e] at this; exact this)).elim
    ·exact e) (by simpa using hl)]
  ·have hx:x∈b:=by
    rcases ac.mp (h x (aj ..)) with e | e;·exact absurd e q
    ·exact e
   have f:=g.1 x hx;have j:(x::a).Nodup:=ha.imp λ{s t} d=>λe=>i s (by rw [<-e] at d; exact d);have:=VD j (b:=b) λz c=>by
    rcases ac.mp (h z c) with e | e
    ·rcases ac.mp c with k | k;·exact absurd (k.symm.trans e) q
     ·exact (n x y (by have:=B.1 z k; rw [e] at this; exact this) f).elim
    ·exact e
   rw [ao] at hl this;rw [ao] at hl
   lia
section
theorem Uu {l:Ln} (h:(qL l).Nodup):l.map (·.2)=(qL l).map (ju l):=by
 have e:=zY h
 conv=>lhs; rw [e]
 rw [bo];rfl
theorem qlD (S:Sn seen W) (H:1<=r) (hb:BO W seen r ns=iK) {l m:Ln} (hl:l∈PV (ch W seen r ns) (RT W)) (hm:m∈PV (ch W seen r ns) (RT W)) (h:ltL l m=iM):ltL (bl W r ns (LS seen) l) (bl W r ns (LS seen) m)=true:=by
 have i:=qgX H hb;obtain ⟨B,J⟩:=(wV _).mp hl;obtain ⟨A,I⟩:=(wV _).mp hm;have t:(qL l).Nodup:=by rw [B]; exact GD S
 have f:(qL m).Nodup:=by rw [A]; exact GD S
 unfold ltL at h ⊢;rw [Uu t,Uu f,B,A] at h;obtain ⟨K,x,R2,E,h1,h2⟩:=qeY (ju l) (ju m) (RT W) h;have b:x∈RT W:=by rw [E]; exact aY _ (aj ..)
 obtain ⟨k1,k2⟩:=gL.mp b;have p:x∈LS seen:=S.w.sub x k1;obtain ⟨O,N,v⟩:=List.append_of_mem p;have o:(LS seen).Pairwise leS:=by unfold LS; exact jg _
 have L:(LS seen).Nodup:=qcb _;have R:(RT W).Pairwise leS:=(jg _).filter _;have D:∀ (a:Ln),(bl W r ns (LS seen) a).map (·.2)=(LS seen).map (vO W r ns (ju a)):=λa=>by unfold bl;rw [bo];rfl
 rw [D,D,v];refine Ut _ _ x ?_ N O λy C=>?_;·obtain ⟨_,r2⟩:=xo S k1;rw [k2] at r2;unfold vO;rw [r2];show ju l x % r < ju m x % r;have G:=((i x _).mp (J _ (kx (by rw [B]; exact b)).1)).1;have c2:=((i x _).mp (I _ (kx (by rw [A]; exact b)).1)).1;rw [bb G.1 G.2,bb c2.1 c2.2];exact h2
 ·have k:y∈LS seen:=by rw [v]; exact dO _ C
  rw [v] at o L;have c:leS y x:=(List.pairwise_append.mp o).2.2 y C x (aj ..);have s:y≠x:=(bR.mp L).2.2 y C x (aj ..);have j:=S.a y k;obtain ⟨r1,r2⟩:=xo S j;have M:(qI W y).1∈RT W:=gL.mpr ⟨r1,by rw [r2]⟩;have d:leS (qI W y).1 y:=S.m _ (jq j);have q:leS (qI W y).1 x:=xL d c;have n:(qI W y).1≠x:=λz=>s (xM c (by rw [<-z]; exact d));have u:(qI W y).1∈K:=by
   have g:=M;rw [E] at g R;rcases ai.mp g with e | e;·exact e
   ·rcases ac.mp e with e | e;·exact absurd e n
    ·exact absurd (xM q ((aT.mp (List.pairwise_append.mp R).2.1).1 _ e)) n
  unfold vO;rw [h1 _ u]
end
section
theorem qlE (d:1<=r) (x:Str):(ch W seen r ns x).Pairwise (· < ·):=by
 unfold ch rW;split;·exact cT.mpr (cS (λ{a b} h=>by show (a:Int) < (b:Int); lia) List.pairwise_lt_range)
 ·split
  ·refine aT.mpr ⟨λy C=>?_,by simp⟩;rw [aw.mp C]
   lia
  ·simp
theorem qcq (S:Sn seen W) (d:1<=r) (n:vy seen.length r ns) (hb:BO W seen r ns=iK):(EV0 r (LS seen)).filter (λl=>decide (yl l seen r=ns))=(PV (ch W seen r ns) (RT W)).map (bl W r ns (LS seen))/\HM W seen r ns=((PV (ch W seen r ns) (RT W)).length:Int):=by
 have H:HM W seen r ns=((PV (ch W seen r ns) (RT W)).length:Int):=by have:=Zj (ch W seen r ns) (RT W) 1;rw [fK] at this;unfold HM;rw [hb];exact this
 obtain ⟨k,_⟩:=count S d n;refine ⟨(qeZ _ _ ?_ ((qjv d _ 0 [[]] (λl hl=>by rw [aw.mp hl]; rfl) (by simp)).filter _) (λx hx=>?_) ?_).symm,H⟩;·exact cT.mpr (ei (λ{a b} f g h=>qlD S d hb f g h) (qjw _ (λx=>qlE d x) _))
 ·obtain ⟨l,hl,rfl⟩:=af.mp hx;exact qlz S d n hb hl
 ·rw [ap];have:(((EV0 r (LS seen)).filter λl=>decide (yl l seen r=ns)).length:Int)=((PV (ch W seen r ns) (RT W)).length:Int):=by rw [<-k,H]
  exact eM (Int.ofNat.inj this)
end
theorem qjx {γ:Type} (P:List β) (g:α->β->γ):∀ (c:List α) (i j:Nat) (a:α) (b:β),c[i]?=iI a->P[j]?=iI b->(c.flatMap λs=>P.map (g s))[i * P.length+j]?=iI (g a b)
 | [],i,j,a,b,h,_=>by simp at h
 | s::c,0,j,a,b,h,hj=>by
  have h:s=a:=by simpa using h
  subst h;have t:j < P.length:=(aE.mp hj).1;rw [dN,Nat.zero_mul,Nat.zero_add,cL (by rw [ap]; exact t),aH,hj];rfl
 | s::c,i+1,j,a,b,h,hj=>by have d:=qjx P g c i j a b (by simpa using h) hj;rw [dN,b9 (by rw [ap,iu]; lia),ap,show (i+1) * P.length+j - P.length=i * P.length+j by rw [iu]; lia];exact d
noncomputable def dig (c:Str->List Int):List Str->Nat->Ln×Nat
 | [],a=>([],a)
 | x::R,a=>((x,((c x)[(dig c R a).2 % (c x).length]?).getD 0)::(dig c R a).1,(dig c R a).2 / (c x).length)
theorem qe0 (c:Str->List Int) (a:Nat):∀ R:List Str,(∀ x∈R,c x≠[])->(dig c R a).2=a / (PV c R).length/\(PV c R)[a % (PV c R).length]?=iI (dig c R a).1/\0 < (PV c R).length
 | [],_=>by simp [dig,PV,Nat.mod_one]
 | x::R,h=>by
  obtain ⟨h1,h2,f⟩:=qe0 c a R λy C=>h y (ae _ C);have k:0 < (c x).length:=d7.mpr (h x (aj ..));have n:(PV c (x::R)).length=(c x).length * (PV c R).length:=qck (PV c R) (λs l=>(x,s)::l) (c x);have hi:(dig c R a).2 % (c x).length < (c x).length:=f7 _ k;refine ⟨?_,?_,by rw [n]; exact Nat.mul_pos k f⟩;·show (dig c R a).2 / (c x).length=_;rw [n,h1,Nat.div_div_eq_div_mul,iw]
  ·rw [n,iw,Nat.mod_mul,Nat.add_comm,iw,<-h1];have:=qjx (PV c R) (λs l=>(x,s)::l) (c x) ((dig c R a).2 % (c x).length) (a % (PV c R).length) _ _ (aA hi) h2;show ((c x).flatMap λs=>(PV c R).map λl=>(x,s)::l)[_]?=_;rw [this];show iI ((x,(c x)[(dig c R a).2 % (c x).length])::(dig c R a).1)=iI ((x,((c x)[(dig c R a).2 % (c x).length]?).getD 0)::(dig c R a).1);rw [aA hi];rfl
noncomputable def stp (c:Str->List Int) (s:Ln×Nat) (x:Str):Ln×Nat:=(s.1++[(x,nI (c x) (s.2 % (c x).length))],s.2 / (c x).length)
theorem qcr (c:Str->List Int) (a:Nat):∀ R:List Str,R.reverse.foldl (stp c) ([],a)=((dig c R a).1.reverse,(dig c R a).2)
 | []=>rfl
 | x::R=>by rw [cw,fJ,qcr c a R];show ((dig c R a).1.reverse++[(x,nI (c x) ((dig c R a).2 % (c x).length))],(dig c R a).2 / (c x).length)=_;show _=(((x,((c x)[(dig c R a).2 % (c x).length]?).getD 0)::(dig c R a).1).reverse,_);rw [cw];rfl
abbrev qlF:qS:=(qM (xQ 2 (d2 ixD (qe 5) (d2 yC (qe 3) (d1 jW (qe 5)))) (qe 4)) (jv 3 (d2 yD (qe 3) (d1 jW (qe 5)))))
theorem qea {cs:List Int} (c:cs≠[]) (g:cs.length<=99) {a:Nat} {acc:Ln} (hl:acc.length<=100) (hx:x∉qL acc) (u v:Option D):qlF [u,v,iI (.dct (bk acc)),iI (.int (a:Nat)),iI (.str x),iI (iD cs)]=.ok (.nx,[u,v,iI (.dct (bk (acc++[(x,nI cs (a % cs.length))]))),iI (.int (a / cs.length:Nat)),iI (.str x),iI (iD cs)]):=by
 have hp:0 < cs.length:=d7.mpr c;have n:jW (iD cs)=.ok (.int (cs.length:Int)):=by simp
 have h:(0:Int) < (cs.length:Int):=by lia
 have i1:ixD (iD cs) (.int ((a % cs.length:Nat):Int))=.ok (.int (nI cs (a % cs.length))):=qjc cs (a % cs.length) (f7 _ hp);have e:(bk acc).length < sizeLine:=aK (by simp [bk]; lia) big;have t:wn (bk acc) (.inr x) (.int (nI cs (a % cs.length)))=bk (acc++[(x,nI cs (a % cs.length))]):=by
  unfold wn;have o:((bk acc).any λp=>decide (p.1=bf x))=false:=by rw [fG];intro p hp;obtain ⟨y,C,rfl⟩:=af.mp hp;intro z;have z:=Ae z;exact hx (af.mpr ⟨y,C,bf.inj z⟩)
  rw [o];simp [bk]
 have hm:yC (.int (a:Int)) (.int (cs.length:Int))=.ok (.int ((a % cs.length:Nat):Int)):=by simp [yC,uc,h,c]
 have hd:yD (.int (a:Int)) (.int (cs.length:Int))=.ok (.int ((a / cs.length:Nat):Int)):=by
  have b:qfg (a:Int) (cs.length:Int):=by refine ⟨?_,?_⟩ <;> lia
  simp [yD,uc,b]
 generalize a % cs.length=k at hm i1 t ⊢;generalize a / cs.length=d at hd ⊢;generalize iD cs=Y at n i1 ⊢;unfold qlF;rw [qgL (ρ1:=[u,v,iI (.dct (bk (acc++[(x,nI cs k)]))),iI (.int (a:Nat)),iI (.str x),iI Y]) (by simp only [xQ];simp [n,hm,i1,QD,e,t])];simp [n,hd]
theorem Zp {c:Str->List Int} (u v:Option D):∀ (Q:List Str) (s:Ln×Nat) (y z:Option D),(∀ x∈Q,c x≠[]/\(c x).length<=99)->s.1.length+Q.length<=100->(qL s.1++Q).Nodup ->∃ b j,kM (kj 2 (qE (gNm 4) (qE (gNm 5) ki))) qlF (Q.map λx=>rd (x,c x)) [u,v,iI (.dct (bk s.1)),iI (.int (s.2:Nat)),y,z]=.ok (.nx,[u,v,iI (.dct (bk (Q.foldl (stp c) s).1)),iI (.int ((Q.foldl (stp c) s).2:Nat)),b,j])
 | [],s,y,z,_,_,_=>⟨y,z,rfl⟩
 | x::Q,s,y,z,hc,hl,hn=>by
  rw [ao] at hl;have hx:=hc x (aj ..);have e:x∉qL s.1:=λh=>(bR.mp hn).2.2 x h x (aj ..) rfl;have t:=qea hx.1 hx.2 (a:=s.2) (acc:=s.1) (by lia) e u v;have k:qL (stp c s x).1++Q=qL s.1++(x::Q):=by simp [stp,qL]
  obtain ⟨b,j,i⟩:=Zp u v Q (stp c s x) (iI (.str x)) (iI (iD (c x))) (λw f=>hc w (ae _ f)) (by simp [stp]; lia) (by rw [k]; exact hn);exact ⟨b,j,dQ (yz (d:=rd (x,c x)) (ρ1:=[u,v,iI (.dct (bk s.1)),iI (.int (s.2:Nat)),iI (.str x),iI (iD (c x))]) rfl t) i⟩
theorem qcs {c:Str->List Int} {R:List Str} (d:∀ x∈R,c x≠[]/\(c x).length<=99) (j:R.length<=100) (n:R.Nodup) {a:Nat}:xa [.lst (R.map λx=>rd (x,c x)),.int (a:Nat)]=.ok (.dct (bk (dig c R a).1.reverse),[.non,.non]):=by obtain ⟨s,z,e⟩:=Zp (iI (.lst (R.map λx=>rd (x,c x)))) (iI (.int (a:Nat))) R.reverse ([],a) iK iK (λx hx=>d x (dY.mp hx)) (by rw [fq]; simpa using j) (by show (([]:List Str)++R.reverse).Nodup; rw [cB]; exact (List.reverse_perm R).nodup_iff.mpr n);rw [qcr,List.map_reverse] at e;generalize R.map (λx=>rd (x,c x))=Q at *;refine qu.trans ?_;simp only [bk,bV] at e;simp [Jg,qt,kK,qlq,bk,e]
theorem qct:∀ {l:Ln},(qL l).Nodup->∀ {x:Str} {v w:Int},(x,v)∈l->(x,w)∈l->v=w
 | [],_,x,v,w,h,_=>by cases h
 | e::l,hn,x,v,w,h,h'=>by
  have d:=aM.mp (show (e.1::qL l).Nodup from hn);rcases ac.mp h with h1 | h1
  ·rcases ac.mp h' with h2 | h2;·rw [<-h1] at h2;exact (congrArg Prod.snd h2).symm
   ·exact absurd (show e.1∈qL l from af.mpr ⟨(x,w),h2,by rw [<-h1]⟩) d.1
  ·rcases ac.mp h' with h2 | h2;·exact absurd (show e.1∈qL l from af.mpr ⟨(x,v),h1,by rw [<-h2]⟩) d.1
   ·exact qct d.2 h1 h2
theorem qg0 {l:Ln} (n:(qL l).Nodup) (hx:x∈qL l):ju l.reverse x=ju l x:=by
 have h1:=(kx hx).1;have h:x∈qL l.reverse:=by obtain ⟨e,g,q⟩:=af.mp hx;exact af.mpr ⟨e,dY.mpr g,q⟩
 have h2:=dY.mp (kx h).1;exact qct n h2 h1
theorem qlG (w:jP ws) (hl:UD p q) (b:1<=r) (s:r<=99) (v:vy ws.length r ns) (S:Sn (qy ws p q) W) {a:Nat} (o:(a:Int) < HM W (qy ws p q) r ns):∃ l,((EV0 r (LS (qy ws p q))).filter λl=>decide (yl l (qy ws p q) r=ns))[a]?=iI l/\xf [Wd ws,Ld p q,.int r,nD ns,.int (a:Nat)]=.ok (.tup (prL l),[.non,.non,.non,.non,.non]):=by
 have E:(qy ws p q).length=ws.length:=by simp [qy]
 have h:vy (qy ws p q).length r ns:=by rw [E]; exact v
 have h1:=Jq w hl b s v S;have h2:=jN (d:=.int (a:Nat)) trivial 0 (HM W (qy ws p q) r ns - 1);have k:Js 0 (HM W (qy ws p q) r ns - 1) (.int (a:Nat))=true:=by
  simp [Js]
  lia
 rw [k] at h2;have A:=Qi w hl;have hb:BO W (qy ws p q) r ns=none:=by
  cases q:BO W (qy ws p q) r ns with
  | none=>rfl
  | some c=>
   unfold HM at o;rw [q] at o;simp at o
   lia
 obtain ⟨G,H⟩:=qcq S b h hb;have f:∀ x∈RT W,ch W (qy ws p q) r ns x≠[]/\(ch W (qy ws p q) r ns x).length<=99:=λx hx=>⟨qjs S b h hb x hx,qeS _ b s ns⟩
 have K:=qjt S;have i:=Jp S h.1 b s;have u:=qcs (c:=ch W (qy ws p q) r ns) (R:=RT W) f K (GD S) (a:=a);obtain ⟨_,d2,I⟩:=qe0 (ch W (qy ws p q) r ns) a (RT W) λx hx=>(f x hx).1;have B:a < (PV (ch W (qy ws p q) r ns) (RT W)).length:=by lia
 rw [Nat.mod_eq_of_lt B] at d2;have m:(dig (ch W (qy ws p q) r ns) (RT W) a).1∈PV (ch W (qy ws p q) r ns) (RT W):=bg d2;obtain ⟨k1,k2⟩:=(wV _).mp m;have j:(qL (dig (ch W (qy ws p q) r ns) (RT W) a).1).Nodup:=by rw [k1]; exact GD S
 have t:∀ y∈kW W,(qI W y).1∈qL (dig (ch W (qy ws p q) r ns) (RT W) a).1:=λy C=>by rw [k1];obtain ⟨r1,r2⟩:=xo S C;exact gL.mpr ⟨r1,by rw [r2]⟩
 have g:=qgY S b h.1 (st:=(dig (ch W (qy ws p q) r ns) (RT W) a).1.reverse) λy C=>by obtain ⟨e,z,q⟩:=af.mp (t y C);exact af.mpr ⟨e,dY.mpr z,q⟩
 have n:bl W r ns (LS (qy ws p q)) (dig (ch W (qy ws p q) r ns) (RT W) a).1.reverse=bl W r ns (LS (qy ws p q)) (dig (ch W (qy ws p q) r ns) (RT W) a).1:=by unfold bl;refine c7 λy C=>?_;unfold vO;rw [qg0 j (t y (S.a y C))]
 rw [n] at g;refine ⟨_,by rw [G,aH,d2]; rfl,?_⟩;rw [qlC] at i;refine qu.trans ?_;generalize D.lst ((RT W).map λx=>rd (x,ch W (qy ws p q) r ns x))=Z at i u;generalize D.dct (bk (dig (ch W (qy ws p q) r ns) (RT W) a).1.reverse)=V at u g;generalize D.tup (prL (bl W r ns (LS (qy ws p q)) (dig (ch W (qy ws p q) r ns) (RT W) a).1))=U at g ⊢;generalize nD ns=Y at h1 i g ⊢;simp [Jh,qt,h1,uc,h2,A,i,u,g]
noncomputable def pa (l:List (Str×Str)) (i:Nat):Str×Str:=(l[i]?).getD ("", "")
variable {i:Nat}
theorem qjy (h:i < l.length):(qv l)[i]?=iI (pD (pa l i)):=by unfold qv pa;rw [aH,aA h];rfl
theorem qeb:gP (qv l)=(aN l.length).map λ(j:Nat)=>.tup [.int j,pD (pa l j)]:=by
 refine dL λj=>?_;unfold gP;rw [aH,aH,List.getElem?_zipIdx];by_cases h:j < l.length;·rw [qjy h,fm h];simp
 ·have n:(qv l).length=l.length:=by simp [qv]
  rw [bx (by lia),bx (by simp; lia)];rfl
theorem qec (ws:List Str) (p q:Int):(qy ws p q).length=ws.length:=by simp [qy]
theorem qmP (n:Nat):Jw 0 n=(aN n).map λ(j:Nat)=>.int j:=by unfold Jw;simp
noncomputable def co (x:Str×Str) (c:Str):Int:=(if x.1=c then 1 else 0)+if x.2=c then 1 else 0
noncomputable def cn (K:List (Str×Str)) (c:Str):Int:=(K.map λx=>co x c).sum
theorem qed (x:Str×Str) (c:Str):0<=co x c/\co x c<=2:=by unfold co;split <;> split <;> lia
theorem qcu (x:Str×Str) (c:Str):yp (pD x) (.str c)=.ok (.int (co x c)):=by obtain ⟨a,b⟩:=x;have h:=wc c [a,b];have h:Qt 7 (.str c) [.str a,.str b]=iI (decide (c∈[a,b])):=h;unfold yp co;simp only [h];by_cases q:a=c <;> by_cases d:b=c <;> simp [eqN,eqS,q,d]
theorem qcv {l:List Int} (h1:l.length<=1000) (h2:∀ k∈l,0<=k/\k<=100000):KN (.lst (l.map D.int))=.ok (.int l.sum):=by
 have:l.length<=1000/\(l.all λk=>decide (0<=k/\k<=100000))=true:=⟨h1,aI.mpr λk h=>Ad (h2 k h)⟩
 simp only [KN,uj,Aa this]
variable {K:List (Str×Str)}
theorem qg1 (m:K.length<=100) (c:Str) (a b:Option D):qT [] 1 [3] (jw (qe 1)) (gNm 0) ftT (dM qhq yp (qe 0) (qe 1)) [a,iI (.lst (qv K)),b,iI (.str c)]=.ok (.lst ((K.map λx=>co x c).map D.int),[a,iI (.lst (qv K)),b,iI (.str c)]):=by have e:=vw (cap:=[3]) (fi:=jw (qe 1)) (ρ:=[a,iI (.lst (qv K)),b,iI (.str c)]) (ρ1:=[a,iI (.lst (qv K)),b,iI (.str c)]) (ds:=qv K) (fe:=dM qhq yp (qe 0) (qe 1)) (λd=>match d with | .tup [.str x,.str y]=>.int (co (x,y) c) | d=>d) (by simp [jo]) (by unfold qv; rw [ap]; exact small (by lia)) (λd hd=>by obtain ⟨x,hx,rfl⟩:=af.mp hd;have h:=qcu x c;have h:yp (.tup [.str x.1,.str x.2]) (.str c)=.ok (.int (co x c)):=h;simp [dM,qhq,h]);rw [e];congr 2;simp [qv]
theorem qe1 (K L:List (Str×Str)) (c:Str):cn (K++L) c=cn K c+cn L c:=by unfold cn;rw [bG,hV]
theorem qjz (K:List (Str×Str)) (c:Str):0<=cn K c:=by
 induction K with
 | nil=>exact Int.le_refl _
 | cons x K j=>
  have:=qed x c;show 0<=co x c+cn K c
  lia
theorem qjA:∀ {K L:List (Str×Str)},K.Sublist L->∀ c,cn K c<=cn L c:=by
 intro K L h
 induction h with
 | slnil=>intro c; exact Int.le_refl _
 | cons x h j=>
  intro c;have:=qed x c;have:=j c;show _<=co x c+cn _ c
  lia
 | cons_cons x h j=>
  intro c;have:=j c;show co x c+cn _ c<=co x c+cn _ c
  lia
abbrev Cn:=List Str×List Str
abbrev sE (l:List Str):D:=.lst (l.map D.str)
noncomputable def cE (c:Cn):D:=.tup [sE c.1,sE c.2]
noncomputable def st1 (c:Cn) (y:Str):Cn:=if y∈c.1 then (c.1.erase y,c.2) else (c.1,c.2++[y])
noncomputable def un (x y:Str×Str):Cn:=st1 (st1 ([x.1,x.2],[]) y.1) y.2
abbrev unB:qS:=(sIf (qV (d2 inA (qe 4) (qe 2))) (kl (ge 2 qgm (qe 4))) (kl (ge 3 Jy (qe 4))))
theorem qlH (y:Str) (l:List Str):inA (.str y) (sE l)=.ok (.bl (decide (y∈l))):=by show (inD (.str y) (.lst (l.map D.str))).bind _=_;unfold inD;simp only [wc];rfl
variable {c:Cn}
theorem qcw {a b:Option D} (h2:c.2.length<=2) (y:Str):unB [a,b,iI (sE c.1),iI (sE c.2),iI (.str y)]=.ok (.nx,[a,b,iI (sE (st1 c y).1),iI (sE (st1 c y).2),iI (.str y)]):=by
 have h:=qlH y c.1;have z:c.2.length < sizeLine:=aK (by lia) big;unfold st1;by_cases q:y∈c.1
 ·rw [Aa q];have d:qgm (c.1.map D.str) (.str y)=.ok ((c.1.erase y).map D.str):=by unfold qgm;simp only [wb,Aa q]
  simp [unB,h,q,ge,yH,sE,d]
 ·rw [Ab q];have f:Jy (c.2.map D.str) (.str y)=.ok ((c.2++[y]).map D.str):=by unfold Jy;rw [ap,Aa z];simp
  simp [unB,h,q,ge,yH,sE,f]
theorem YX (c:Cn) (y:Str):(st1 c y).1.length<=c.1.length/\(st1 c y).2.length<=c.2.length+1:=by
 unfold st1;split;·exact ⟨List.length_erase_le,eC _⟩
 ·simp
theorem qjB (x y:Str×Str):(un x y).1.length<=2/\(un x y).2.length<=2:=by
 have h1:=YX ([x.1,x.2],[]) y.1;have h2:=YX (st1 ([x.1,x.2],[]) y.1) y.2;unfold un;simp at h1
 lia
theorem qmQ {B:qS} {d1 d2:D} {d k A:Sl} (h1:g d1 d=.ok ρ1) (h2:B ρ1=.ok (.nx,ρ2)) (f:g d2 ρ2=.ok k) (h:B k=.ok (.nx,A)):kM g B [d1,d2] d=.ok (.nx,A):=by simp [kM,h1,h2,f,h]
theorem YY (x y:Str×Str):kt [pD x,pD y]=.ok (cE (un x y),[.non,.non]):=by
 refine qu.trans ?_;have h1:=YX ([x.1,x.2],[]) y.1;have e1:=qcw (a:=iI (pD x)) (b:=iI (pD y)) (c:=([x.1,x.2],[])) (by simp) y.1;have i:=qcw (a:=iI (pD x)) (b:=iI (pD y)) (c:=st1 ([x.1,x.2],[]) y.1) (by simp at h1; lia) y.2;have z:2<=sizeLine:=small (by lia);have h:0<=sizeLine:=aZ _;have D:kM (gNm 4) unB [.str y.1,.str y.2] [iI (pD x),iI (pD y),iI (sE [x.1,x.2]),iI (sE []),iK]=.ok (.nx,[iI (pD x),iI (pD y),iI (sE (un x y).1),iI (sE (un x y).2),iI (.str y.2)]):=by have e:unB [iI (pD x),iI (pD y),iI (sE [x.1,x.2]),iI (sE []),iI (.str y.1)]=_:=e1;exact qmQ rfl e rfl i
 unfold Kg;rw [show qt Kf [pD x,pD y]=[iI (pD x),iI (pD y),iK,iK,iK] from rfl];refine (qB (ρ1:=[iI (pD x),iI (pD y),iI (sE [x.1,x.2]),iK,iK]) (by simp [Wr,sE,z])).trans ?_;refine (qB (ρ1:=[iI (pD x),iI (pD y),iI (sE [x.1,x.2]),iI (sE []),iK]) (by simp [sE])).trans ?_;refine (qB (ρ1:=[iI (pD x),iI (pD y),iI (sE (un x y).1),iI (sE (un x y).2),iI (.str y.2)]) (by rw [kK,show jw (qe 1) [iI (pD x),iI (pD y),iI (sE [x.1,x.2]),iI (sE []),iK]=.ok ([.str y.1,.str y.2],[iI (pD x),iI (pD y),iI (sE [x.1,x.2]),iI (sE []),iK]) from rfl,kq];exact D)).trans ?_;simp [cE,z]
noncomputable def CT (l:List (Str×Str)):List Cn:=(aN l.length).flatMap λj=>(l.take j).map λa=>un a (pa l j)
abbrev ctB:qS:=(kl (ge 1 qhl (qT [1] 1 [3] (jw (vg (qe 0) iK (iI (qe 2)))) (gNm 0) ftT (qp [.vl,.vl] kt (qd (qe 0) (qd (qe 1) qA))))))
theorem qg2 (hl:l.length<=10) {j:Nat} (G:j < l.length) (f:Option D):qT [1] 1 [3] (jw (vg (qe 0) iK (iI (qe 2)))) (gNm 0) ftT (qp [.vl,.vl] kt (qd (qe 0) (qd (qe 1) qA))) [iI (.lst (qv l)),f,iI (.int j),iI (pD (pa l j))]
  = .ok (.lst (((l.take j).map λa=>un a (pa l j)).map cE),[iI (.lst (qv l)),f,iI (.int j),iI (pD (pa l j))]):=by
 have c:qdN (qv l) iK (iI (j:Int))=qv (l.take j):=by
  unfold qdN;rw [HT.sIx_none,HT.sIx_nat];have:(qv l).length=l.length:=by simp [qv]
  rw [this,show min j l.length - 0=j by lia];simp [qv]
 have hi:jw (vg (qe 0) iK (iI (qe 2))) [iI (.lst (qv l)),f,iI (.int j),iI (pD (pa l j))]=.ok (qv (l.take j),[iI (.lst (qv l)),f,iI (.int j),iI (pD (pa l j))]):=by simp [jw,vg,KG,qiW,c,jo]
 have e:=qbT (own:=[1]) (cap:=[3]) (fi:=jw (vg (qe 0) iK (iI (qe 2)))) (ρ:=[iI (.lst (qv l)),f,iI (.int j),iI (pD (pa l j))]) (ρ1:=[iI (.lst (qv l)),f,iI (.int j),iI (pD (pa l j))]) (ds:=qv (l.take j)) (fe:=qp [.vl,.vl] kt (qd (qe 0) (qd (qe 1) qA))) (λd=>match d with | .tup [.str x,.str y]=>cE (un (x,y) (pa l j)) | d=>d) (by simp) hi (by simp only [qv,ap,cF]; exact small (by lia)) (λd hd=>by obtain ⟨x,hx,rfl⟩:=af.mp hd;have h:=YY x (pa l j);have h:kt [.tup [.str x.1,.str x.2],pD (pa l j)]=.ok (cE (un x (pa l j)),[.non,.non]):=h;simp [h]);rw [e];congr 2;unfold qv;rw [bo,bo];rfl
theorem qcx (hl:l.length<=10):∀ (s:List Nat) (f:List Cn) (x y:Option D),(∀ j∈s,j < l.length)->f.length+10 * s.length<=500 ->∃ n b,kM (kj 2 (qE (gNm 2) (qE (gNm 3) ki))) ctB (s.map λ(j:Nat)=>.tup [.int j,pD (pa l j)]) [iI (.lst (qv l)),iI (.lst (f.map cE)),x,y]
   = .ok (.nx,[iI (.lst (qv l)),iI (.lst ((f++s.flatMap λj=>(l.take j).map λa=>un a (pa l j)).map cE)),n,b])
 | [],f,x,y,_,_=>⟨x,y,by simp [kM]⟩
 | j::s,f,x,y,hj,hf=>by
  rw [ao] at hf;have E:=hj j (aj ..);have ht:(l.take j).length<=10:=by rw [cF]; lia
  obtain ⟨n,b,e⟩:=qcx hl s (f++(l.take j).map λa=>un a (pa l j)) (iI (.int j)) (iI (pD (pa l j))) (λi hi=>hj i (ae _ hi)) (by rw [aq,ap]; lia);refine ⟨n,b,?_⟩;rw [dN,<-ba,<-e];have d:=qg2 hl E (iI (.lst (f.map cE)));have z:(f.map cE).length+(((l.take j).map λa=>un a (pa l j)).map cE).length<=sizeLine:=by rw [ap,ap,ap]; exact small (by lia)
  have hx:qhl (f.map cE) (.lst (((l.take j).map λa=>un a (pa l j)).map cE))=.ok ((f++(l.take j).map λa=>un a (pa l j)).map cE):=by unfold qhl;simp only [Aa z,<-bG]
  generalize ((l.take j).map λa=>un a (pa l j)).map cE=M at d hx;generalize (f++(l.take j).map λa=>un a (pa l j)).map cE=M2 at hx ⊢;generalize f.map cE=M1 at d hx ⊢;generalize D.lst (qv l)=Z at d ⊢;simp [kM,kj,qE,ki,ctB,ge,yH,d,hx]
theorem Uv (hl:l.length<=10):vM [.lst (qv l)]=.ok (.lst ((CT l).map cE),[.non]):=by refine qu.trans ?_;obtain ⟨n,s,e⟩:=qcx hl (aN l.length) [] iK iK (λj G=>aX.mp G) (by simp; lia);rw [<-qeb] at e;have e:kM (kj 2 (qE (gNm 2) (qE (gNm 3) ki))) ctB (gP (qv l)) [iI (.lst (qv l)),iI (.lst []),iK,iK]=.ok (.nx,[iI (.lst (qv l)),iI (.lst ((CT l).map cE)),n,s]):=e;have h:0<=sizeLine:=aZ _;generalize (CT l).map cE=M at e ⊢;simp [yr,qt,WJ,e]
theorem qjC (l:List (Str×Str)) (hl:l.length<=10):(CT l).length<=100:=by
 unfold CT;have:∀ s:List Nat,(s.flatMap λj=>(l.take j).map λa=>un a (pa l j)).length<=10 * s.length:=λs=>by
  induction s with
  | nil=>simp
  | cons j s i=>
   rw [dN,aq,ap,cF,ao]
   lia
 have:=this (aN l.length);rw [bL] at this
 lia
theorem qjD (h:c∈CT l):c.1.length<=2/\c.2.length<=2:=by obtain ⟨j,_,h⟩:=dZ.mp h;obtain ⟨a,_,rfl⟩:=af.mp h;exact qjB a _
abbrev Fx:=List (Key×D)
def qe2 (k:Fx):Prop:=∀ kv∈k,∃ v:Int,kv.2=.int v/\0<=v/\v<=1000
noncomputable def vl (k:Fx) (x:Str):Int:=match k.find? λkv=>decide (kv.1=bf x) with
 | some (_,.int v)=>v
 | _=>0
theorem qjE {k:Fx} (a:qe2 k) (h:ko k (.inr x)=iM):ixD (.dct k) (.str x)=.ok (.int (vl k x))/\0<=vl k x/\vl k x<=1000:=by
 unfold ko at h;cases q:k.find? λkv=>decide (kv.1=bf x) with
 | none=>rw [cm] at q;obtain ⟨p,hp,h⟩:=fY.mp h;exact absurd h (q p hp)
 | some kv=>
  obtain ⟨v,e,h1,h2⟩:=a kv (bD q);obtain ⟨k0,d⟩:=kv;have e:d=.int v:=e;subst e;have i:vl k x=v:=by unfold vl; simp only [q]
  rw [i];exact ⟨by unfold ixD; simp only [q],h1,h2⟩
theorem qlI {Cs:List α} {cap:List Nat} {fi:vB} {fe:qU} (A B:α->D) (h:fi ρ=.ok (Cs.map A,ρ)) (hl:Cs.length<=sizeLine)
  (ht:∀ c∈Cs,fe (iI (A c)::cap.map λk=>(ρ[k]?).getD iK)=.ok (B c,iI (A c)::cap.map λk=>(ρ[k]?).getD iK)):qT [] 1 cap fi (gNm 0) ftT fe ρ=.ok (.lst (Cs.map B),ρ):=by
 have key:∀ (l:List α) (x:Option D),(∀ c∈l,c∈Cs)->∃ n,jS (gNm 0) ftT fe (l.map A) (x::cap.map λk=>(ρ[k]?).getD iK)=.ok (l.map B,n::cap.map λk=>(ρ[k]?).getD iK):=by
  intro l
  induction l with
  | nil=>intro x _; exact ⟨x,rfl⟩
  | cons c l j=>intro x a;obtain ⟨n,e⟩:=j (iI (A c)) λd hd=>a d (ae _ hd);have h1:=ht c (a c (aj ..));exact ⟨n,by simp [jS,Qz,h1,e]⟩
 obtain ⟨n,e⟩:=key Cs iK λ_ h=>h;unfold qT;rw [h];simp only [kq];rw [Aa (by rw [ap]; exact hl),show kJ 1 cap ρ=iK::cap.map λk=>(ρ[k]?).getD iK from rfl,e];simp only [kq];rw [yi (own:=[]) _ cap 1 ρ λ_ _=>aU]
noncomputable def md (r:Int) (k:Fx) (c:Cn):Bool:=if ((c.1++c.2).all λx=>ko k (.inr x))=iM then decide (¬((c.1.map (vl k)).sum - (c.2.map (vl k)).sum) % r=0) else iM
theorem Zq {k:Fx} (a:qe2 k) (j:Nat) {l:List Str} (hl:l.length<=2) (f:∀ x∈l,ko k (.inr x)=iM) (h1:ρ[j]?=iI (iI (sE l))) (h2:ρ[2]?=iI (iI (.dct k))):d1 KN (qT [] 1 [2] (jw (qe j)) (gNm 0) ftT (d2 ixD (qe 1) (qe 0))) ρ=.ok (.int (l.map (vl k)).sum,ρ):=by
 have e:=vw (cap:=[2]) (fi:=jw (qe j)) (ρ:=ρ) (ρ1:=ρ) (ds:=l.map D.str) (fe:=d2 ixD (qe 1) (qe 0)) (λd=>match d with | .str x=>.int (vl k x) | d=>d) (by simp [h1,jo]) (by rw [ap]; exact small (by omega)) (λd hd=>by obtain ⟨x,hx,rfl⟩:=af.mp hd;have h:=(qjE a (f x hx)).1;simp [h2,h]);have b:(l.map D.str).map (λd=>match d with | .str x=>.int (vl k x) | d=>d)=(l.map (vl k)).map D.int:=by rw [bo,bo];rfl
 rw [b] at e;have c:=qcv (l:=l.map (vl k)) (by rw [ap]; omega) λi hi=>by obtain ⟨x,hx,rfl⟩:=af.mp hi;have:=(qjE a (f x hx)).2;omega
 rw [zu,e];simp only [kq];rw [c];rfl
theorem qjF (h1:c.1.length<=2) (h2:c.2.length<=2) (g:0 < r) {k:Fx} (a:qe2 k):kE [cE c,.int r,.dct k]=.ok (.bl (md r k c),[.non,.non,.non]):=by
 refine qu.trans ?_;have b:(c.1.map D.str).length+(c.2.map D.str).length<=sizeLine:=by rw [ap,ap]; exact small (by lia)
 have hi:jw (d2 ud (qe 3) (qe 4)) [iI (cE c),iI (.int r),iI (.dct k),iI (sE c.1),iI (sE c.2)]=.ok ((c.1++c.2).map D.str,[iI (cE c),iI (.int r),iI (.dct k),iI (sE c.1),iI (sE c.2)]):=by
  have:ud (sE c.1) (sE c.2)=.ok (.lst ((c.1++c.2).map D.str)):=by unfold ud;simp only [Aa b,bG]
  generalize sE c.1=U at this ⊢;generalize sE c.2=V at this ⊢;simp [this,jo]
 have e:=vw (cap:=[2]) (fi:=jw (d2 ud (qe 3) (qe 4))) (ρ:=[iI (cE c),iI (.int r),iI (.dct k),iI (sE c.1),iI (sE c.2)]) (ρ1:=[iI (cE c),iI (.int r),iI (.dct k),iI (sE c.1),iI (sE c.2)]) (ds:=(c.1++c.2).map D.str) (fe:=d2 inA (qe 0) (qe 1)) (λd=>match d with | .str x=>.bl (ko k (.inr x)) | d=>d) hi (by rw [ap,aq]; exact small (by lia)) (λd hd=>by obtain ⟨x,hx,rfl⟩:=af.mp hd;simp [inA,QD]);have j:((c.1++c.2).map D.str).map (λd=>match d with | .str x=>.bl (ko k (.inr x)) | d=>d)=(c.1++c.2).map λx=>D.bl (ko k (.inr x)):=by rw [bo];rfl
 rw [j] at e;have i:=wM (λx=>ko k (.inr x)) (c.1++c.2);have hA:d1 UT (qT [] 1 [2] (jw (d2 ud (qe 3) (qe 4))) (gNm 0) ftT (d2 inA (qe 0) (qe 1))) [iI (cE c),iI (.int r),iI (.dct k),iI (sE c.1),iI (sE c.2)]=.ok (.bl ((c.1++c.2).all λx=>ko k (.inr x)),[iI (cE c),iI (.int r),iI (.dct k),iI (sE c.1),iI (sE c.2)]):=by rw [zu,e];simp only [kq];rw [i];rfl
 unfold gx md;rw [show qt gu [cE c,.int r,.dct k]=[iI (cE c),iI (.int r),iI (.dct k),iK,iK] from rfl];refine (qB (ρ1:=[iI (cE c),iI (.int r),iI (.dct k),iI (sE c.1),iK]) (by simp [cE,ixD,at0])).trans ?_;refine (qB (ρ1:=[iI (cE c),iI (.int r),iI (.dct k),iI (sE c.1),iI (sE c.2)]) (by simp [cE,ixD,at1])).trans ?_;cases q:(c.1++c.2).all λx=>ko k (.inr x) with
 | false=>rw [q] at hA;simp [-zu,hA]
 | true=>rw [q] at hA;have h:=aI.mp q;have s1:=Zq a 3 h1 (λx hx=>h x (ai.mpr (.inl hx))) (ρ:=[iI (cE c),iI (.int r),iI (.dct k),iI (sE c.1),iI (sE c.2)]) rfl rfl;have s2:=Zq a 4 h2 (λx hx=>h x (ai.mpr (.inr hx))) (ρ:=[iI (cE c),iI (.int r),iI (.dct k),iI (sE c.1),iI (sE c.2)]) rfl rfl;refine (qB (ρ1:=[iI (cE c),iI (.int r),iI (.dct k),iI (sE c.1),iI (sE c.2)]) (by simp [-zu,hA])).trans ?_;by_cases f:((c.1.map (vl k)).sum - (c.2.map (vl k)).sum) % r=0 <;> simp [-zu,s1,s2,yC,uc,g,neD,eqN,eqS,f]
theorem qg3 {k:Fx} (hl:k.length<=100) (x:Str) (v:Int):vD [.dct k,.str x,.int v]=.ok (.dct (wn k (.inr x) (.int v)),[.non,.non,.non]):=by refine qu.trans ?_;have z:k.length < sizeLine:=aK (by lia) big;simp [gy,qt,qbl,xQ,QD,z]
theorem qg4 (k:Fx) (x:Key) (d:D):(wn k x d).length<=k.length+1:=by unfold wn;split <;> simp
theorem qjG {k:Fx} (b:qe2 k) (x:Key) {v:Int} (c:0<=v) (h1:v<=1000):qe2 (wn k x (.int v)):=by
 unfold wn;intro kv a;split at a
 ·obtain ⟨p,hp,rfl⟩:=af.mp a;split;·exact ⟨v,rfl,c,h1⟩
  ·exact b p hp
 ·rcases ai.mp a with h | h;·exact b kv h
  ·rw [aw.mp h];exact ⟨v,rfl,c,h1⟩
abbrev cfB (gr:jC):qS:=(sIf (wZ (qp [.vl,.vl,.vl,.vl] gr (qd (qe 0) (qd (qe 1) (qd (qp [.vl,.vl,.vl] vD (qd (qe 2) (qd (d2 ixD (qe 3) (dC (.int 0))) (qd (qe 5) qA)))) (qd (vg (qe 3) (iI (dC (.int 1))) iK) qA)))))) (jx (dC (.bl iM))) jm)
theorem qjH (x:Str) (ls:List Str):ixD (sE (x::ls)) (.int 0)=.ok (.str x)/\qiW (iI 1) iK (sE (x::ls))=.ok (sE ls):=by
 refine ⟨by simp [ixD,at0],?_⟩;have:qdN ((x::ls).map D.str) (iI 1) iK=ls.map D.str:=by unfold qdN;rw [HT.sIx_none,show (iI (1:Int))=iI ((1:Nat):Int) from rfl,HT.sIx_nat];simp;exact List.take_of_length_le (by simp)
 show Out.ok (D.lst (qdN ((x::ls).map D.str) (iI 1) iK))=_;rw [this]
variable {Cs:List Cn}
theorem qg5 (B:∀ c∈Cs,c.1.length<=2/\c.2.length<=2) (n:Cs.length<=100) (f:0 < r) {k:Fx} (g:qe2 k) (a b c:Option D):d1 UT (qT [] 1 [1,2] (jw (qe 0)) (gNm 0) ftT (qp [.vl,.vl,.vl] kE (qd (qe 0) (qd (qe 1) (qd (qe 2) qA))))) [iI (.lst (Cs.map cE)),iI (.int r),iI (.dct k),a,b,c]=.ok (.bl (Cs.all (md r k)),[iI (.lst (Cs.map cE)),iI (.int r),iI (.dct k),a,b,c]):=by
 have e:=qlI (Cs:=Cs) (ρ:=[iI (.lst (Cs.map cE)),iI (.int r),iI (.dct k),a,b,c]) (cap:=[1,2]) (fi:=jw (qe 0)) (fe:=qp [.vl,.vl,.vl] kE (qd (qe 0) (qd (qe 1) (qd (qe 2) qA)))) cE (λc=>.bl (md r k c)) (by simp [jo]) (small (by lia)) λc d=>by have h:=qjF (B c d).1 (B c d).2 f g;generalize cE c=Z at h ⊢;simp [h]
 rw [zu,e];simp only [kq];rw [wM];rfl
theorem qee (n:Nat):Jw 0 n=((aN n).map λ(j:Nat)=>(j:Int)).map D.int:=by rw [qmP,bo];rfl
theorem qjI (l:List (Str×Str)):(LS l).length<=2 * l.length:=by
 unfold LS;rw [(qK _).length_eq];have:=QE (l.map (·.1)++l.map (·.2)) [];simp only [aq,ap,aV] at this
 lia
noncomputable def nu (v:Str->Int) (p:Str×Str):Int:=v p.1+v p.2
def Ds (r:Int) (v:Str->Int) (K:List (Str×Str)):Prop:=K.Pairwise λp q=>¬r ∣ nu v p - nu v q
def Ext (k:Fx) (v:Str->Int):Prop:=∀ x,ko k (.inr x)=iM->v x=vl k x
def OKs (r:Int) (k:Fx) (K:List (Str×Str)):Prop:=∃ v,Ext k v/\Ds r v K
theorem qg6 {b:Int} (h:¬r ∣ a - b):¬r ∣ b - a:=λz=>h (by have:=ia.mpr z;rwa [Int.neg_sub] at this)
theorem qjJ {A C:List (Str×Str)} {x:Str×Str}:Ds r v (A++x::C)↔(∀ p∈A++C,¬r ∣ nu v x - nu v p)/\Ds r v (A++C):=by unfold Ds;rw [List.pairwise_middle λh=>qg6 h,aT]
theorem qe3 {α:Type} [DecidableEq α]:∀ {a b:List α},a.Nodup->(∀ x∈a,x∈b)->a.length<=b.length
 | [],_,_,_=>aZ _
 | x::a,b,hn,h=>by
  obtain ⟨h1,h2⟩:=aM.mp hn;have hx:=h x (aj ..);have j:=qe3 (b:=b.erase x) h2 λy C=>(e9 λ(z:y=x)=>h1 (z ▸ C)).mpr (h y (ae _ C));rw [cX hx] at j;have:=cg hx;rw [ao]
  lia
theorem qef (g:1<=r) (bad:List Int) (h:(bad.length:Int) < r):∃ t:Int,0<=t/\t < r/\t∉bad:=by
 refine bB λz=>?_;have c:∀ t∈(aN r.toNat).map λ(j:Nat)=>(j:Int),t∈bad:=λt ht=>by obtain ⟨j,G,rfl⟩:=af.mp ht;have:=aX.mp G;exact bB λq=>z ⟨j,by lia,by lia,q⟩
 have d:((aN r.toNat).map λ(j:Nat)=>(j:Int)).Nodup:=cT.mpr (eY.imp λ{a b} f e=>f (by lia));have:=qe3 d c;rw [ap,bL] at this
 lia
noncomputable def loK (k:Fx) (K:List (Str×Str)) (x:Str×Str):Bool:=(!ko k (.inr x.1)&&decide (cn K x.1=1))||(!ko k (.inr x.2)&&decide (cn K x.2=1))
theorem qe4 (A C:List (Str×Str)) (x:Str×Str) (c:Str):cn (A++x::C) c=co x c+cn (A++C) c:=by
 rw [qe1,qe1];show cn A c+(co x c+cn C c)=_
 lia
theorem qg7 {c:Str} (h:cn K c=0):∀ p∈K,p.1≠c/\p.2≠c:=λp hp=>by
 obtain ⟨A,C,rfl⟩:=List.append_of_mem hp;rw [qe4] at h;have h1:=qjz (A++C) c;have h2:=qed p c;have f:co p c=0:=by lia
 unfold co at f;refine ⟨λz=>?_,λz=>?_⟩;·rw [Aa z] at f;split at f <;> lia
 ·rw [Aa z] at f;split at f <;> lia
variable {K0:List (Str×Str)}
theorem qjK (D:1<=r) {k:Fx} {A C:List (Str×Str)} {x:Str×Str} (B:(A++x::C).Sublist K0) (hl:loK k K0 x=iM) (G:((A++x::C).length:Int)<=r) (h:OKs r k (A++C)):OKs r k (A++x::C):=by
 obtain ⟨v,u,hd⟩:=h;have key:∀ c d:Str,(∀ w:Str->Int,nu w x=w c+w d)->(c=x.1\/c=x.2)->ko k (.inr c)=iN->cn K0 c=1->OKs r k (A++x::C):=λc d f J H h1=>by
  have S:=qjA B c;rw [qe4] at S;have E:=qjz (A++C) c;have I:1<=co x c:=by
   unfold co;rcases J with rfl | rfl
   ·rw [Aa rfl];split <;> lia
   ·rw [Aa (rfl:x.2=x.2)];split <;> lia
  have K:cn (A++C) c=0:=by lia
  have j:=qg7 K;have n:d≠c:=λz=>by
   have e:=f λy=>if y=c then 1 else 0
   subst z;unfold nu at e;have:co x d=2:=by unfold co;simpa using e
   lia
  obtain ⟨t,s,t1,ht⟩:=qef D ((A++C).map λp=>(nu v p - v d) % r) (by
   rw [ap];rw [aq,ao] at G;rw [aq]
   lia)
  refine ⟨λy=>if y=c then t else v y,λy l=>?_,qjJ.mpr ⟨λp hp=>?_,?_⟩⟩
  ·have:y≠c:=λz=>by rw [z,H] at l; cases l
   show (if y=c then t else v y)=_;rw [Ab this];exact u y l
  ·have e1:nu (λy=>if y=c then t else v y) x=t+v d:=by rw [f];simp [n]
   have o:nu (λy=>if y=c then t else v y) p=nu v p:=by obtain ⟨i,g⟩:=j p hp;simp [nu,i,g]
   rw [e1,o];intro z;refine ht (af.mpr ⟨p,hp,?_⟩);have:r ∣ (nu v p - v d) - t:=by have:=ia.mpr z;rw [show -(t+v d - nu v p)=nu v p - v d - t by lia] at this;exact this
   have L:(nu v p - v d) % r=t % r:=cx.mpr (b6 this);exact L.trans (bb s t1)
  ·refine hd.imp_of_mem λ{p q} hp hq m=>?_;obtain ⟨p1,p2⟩:=j p hp;obtain ⟨i,g⟩:=j q hq;have e1:nu (λy=>if y=c then t else v y) p=nu v p:=by simp [nu,p1,p2]
   have o:nu (λy=>if y=c then t else v y) q=nu v q:=by simp [nu,i,g]
   rw [e1,o];exact m
 unfold loK at hl;rw [g9,aR,aR] at hl;rcases hl with ⟨a,b⟩ | ⟨a,b⟩
 ·exact key x.1 x.2 (λw=>rfl) (.inl rfl) (by simpa using a) (Ae b)
 ·exact key x.2 x.1 (λw=>Int.add_comm _ _) (.inr rfl) (by simpa using a) (Ae b)
noncomputable def peK (k:Fx) (K:List (Str×Str)):List (Str×Str):=K.filter λx=>!loK k K x
theorem qg8 (d:1<=r) {k:Fx} (a:(K0.length:Int)<=r):∀ (M A:List (Str×Str)),(A++M).Sublist K0->OKs r k (A++M.filter λx=>!loK k K0 x)->OKs r k (A++M)
 | [],A,_,h=>h
 | x::M,A,hs,h=>by
  have n:((A++x::M).length:Int)<=r:=by
   have:=hs.length_le
   lia
  cases q:loK k K0 x with
  | false=>rw [List.filter_cons_of_pos (by simp [q])] at h;have:=qg8 d a M (A++[x]) (by simpa using hs) (by simpa using h);simpa using this
  | true=>rw [List.filter_cons_of_neg (by simp [q])] at h;exact qjK d hs q n (qg8 d a M A ((fM A).append (List.sublist_cons_self x M) |>.trans hs) h)
theorem qjL (d:1<=r) {k:Fx} (n:(K.length:Int)<=r):OKs r k (peK k K)↔OKs r k K:=
 ⟨λh=>qg8 d n K [] (fM _) h,λ⟨v,a,b⟩=>⟨v,a,List.Pairwise.sublist List.filter_sublist b⟩⟩
noncomputable def sv (v:Str->Int) (l:List Str):Int:=(l.map v).sum
noncomputable def Dc (v:Str->Int) (c:Cn):Int:=sv v c.1 - sv v c.2
theorem qjM (v:Str->Int) (a b:List Str):sv v (a++b)=sv v a+sv v b:=by unfold sv;rw [bG,hV]
theorem Zr (v:Str->Int):∀ {l:List Str} {y:Str},y∈l->sv v (l.erase y)=sv v l - v y
 | x::l,y,h=>by
  by_cases q:x=y
  ·subst q;rw [List.erase_cons_head];show _=v x+sv v l - v x
   lia
  ·rw [List.erase_cons_tail (by simpa using q)];have j:=Zr v ((ac.mp h).resolve_left λz=>q z.symm);show v x+sv v (l.erase y)=v x+sv v l - v y
   lia
theorem qjN (v:Str->Int) (c:Cn) (y:Str):Dc v (st1 c y)=Dc v c - v y:=by
 unfold st1 Dc;split
 ·rename_i h;show sv v (c.1.erase y) - sv v c.2=_;rw [Zr v h]
  lia
 ·show sv v c.1 - sv v (c.2++[y])=_;rw [qjM,show sv v [y]=v y by simp [sv]]
  lia
theorem qmf (v:Str->Int) (x y:Str×Str):Dc v (un x y)=nu v x - nu v y:=by
 unfold un;rw [qjN,qjN];simp [Dc,sv,nu]
 lia
theorem qjO (c:Cn) (y:Str):((st1 c y).1.length:Int) - (st1 c y).2.length=(c.1.length:Int) - c.2.length - 1:=by
 unfold st1;split
 ·rename_i h;show ((c.1.erase y).length:Int) - c.2.length=_;rw [cX h];have:=cg h
  lia
 ·show (c.1.length:Int) - (c.2++[y]).length=_;rw [aq];simp
  lia
theorem qmR (x y:Str×Str):(un x y).1.length=(un x y).2.length:=by
 have h1:=qjO ([x.1,x.2],[]) y.1;have h2:=qjO (st1 ([x.1,x.2],[]) y.1) y.2;unfold un;simp at h1
 lia
variable {P:Str->Prop}
theorem qe5 (h1:∀ z∈c.1++c.2,P z) (h2:P y):∀ z∈(st1 c y).1++(st1 c y).2,P z:=by
 unfold st1;split;·exact λz h=>(ai.mp h).elim (λq=>h1 z (ai.mpr (.inl (List.mem_of_mem_erase q)))) λq=>h1 z (ai.mpr (.inr q))
 ·intro z h;rcases ai.mp h with q | q;·exact h1 z (ai.mpr (.inl q))
  ·rcases ai.mp q with q | q;·exact h1 z (ai.mpr (.inr q))
   ·rw [aw.mp q]; exact h2
theorem qlJ {x y:Str×Str} (h1:P x.1) (h2:P x.2) (f:P y.1) (a:P y.2):∀ z∈(un x y).1++(un x y).2,P z:=
 qe5 (qe5 (λz h=>by
  simp at h;rcases h with rfl | rfl;·exact h1
  ·exact h2) f) a
theorem Zs:c∈CT l↔∃ i j,∃ (hi:i < l.length) (G:j < l.length),i < j/\c=un l[i] l[j]:=by
 unfold CT;rw [dZ];constructor
 ·rintro ⟨j,G,h⟩;have G:=aX.mp G;obtain ⟨a,f,rfl⟩:=af.mp h;obtain ⟨i,hi,rfl⟩:=List.mem_take_iff_getElem.mp f;refine ⟨i,j,by lia,G,by lia,?_⟩;have:pa l j=l[j]:=by unfold pa; rw [aA G]; rfl
  rw [this]
 ·rintro ⟨i,j,hi,G,e,rfl⟩;refine ⟨j,aX.mpr G,af.mpr ⟨l[i],List.mem_take_iff_getElem.mpr ⟨i,by lia,rfl⟩,?_⟩⟩;have:pa l j=l[j]:=by unfold pa; rw [aA G]; rfl
  rw [this]
theorem qjP:Ds r v l↔∀ c∈CT l,¬r ∣ Dc v c:=by
 unfold Ds;rw [List.pairwise_iff_getElem];constructor;·intro h c d;obtain ⟨i,j,hi,G,e,rfl⟩:=Zs.mp d;rw [qmf];exact h i j hi G e
 ·intro h i j hi G e;have:=h _ (Zs.mpr ⟨i,j,hi,G,e,rfl⟩);rw [qmf] at this;exact this
theorem qlK (h:c∈CT l):∀ z∈c.1++c.2,z∈LS l:=by obtain ⟨i,j,hi,G,_,rfl⟩:=Zs.mp h;have m1:=bI hi;have A:=bI G;exact qlJ (vG.mpr ⟨_,m1,.inl rfl⟩) (vG.mpr ⟨_,m1,.inr rfl⟩) (vG.mpr ⟨_,A,.inl rfl⟩) (vG.mpr ⟨_,A,.inr rfl⟩)
theorem qmS (h:c∈CT l):c.1.length=c.2.length:=by obtain ⟨i,j,hi,G,_,rfl⟩:=Zs.mp h;exact qmR _ _
theorem VF {k:Fx} (h:ko k (.inr x)=iN) (d:D):wn k (.inr x) d=k++[(.inr x,d)]:=by unfold wn;unfold ko at h;rw [h];rfl
theorem xp {k:Fx} (h:ko k (.inr x)=iN) (d:D) (y:Str):ko (wn k (.inr x) d) (.inr y)=(ko k (.inr y)||decide (x=y)):=by rw [VF h];unfold ko;rw [List.any_append];simp
theorem Zu {k:Fx} (h:ko k (.inr x)=iN) (w:Int):vl (wn k (.inr x) (.int w)) x=w/\∀ y,y≠x->vl (wn k (.inr x) (.int w)) y=vl k y:=by
 rw [VF h];unfold vl;refine ⟨?_,λy C=>?_⟩
 ·have:(k.find? λkv=>decide (kv.1=bf x))=none:=by rw [cm];intro p hp z;unfold ko at h;rw [fG] at h;exact h p hp z
  rw [List.find?_append,this];simp
 ·rw [List.find?_append];have:([(bf x,D.int w)]:Fx).find? (λkv=>decide (kv.1=bf y))=none:=by rw [cm];intro p hp z;rw [aw.mp hp] at z;have:=Ae z;exact C (bf.inj this).symm
  rw [this,Option.or_none]
variable {w:Str->Int}
theorem qjQ {l:List Str} (h:∀ x∈l,v x=w x):sv v l=sv w l:=by unfold sv;rw [c7 h]
theorem qjR (h:∀ x∈c.1++c.2,v x=w x):Dc v c=Dc w c:=by unfold Dc;rw [qjQ λx hx=>h x (ai.mpr (.inl hx)),qjQ λx hx=>h x (ai.mpr (.inr hx))]
theorem qg9 (h:∀ x,r ∣ v x - w x):∀ l:List Str,r ∣ sv v l - sv w l
 | []=>by simp [sv]
 | x::l=>by have j:=qg9 h l;show r ∣ (v x+sv v l) - (w x+sv w l);rw [show (v x+sv v l) - (w x+sv w l)=(v x - w x)+(sv v l - sv w l) by lia];exact eI (h x) j
theorem qlL (h:∀ x,r ∣ v x - w x) (d:¬r ∣ Dc v c):¬r ∣ Dc w c:=λz=>d (by
 have h1:=qg9 h c.1;have h2:=qg9 h c.2;have:Dc v c=(sv v c.1 - sv w c.1) - (sv v c.2 - sv w c.2)+Dc w c:=by unfold Dc; lia
 rw [this];exact eI (dj h1 h2) z)
theorem Zv {k:Fx}:md r k c=iM↔((∀ y∈c.1++c.2,ko k (.inr y)=iM)->¬r ∣ Dc (vl k) c):=by
 unfold md;cases q:(c.1++c.2).all λx=>ko k (.inr x) with
 | false=>
  have:¬∀ y∈c.1++c.2,ko k (.inr y)=true:=λz=>by rw [aI.mpr z] at q;cases q
  exact ⟨λ_ z=>absurd z this,λ_=>rfl⟩
 | true=>rw [Aa rfl,decide_eq_true_eq];have l:=aI.mp q;exact ⟨λh _ z=>h (b6 z),λh z=>h l (dg z)⟩
noncomputable def chs (r:Int) (k:Fx):List Int:=if k=[] then [0] else (aN r.toNat).map λ(j:Nat)=>(j:Int)
noncomputable def cf (r:Int) (Cs:List Cn):Nat->List Str->Fx->Bool
 | 0,_,_=>iN
 | n+1,ls,k=>Cs.all (md r k)&&(match ls with
  | []=>iM
  | x::ls=>(chs r k).any λw=>cf r Cs n ls (wn k (.inr x) (.int w)))
def qjS (r:Int) (Cs:List Cn) (v:Str->Int):Prop:=∀ c∈Cs,¬r ∣ Dc v c
theorem qcy {r:Int} (m:1<=r) {Cs:List Cn}:∀ (n:Nat) (ls:List Str) (k:Fx),ls.length < n->k≠[]->ls.Nodup->(∀ y∈ls,ko k (.inr y)=iN)->(∀ c∈Cs,∀ y∈c.1++c.2,ko k (.inr y)=iM\/y∈ls)->(cf r Cs n ls k=iM↔∃ v,Ext k v/\qjS r Cs v)
 | 0,ls,k,h,_,_,_,_=>absurd h (dB _)
 | n+1,ls,k,h,hk,hnd,hno,hin=>by
  have e:∀ v,Ext k v->qjS r Cs v->Cs.all (md r k)=true:=λv a hg=>aI.mpr λc d=>Zv.mpr λl=>by rw [<-qjR λy C=>a y (l y C)];exact hg c d
  cases ls with
  | nil=>show (Cs.all (md r k)&&iM)=iM↔_;rw [Bool.and_true];refine ⟨λh=>⟨vl k,λ_ _=>rfl,λc d=>Zv.mp (aI.mp h c d) λy C=>(hin c d y C).resolve_right λz=>by cases z⟩,λ⟨v,a,hg⟩=>e v a hg⟩
  | cons x ls=>
   have hx:=hno x (aj ..);obtain ⟨g,b⟩:=aM.mp hnd;have j:=λw=>qcy m (Cs:=Cs) n ls (wn k (.inr x) (.int w)) (by rw [ao] at h; lia) (by rw [VF hx]; simp) b (λy C=>by
    rw [xp hx,hno y (ae _ C)];simp;exact λz=>g (z ▸ C)) λc d y C=>by
    rw [xp hx];rcases hin c d y C with q | q;·exact .inl (by rw [q]; rfl)
    ·rcases ac.mp q with q | q;·exact .inl (by simp [q])
     ·exact .inr q
   show (Cs.all (md r k)&&(chs r k).any λw=>cf r Cs n ls (wn k (.inr x) (.int w)))=iM↔_;rw [aR,fY];constructor
   ·rintro ⟨_,w,_,i⟩;obtain ⟨v,a,hg⟩:=(j w).mp i;refine ⟨v,λy C=>?_,hg⟩;have f:y≠x:=λz=>by rw [z,hx] at C; cases C
    rw [a y (by rw [xp hx,C]; rfl),(Zu hx w).2 y f]
   ·rintro ⟨v,a,hg⟩;refine ⟨e v a hg,v x % r,?_,(j _).mpr ⟨λy=>if y=x then v x % r else v y,λy C=>?_,λc d=>qlL (λy=>?_) (hg c d)⟩⟩;·unfold chs;rw [Ab hk];have h1:=cP (v x) (show r≠0 by lia);have h2:=ck (v x) (show 0 < r by lia);exact af.mpr ⟨(v x % r).toNat,aX.mpr (by lia),by lia⟩
    ·show (if y=x then v x % r else v y)=_;by_cases q:y=x;·rw [Aa q,q,(Zu hx _).1]
     ·rw [Ab q,(Zu hx _).2 y q];rw [xp hx] at C;refine a y ?_;simpa [show ¬x=y from λz=>q z.symm] using C
    ·show r ∣ v y - (if y=x then v x % r else v y);by_cases q:y=x;·rw [Aa q,q];exact Int.dvd_self_sub_of_emod_eq rfl
     ·rw [Ab q,Int.sub_self];exact Int.dvd_zero r
theorem VG (v:Str->Int) (t:Int):∀ l:List Str,sv (λy=>v y - t) l=sv v l - t * l.length
 | []=>by simp [sv]
 | x::l=>by
  have j:=VG v t l;show (v x - t)+sv (λy=>v y - t) l=(v x+sv v l) - t * ((l.length+1:Nat):Int);rw [j,Int.natCast_add,Int.mul_add];simp
  lia
theorem qeg (v:Str->Int) (t:Int) (h:c.1.length=c.2.length):Dc (λy=>v y - t) c=Dc v c:=by
 unfold Dc;rw [VG,VG,h]
 lia
theorem qha (k:1<=r) (o:∀ c∈Cs,c.1.length=c.2.length) (n:Nat) (ls:List Str) (h:ls.length < n) (i:ls.Nodup) (f:∀ c∈Cs,∀ y∈c.1++c.2,y∈ls):cf r Cs n ls []=iM↔∃ v,qjS r Cs v:=by
 obtain ⟨n,rfl⟩:∃ m,n=m+1:=⟨n - 1,by lia⟩
 have a:∀ y:Str,ko [] (.inr y)=false:=λy=>rfl;have e:∀ v,qjS r Cs v->Cs.all (md r [])=true:=λv hg=>aI.mpr λc d=>Zv.mpr λl=>by rw [qjR (w:=v) λy C=>absurd (l y C) (by rw [a]; simp)];exact hg c d
 cases ls with
 | nil=>show (Cs.all (md r [])&&iM)=iM↔_;rw [Bool.and_true];exact ⟨λh=>⟨vl [],λc d=>Zv.mp (aI.mp h c d) λy C=>by cases f c d y C⟩,λ⟨v,hg⟩=>e v hg⟩
 | cons x ls=>
  obtain ⟨g,b⟩:=aM.mp i;have j:=qcy k (Cs:=Cs) n ls (wn [] (.inr x) (.int 0)) (by rw [ao] at h; lia) (by rw [VF (a x)]; simp) b (λy C=>by
   rw [xp (a x),a];simp;exact λz=>g (z ▸ C)) λc d y C=>by
   rw [xp (a x),a];rcases ac.mp (f c d y C) with q | q;·exact .inl (by simp [q])
   ·exact .inr q
  show (Cs.all (md r [])&&(chs r []).any λw=>cf r Cs n ls (wn [] (.inr x) (.int w)))=iM↔_;rw [show chs r []=[0] from Aa rfl,aR];simp only [b7,List.any_nil,Bool.or_false];rw [j];constructor;·rintro ⟨_,v,_,hg⟩;exact ⟨v,hg⟩
  ·rintro ⟨v,hg⟩;refine ⟨e v hg,λy=>v y - v x,λy C=>?_,λc d=>?_⟩
   ·rw [xp (a x),a] at C;have:x=y:=by simpa using C
    subst this;rw [(Zu (a x) 0).1];show v x - v x=0
    lia
   ·rw [qeg v (v x) (o c d)];exact hg c d
theorem qeh (m:K.length<=100) (c:Str) (a:Option D) (b:D):d1 KN (qT [] 1 [3] (jw (qe 1)) (gNm 0) ftT (dM qhq yp (qe 0) (qe 1))) [a,iI (.lst (qv K)),iI b,iI (.str c)]=.ok (.int (cn K c),[a,iI (.lst (qv K)),iI b,iI (.str c)]):=by
 have h:KN (.lst ((K.map λx=>co x c).map D.int))=.ok (.int (cn K c)):=qcv (by rw [ap]; lia) λk d=>by
  obtain ⟨y,_,rfl⟩:=af.mp d;have:=qed y c
  lia
 rw [zu,qg1 m c a (iI b)];simp only [kq];rw [h];rfl
theorem qhb (m:K.length<=100) (k:Fx) (x:Str×Str):jX [pD x,.lst (qv K),.dct k]=.ok (.bl (loK k K x),[.non,.non,.non]):=by refine qu.trans ?_;have h:=λc=>qeh m c (iI (pD x)) (.dct k);have n:∀ c:Str,gN (.str c) (.dct k)=.ok (.bl (!ko k (.inr c))):=λc=>rfl;generalize D.lst (qv K)=Z at h ⊢;generalize D.dct k=Y at h n ⊢;obtain ⟨a,b⟩:=x;unfold loK;cases e:ko k (.inr a) <;> cases d:ko k (.inr b) <;> by_cases q:cn K a=1 <;> by_cases l:cn K b=1 <;> simp [Ke,qt,jo,kM,n,e,d,-zu,h,eqD,eqN,eqS,q,l]
theorem Zw (m:K.length<=100) (k:Fx) (a b:Option D):qT [] 1 [2,1] (jw (qe 2)) (gNm 0) (gb (wZ (qp [.vl,.vl,.vl] jX (qd (qe 0) (qd (qe 1) (qd (qe 2) qA)))))) (qe 0) [a,iI (.dct k),iI (.lst (qv K)),b]=.ok (.lst (qv (peK k K)),[a,iI (.dct k),iI (.lst (qv K)),b]):=by have e:=Zf (own:=[]) (cap:=[2,1]) (fi:=jw (qe 2)) (ρ:=[a,iI (.dct k),iI (.lst (qv K)),b]) (ρ1:=[a,iI (.dct k),iI (.lst (qv K)),b]) (ds:=qv K) (ft:=gb (wZ (qp [.vl,.vl,.vl] jX (qd (qe 0) (qd (qe 1) (qd (qe 2) qA)))))) (fe:=qe 0) (λd=>match d with | .tup [.str x,.str y]=>!loK k K (x,y) | d=>iN) (λd=>d) (by simp) (by simp [jo]) (by unfold qv; rw [ap]; exact small (by lia)) (λd hd=>by obtain ⟨x,hx,rfl⟩:=af.mp hd;have h:=qhb m k x;have h:jX [.tup [.str x.1,.str x.2],.lst (qv K),.dct k]=.ok (.bl (loK k K x),[.non,.non,.non]):=h;simp [h]) (λd hd _=>rfl);rw [e];congr 2;unfold peK;rw [f9];unfold qv;rw [h7];rfl
theorem Uw {r:Int} (b:1<=r) (k:Fx) {a:Option D}:∀ (n:Nat) (K:List (Str×Str)),K.length < n->K.length<=100->(K.length:Int)<=r->∃ B R,(OKs r k B↔OKs r k K)/\B.Sublist K /\
  jO (qV (d2 ltD (d1 jW (qe 3)) (d1 jW (qe 2))))
   (qM (jv 2 (qe 3))
   (qM (jv 3 (qT [] 1 [2,1] (jw (qe 2)) (gNm 0) (gb (wZ (qp [.vl,.vl,.vl] jX (qd (qe 0) (qd (qe 1) (qd (qe 2) qA)))))) (qe 0))) jm)) n [a,iI (.dct k),iI (.lst (qv K)),iI (.lst (qv (peK k K)))]=.ok (.nx,[a,iI (.dct k),iI (.lst (qv B)),iI (.lst R)])
 | 0,K,h,_,_=>absurd h (dB _)
 | n+1,K,h,hK,hKr=>by
  have h1:jW (.lst (qv K))=.ok (.int K.length):=by simp [qv]
  have h2:jW (.lst (qv (peK k K)))=.ok (.int (peK k K).length):=by simp [qv]
  have S:(peK k K).length<=K.length:=cK _ _;by_cases q:(peK k K).length < K.length;·obtain ⟨B,R,n1,n2,e⟩:=Uw b k (a:=a) n (peK k K) (by lia) (by lia) (by lia);refine ⟨B,R,n1.trans (qjL b hKr),n2.trans List.filter_sublist,?_⟩;have d:=Zw (K:=peK k K) (by lia) k a (iI (.lst (qv (peK k K))));rw [<-e];generalize D.lst (qv (peK k (peK k K)))=Z2 at d ⊢;generalize D.lst (qv (peK k K))=Z1 at h2 d ⊢;generalize D.lst (qv K)=Z at h1 ⊢;generalize D.dct k=Y at d ⊢;simp [jO,h1,h2,q,d]
  ·refine ⟨K,qv (peK k K),Iff.rfl,fM _,?_⟩;generalize D.lst (qv (peK k K))=Z1 at h2 ⊢;generalize D.lst (qv K)=Z at h1 ⊢;simp [jO,h1,h2,q]
theorem qhc (d:1<=r) (k:Fx) (m:K.length<=10) (h:(K.length:Int)<=r):∃ B,(OKs r k B↔OKs r k K)/\B.Sublist K/\ww [.lst (qv K),.dct k]=.ok (.lst (qv B),[.non,.non]):=by obtain ⟨B,R,n1,n2,e⟩:=Uw d k (a:=iI (.lst (qv K))) 20 K (by lia) (by lia) h;refine ⟨B,n1,n2,?_⟩;have c:=Zw (K:=K) (by lia) k (iI (.lst (qv K))) iK;refine qu.trans ?_;unfold xZ;rw [show qt xY [.lst (qv K),.dct k]=[iI (.lst (qv K)),iI (.dct k),iK,iK] from rfl];refine (qB (ρ1:=[iI (.lst (qv K)),iI (.dct k),iI (.lst (qv K)),iK]) (by simp)).trans ?_;refine (qB (ρ1:=[iI (.lst (qv K)),iI (.dct k),iI (.lst (qv K)),iI (.lst (qv (peK k K)))]) (by rw [QN,c]; rfl)).trans ?_;refine (qB e).trans ?_;simp
theorem Zx {gr:jC} {C S S1:D} {k:Fx} (hl:k.length<=100) {ch:Option D} (hi:ixD S (.int 0)=.ok (.str x)) (c:qiW (iI 1) iK S=.ok S1) (P:Int->Bool):∀ (vs:List Int) (y:Option D),(∀ v∈vs,gr [C,.int r,.dct (wn k (.inr x) (.int v)),S1]=.ok (.bl (P v),[.non,.non,.non,.non])) ->(vs.any P=iM/\∃ ρ,kM (gNm 5) (cfB gr) (vs.map D.int) [iI C,iI (.int r),iI (.dct k),iI S,ch,y]=.ok (.rt (.bl iM),iI C::iI (.int r)::iI (.dct k)::iI S::ρ))\/(vs.any P=iN/\∃ s,kM (gNm 5) (cfB gr) (vs.map D.int) [iI C,iI (.int r),iI (.dct k),iI S,ch,y]=.ok (.nx,[iI C,iI (.int r),iI (.dct k),iI S,ch,s]))
 | [],y,_=>.inr ⟨rfl,y,rfl⟩
 | v::vs,y,h=>by
  have hb:=h v (aj ..);have w:=qg3 hl x v;cases q:P v with
  | true=>rw [q] at hb;refine .inl ⟨by simp [q],[ch,iI (.int v)],?_⟩;simp [kM,cfB,w,hi,vg,KG,c,hb]
  | false=>
   rw [q] at hb;have s1:kM (gNm 5) (cfB gr) ((v::vs).map D.int) [iI C,iI (.int r),iI (.dct k),iI S,ch,y]=kM (gNm 5) (cfB gr) (vs.map D.int) [iI C,iI (.int r),iI (.dct k),iI S,ch,iI (.int v)]:=by simp [kM,cfB,w,hi,vg,KG,c,hb]
   rw [s1,b7,q,Bool.false_or];exact Zx hl hi c P vs _ λu d=>h u (ae _ d)
theorem qhd (r:Int) (Cs:List Cn) (n:Nat) (x:Str) (ls:List Str) (k:Fx):cf r Cs (n+1) (x::ls) k=(Cs.all (md r k)&&(chs r k).any λw=>cf r Cs n ls (wn k (.inr x) (.int w))):=rfl
theorem Kq (B:∀ c∈Cs,c.1.length<=2/\c.2.length<=2) (z:Cs.length<=100) (y:0 < r) (m:r<=99):∀ (n:Nat) (ls:List Str) (k:Fx),ls.length < n->qe2 k->k.length+ls.length<=100 ->qY n [.lst (Cs.map cE),.int r,.dct k,sE ls]=.ok (.bl (cf r Cs n ls k),[.non,.non,.non,.non])
 | 0,ls,k,h,_,_=>absurd h (dB _)
 | n+1,ls,k,h,hk,hl=>by
  have hA:=λa b c=>qg5 B z y hk a b c;show jJ jH [.val,.val,.val,.val] (jz (qY n)) [.lst (Cs.map cE),.int r,.dct k,sE ls]=_;have t:qt jH [.lst (Cs.map cE),.int r,.dct k,sE ls]=[iI (.lst (Cs.map cE)),iI (.int r),iI (.dct k),iI (sE ls),iK,iK]:=rfl;cases q:Cs.all (md r k) with
  | false=>
   refine qu.trans ?_;have u:cf r Cs (n+1) ls k=false:=by cases ls <;> (unfold cf; rw [q]; rfl)
   rw [q] at hA;rw [t,u];simp [jz,-zu,hA]
  | true=>
   rw [q] at hA;have hA:=hA (iI (sE ls)) iK iK;cases ls with
   | nil=>refine qu.trans ?_;rw [show cf r Cs (n+1) [] k=iM by unfold cf; rw [q]; rfl];rw [t];unfold jz;refine (qB (ρ1:=[iI (.lst (Cs.map cE)),iI (.int r),iI (.dct k),iI (sE []),iK,iK]) (by simp [-zu,hA])).trans ?_;simp [eqD,eqN,eqS]
   | cons x ls=>
    rw [ao] at h hl;rw [qhd,q,Bool.true_and];obtain ⟨hi,A⟩:=qjH x ls;have d:∀ v∈chs r k,0<=v/\v < r:=λv d=>by
     unfold chs at d;split at d;·rw [aw.mp d]; lia
     ·obtain ⟨j,G,rfl⟩:=af.mp d;have:=aX.mp G
      lia
    have s:dIf (qV (d2 eqD (d1 jW (qe 2)) (dC (.int 0)))) (xD (qd (dC (.int 0)) qA)) (d1 kQ (qe 1)) [iI (.lst (Cs.map cE)),iI (.int r),iI (.dct k),iI (sE (x::ls)),iK,iK]=.ok (.lst ((chs r k).map D.int),[iI (.lst (Cs.map cE)),iI (.int r),iI (.dct k),iI (sE (x::ls)),iK,iK]):=by
     unfold chs;by_cases l:k=[];·have z1:1<=sizeLine:=small (by lia);simp [eqD,eqN,eqS,l,z1]
     ·rw [Ab l];have g:kQ (.int r)=.ok (.lst (((aN r.toNat).map λ(j:Nat)=>(j:Int)).map D.int)):=by
       unfold kQ;have E:qa3 0 r/\r<=1000000:=⟨⟨by decide,by lia⟩,by lia⟩
       simp only [Int.sub_zero,Aa E];rw [qee]
      generalize ((aN r.toNat).map λ(j:Nat)=>(j:Int)).map D.int=M at g ⊢;simp [eqD,eqN,eqS,l,g]
    have p:=Zx (gr:=qY n) (C:=.lst (Cs.map cE)) (r:=r) (k:=k) (ch:=iI (.lst ((chs r k).map D.int))) (by lia) hi A (λw=>cf r Cs n ls (wn k (.inr x) (.int w))) (chs r k) iK λv f=>
     Kq B z y m n ls (wn k (.inr x) (.int v)) (by lia) (qjG hk _ (d v f).1 (by have:=(d v f).2; lia)) (by have:=qg4 k (.inr x) (.int v); lia)
    have i:jW (sE (x::ls))=.ok (.int ((ls.length:Int)+1)):=by simp
    have o:¬((ls.length:Int)+1=0):=by lia
    generalize I:sE (x::ls)=S at *;generalize D.lst (Cs.map cE)=C at *;have fin:GK [.val,.val,.val,.val] ((qM (Jx (jw (qe 4)) (gNm 5) (cfB (qY n))) (jx (dC (.bl iN)))) [iI C,iI (.int r),iI (.dct k),iI S,iI (.lst ((chs r k).map D.int)),iK])=.ok (.bl ((chs r k).any λw=>cf r Cs n ls (wn k (.inr x) (.int w))),[.non,.non,.non,.non]):=by
     have hit:jw (qe 4) [iI C,iI (.int r),iI (.dct k),iI S,iI (.lst ((chs r k).map D.int)),iK]=.ok ((chs r k).map D.int,[iI C,iI (.int r),iI (.dct k),iI S,iI (.lst ((chs r k).map D.int)),iK]):=by simp [jo]
     generalize (chs r k).map D.int=M at hit p ⊢;rcases p with ⟨e0,ρ,e⟩ | ⟨e0,H,e⟩
     ·rw [e0,QM,kK,hit,kq,e]; rfl
     ·rw [e0,QM,kK,hit,kq,e]; rfl
    refine qu.trans ?_;rw [t];unfold jz;refine (qB (ρ1:=[iI C,iI (.int r),iI (.dct k),iI S,iK,iK]) (by simp [-zu,hA])).trans ?_;refine (qB (ρ1:=[iI C,iI (.int r),iI (.dct k),iI S,iK,iK]) (by simp [i,eqD,eqN,eqS,o])).trans ?_;refine (qB (ρ1:=[iI C,iI (.int r),iI (.dct k),iI S,iI (.lst ((chs r k).map D.int)),iK]) (by rw [QN,s]; rfl)).trans ?_;exact fin
theorem GG (H:l.length<=6) (p:1<=r) (s:r<=99) {k:Fx} (A:qe2 k) (w:k.length<=50):∃ b,kG [.lst (qv l),.int r,.dct k]=.ok (.bl b,[.non,.non,.non])/\(b=iM↔(l.length:Int)<=r/\OKs r k l):=by
 have n:jW (.lst (qv l))=.ok (.int l.length):=by simp [qv]
 by_cases m:r < (l.length:Int);·refine ⟨iN,?_,⟨(λz=>by cases z),λz=>absurd z.1 (by lia)⟩⟩;refine qu.trans ?_;generalize D.lst (qv l)=Z at n ⊢;simp [uE,qt,n,m]
 ·have g:(l.length:Int)<=r:=by lia
  obtain ⟨B,n1,n2,hb⟩:=qhc p k (K:=l) (by lia) g;have I:B.length<=6:=bU n2.length_le H;have L:=wN (l:=B) (by lia);have f:=Uv (l:=B) (by lia);have u:=qjI B;have E:((LS B).filter λx=>!ko k (.inr x)).length<=12:=by
   have:=cK (λx=>!ko k (.inr x)) (LS B)
   lia
  have G:=Kq (Cs:=CT B) (λc f=>qjD f) (qjC B (by lia)) (r:=r) (by lia) s 14 ((LS B).filter λx=>!ko k (.inr x)) k (by lia) A (by lia);refine ⟨cf r (CT B) 14 ((LS B).filter λx=>!ko k (.inr x)) k,?_,?_⟩
  ·refine qu.trans ?_;have e:=Zf (own:=[]) (cap:=[2]) (fi:=jw (qp [.vl] jh (qd (qe 3) qA))) (ρ:=[iI (.lst (qv l)),iI (.int r),iI (.dct k),iI (.lst (qv B)),iK]) (ρ1:=[iI (.lst (qv l)),iI (.int r),iI (.dct k),iI (.lst (qv B)),iK]) (ds:=(LS B).map D.str) (ft:=qV (d2 gN (qe 0) (qe 1))) (fe:=qe 0) (λd=>match d with | .str x=>!ko k (.inr x) | _=>iN) (λd=>d) (by simp) (by
     generalize D.lst (qv B)=Z at L ⊢;simp [L,jo]) (by rw [ap]; exact small (by lia)) (λd hd=>by
     obtain ⟨x,hx,rfl⟩:=af.mp hd;simp [gN,QD]) (λd hd _=>rfl)
   rw [f9,h7] at e;have e:qT [] 1 [2] (jw (qp [.vl] jh (qd (qe 3) qA))) (gNm 0) (qV (d2 gN (qe 0) (qe 1))) (qe 0) [iI (.lst (qv l)),iI (.int r),iI (.dct k),iI (.lst (qv B)),iK]=.ok (sE ((LS B).filter λx=>!ko k (.inr x)),[iI (.lst (qv l)),iI (.int r),iI (.dct k),iI (.lst (qv B)),iK]):=e;unfold uE;rw [show qt gz [.lst (qv l),.int r,.dct k]=[iI (.lst (qv l)),iI (.int r),iI (.dct k),iK,iK] from rfl];generalize D.lst (qv l)=Z at *;generalize D.lst (qv B)=ZB at *;generalize D.dct k=Y at *;refine (qB (ρ1:=[iI Z,iI (.int r),iI Y,iK,iK]) (by simp [n,m])).trans ?_;refine (qB (ρ1:=[iI Z,iI (.int r),iI Y,iI ZB,iK]) (by simp [hb])).trans ?_;refine (qB (ρ1:=[iI Z,iI (.int r),iI Y,iI ZB,iI (sE ((LS B).filter λx=>!ko k (.inr x)))]) (by rw [QN,e]; rfl)).trans ?_;generalize sE ((LS B).filter λx=>!ko k (.inr x))=S at *;generalize D.lst ((CT B).map cE)=C at *;simp [f,G]
  ·have j:((LS B).filter λx=>!ko k (.inr x)).Nodup:=((qK _).nodup_iff.mpr (zl _ [] cJ).1).filter _;have hok:(∃ v,Ext k v/\qjS r (CT B) v)↔OKs r k B:=⟨λ⟨v,a,b⟩=>⟨v,a,qjP.mpr b⟩,λ⟨v,a,b⟩=>⟨v,a,qjP.mp b⟩⟩
   rw [<-n1,<-hok];have o:∀ c∈CT B,∀ y∈c.1++c.2,ko k (.inr y)=iM\/y∈(LS B).filter λx=>!ko k (.inr x):=λc f y i=>by
    cases q:ko k (.inr y) with
    | true=>exact .inl rfl
    | false=>exact .inr (br.mpr ⟨qlK f y i,by rw [q]; rfl⟩)
   by_cases t:k=[];·subst t;rw [qha p (λc f=>qmS f) 14 _ (by lia) j λc f y i=>(o c f y i).resolve_left λz=>by cases z];exact ⟨λ⟨v,h⟩=>⟨g,v,(λx hx=>by cases hx),h⟩,λ⟨_,v,_,h⟩=>⟨v,h⟩⟩
   ·rw [qcy p 14 _ k (by lia) t j (λy i=>by simpa using (br.mp i).2) o];exact ⟨λh=>⟨g,h⟩,λh=>h.2⟩
abbrev Lk:=Int×Int
abbrev LD (x:Lk):D:=Ld x.1 x.2
noncomputable def LK:List Lk:=(aN 6).flatMap λ(a:Nat)=>(aN 6).map λ(b:Nat)=>((a:Int) - 3,(b:Int) - 3)
theorem Ux:vi []=.ok (.lst (LK.map LD),[]):=by kernel_rfl
theorem qjT:LK.length=36:=by kernel_rfl
theorem qe6 {x:Lk}:x∈LK↔UD x.1 x.2:=by
 unfold LK UD;simp only [dZ,af,aX];constructor
 ·rintro ⟨a,f,b,hb,rfl⟩;simp only
  lia
 ·rintro ⟨⟨h1,h2⟩,c,h⟩;refine ⟨(x.1+3).toNat,by lia,(x.2+3).toNat,by lia,?_⟩;obtain ⟨a,b⟩:=x;simp only at *;refine im ?_ ?_
  ·show ((a+3).toNat:Int) - 3=a
   lia
  ·show ((b+3).toNat:Int) - 3=b
   lia
theorem qjU {Cs:List α} {fi:vB} {fe:qU} {ft:ym} (A B:α->D) (P:α->Bool) (o:∀ k∈cap,k∉own) (h:fi ρ=.ok (Cs.map A,ρ)) (hl:Cs.length<=sizeLine)
  (ht:∀ c∈Cs,ft (iI (A c)::cap.map λk=>(ρ[k]?).getD iK)=.ok (P c,iI (A c)::cap.map λk=>(ρ[k]?).getD iK))
  (g:∀ c∈Cs,P c=iM->fe (iI (A c)::cap.map λk=>(ρ[k]?).getD iK)=.ok (B c,iI (A c)::cap.map λk=>(ρ[k]?).getD iK)):qT own 1 cap fi (gNm 0) ft fe ρ=.ok (.lst ((Cs.filter P).map B),ρ):=by
 have key:∀ (l:List α) (x:Option D),(∀ c∈l,c∈Cs)->∃ n,jS (gNm 0) ft fe (l.map A) (x::cap.map λk=>(ρ[k]?).getD iK)=.ok ((l.filter P).map B,n::cap.map λk=>(ρ[k]?).getD iK):=by
  intro l
  induction l with
  | nil=>intro x _; exact ⟨x,rfl⟩
  | cons c l j=>
   intro x a;obtain ⟨n,e⟩:=j (iI (A c)) λd hd=>a d (ae _ hd);have h1:=ht c (a c (aj ..));have h2:=g c (a c (aj ..));cases q:P c with
   | true=>exact ⟨n,by simp [jS,Qz,h1,q,h2 q,e]⟩
   | false=>exact ⟨n,by simp [jS,Qz,h1,q,e]⟩
 obtain ⟨n,e⟩:=key Cs iK λ_ h=>h;unfold qT;rw [h];simp only [kq];rw [Aa (by rw [ap]; exact hl),show kJ 1 cap ρ=iK::cap.map λk=>(ρ[k]?).getD iK from rfl,e];simp only [kq];rw [yi _ cap 1 ρ o]
theorem qhe:LK.length<=sizeLine:=by rw [qjT]; exact small (by lia)
theorem qei (w:jP ws):∃ P:Lk->Bool,Yt [Wd ws]=.ok (.lst ((LK.filter P).map LD),[.non])/\∀ x:Lk,OKs ws.length [] (qy ws x.1 x.2)->P x=true:=by
 have c:=w.2.1;have h1:=w.1;have hd:∀ x:Lk,∃ b,kG [.lst (qv (qy ws x.1 x.2)),.int ws.length,.dct []]=.ok (.bl b,[.non,.non,.non])/\(OKs ws.length [] (qy ws x.1 x.2)->b=iM):=λx=>by have a:=qec ws x.1 x.2;obtain ⟨b,e,hb⟩:=GG (l:=qy ws x.1 x.2) (by lia) (r:=ws.length) (by lia) (by lia) (k:=[]) (λ_ h=>by cases h) (by simp);exact ⟨b,e,λh=>hb.mpr ⟨by lia,h⟩⟩
 refine ⟨λx=>(hd x).choose,?_,λx h=>(hd x).choose_spec.2 h⟩
 ·have hi:jw (qp [] vi qA) [iI (Wd ws)]=.ok (LK.map LD,[iI (Wd ws)]):=by have h:=Ux;generalize LK.map LD=Z at h ⊢;simp [h,jo]
  have n:jW (Wd ws)=.ok (.int ws.length):=by simp
  have e:=qjU (own:=[]) (cap:=[0]) (Cs:=LK) (ρ:=[iI (Wd ws)]) (fi:=jw (qp [] vi qA)) (ft:=wZ (qp [.vl,.vl,.vl] kG (qd (qp [.vl,.vl] kL (qd (qe 1) (qd (qe 0) qA))) (qd (d1 jW (qe 1)) (qd (dC (.dct [])) qA))))) (fe:=qe 0) LD LD (λx=>(hd x).choose) (by simp) hi qhe (λx hx=>by have h1:=Vw w (qe6.mp hx);have h2:=(hd x).choose_spec.1;generalize (hd x).choose=b at h2 ⊢;generalize D.lst (qv (qy ws x.1 x.2))=Z at h1 h2;generalize Wd ws=W at h1 n ⊢;simp [h1,n,h2]) λ_ _ _=>rfl;have d:=yy w;refine qu.trans ?_;unfold qbs;rw [show qt qbr [Wd ws]=[iI (Wd ws)] from rfl];refine (qB (ρ1:=[iI (Wd ws)]) (by simp [d])).trans ?_;rw [KJ,e];rfl
@[simp] theorem qkv {c:Addr} {f:Str} {fe:qU}:Gg c i f fe ρ=(fe ρ).bind λp=>match p.2[i]? with
 | some (iI (.ins k fs))=>if k=c/\fs.length < 1000 then .ok (.nx,p.2.set i (iI (.ins k (zv f p.1 fs)))) else .bad
 | _=>.bad:=rfl
theorem qej {c:Addr} {i:Nat} {fl:Str} {fe:qU} {fi:vB} {g:D->Sl->Out Sl} {fw fx:qU} {fr:qS} {ρ ρ1 ρ2 ρE:Sl} {ds items dE:List D} {fs:List (Str×D)}
  (h1:fe ρ=.ok (.lst ds,ρ1)) (h2:ρ1[i]?=iI (iI (.ins c fs))) (f:fs.length < 1000) (h:fi (ρ1.set i iK)=.ok (items,ρ2)) (l:JB g fw fx items ds ρ2=.ok (dE,ρE)) :
  qbb c i fl fe fi g fw fx fr ρ=fr (ρE.set i (iI (.ins c (zv fl (.lst dE) fs)))):=by
 unfold qbb;simp [h1,h2,f,h,l]
noncomputable def GH (ds:List D) (l:List (Str×Int)):List D:=l.foldl (λds x=>ds.set x.2.toNat (.str x.1)) ds
theorem qcz (b k g p o m:Option D):∀ (l:List (Str×Int)) (ds:List D) (x y:Option D),(∀ e∈l,0<=e.2/\e.2 < ds.length) ->∃ n s,JB (kj 2 (qE (gNm 6) (qE (gNm 7) ki))) (qe 6) (qe 7) (l.map λe=>.tup [.str e.1,.int e.2]) ds [b,k,g,p,o,m,x,y]=.ok (GH ds l,[b,k,g,p,o,m,n,s])
 | [],ds,x,y,_=>⟨x,y,rfl⟩
 | e::l,ds,x,y,h=>by
  obtain ⟨n,s,j⟩:=qcz b k g p o m l (ds.set e.2.toNat (.str e.1)) (iI (.str e.1)) (iI (.int e.2)) λd a=>by rw [dw]; exact h d (ae _ a)
  refine ⟨n,s,?_⟩;obtain ⟨c,h1⟩:=h e (aj ..);have hx:ixN ds.length e.2=iI e.2.toNat:=by unfold ixN;rw [Aa c,Aa h1]
  rw [aG];simp only [JB,kj,qE,ki,ao,aV,Nat.reduceAdd,if_true,qiG,Nat.reduceLT,List.set_cons_zero,List.set_cons_succ,kq,qf3,List.getElem?_cons_zero,List.getElem?_cons_succ,hx];exact j
theorem uj:∀ l:List Int,xP (l.map D.int)=iI l
 | []=>rfl
 | x::l=>by simp [xP,uj l]
noncomputable def qjV (l:List Int):Nat:=(l.foldl qga []).length
abbrev bkF (lk r t:D) (sd:List D):List (Str×D):=[("look",lk),("width",r),("worths",t),("standing",.lst sd),("asked",.lst [])]
variable {t lk:D}
theorem qhf {ca:Str->Addr} {ks:List Int} (u:1<=r/\r<=99) (v:ks.length<=100) (s:∀ k∈ks,0<=k/\k < r) (h:vY [Wd ws,lk,.int r,t]=.ok (.tup (ks.map D.int),[.non,.non,.non,.non])) (w:¬qjV ks < ks.length):∃ o,vt ca [.ins (ca "Book") [],Wd ws,lk,.int r,t]=.ok (.non,.ins (ca "Book") (bkF lk (.int r) t (GH (aS r.toNat .non) (ws.zip ks)))::o):=by
 refine ⟨[.non,.non,.non,.non],qu.trans ?_⟩;have q:ks.length < 4000:=by lia
 have e1:yd (.tup (ks.map D.int))=.ok (.int (qjV ks)):=by simp [yd,WM,uj,q,qjV]
 have hl:¬(qjV ks:Int) < ks.length:=by lia
 have z1:1<=sizeLine:=small (by lia);have b:0<=sizeLine:=aZ _;have k1:¬(aD "look"=aD "width"):=by decide +kernel
 have k2:¬(aD "look"=aD "worths"):=by decide +kernel
 have k3:¬(aD "look"=aD "standing"):=by decide +kernel
 have i:¬(aD "look"=aD "asked"):=by decide +kernel
 have k5:¬(aD "width"=aD "worths"):=by decide +kernel
 have g:¬(aD "width"=aD "standing"):=by decide +kernel
 have f:¬(aD "width"=aD "asked"):=by decide +kernel
 have d:¬(aD "worths"=aD "standing"):=by decide +kernel
 have c:¬(aD "worths"=aD "asked"):=by decide +kernel
 have a:¬(aD "standing"=aD "asked"):=by decide +kernel
 unfold vp;simp only [qt,aG,bV,ao,aV,Nat.reduceAdd,Nat.reduceSub,aS,fX,cB];refine (qB (ρ1:=[iI (.ins (ca "Book") []),iI (Wd ws),iI lk,iI (.int r),iI t,iI (.tup (ks.map D.int)),iK,iK]) (by simp [h])).trans ?_;refine (qB (ρ1:=[iI (.ins (ca "Book") []),iI (Wd ws),iI lk,iI (.int r),iI t,iI (.tup (ks.map D.int)),iK,iK]) (by simp [e1,hl])).trans ?_;refine (qB (ρ1:=[iI (.ins (ca "Book") [("look",lk)]),iI (Wd ws),iI lk,iI (.int r),iI t,iI (.tup (ks.map D.int)),iK,iK]) (by simp [zv])).trans ?_;refine (qB (ρ1:=[iI (.ins (ca "Book") [("look",lk),("width",.int r)]),iI (Wd ws),iI lk,iI (.int r),iI t,iI (.tup (ks.map D.int)),iK,iK]) (by simp [zv,k1])).trans ?_;refine (qB (ρ1:=[iI (.ins (ca "Book") [("look",lk),("width",.int r),("worths",t)]),iI (Wd ws),iI lk,iI (.int r),iI t,iI (.tup (ks.map D.int)),iK,iK]) (by simp [zv,k2,k5])).trans ?_;have m:qiJ (.lst [.non]) (.int r)=.ok (.lst (aS r.toNat .non)):=by
  have:(0<=r/\r<=100000)/\1 * r.toNat<=1000000:=by lia
  simp only [qiJ,ao,aV,Nat.zero_add,Aa this];congr 2
  induction r.toNat with
  | zero=>rfl
  | succ n j=>rw [bP,cR,j,bP]; rfl
 have z:qeD (ws.map D.str) (ks.map D.int)=(ws.zip ks).map λe=>.tup [.str e.1,.int e.2]:=by unfold qeD;rw [List.zipWith_map,fg,List.map_zipWith]
 obtain ⟨x,y,l⟩:=qcz iK (iI (Wd ws)) (iI lk) (iI (.int r)) (iI t) (iI (.tup (ks.map D.int))) (ws.zip ks) (aS r.toNat .non) iK iK λe p=>by
  have:=s e.2 (fh p).2;rw [dD]
  lia
 rw [qej (ds:=aS r.toNat .non) (items:=(ws.zip ks).map λe=>.tup [.str e.1,.int e.2]) (ρ1:=[iI (.ins (ca "Book") [("look",lk),("width",.int r),("worths",t)]),iI (Wd ws),iI lk,iI (.int r),iI t,iI (.tup (ks.map D.int)),iK,iK])
  (fs:=[("look",lk),("width",.int r),("worths",t)]) (by simp [z1,m]) rfl (by simp) (by simp [qk4,xH,z]) l]
 simp [zv,k1,k2,k3,i,k5,g,f,d,c,a,b]
variable {ca:Str->Addr} {sd:List D}
theorem qcA {r:D}:wG ca [.ins (ca "Book") (bkF lk r t sd)]=.ok (.lst sd,[.non]):=by
 refine qu.trans ?_;have k1:((aD "standing") == (aD "look"))=false:=by decide +kernel
 have k2:((aD "standing") == (aD "width"))=false:=by decide +kernel
 have k3:((aD "standing") == (aD "worths"))=false:=by decide +kernel
 simp [wF,qt,qlm,dh,k1,k2,k3,Wr]
def qlM (ca:Str->Addr):Prop:=∀ x∈CS,∀ y∈CS,ca x=ca y->x=y
theorem qjW (x y:Lk):eqN 7 (LD x) (LD y)=iI (decide (x=y)):=by obtain ⟨a,b⟩:=x;obtain ⟨c,d⟩:=y;by_cases h:a=c <;> by_cases h2:b=d <;> simp [eqN,uY,eqS,h,h2]
theorem qcB (x:Lk):∀ l:List Lk,Qt 7 (LD x) (l.map LD)=iI (decide (x∈l))
 | []=>by simp [Qt]
 | y::l=>by
  have j:=qcB x l;rw [aG,Qt,qjW,j];by_cases h:y=x;·subst h; simp
  ·have f:¬x=y:=λz=>h z.symm;simp [h,f]
theorem qlN {x:Lk} {l:List Lk} (h:x∈l):inA (LD x) (.lst (l.map LD))=.ok (.bl iM):=by show (inD (LD x) (.lst (l.map LD))).bind (λb=>Out.ok (D.bl b))=_;unfold inD;simp only [qcB,Ad h];rfl
theorem qcC:∀ (l ks:List Int),(ks++l).Nodup->l.foldl qga ks=ks++l
 | [],ks,_=>by simp
 | x::l,ks,h=>by have hx:x∉ks:=λz=>(bR.mp h).2.2 x z x (aj ..) rfl;rw [bW,show qga ks x=ks++[x] by simp [qga,hx],qcC l (ks++[x]) (by simpa using h)];simp
noncomputable def VI (n:Nat):List Int:=(aN n).map λ(j:Nat)=>(j:Int)
theorem qjX (n:Nat):(VI n).Nodup:=eY.map _ λa b h e=>h (by lia)
theorem qjY:vy n (n:Int) (VI n):=⟨by simp [VI],λy C=>by
 obtain ⟨j,G,rfl⟩:=af.mp C;have:=aX.mp G
 lia⟩
theorem Uy:∀ (ws:List Str) (A:List D) (k:Nat),A.length=k->GH (A++aS ws.length .non) (ws.zip ((List.range' k ws.length).map λ(j:Nat)=>(j:Int)))=A++ws.map D.str
 | [],A,k,_=>by simp [GH]
 | w::ws,A,k,h=>by subst h;have i:=Uy ws (A++[.str w]) (A.length+1) (by simp);rw [ao,List.range'_succ,aG,List.zip_cons_cons];show GH ((A++aS (ws.length+1) D.non).set (A.length:Int).toNat (.str w)) _=_;rw [dJ,bP,List.set_append_right _ _ (ay _),eS,List.set_cons_zero];simpa using i
theorem qcD (ws:List Str):GH (aS ws.length .non) (ws.zip (VI ws.length))=ws.map D.str:=by have:=Uy ws [] 0 rfl;rw [<-List.range_eq_range'] at this;simpa [VI] using this
theorem qek (w:jP ws) (hl:UD p q) (b:1<=r) (g:r<=99) {l:Ln} (k:qL l=LS (qy ws p q)) (v:∀ e∈l,0<=e.2/\e.2 < r):vY [Wd ws,Ld p q,.int r,.tup (prL l)]=.ok (nD (yl l (qy ws p q) r),[.non,.non,.non,.non]):=by
 have o:OkW r l:=λx hx=>by obtain ⟨c,a,e⟩:=qja w p q x.1 (by rw [<-k]; exact af.mpr ⟨x,hx,rfl⟩);have:=v x hx;exact ⟨by rw [e]; exact qeL a,this.1,this.2⟩
 have h:YS l=true:=by unfold YS;rw [Zn];refine YV _ ?_;rw [k];exact (jg _).and (qcb _)
 have hb:Js 1 99 (.int r)=true:=by
  simp [Js]
  lia
 have n:l.length<=12:=by
  have h1:=qeM w p q;have e:l.length=(LS (qy ws p q)).length:=by rw [<-k]; simp [qL]
  lia
 have hi:=(Us (ds:=prL l) (λd hd=>by
  obtain ⟨x,_,rfl⟩:=af.mp hd;refine ⟨trivial,λxs e y C=>?_⟩;cases e;rcases ac.mp C with rfl | C;·trivial
  ·rw [aw.mp C];trivial) (by simp [prL]; lia) r).2 l rfl o
 rw [h] at hi;rw [YW w hl hb o h hi,Aa (by rw [aI];intro x hx;rw [k];exact Ad hx)];unfold qku yl nD;rw [bo];rfl
theorem qjZ {l:Ln} (n:1<=seen.length) (h:yl l seen seen.length=VI seen.length):OKs seen.length [] seen:=by
 refine ⟨ju l,λx hx=>by simp [ko] at hx,?_⟩;have key:∀ i (hi:i < seen.length),nu (ju l) seen[i] % (seen.length:Int)=(i:Int):=λi hi=>by have e:=congrArg (λz=>z[i]?) h;simp only [yl,VI,aH,fm hi,aA hi,Option.map_some] at e;exact aL.inj e
 refine List.pairwise_iff_getElem.mpr λi j hi G a z=>?_;have k1:=key i hi;have k2:=key j G;have:=cx.mpr (b6 z);rw [k1,k2] at this
 lia
theorem qhg (h:n<=6):vJ (.int n)=.ok (nD (VI n)):=by
 match n,h with
 | 0,_=>kernel_rfl
 | 1,_=>kernel_rfl
 | 2,_=>kernel_rfl
 | 3,_=>kernel_rfl
 | 4,_=>kernel_rfl
 | 5,_=>kernel_rfl
 | 6,_=>kernel_rfl
theorem qcE {r:D}:((bkF lk r t sd).lookup (aD "places")).isNone=true:=by
 have k1:((aD "places") == (aD "look"))=false:=by decide +kernel
 have k2:((aD "places") == (aD "width"))=false:=by decide +kernel
 have k3:((aD "places") == (aD "worths"))=false:=by decide +kernel
 have i:((aD "places") == (aD "standing"))=false:=by decide +kernel
 have k5:((aD "places") == (aD "asked"))=false:=by decide +kernel
 simp [dh,k1,k2,k3,i,k5]
theorem qlO (M:Int):gtD (.int M) (.int 0)=.ok (.bl (decide (0 < M))):=rfl
theorem qj0 (o:Option Ci):qhj (match o with | some w=>cd w | none=>.non) .non=.ok (.bl (decide (o=iK))):=by cases o <;> rfl
theorem YZ {w Z n N B:D} {fr:Bool} (h:kL [w,lk]=.ok (Z,[.non,.non])) (s:jW Z=.ok n) (g:vJ n=.ok N) (hb:qbA [w,lk,n,N]=.ok (B,[.non,.non,.non,.non])) (hi:qhj B .non=.ok (.bl fr)):zI [w,lk]=.ok (.bl fr,[.non,.non]):=by refine qu.trans ?_;simp [Kj,qt,h,s,g,hb,hi]
abbrev GF:=jC
noncomputable def FL (ca:Str->Addr) (lk wd hm io bi wa bp lo:GF):qS:=(qM (jv 1 (xD qA))
  (qM (jv 2 (qp [.vl,.sl 1] lk (qd (qe 0) (wj qA))))
  (qM (jv 3 (qp [.vl,.sl 1,.vl] wd (qd (qe 0) (wj (qd (dC (.int 6)) qA)))))
  (qM (jv 4 (d1 vJ (d1 jW (qe 3))))
  (qM (jv 5 (qp [.vl,.vl,.vl,.vl] hm (qd (qe 3) (qd (qe 2) (qd (d1 jW (qe 3)) (qd (qe 4) qA))))))
  (qM (sIf (qV (d2 neD (qp [.vl,.vl] io (qd (qe 3) (qd (qe 2) qA))) (d2 gtD (qe 5) (dC (.int 0))))) (jx (dC (.bl iN))) jm)
  (qM (sIf (qV (d2 eqD (qe 5) (dC (.int 0)))) (jx (dC (.bl iM))) jm)
  (qM (jv 6 (qa8 (ca "Book") bi (qd (qe 3) (qd (qe 2) (qd (d1 jW (qe 3)) (qd (qp [.vl,.vl,.vl,.vl,.vl] wa (qd (qe 3) (qd (qe 2) (qd (d1 jW (qe 3)) (qd (qe 4) (qd (d2 yD (qe 5) (dC (.int 2))) qA)))))) qA))))))
  (jx (Jv (d2 eqD (XO (ca "Book") "places" bp (qe 6)) (d1 Wr (qe 3))) (d2 inA (qe 2) (qp [.vl] lo (qd (qe 3) qA)))))))))))))
variable {ca:Str->Addr} {lk wd hm io bi wa bp lo:GF} {S L W N:D} {t1 t2:List D} {n M:Int} {fr:Bool}
theorem qj1 (g1:lk [S,.lst []]=.ok (L,[.non,.lst t1])) (U:wd [S,.lst t1,.int 6]=.ok (W,[.non,.lst t2,.non])) (h:jW W=.ok (.int n)) (g:vJ (.int n)=.ok N)
  (b:hm [W,L,.int n,N]=.ok (.int 0,[.non,.non,.non,.non])) (o:io [W,L]=.ok (.bl iN,[.non,.non])):jJ qdY [.val] (FL ca lk wd hm io bi wa bp lo) [S]=.ok (.bl iM,[.non]):=by
 refine qu.trans ?_;have y:neD (.bl iN) (.bl iN)=.ok (.bl iN):=rfl;have t:gtD (.int 0) (.int 0)=.ok (.bl iN):=rfl;have e0:eqD (.int 0) (.int 0)=.ok (.bl iM):=rfl;simp [FL,qt,g1,U,h,g,b,o,t,y,e0]
theorem qhh {m:Int} {T a f:D} {fs:List (Str×D)} {o:List D} (g1:lk [S,.lst []]=.ok (L,[.non,.lst t1])) (U:wd [S,.lst t1,.int 6]=.ok (W,[.non,.lst t2,.non])) (h:jW W=.ok (.int n)) (g:vJ (.int n)=.ok N)
  (i:hm [W,L,.int n,N]=.ok (.int M,[.non,.non,.non,.non])) (R:0 < M) (b:io [W,L]=.ok (.bl iM,[.non,.non])) (v:yD (.int M) (.int 2)=.ok (.int m))
  (e:wa [W,L,.int n,N,.int m]=.ok (T,[.non,.non,.non,.non,.non])) (r:bi [.ins (ca "Book") [],W,L,.int n,T]=.ok (.non,.ins (ca "Book") fs::o)) (t:(fs.lookup (aD "places")).isNone=iM)
  (l:bp [.ins (ca "Book") fs]=.ok (a,[.non])) (d:Wr W=.ok a) (u:eqD a a=.ok (.bl iM)) (k:lo [W]=.ok (f,[.non])) (hi:inA L f=.ok (.bl iM)) :
  jJ qdY [.val] (FL ca lk wd hm io bi wa bp lo) [S]=.ok (.bl iM,[.non]):=by
 refine qu.trans ?_;have y:neD (.bl iM) (.bl iM)=.ok (.bl iN):=rfl;have c:gtD (.int M) (.int 0)=.ok (.bl iM):=by rw [qlO,Ad R]
 have e0:eqD (.int M) (.int 0)=.ok (.bl iN):=by
  have:¬M=0:=by lia
  simp [eqD,eqN,eqS,this]
 simp [FL,qt,g1,U,h,g,i,b,c,y,e0,v,e,qa8,r,XO,t,l,d,u,k,hi]
theorem qj2 (K:qlM ca) (b:List Int):qdZ ca [scr b]=.ok (.bl iM,[.non]):=by
 obtain ⟨p,q,t1,hl,y,g1⟩:=qgE b [] (by simp);obtain ⟨ws,t2,w,_,H,U⟩:=qd1 b t1 (by simp at y; lia);have O:=w.2.1;have h1:=w.1;have E:(qy ws p q).length=ws.length:=by simp [qy]
 have d:(1:Int)<=ws.length:=by lia
 have e:(ws.length:Int)<=99:=by lia
 obtain ⟨W,S⟩:=qlx w p q;have m:vy ws.length ws.length (VI ws.length):=qjY;have I:vy (qy ws p q).length ws.length (VI ws.length):=by rw [E]; exact m
 obtain ⟨Q,c2⟩:=count S d I;have v:=Jq w hl d e m S;have hb:=qeR w hl d e m S;have n:jW (Wd ws)=.ok (.int ws.length):=by simp
 have g:vJ (.int ws.length)=.ok (nD (VI ws.length)):=qhg (by lia);have s:=Qi w hl;have f:jW (sD (qy ws p q))=.ok (.int ws.length):=by simp [qv,E]
 have h:=YZ s f g hb (qj0 _);generalize D:decide (BO W (qy ws p q) ws.length (VI ws.length)=iK)=fr at h;cases fr with
 | false=>
  have G:HM W (qy ws p q) ws.length (VI ws.length)=0:=by
   have:¬_:=λz=>of_decide_eq_false D (c2.mpr z)
   lia
  rw [G] at v;exact qj1 g1 U n g v h
 | true=>
  have C:=c2.mp (Ae D);have R:0 < HM W (qy ws p q) ws.length (VI ws.length):=by lia
  obtain ⟨l,i,A⟩:=qlG w hl d e m S (a:=(HM W (qy ws p q) ws.length (VI ws.length) / 2).toNat) (by lia);obtain ⟨m1,B⟩:=br.mp (bg i);have u:=qek w hl d e ((VC d).mp m1).1 ((VC d).mp m1).2;rw [Ae B] at u;obtain ⟨o,r⟩:=qhf (ca:=ca) (lk:=Ld p q) (t:=.tup (prL l)) ⟨d,e⟩ (by rw [m.1]; lia) (λk J=>m.2 k J) u (by unfold qjV;rw [qcC _ [] (by simpa using qjX _)];simp);rw [dJ,qcD] at r;obtain ⟨P,j,N⟩:=qei w;have hok:P (p,q)=true:=N (p,q) (by have:=qjZ (l:=l) (seen:=qy ws p q) (by lia) (by rw [E]; exact Ae B);rw [E] at this;exact this);have hi:=qlN (br.mpr ⟨qe6.mpr hl,hok⟩:(p,q)∈LK.filter P);have c:=Zl ws ws;rw [Ad rfl] at c;have x:yD (.int (HM W (qy ws p q) ws.length (VI ws.length))) (.int 2)=.ok (.int ((HM W (qy ws p q) ws.length (VI ws.length) / 2).toNat:Nat)):=by
   generalize HM W (qy ws p q) ws.length (VI ws.length)=M at *;have L:qfg M 2:=⟨by lia,by lia⟩
   have:((M / 2).toNat:Int)=M / 2:=by lia
   rw [this];simp [yD,uc,L]
  exact qhh g1 U n g v R h x A r qcE qcA rfl c j hi
end Kx
namespace Kx
open PySem PySem.Spec PyProof.Rows L2 L2.D2
variable {us:List iL} {P:List iL->Prop}
theorem qmg (hl:us.length=0) (h:P []):P us:=List.length_eq_zero_iff.mp hl ▸ h
theorem qj3 {n:Nat} (hl:us.length=n+1):∃ a l,us=a::l/\l.length=n:=by
 cases us with
 | nil=>cases hl
 | cons a l=>exact ⟨a,l,rfl,Nat.succ.inj hl⟩
theorem qlP (hl:us.length=1) (h:∀ a,P [a]):P us:=by obtain ⟨a,l,rfl,e⟩:=qj3 hl;exact qmg (P:=λl=>P (a::l)) e (h a)
theorem qmh (hl:us.length=2) (h:∀ a b,P [a,b]):P us:=by obtain ⟨a,l,rfl,e⟩:=qj3 hl;exact qlP (P:=λl=>P (a::l)) e (h a)
theorem qmi (hl:us.length=3) (h:∀ a b c,P [a,b,c]):P us:=by obtain ⟨a,l,rfl,e⟩:=qj3 hl;exact qmh (P:=λl=>P (a::l)) e (h a)
theorem qmj (hl:us.length=4) (h:∀ a b c d,P [a,b,c,d]):P us:=by obtain ⟨a,l,rfl,e⟩:=qj3 hl;exact qmi (P:=λl=>P (a::l)) e (h a)
theorem qmk (hl:us.length=5) (h:∀ a b c d e,P [a,b,c,d,e]):P us:=by obtain ⟨a,l,rfl,e⟩:=qj3 hl;exact qmj (P:=λl=>P (a::l)) e (h a)
variable {K:Frag} {h:Heap} {mg:Str->Option iL}
theorem qhi (X:K.In h) (G:h.Ns iT mg) {x:Str} {st:Stmt} {ps:List Str} {f:Addr} {oc:iL} {od an:Option Addr} {osl:Array (Option iL)} {kV doc pm cdv ct:iL}
  (a:nsIn K iT x=iI (iI (.ref f))) (l:K.lookup f=iI ⟨oc,od,.func (cr x x (wf st) (kb st) (qG st) .none kV doc pm an cdv ct),osl⟩) (c:codeIn K cdv x=iM) (k:l9 K (.ref f)=iM)
  (hb:∀ (kV doc pm:iL) (an:Option Addr) (cdv ct:iL) (us:List iL),us.length=ps.length->lL (cr x x (wf st) (kb st) (qG st) .none kV doc pm an cdv ct) ⟨us,[]⟩=pure (ps.zip us)):kf K mg x st ps:=
 ⟨f,_,Qq l c k,mz X G a,(Qq l c k).binds hb⟩
variable {x:Str}
theorem qcF {l:List Str} {f:Str->Addr} (nd:(l.map f).Nodup) {y:Str} (hx:x∈l) (C:y∈l) (e:f x=f y):x=y:=by obtain ⟨i,hi,rfl⟩:=dR.mp hx;obtain ⟨j,G,rfl⟩:=dR.mp C;have q:=(fS (h₀:=by simpa using hi) (h₁:=by simpa using G) nd).mp (show (l.map f)[i]'(by simpa using hi)=(l.map f)[j]'(by simpa using G) by simpa using e);subst q;rfl
noncomputable def caT (T:List (Str×Addr)) (x:Str):Addr:=(T.lookup x).getD 0
noncomputable def qel (K:Frag) (Cs:List Addr) (W:Addr):Bool:=decide Cs.Nodup&&Cs.all λc=>xcB K c&&decide (fC K (.ref c) (.ref W)=iI iM)&&decide (cH K (.ref c) (.type "ValueError")=iI iM)&&d9 K c bmV "ValueError.__new__"&&Cs.all λd=>decide (cH K (.ref c) (.ref d)=iI (decide (c=d)))
theorem qem {Cs:List Addr} {W:Addr} (h:qel K Cs W=iM):Cs.Nodup/\∀ c∈Cs,xcB K c=iM/\fC K (.ref c) (.ref W)=iI iM/\cH K (.ref c) (.type "ValueError")=iI iM/\d9 K c bmV "ValueError.__new__"=iM/\∀ d∈Cs,cH K (.ref c) (.ref d)=iI (decide (c=d)):=by unfold qel at h;rw [aR,aI] at h;refine ⟨Ae h.1,λc a=>?_⟩;have q:=h.2 c a;simp only [aR,decide_eq_true_eq,aI] at q;exact ⟨q.1.1.1.1,q.1.1.1.2,q.1.1.2,q.1.2,q.2⟩
noncomputable def ZS:List Str:=["all", "bool", "dict", "enumerate", "int", "isinstance", "len", "list", "max", "min", "range", "reversed", "set", "sorted", "str", "sum", "tuple", "zip"]
noncomputable def zsB (K:Frag):Bool:=ZS.all λx=>decide (nsIn K iT x=iI iK)
theorem ub (h:zsB K=iM) (x:Str) (hx:x∈ZS:=by decide +kernel):nsIn K iT x=iI none:=Ae (aI.mp h x hx)
theorem qj4 {c:Str} (h:c∈CS):c = "NoWords"\/c = "NoLook"\/c = "NoNumbers"\/c = "NoRoom"\/c = "NoWorths"\/c = "Never"\/c = "NoPlace":=by simpa [CS] using h
theorem qlQ (X:K.In h) (G:h.Ns iT mg) {CW C n m l k j i g:Addr}  {E t a M S:Tok}
    (aW:nsIn K iT "WordError"=iI (iI (.ref CW)))
    (a0:nsIn K iT "NoWords"=iI (iI (.ref n)))
    (F:nsIn K iT "NoLook"=iI (iI (.ref m)))
    (Z:nsIn K iT "NoNumbers"=iI (iI (.ref l)))
    (Y:nsIn K iT "NoRoom"=iI (iI (.ref k)))
    (V:nsIn K iT "NoWorths"=iI (iI (.ref j)))
    (U:nsIn K iT "Never"=iI (iI (.ref i)))
    (R:nsIn K iT "NoPlace"=iI (iI (.ref g)))
    (z:zsB K=iM)
    (c_LEAST_PLACE:nsIn K iT "LEAST_PLACE"=iI (iI (.int (-3) E)))
    (c_MOST_LETTERS:nsIn K iT "MOST_LETTERS"=iI (iI (.int 6 t)))
    (c_MOST_PLACE:nsIn K iT "MOST_PLACE"=iI (iI (.int 2 a)))
    (c_MOST_ROOM:nsIn K iT "MOST_ROOM"=iI (iI (.int 99 M)))
    (c_MOST_WORDS:nsIn K iT "MOST_WORDS"=iI (iI (.int 6 S)))
    (ex:qel K [n,m,l,k,j,i,g] CW=iM)
    (Q:nsIn K iT "Book"=iI (iI (.ref C)))
    (P:c8 K C iA=iM)
    (O:dI K C=iM)
    (N:eL K C=iM)
    (L:aP K (.ref C) "__setattr__"=iI (iI (.builtin "object.__setattr__")))
    (I:aP K (.ref C) "look"=iI iK)
    (n1:aP K (.ref C) "width"=iI iK)
    (n2:aP K (.ref C) "worths"=iI iK)
    (H:aP K (.ref C) "standing"=iI iK)
    (A:aP K (.ref C) "asked"=iI iK)
     :
    Zt K mg (λx=>.ref (caT [("WordError",CW),("NoWords",n),("NoLook",m),("NoNumbers",l),("NoRoom",k),("NoWorths",j),("Never",i),("NoPlace",g),("Book",C)] x)) (caT [("WordError",CW),("NoWords",n),("NoLook",m),("NoNumbers",l),("NoRoom",k),("NoWorths",j),("Never",i),("NoPlace",g),("Book",C)])/\qlM (caT [("WordError",CW),("NoWords",n),("NoLook",m),("NoNumbers",l),("NoRoom",k),("NoWorths",j),("Never",i),("NoPlace",g),("Book",C)])/\caT [("WordError",CW),("NoWords",n),("NoLook",m),("NoNumbers",l),("NoRoom",k),("NoWorths",j),("Never",i),("NoPlace",g),("Book",C)] "Book"=C:=by
  obtain ⟨nd,p⟩:=qem ex;generalize o:([("WordError",CW),("NoWords",n),("NoLook",m),("NoNumbers",l),("NoRoom",k),("NoWorths",j),("Never",i),("NoPlace",g),("Book",C)]:List (Str×Addr))=T;have W:caT T "WordError"=CW:=by subst o; kernel_rfl
  have B:caT T "Book"=C:=by subst o; kernel_rfl
  have e0:caT T "NoWords"=n:=by subst o; kernel_rfl
  have e1:caT T "NoLook"=m:=by subst o; kernel_rfl
  have w:caT T "NoNumbers"=l:=by subst o; kernel_rfl
  have D:caT T "NoRoom"=k:=by subst o; kernel_rfl
  have v:caT T "NoWorths"=j:=by subst o; kernel_rfl
  have u:caT T "Never"=i:=by subst o; kernel_rfl
  have s:caT T "NoPlace"=g:=by subst o; kernel_rfl
  have hm:CS.map (caT T)=[n,m,l,k,j,i,g]:=by unfold CS;simp only [aG,bV,e0,e1,w,D,v,u,s]
  have r:∀ c∈CS,caT T c∈[n,m,l,k,j,i,g]:=λc b=>hm ▸ af.mpr ⟨c,b,rfl⟩;refine ⟨⟨⟨λc b=>rfl,λc b=>?_,λc b=>(p _ (r c b)).1,λc b d hd=>(p _ (r c b)).2.2.2.2 _ (r d hd),λc b=>(p _ (r c b)).2.2.1⟩,λc b=>?_,λc b=>(p _ (r c b)).2.2.2.1,λx hx=>absurd hx (by simp [FS]),i9 X G (ub z "all"),i9 X G (ub z "bool"),i9 X G (ub z "dict"),i9 X G (ub z "enumerate"),i9 X G (ub z "int"),i9 X G (ub z "isinstance"),i9 X G (ub z "len"),i9 X G (ub z "list"),i9 X G (ub z "max"),i9 X G (ub z "min"),i9 X G (ub z "range"),i9 X G (ub z "reversed"),i9 X G (ub z "set"),i9 X G (ub z "sorted"),i9 X G (ub z "str"),i9 X G (ub z "sum"),i9 X G (ub z "tuple"),i9 X G (ub z "zip"),⟨_,mz X G c_LEAST_PLACE⟩,⟨_,mz X G c_MOST_LETTERS⟩,⟨_,mz X G c_MOST_PLACE⟩,⟨_,mz X G c_MOST_ROOM⟩,⟨_,mz X G c_MOST_WORDS⟩,?mB,?bC,?bN⟩,?cO,B⟩
  case mB=>rw [B]; exact mz X G Q
  case bC=>rw [B]; exact ⟨P,O,N,L⟩
  case bN=>
    rw [B];intro f q;have q:f = "look"\/f = "width"\/f = "worths"\/f = "standing"\/f = "asked":=by simpa using q
    rcases q with rfl | rfl | rfl | rfl | rfl;· exact I
    · exact n1
    · exact n2
    · exact H
    · exact A
  · show fC K (.ref (caT T c)) (.ref (caT T "WordError"))=iI iM;rw [W];exact (p _ (r c b)).2.1
  · rcases qj4 b with rfl | rfl | rfl | rfl | rfl | rfl | rfl;· rw [e0]; exact mz X G a0
    · rw [e1]; exact mz X G F
    · rw [w]; exact mz X G Z
    · rw [D]; exact mz X G Y
    · rw [v]; exact mz X G V
    · rw [u]; exact mz X G U
    · rw [s]; exact mz X G R
  case cO=>
    intro x hx y J e;rw [<-hm] at nd;exact qcF nd hx J e
structure Tx (K:Frag) (mg:Str->Option iL) (ca:Str->Addr):Prop where
 x_is_letter:kf K mg "is_letter" yN ["thing"]
 x_is_word:kf K mg "is_word" QQ ["thing"]
 x_is_words:kf K mg "is_words" zx ["thing"]
 x_check_words:kf K mg "check_words" wp ["thing"]
 x_all_looks:kf K mg "all_looks" yO []
 x_is_between:kf K mg "is_between" um uo
 x_is_look:kf K mg "is_look" QS ["thing"]
 x_check_look:kf K mg "check_look" ur ["thing"]
 x_letter_at:kf K mg "letter_at" yP yQ
 x_pairs:kf K mg "pairs" Yo Yp
 x_letters_of:kf K mg "letters_of" uu ["seen"]
 x_is_loose:kf K mg "is_loose" zA zB
 x_bound_pairs:kf K mg "bound_pairs" wt wu
 x_unshared:kf K mg "unshared" zC zD
 x_contrasts_of:kf K mg "contrasts_of" vL ["seen"]
 x_may_differ:kf K mg "may_differ" ux uy
 x_with_worth:kf K mg "with_worth" uz uA
 x_can_be_filled:kf K mg "can_be_filled" jG jI
 x_can_differ:kf K mg "can_differ" uC uD
 x_looks:kf K mg "looks" Ys ["words"]
 x_check_room:kf K mg "check_room" uF ["thing"]
 x_is_numbers:kf K mg "is_numbers" uG uH
 x_check_numbers:kf K mg "check_numbers" vk vm
 x_told_pairs:kf K mg "told_pairs" uK uL
 x_is_odd:kf K mg "is_odd" Ve ["walk"]
 x_comes_to:kf K mg "comes_to" zE zF
 x_bars:kf K mg "bars" qbu qbv
 x_other_letter:kf K mg "other_letter" vN vP
 x_spread:kf K mg "spread" Vg Vh
 x_ways_of:kf K mg "ways_of" QZ ["seen"]
 x_circles_of:kf K mg "circles_of" uO uP
 x_first_odd:kf K mg "first_odd" yS ["circles"]
 x_bar_of:kf K mg "bar_of" Vj Vk
 x_bar:kf K mg "bar" qgt qgu
 x_in_order:kf K mg "in_order" zG zH
 x_Book_places:qgc K (ca "Book") "places" "Book.places" jM ["self"]
 x_is_worth:kf K mg "is_worth" zJ zK
 x_is_worths:kf K mg "is_worths" yT yU
 x_check_worths:kf K mg "check_worths" vQ vR
 x_within:kf K mg "within" Vm Vn
 x_numbered:kf K mg "numbered" zL zM
 x_Book___init__:qgd K (ca "Book") "Book.__init__" jA vo
 x_half:kf K mg "half" qbD qbE
 x_root_worths:kf K mg "root_worths" wH wI
 x_roots_of:kf K mg "roots_of" zO zQ
 x_how_many:kf K mg "how_many" zR zS
 x_worths_from:kf K mg "worths_from" wJ wK
 x_starts_at:kf K mg "starts_at" yY yZ
 x_worths_at:kf K mg "worths_at" xb xc
 x_Lcell_at:kf K mg "_law_cell_at" zU vT
 x_Lmixed:kf K mg "_law_mixed" Vp uT
 x_Ldraw:kf K mg "_law_draw" YE xg
 x_Lpick:kf K mg "_law_pick" YF xi
 x_Lword:kf K mg "_law_word" YG xj
 x_Lwords:kf K mg "_law_words" Vt uU
 x_Llook:kf K mg "_law_look" YH xl
variable {ca:Str->Addr}
theorem qj5 {e0:Ev} {f:Addr} {fd:lH} (Z:ZtE e0 ca) (T:Tx e0.K e0.mg ca) (F:Fun e0.K "law" "law" qbN f fd):FnOk e0.P e0.w e0.K e0.mg e0.base (CXk e0.P e0.w) 19 f fd ["_law_script"] (spD e0.K e0.cv [.val] .sh (qdZ ca)):=by have r:=WP Z T.x_is_letter ;have X:=Go Z T.x_is_word r;have R:=Yk Z T.x_is_words X;have c:=JC Z T.x_check_words R;have M:=WR Z T.x_all_looks ;have o:=KS Z T.x_is_between ;have Y:=Gq Z T.x_is_look o;have E:=KU Z T.x_check_look Y;have J:=WV Z T.x_letter_at ;have s:=qdO Z T.x_pairs c E J;have a:=KW Z T.x_letters_of ;have S:=Yq Z T.x_is_loose ;have x:=JD Z T.x_bound_pairs S;have N:=Yr Z T.x_unshared ;have q:=QW Z T.x_contrasts_of N;have C:=KY Z T.x_may_differ ;have A:=KZ Z T.x_with_worth ;have k:=gS Z T.x_can_be_filled C A;have G:=Va Z T.x_can_differ a x q k;have o_looks:=qdP Z T.x_looks c M s G;have m:=Vb Z T.x_check_room o;have D:=Vc Z T.x_is_numbers o;have j:=gT Z T.x_check_numbers D;have B:=Vd Z T.x_told_pairs m j s;have i:=qbt Z T.x_is_odd ;have b:=Yu Z T.x_comes_to ;have o_bars:=qgs Z T.x_bars b i;have p:=QY Z T.x_other_letter ;have o_spread:=qby Z T.x_spread p;have e:=Gs Z T.x_ways_of a o_spread;have d:=Vi Z T.x_circles_of ;have g:=Ue Z T.x_first_odd i;have o_bar_of:=qbz Z T.x_bar_of i o_bars e d g;have o_bar:=qi2 Z T.x_bar B o_bar_of;have U:=Yv Z T.x_in_order s o_bar;have z:=JH Z T.x_Book_places ;have Q:=Yw Z T.x_is_worth o r;have L:=Ug Z T.x_is_worths Q;have t:=Je Z T.x_check_worths L;have o_within:=qbC Z T.x_within ;have O:=Yy Z T.x_numbered m t s a o_within;have l:=gW Z T.x_Book___init__ O;have o_half:=qgv Z T.x_half ;have v:=JJ Z T.x_root_worths b o_half;have n:=Yz Z T.x_roots_of e d g v;have y:=YA Z T.x_how_many s o_bar n;have u:=JK Z T.x_worths_from b e;have I:=Ui Z T.x_starts_at ;have H:=Uj Z T.x_worths_at o s n u y I;have W:=YD Z T.x_Lcell_at ;have o_Lmixed:=qbH Z T.x_Lmixed W;have h:=qdT Z T.x_Ldraw o_Lmixed;have V:=qdU Z T.x_Lpick h;have o_Lword:=qdV Z T.x_Lword h V;have o_Lwords:=qbL Z T.x_Lwords h V o_Lword;have o_Llook:=qdX Z T.x_Llook h;exact qi7 Z F o_looks U l z y H o_Lwords o_Llook
def qen (K:Frag):Sp:=λvs H Q _=>∃ (a:Addr) (ns:List Int),vs=[.ref a]/\SqL K H a (ns.map V.int)/\∀ H',Q (.bl iM) H'
theorem Zy {F:Hp}:∀ ns:List Int,IsL K F (ns.map V.int) (ns.map D.int)
 | []=>.nil
 | n::ns=>.cons (.int n) (Zy ns)
theorem qlR {cv:Str->iL} (h:qlM ca) (vs:List V) (H:Hp) (Q:VK) (E:XK) (q:qen K vs H Q E):spD K cv [.val] .sh (qdZ ca) vs H Q E:=by obtain ⟨a,ns,rfl,c,hq⟩:=q;refine ⟨H,[scr ns],Same.refl _,⟨.lst c (Zy ns),trivial⟩,cJ,?_⟩;rw [qj2 h ns];intro v F' H' k g p o;have o:Is K F' v (.bl iM):=o;cases o;exact hq H'
abbrev NsX (K:Frag) (x:Str) (f:Addr):Prop:=nsIn K iT x=iI (iI (.ref f))
abbrev CdX (K:Frag) (v:iL) (x:Str):Prop:=codeIn K v x=iM
abbrev KpX (K:Frag) (f:Addr):Prop:=l9 K (.ref f)=iM
abbrev LkX (K:Frag) (x:Str) (st:Stmt) (f:Addr) (oc:iL) (od an:Option Addr) (sl:Array (Option iL)) (kV d pm cd ct:iL):Prop:=K.lookup f=iI ⟨oc,od,.func (cr x x (wf st) (kb st) (qG st) .none kV d pm an cd ct),sl⟩
def Dx (K:Frag) (x:Str) (st:Stmt):Prop:=∃ (f:Addr) (oc:iL) (od an:Option Addr) (sl:Array (Option iL)) (kV d pm cd ct:iL),NsX K x f/\LkX K x st f oc od an sl kV d pm cd ct/\CdX K cd x/\KpX K f
theorem qW (X:K.In h) (G:h.Ns iT mg) {st:Stmt} {ps:List Str} (q:Dx K x st) (hb:∀ (kV doc pm:iL) (an:Option Addr) (cdv ct:iL) (us:List iL),us.length=ps.length->lL (cr x x (wf st) (kb st) (qG st) .none kV doc pm an cdv ct) ⟨us,[]⟩=pure (ps.zip us):=by
  intro _ _ _ _ _ _ us hl;first | refine qmg (P:=λus=>lL _ ⟨us,[]⟩=pure (fg _ us)) hl ?_ | refine qlP (P:=λus=>lL _ ⟨us,[]⟩=pure (fg _ us)) hl ?_ | refine qmh (P:=λus=>lL _ ⟨us,[]⟩=pure (fg _ us)) hl ?_ | refine qmi (P:=λus=>lL _ ⟨us,[]⟩=pure (fg _ us)) hl ?_ | refine qmj (P:=λus=>lL _ ⟨us,[]⟩=pure (fg _ us)) hl ?_ | refine qmk (P:=λus=>lL _ ⟨us,[]⟩=pure (fg _ us)) hl ?_
  all_goals intros; rfl):kf K mg x st ps:=by
 obtain ⟨f,oc,od,an,sl,kV,d,pm,cd,ct,a,l,c,k⟩:=q;exact qhi X G a l c k hb
abbrev LkM (K:Frag) (x q:Str) (st:Stmt) (f:Addr) (oc:iL) (od an:Option Addr) (sl:Array (Option iL)) (kV d pm cd ct:iL):Prop:=K.lookup f=iI ⟨oc,od,.func (cr x q (wf st) (kb st) (qG st) .none kV d pm an cd ct),sl⟩
theorem qj6 {l:g7} {w:iV} {fa:Addr} (X:K.In h) (G:h.Ns iT mg) (hfa:mg "law"=iI (.ref fa)) {CW C C0 C1 C2 C3 C4 C5 C6:Addr} {a t b M S:Tok} {c f:Addr} {I g35 h35 i35 x m35 D g41 h41 i41 u m41:iL} {o35 p35 o41 p41:Option Addr} {L J:Array (Option iL)}
  (aW:nsIn K iT "WordError"=iI (iI (.ref CW)))
  (a0:nsIn K iT "NoWords"=iI (iI (.ref C0)))
  (a1:nsIn K iT "NoLook"=iI (iI (.ref C1)))
  (a2:nsIn K iT "NoNumbers"=iI (iI (.ref C2)))
  (a3:nsIn K iT "NoRoom"=iI (iI (.ref C3)))
  (a4:nsIn K iT "NoWorths"=iI (iI (.ref C4)))
  (a5:nsIn K iT "Never"=iI (iI (.ref C5)))
  (a6:nsIn K iT "NoPlace"=iI (iI (.ref C6)))
  (zz:zsB K=iM)
  (c_LEAST_PLACE:nsIn K iT "LEAST_PLACE"=iI (iI (.int (-3) a)))
  (c_MOST_LETTERS:nsIn K iT "MOST_LETTERS"=iI (iI (.int 6 t)))
  (c_MOST_PLACE:nsIn K iT "MOST_PLACE"=iI (iI (.int 2 b)))
  (c_MOST_ROOM:nsIn K iT "MOST_ROOM"=iI (iI (.int 99 M)))
  (c_MOST_WORDS:nsIn K iT "MOST_WORDS"=iI (iI (.int 6 S)))
  (ex:qel K [C0,C1,C2,C3,C4,C5,C6] CW=iM)
  (aB:nsIn K iT "Book"=iI (iI (.ref C)))
  (b1:c8 K C iA=iM)
  (b2:dI K C=iM)
  (b3:eL K C=iM)
  (b4:aP K (.ref C) "__setattr__"=iI (iI (.builtin "object.__setattr__")))
  (n0:aP K (.ref C) "look"=iI iK)
  (n1:aP K (.ref C) "width"=iI iK)
  (n2:aP K (.ref C) "worths"=iI iK)
  (n3:aP K (.ref C) "standing"=iI iK)
  (n4:aP K (.ref C) "asked"=iI iK)
  (q0:Dx K "is_letter" yN)
  (q1:Dx K "is_word" QQ)
  (q2:Dx K "is_words" zx)
  (q3:Dx K "check_words" wp)
  (q4:Dx K "all_looks" yO)
  (q5:Dx K "is_between" um)
  (q6:Dx K "is_look" QS)
  (q7:Dx K "check_look" ur)
  (q8:Dx K "letter_at" yP)
  (q9:Dx K "pairs" Yo)
  (q10:Dx K "letters_of" uu)
  (q11:Dx K "is_loose" zA)
  (q12:Dx K "bound_pairs" wt)
  (q13:Dx K "unshared" zC)
  (q14:Dx K "contrasts_of" vL)
  (q15:Dx K "may_differ" ux)
  (q16:Dx K "with_worth" uz)
  (q17:Dx K "can_be_filled" jG)
  (q18:Dx K "can_differ" uC)
  (q19:Dx K "looks" Ys)
  (q20:Dx K "check_room" uF)
  (q21:Dx K "is_numbers" uG)
  (q22:Dx K "check_numbers" vk)
  (q23:Dx K "told_pairs" uK)
  (q24:Dx K "is_odd" Ve)
  (q25:Dx K "comes_to" zE)
  (q26:Dx K "bars" qbu)
  (q27:Dx K "other_letter" vN)
  (q28:Dx K "spread" Vg)
  (q29:Dx K "ways_of" QZ)
  (q30:Dx K "circles_of" uO)
  (q31:Dx K "first_odd" yS)
  (q32:Dx K "bar_of" Vj)
  (q33:Dx K "bar" qgt)
  (q34:Dx K "in_order" zG)
  (B:aP K (.ref C) "places"=iI (iI (.ref c))) (g:LkM K "places" "Book.places" jM c I o35 p35 L g35 h35 i35 x m35) (m:codeIn K x "Book.places"=iM) (k:l9 K (.ref c)=iM) (o:fz K (.ref c)=iM)
  (q36:Dx K "is_worth" zJ)
  (q37:Dx K "is_worths" yT)
  (q38:Dx K "check_worths" vQ)
  (q39:Dx K "within" Vm)
  (q40:Dx K "numbered" zL)
  (A:aP K (.ref C) "__init__"=iI (iI (.ref f))) (d:LkM K "__init__" "Book.__init__" jA f D o41 p41 J g41 h41 i41 u m41) (j:codeIn K u "Book.__init__"=iM) (i:l9 K (.ref f)=iM) (n:fz K (.ref f)=iM) (y1:g6 K C=iM) (y2:l9 K (.ref C)=iM)
  (q42:Dx K "half" qbD)
  (q43:Dx K "root_worths" wH)
  (q44:Dx K "roots_of" zO)
  (q45:Dx K "how_many" zR)
  (q46:Dx K "worths_from" wJ)
  (q47:Dx K "starts_at" yY)
  (q48:Dx K "worths_at" xb)
  (q49:Dx K "_law_cell_at" zU)
  (Y:Dx K "_law_mixed" Vp)
  (W:Dx K "_law_draw" YE)
  (V:Dx K "_law_pick" YF)
  (U:Dx K "_law_word" YG)
  (R:Dx K "_law_words" Vt)
  (O:Dx K "_law_look" YH)
  (N:Dx K "law" qbN) :
  ∃ fd:lH,(∀ (s:iO) (v:iL),mY s fd ⟨[v],[]⟩ [("_law_script",v)])/\∀ base:Heap,K.In base->base.Ns iT mg->FnOk l.prog w K mg base (CXk l.prog w) 19 fa fd ["_law_script"] (qen K):=by
 obtain ⟨f56,_,_,_,_,_,_,_,_,_,z,p,y,r⟩:=N;have e:=hfa.symm.trans (mz X G z);cases e;obtain ⟨Z,cok,eB⟩:=qlQ X G aW a0 a1 a2 a3 a4 a5 a6 zz c_LEAST_PLACE c_MOST_LETTERS c_MOST_PLACE c_MOST_ROOM c_MOST_WORDS ex aB b1 b2 b3 b4 n0 n1 n2 n3 n4;have T:Tx K mg (caT [("WordError",CW),("NoWords",C0),("NoLook",C1),("NoNumbers",C2),("NoRoom",C3),("NoWorths",C4),("Never",C5),("NoPlace",C6),("Book",C)]):=⟨qW X G q0,qW X G q1,qW X G q2,qW X G q3,qW X G q4,qW X G q5,qW X G q6,qW X G q7,qW X G q8,qW X G q9,qW X G q10,qW X G q11,qW X G q12,qW X G q13,qW X G q14,qW X G q15,qW X G q16,qW X G q17,qW X G q18,qW X G q19,qW X G q20,qW X G q21,qW X G q22,qW X G q23,qW X G q24,qW X G q25,qW X G q26,qW X G q27,qW X G q28,qW X G q29,qW X G q30,qW X G q31,qW X G q32,qW X G q33,qW X G q34,by rw [eB]; exact ⟨c,_,(Qq (st:=jM) g m k),⟨B,o,k⟩,(Qq (st:=jM) g m k).binds (λ_ _ _ _ _ _ us hl=>by revert hl; refine λhl=>qlP (P:=λus=>lL _ ⟨us,[]⟩=pure (fg _ us)) hl ?_; intros; rfl)⟩,qW X G q36,qW X G q37,qW X G q38,qW X G q39,qW X G q40,by rw [eB]; exact ⟨f,_,(Qq (st:=jA) d j i),⟨y1,A,n,y2⟩,(Qq (st:=jA) d j i).binds (λ_ _ _ _ _ _ us hl=>by revert hl; refine λhl=>qmk (P:=λus=>lL _ ⟨us,[]⟩=pure (fg _ us)) hl ?_; intros; rfl)⟩,qW X G q42,qW X G q43,qW X G q44,qW X G q45,qW X G q46,qW X G q47,qW X G q48,qW X G q49,qW X G Y,qW X G W,qW X G V,qW X G U,qW X G R,qW X G O⟩
 have F:=Qq (st:=qbN) p y r;exact ⟨_,λs v=>.of_eq rfl,λbase _ _=>(qj5 (e0:=⟨l.prog,w,K,mg,base,_⟩) Z T F).imp λvs H Q E q=>qlR cok vs H Q E q⟩
theorem qmT {l:g7} {q:iU} {loose:List Str} {XP:(Str->Option iL)->Heap->Prop} {YP:iV->Heap->Prop} {d:DefRec} {K:Params->Frag} (b:l.most=iI 63) (hdf:d.params.defaults=[])
  (Y:∀ (w:iV) (h:Heap),YP w h->(K w.params).In h)
  (F:∀ (w:iV) (mg:Str->Option iL) (fa:Addr) (h:Heap),(K w.params).In h->h.Ns iT mg->mg d.name=iI (.ref fa) ->∃ fd:lH,(∀ (s:iO) (u:iL),mY s fd ⟨[u],[]⟩ [("_law_script",u)])/\∀ base:Heap,(K w.params).In base->base.Ns iT mg->FnOk l.prog w (K w.params) mg base (CXk l.prog w) 19 fa fd ["_law_script"] (qen (K w.params))) :
  PySem.W.WalkO q loose XP YP l.row.toRowW d [] (λf vs=>iG f vs):=
 L2.qfz (n:=63) (k:=19) (x := "_law_script") (CX:=λw=>CXk l.prog w) (sp:=λw=>qen (K w.params)) b (by decide) hdf ⟨rfl,by decide,by decide⟩ Y F (λ_ _ a ns hl _ S=>⟨a,ns,rfl,S,λ_=>rfl⟩) λw H s e s' z=>by obtain ⟨ex,T,C,H',_,_,_,_,_,_,_,_,_,_,q⟩:=z;exact q.elim
end Kx
open PySem PySem.W PyProof.Rows
set_option maxRecDepth 100000 in
set_option maxHeartbeats 0 in
theorem PySem.Challenge.cw_lookwords_k34_whole_orders_and_counts_holds : PySem.Challenge.rw_lookwords_k34_whole_orders_and_counts.Holds := by
  refine Kx.hd ?_;k_fill
  refine Kx.qmT (l := PySem.Challenge.rw_lookwords_k34_whole_orders_and_counts) rfl rfl (λw h Y => PySem.W.kIn_of Y) ?F
  case F =>
    intro w mg fa h X G g;refine' Kx.qj6 X G g ?_ ?_ ?_ ?_ ?_ ?_ ?_ ?_ ?_ ?_ ?_ ?_ ?_ ?_ ?_ ?_ ?_ ?_ ?_ ?_ ?_ ?_ ?_ ?_ ?_ ?_ ?_ ?_ ?_ ?_ ?_ ?_ ?_ ?_ ?_ ?_ ?_ ?_ ?_ ?_ ?_ ?_ ?_ ?_ ?_ ?_ ?_ ?_ ?_ ?_ ?_ ?_ ?_ ?_ ?_ ?_ ?_ ?_ ?_ ?_ ?_ ?_ ?_ ?_ ?_ ?_ ?_ ?_ ?_ ?_ ?_ ?_ ?_ ?_ ?_ ?_ ?_ ?_ ?_ ?_ ?_ ?_ ?_ ?_ ?_ ?_ ?_ ?_ ?_ ?_ ?_ ?_;all_goals try first | k_is | exact ⟨_, _, _, _, _, _, _, _, _, _, by unfold Kx.NsX; k_is, by unfold Kx.LkX; k_is, by unfold Kx.CdX; k_is, by unfold Kx.KpX; k_is⟩ | (unfold Kx.LkM; k_is) | kernel_rfl
