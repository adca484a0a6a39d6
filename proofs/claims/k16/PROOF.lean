import PyProof.Rows.All
import KE.KTryMore
import KE.KDictOf
import KE.KItem
import KE.KRevSl
import KE.KRevIter
import KE.KDictList
import PySem.Challenge.RW_lookwords_k16_whole_near_ones
open Option renaming some→g6,none→g7
open PySem renaming wpAny_bind→g8,Value→g9,Shared→hV,wpAny_pure→h7,Program→h8,wpAny_newObj_type→ia,World→ib,codeAny_builtin→ic,wpAny_holding→ig,Around→ii,sizeLine_eq→ij,wpAny_call_entry→im,plainId_quiet→ip,wpAny_callSpecial?_slot→iq,SetTable→ir,wpAny_askSetting→iw,wpAny_truthy_bool→iy,wpAny_seqItems→iA,wpAny_setState_of→iB,builtinLookup_eq_fast→iC,wpAny_isInstance→iE,wpAny_typeOf→iF,wpAny_pyIter_tuple→iG,wpAny_setField→iH,Keyword→iI,wpAny_passesOwn→iJ,wpAny_setEntries_of→iK,NameKind→iM,wpAny_Call_Name_kw→iN,tupleKind_room_in1→iO,FuncData→iP,typeLookup_type→iQ,wpAny_updateSeq→iR,wpAny_loadPart'→iS,wpAny_pyIter_list→iT,wpAny_mono→iU,wpAny_rule→iV,wpAny_tryCatch→iW,isSubtype_type→iX,wpAny_attempt→iY,wpAny_field→iZ,fits_of_scanBound→i4,wpAny_pyIter_enum→i5,Scope→i7,wpAny_execs_nil→i8,codeAny_mono→j0,IsPart→j3,wpAny_runValue→j4,wpAny_fieldsOf→j5,wpAny_of_eq→j6,wpAny_letGo→j7,GenState→j8,concat_meets→j9,call_meets→k6,Result→k8,OsState→k9,Paired→lb,BindsTo→lc,ItemsOf→lf
open Bool renaming false→hJ,true→hZ
open PySem.W renaming mg_none_of→iu,boot_heap→iL,mg_of→k7,boot_drawn→la
open PyProof.Rows renaming StrsAre→i6,AllBare→i9
open List renaming mem_cons_of_mem→aa,mem_cons→ae,mem_cons_self→af,getElem?_eq_getElem→ah,mem_map→ai,length_append→aj,mem_singleton→am,mem_append→ao,length_cons→ap,size_toArray→au,getElem?_set_ne→ay,length_map→aA,getElem?_eq_some_iff→aC,map_cons→aD,range→aE,mem_filter→aF,getElem?_map→aG,getElem?_set_self→aH,Nodup→aJ,not_mem_nil→aK,mem_range→aL,nodup_cons→aM,mem_append_right→aO,append_assoc→aP,all_eq_true→aS,mem_of_getElem?→aV,pairwise_cons→aY,map_map→bb,length_nil→bc,append_nil→bg,filterMap_cons→bu,find?_cons_of_neg→bB,replicate→bD,getElem_mem→bG,find?_cons_of_pos→bI,getElem?_eq_none_iff→bJ,mem_of_find?_eq_some→bM,length_range→bO,eq_nil_of_length_eq_zero→bP,map_nil→bU,length_pos_of_mem→ce,foldl_cons→cg,nil_append→ci,getElem?_eq_none→cj,length_filter_le→ck,mem_append_left→cu,nodup_nil→cx,getElem?_replicate→cz,length_set→cA,map_congr_left→cE,any_cons→cG,take_length→cI,mem_flatMap→cJ,getElem?_append_right→cK,getElem?_append_left→cO,filterMap_cons_some→cW,replicate_zero→c6,getElem?_cons_succ→c9,find?_eq_none→dm,find?_cons→dn,reverse_cons→dq,nodup_append→dA,filter_eq_self→dH,mem_filterMap→dO,length_zipIdx→dR,length_eq_zero_iff→dW,pairwise_singleton→dY,getElem?_cons_zero→dZ,ext_getElem?→eh,flatMap_cons→et,mem_range'_1→ez,length_replicate→eB,getElem?_toArray→eD,lookup_cons→eE,cons_append→eG,mem_iff_getElem→eM,pairwise_append→eN,map_append→eO,filter_map→eQ,getElem?_range→eR,take_succ_cons→eS,map_id'→eV,map_filterMap→eY,foldl_append→fh,getElem_inj→fz,zipIdx_cons→fC,of_mem_zip→fE,find?_some→fI,length→fK,zip→fN,all_cons→fP,map_set→fX,range'→f7
open PySem.Heap renaming get?_push_of_some→ac,get?_push_size→ak,lt_size→aq,get?_update_self→aQ,get?_update_other→ba,size_push→bR,SameBut→bT,ExtBut→fY
open Or renaming inl→aw,inr→bH
open Nat renaming le_refl→ax,ne_of_lt→aB,lt_of_lt_of_le→aI,zero_le→bp,le_trans→br,lt_irrefl→bQ,ne_of_gt→cr,lt_trans→dh,le_of_lt→d7,succ_ne_self→eF,le_of_eq→eT,sub_self→eU,le_succ→e8,lt_succ_of_lt→fg,le_antisymm→fH,min_self→fW
open PySem.Around renaming under_plainId→aN
open PySem.PassesOwn renaming leaving→aR
open Bool renaming and_eq_true→aT,false_ne_true→be,false_eq_true→eX
open Option renaming some→aU,map_eq_some_iff→aZ,bind_eq_some_iff→cy,isSome_map→e9
open PySem.Str renaming ofString→aX,length→fS
open Ne renaming symm→bf
open PySem.W renaming hideAll→bh,exmOne→bS,emptyDict→bX,kitOne→cw,fnOf→cF,instObj→cQ,kia_one→cR,hideAll_none→cS,hideAll_get→cY,excIn→dL,of_hideAll→dN,methodObj→eZ,OpenLaw→fF,lookIn→fJ
open Int renaming emod_eq_of_lt→bi,emod_lt_of_pos→bC,emod_nonneg→bV,toNat_natCast→bZ,dvd_self_sub_emod→cm,eq_ofNat_of_zero_le→db,emod_eq_zero_of_dvd→df,dvd_sub→dE,dvd_of_emod_eq_zero→d4,dvd_add→d6,mul_assoc→fq,one_mul→fM,mul_sub→fZ
open PySem renaming strKind→bj,mem_of_lookup→cZ,call→f9
open PyProof.Rows renaming callWith_type1→bn,slot_tuple_getitem→cX
open PySem.Builtin.List renaming listExtendWith→bo,listSameRef→cV,listTooLong→dJ
open Array renaming getElem?_toList→bq,getElem?_eq_getElem→bL,length_toList→bN,getElem?_eq_none→dj,mk→fV
open PySem.Heap.SameBut renaming update→bv
open PySem.SetTable renaming below→bw,grown→c8,orStandIn→dQ,laid→fQ
open PySem.Builtin.Slice renaming sliceAdjust→bx,slicePlaces→dF
open Decidable renaming byContradiction→bz
open Sum renaming inr→bA,inl→eI
open PySem.Builtin.Frozenset renaming updateFrom→bE,isAnySet→cN
open PySem.NameKind renaming free→bF
open Classical renaming byContradiction→bK
open PySem.F renaming called_set→bW,slot_tuple_iterator_next→bY,plain_min_loop→cH,slot_tuple_getattribute→dG,args_tuple_add_2→dI,slot_list_getattribute→dM,entry_tuple_add→dS,plainAttrs_list→dU,slot_tuple_add→d8,slot_dict_get→eC,entry_min_loop→fB
open PySem.Value renaming ref→cf,none→cq,bool→dg,isStrOf→fk,str→fy,int→fO,type→fR
open PySem.SeqAt renaming ne_of_list_tuple→cB
open ForInStep renaming yield→cC
open Eq renaming trans→cL
open List.Perm renaming refl→cM
open PySem.Builtin.SmallTypes renaming nextOf→cP
open PySem.Obj renaming mapSeq→cT,putSet→fU
open PySem.Builtin.Tuple renaming tupleExact→cU
open PySem.Builtin.Dict renaming updateFrom→c7
open PySem.Builtin.Str renaming strSliceIndices→dw
open True renaming intro→dB
open False renaming elim→dD
open PySem.Calls renaming spliced_cons→dP,evalArgs_plain→eL,spliced_nil→e7
open PyProof.Rows.F renaming plain_set_update_loop→dX
open List.Pairwise renaming nil→d9,map→fj
open PySem.Shared renaming TypeIs→eJ
open PySem.Paired renaming length→fm
open PySem.Txt renaming join→fA
open PySem.Heap.DictOf renaming new→fG
open PySem.Moved renaming trans→fL
open PySem.Walks renaming list→g5
noncomputable section
open PySem.W (Frag nsIn keepIn codeIn mg_of mg_none_of)
set_option Elab.async false
set_option linter.all false
set_option maxRecDepth 100000
namespace Kx
noncomputable section
open PySem PySem.W PySem.Calls PyProof.Rows
noncomputable def zP:Pos:=⟨0,0,0,0⟩
noncomputable def anV:Option g9:=g6 (.ref 6)
noncomputable def hA (P:Params):List Obj:=(iL P).objs.toList++[⟨.type "tuple",g7,.seq #[] 0,#[]⟩,⟨.none,g7,.fields #[],#[]⟩,
 ⟨.type "code",g7,.fields #[.str "<module>" 182,.str "<module>" 183,.str "/claim/cut.py" 184,.int 1 0,.int 0 0,.int 0 0,.int 0 0,.int 0 0,.ref 11,.bool hJ,.int 181 0,.ref 12,.none,.none,.none,.none,.int 185 0,.int 1 0,.str "/claim/cut.py" 186],#[]⟩,
 ⟨.type "frame",g7,.plain,#[g6 (.ref 13),g6 (.ref 3),g6 (.ref 3),g7,g6 (.str "__main__" 164),g7,g6 (.ref 0)]⟩]
noncomputable def enP (p:h8):Env:={ scope:=p.main.scope,locals:=mainNs,globals:=mainNs,cells:=[],code:=.ref 13,frame:=g6 14 }
noncomputable def cdP (p:h8):Code:=.body (behindTheImports p) (enP p)
noncomputable def trA:List Obj->Nat->BT->BT
 | [],_,t=>t
 | o::l,i,t=>trA l (i+1) (t.ins i o)
noncomputable def SA (w:ib) (os:k9):SharedT:=⟨trA (hA w.params) 0 .nil,15,(iL w.params).life,fV [],la,187,os⟩
noncomputable def qhK (p:h8) (w:ib) (M:Nat) (os:k9):Option (Flow×Code×hV):=
 (segRunT treeTable p w 11 anV 1 M (SA w os) (piecesOf (behindTheImports p) (enP p) (cdP p) zP [topFrame zP])).bind λr=>
  (topRun treeTable p w 11 anV 5 r.2.1.abs (restOf [] (enP p) (cdP p) r.2.2.2 [topFrame zP])).map λs=>(r.1,r.2.2.1,s)
abbrev qdG (p q:h8) (loose:List Str) (Xt:hV->Bool) (w:ib) (x:Flow×Code×hV):=
 (x.1,x.2.1,(staticsOk (importedModules p.main.body) (iL w.params) x.2.2.heap&&namesBound p x.2.2.heap&&gensDone x.2.2&&laidKept (iL w.params) x.2.2.heap),openSeen q loose (importedModules p.main.body) Xt hZ x.2.2)
theorem left_T {p q:h8} {loose:List Str} {Xt:hV->Bool} {α:Type} {Yf:hV->α} {Ya:ib->α} {N M:Nat}
  (e:opening p=plainProg p.main.scope.names) (hN:Nat.ble 600 N=hZ) (f:∀ s,fenceModules? p s=g6 s)
  (size:∀ w:ib,((iL w.params).isNs mainGlobals&&(fV []:Array j8).size == 0,(iL w.params).objs.size,(iL w.params).nsMap mainGlobals "__annotations__")=(hZ,11,anV))
  (pre:∀ (w:ib) (os:k9),topGo treeTable p w 11 anV 12 ⟨iL w.params,fV [],la,boot_toks,os⟩ (topStub p)=g6 ((SA w os).abs,⟨denote treeTable (cdP p),cdP p,zP,[topFrame zP]⟩))
  (blk:∀ (w:ib) (os:k9),segRun treeTable p w 11 anV 1 1 (SA w os).abs (blockOf (behindTheImports p) (enP p) (cdP p) zP [topFrame zP])=g6 (.next,(SA w os).abs,cdP p,zP))
  (le:Nat.ble (12+(1+(M+5))) N=hZ)
  (m1:∀ (w:ib) (os:k9),(qhK p w M os).map (qdG p q loose Xt w)=g6 (.next,cdP p,hZ,openGood q loose))
  (m2:∀ (w:ib) (os:k9),(qhK p w M os).map (λx=>Yf x.2.2)=g6 (Ya w)):LeftO p q loose Xt Yf Ya N:=λw=>by
 obtain ⟨⟨h,gs,d,k,os⟩,a,a'⟩:=aZ.mp (boot_open e hN f w)
 obtain ⟨rfl,rfl,rfl,rfl⟩:h=iL w.params/\gs=fV []/\d=la/\k=boot_toks:=by simpa using a'
 obtain ⟨x,hx,hl⟩:=aZ.mp (m1 w os)
 obtain ⟨y,hy,hY⟩:=aZ.mp (m2 w os)
 obtain rfl:y=x:=aU.inj (hy.symm.trans hx)
 obtain ⟨r,hr,hz⟩:=cy.mp hx
 obtain ⟨s,hs,rfl⟩:=aZ.mp hz
 obtain ⟨fl,st,co,po⟩:=r
 unfold qdG at hl
 simp only [Prod.mk.injEq] at hl
 obtain ⟨rfl,rfl,l1,l2⟩:=hl
 have t1:=piece_app (rest:=[]) (segRun_of hr) hs
 rw [bg] at t1
 have t2:=piece_block (blk w os) t1
 have t3:=topRun_mono (N - (12+(1+(M+5)))) _ _ _ _ (go_top (pre w os) t2)
 rw [show 12+(1+(M+5))+(N - (12+(1+(M+5))))=N by have:=Nat.le_of_ble_eq_true le; omega] at t3
 obtain ⟨z1,z2,z3⟩:_/\_/\_:=by simpa only [Prod.mk.injEq] using size w
 have t:topFrom treeTable p w N ⟨iL w.params,fV [],la,boot_toks,os⟩=g6 s:=by
  unfold topFrom
  dsimp only
  rw [z1,z2,z3,t3]
  show (match staticsOk (importedModules p.main.body) (iL w.params) s.heap&&namesBound p s.heap&&gensDone s&&laidKept (iL w.params) s.heap with | true=>_ | false=>_)=_
  rw [l1]
 unfold openEnds
 rw [a]
 show (topFrom treeTable p w N _).map _=_
 rw [t]
 exact congrArg g6 (Prod.ext l2 hY)
end
end Kx
noncomputable section
open PySem PySem.W PyProof.Rows
noncomputable def Kx.vq:h8:=view PySem.Challenge.pw_lookwords_k16_whole_near_ones [1,2,3,4,5,6,7,9,10,11,12,13,14,15,16,17,18,19,20,21,22,23,24,25,26,28,29,30,31,32,34,35,36,37,38,39,40,41,42,43,44,45,46,47,48,49,50,52,53,54,55,56,57,59,60,61,62,63,64,65,66,67,68,69,70]
noncomputable def Kx.xt (s:hV):Bool:=xlAt Kx.vq [] s&&recOk (RowW.records (OpenRow.toRowW (OpenLaw.row PySem.Challenge.rw_lookwords_k16_whole_near_ones))) s
theorem Kx.m1:∀ (w:ib) (os:k9),(Kx.qhK PySem.Challenge.pw_lookwords_k16_whole_near_ones w 15000 os).map (Kx.qdG PySem.Challenge.pw_lookwords_k16_whole_near_ones Kx.vq [] Kx.xt w)=g6 (.next,Kx.cdP PySem.Challenge.pw_lookwords_k16_whole_near_ones,hZ,openGood Kx.vq []):=by intro w os; kernel_rfl
local macro_rules | `(tactic| o_head $H) => `(tactic| (refine holds_open (q := Kx.vq) (loose := []) (Xt := Kx.xt) (XP := XL Kx.vq []) (Yf := Hook.obs $H) (Ya := Hook.val $H) (YP := Hook.says $H) (N := 20000) ?hl (Hook.of $H) (Hook.keeps $H) (fun s e => xl_of s (Bool.and_eq_true_iff.mp e).1) XL.keeps (by rfl) (by rfl) (by rfl) (fun s e => recFacts_of (Bool.and_eq_true_iff.mp e).2) (by rfl) (by first | assumption | decide +kernel) (by decide +kernel) ⟨rfl, rfl, rfl, rfl, rfl, by decide +kernel⟩ ?hw ?hc; (case hl => refine Kx.left_T (p := PySem.Challenge.pw_lookwords_k16_whole_near_ones) (M := 15000) ?e rfl ?f ?s ?p ?b rfl Kx.m1 ?m; (case e => kernel_rfl); (case f => intro s; kernel_rfl); (case s => intro w; kernel_rfl); (case p => intro w os; kernel_rfl); (case b => intro w os; kernel_rfl); (case m => intro w os; kernel_rfl))))
set_option maxHeartbeats 0 in
open_top Kx.hd for PySem.Challenge.rw_lookwords_k16_whole_near_ones
end
set_option hygiene false
local macro_rules | `(tactic|sleep $n)=>match n.getNat with
|1=>`(tactic|(refine runD_ap.trans ?_))
|2=>`(tactic|(intro pins s σ H x y v u Q I rx ry h))
|_=>Lean.Macro.throwUnsupported
local macro_rules | `($c:char)=>match c.getChar with
|'a'=>`((by omega))
|'b'=>`((by decide +kernel))
|'c'=>`((by decide))
|'d'=>`((model X.prog X.w))
|'e'=>`((aw rfl))
|'f'=>`((λ_ _=>rfl))
|'g'=>`((model prog w))
|'h'=>`((by simp))
|'i'=>`((D×List D))
|'j'=>`((sD seen))
|'k'=>`((dC (.int 0)))
|'l'=>`((.int r))
|'m'=>`((x == ("__debug__":Str)))
|'n'=>`((qB (js rfl) rfl Z.z_len jo (vr 0)))
|'o'=>`((.ref s.heap.objs.size))
|_=>Lean.Macro.throwUnsupported
namespace L2
open PySem PySem.Spec PyProof.Rows
abbrev Key:=Sum Int Str
noncomputable def ze:Key->g9->Bool
 | .inl k,v=>Value.isInt k v
 | .inr x,v=>fk x v
noncomputable def qjo (w:ib):Key->Int
 | .inl k=>hashInt k
 | .inr x=>hashStr w x
theorem jC:∀ {k:Key} {v:g9},ze k v=hZ->(∃ i t,k=eI i/\v=fO i t)\/(∃ x t,k=bA x/\v=fy x t)
 | .inl i,v,h=>by
  obtain ⟨t,e⟩:=Value.isInt_shape (k:=i) (v:=v) h
  exact .inl ⟨i,t,rfl,e⟩
 | .inr x,v,h=>by
  obtain ⟨t,e⟩:=Value.isStrOf_shape (x:=x) (v:=v) h
  exact .inr ⟨x,t,rfl,e⟩
theorem Vi (i:Int) (t:Tok):ze (.inl i) (.int i t)=true:=by simp [ze,Value.isInt]
theorem Vj (x:Str) (t:Tok):ze (.inr x) (.str x t)=true:=by simp [ze,fk]
theorem qfC (a b:Int):decide ((eI a:Key)=eI b)=(a == b):=by
 by_cases e:a=b
 ·subst e; simp
 ·have h:¬(eI a:Key)=eI b:=λq=>e (eI.inj q)
  rw [decide_eq_false h]
  exact (beq_eq_false_iff_ne.mpr e).symm
theorem qfD (a b:Str):decide ((bA a:Key)=bA b)=decide (a=b):=by
 by_cases e:a=b
 ·subst e; simp
 ·have h:¬(bA a:Key)=bA b:=λq=>e (bA.inj q)
  rw [decide_eq_false h,decide_eq_false e]
theorem qfE (a:Int) (b:Str):decide ((eI a:Key)=bA b)=false:=decide_eq_false (λq=>nomatch q)
theorem qfF (a:Str) (b:Int):decide ((bA a:Key)=eI b)=false:=decide_eq_false (λq=>nomatch q)
noncomputable def qT (prog:h8) (w:ib):PySem.KeyKind prog w Key where
 is:=ze
 hash:=qjo w
 inj:=λv a b ha hb=>by
  rcases jC ha with ⟨i,t,rfl,rfl⟩ | ⟨x,t,rfl,rfl⟩
  ·rcases jC hb with ⟨j,u,rfl,e⟩ | ⟨y,u,rfl,e⟩
   ·injection e with e1 _; rw [e1]
   ·exact nomatch e
  ·rcases jC hb with ⟨j,u,rfl,e⟩ | ⟨y,u,rfl,e⟩
   ·exact nomatch e
   ·injection e with e1 _; rw [e1]
 byValue:=λk v h=>by
  rcases jC h with ⟨i,t,rfl,rfl⟩ | ⟨x,t,rfl,rfl⟩ <;> rfl
 pyHash:=λhv h=>by
  rcases jC hv with ⟨i,t,rfl,rfl⟩ | ⟨x,t,rfl,rfl⟩
  ·exact wpAny_pyHash_int h
  ·exact wpAny_pyHash_str h
 eqBool:=λhu hv h=>by
  rcases jC hu with ⟨i,t,rfl,rfl⟩ | ⟨x,t,rfl,rfl⟩
  ·rcases jC hv with ⟨j,u,rfl,rfl⟩ | ⟨y,u,rfl,rfl⟩
   ·rw [qfC] at h; exact wpAny_eqBool_int h
   ·rw [qfE] at h; exact SeqAt.EqAt.int_str i t y u _ _ _ _ h
  ·rcases jC hv with ⟨j,u,rfl,rfl⟩ | ⟨y,u,rfl,rfl⟩
   ·rw [qfF] at h; exact SeqAt.EqAt.str_int x t j u _ _ _ _ h
   ·rw [qfD] at h; exact wpAny_eqBool_str h
 «strs»:=λk x t v h=>by
  rcases jC h with ⟨i,u,rfl,e⟩ | ⟨y,u,rfl,e⟩
  ·exact nomatch e
  ·injection e with e1 _
   subst e1
   cases v <;> rfl
theorem WP (prog:h8) (w:ib) (i:Int) (t:Tok):(qT prog w).is (.inl i) (.int i t)=true:=Vi i t
theorem WQ (prog:h8) (w:ib) (x:Str) (t:Tok):(qT prog w).is (.inr x) (.str x t)=true:=Vj x t
inductive V where
 | non | bl (b:Bool) | int (i:Int) | str (x:Str) | byt (b:Array UInt8) | flt (b:UInt64) | ref (a:Addr) | ty (n:String)
 deriving DecidableEq
def RelV:V->g9->Prop
 | .non,u=>u=cq
 | .bl b,u=>u=dg b
 | .int i,u=>∃ t,u=fO i t
 | .str x,u=>∃ t,u=fy x t
 | .byt b,u=>∃ t,u=Value.bytes b t
 | .flt b,u=>∃ t,u=Value.float b t
 | .ref a,u=>u=cf a
 | .ty n,u=>u=fR n
abbrev Vals:List V->List g9->Prop:=lb RelV
variable {xs:List V} {us:List g9}
theorem Vals.length (r:Vals xs us):xs.length=us.length:=fm r
theorem Vals.get:∀ {xs:List V} {us:List g9} {i:Nat} {x:V},Vals xs us->xs[i]?=g6 x->∃ u,us[i]?=g6 u/\RelV x u
 | _,_,_,_,.nil,e=>by simp at e
 | _,_,0,_,.cons r _,e=>by simp at e; subst e; exact ⟨_,rfl,r⟩
 | _,_,i+1,x,.cons _ t,e=>by
  obtain ⟨u,h1,h2⟩:=Vals.get (i:=i) (x:=x) t (by simpa using e)
  exact ⟨u,by simpa using h1,h2⟩
variable {u:g9}
theorem Vals.set {x:V} (r:RelV x u):∀ {xs:List V} {us:List g9} (i:Nat),Vals xs us->Vals (xs.set i x) (us.set i u)
 | _,_,_,.nil=>.nil
 | _,_,0,.cons _ t=>.cons r t
 | _,_,i+1,.cons q t=>.cons q (Vals.set r i t)
theorem Vals.append:∀ {xs ys:List V} {us ws:List g9},Vals xs us->Vals ys ws->Vals (xs++ys) (us++ws)
 | _,_,_,_,.nil,s=>s
 | _,_,_,_,.cons r t,s=>.cons r (Vals.append t s)
theorem Vals.take:∀ {xs:List V} {us:List g9} (n:Nat),Vals xs us->Vals (xs.take n) (us.take n)
 | _,_,0,_=>.nil
 | _,_,_+1,.nil=>.nil
 | _,_,n+1,.cons r t=>.cons r (Vals.take n t)
theorem Vals.none_of:∀ {xs:List V} {us:List g9} {i:Nat},Vals xs us->xs[i]?=g7->us[i]?=none:=λ{xs us i} r e=>by
 have h1:=r.length
 have h2:xs.length<=i:=bJ.mp e
 exact bJ.mpr 'a'
def RelO:Option V->Option g9->Prop
 | some v,g6 u=>RelV v u
 | none,g7=>True
 | _,_=>False
def KV {κ:Type}:List (κ×V)->List (κ×g9)->Prop:=lb λ(p:κ×V) (q:κ×g9)=>p.1=q.1/\RelV p.2 q.2
noncomputable def kV:Key->V
 | .inl i=>.int i
 | .inr x=>.str x
inductive HO where
 /-- a list -/
 | lst (xs:List V)
 /-- a tuple (never changes) -/
 | tup (xs:List V)
 /-- a dict whose keys are ints and texts; one whose keys are tuples of ints and texts (the empty one is both) -/
 | dK (kvs:List (Key×V)) | dT (kvs:List (List Key×V))
 /-- a set of ints: its members,its size -/
 | set (S:Int->Bool) (n:Nat)
 /-- an instance of the class at C,its dict at dx,its attributes -/
 | ins (C dx:Addr) (fs:List (Str×V))
 /-- the dict of the instance at x -/
 | own (x:Addr)
 /-- the dict of an exception -/
 | xd (fs:List (Str×V))
 /-- a bound method,f of x -/
 | met (f x:Addr)
 /-- a range object lo,lo+1,.. below hi -/
 | rng (lo hi:Int)
 /-- a thing that is known to the object (the script; a dict while a loop walks it): read,never written while it is so -/
 | frz (o:Obj) (u:HO)
 /-- a code object's table -/
 | tbl (ps:Array g9)
 /-- any other thing,by what is hZ of its one object (a def of one's own: SetO a S n:=HO.ext λh=>..) -/
 | ext (φ:Heap->Prop)
abbrev Hp:=Addr->Option HO
noncomputable def upd (H:Hp) (a:Addr) (o:HO):Hp:=λb=>if b=a then g6 o else H b
variable {H:Hp} {a:Addr} {o:HO}
theorem qp:upd H a o a=g6 o:=by unfold upd; rw [if_pos rfl]
variable {b:Addr}
theorem qC (h:b≠a):upd H a o b=H b:=by unfold upd; rw [if_neg h]
theorem qhL {u:HO} (h:H a=g6 o) (h':H b=g6 u) (d:o≠u):a≠b:=by
 intro e; subst e; rw [h] at h'; exact d (aU.inj h')
theorem qJ (h:H a=g6 o) (h':H b=g7):a≠b:=by
 intro e; subst e; rw [h] at h'; cases h'
section
variable (P:h8) (w:ib)
def ObjOk (H:Hp) (h:Heap) (a:Addr):HO->Prop
 | .lst xs=>xs.length<=sizeLine/\∃ (its:List g9) (n:Nat),Vals xs its/\h.get? a=g6 { cls:=.type "list",data:=.seq its.toArray n }
 | .tup xs=>(xs.length<=sizeLine/\∃ o,h.get? a=g6 o/\o.dict=g7)/\∃ its:List g9,Vals xs its/\IsTup h a its.toArray
 | .dK kvs=>kvs.length<=sizeLine/\(a == sysModules)=hJ/\∃ vs,KV kvs vs/\h.DictOf (qT P w) a vs
 | .dT kvs=>kvs.length<=sizeLine/\(a == sysModules)=hJ/\∃ xs:List (List Key×Addr×g9),
   lb (λ(p:List Key×V) (q:List Key×Addr×g9)=>p.1=q.1/\H q.2.1=g6 (.tup (p.1.map kV))/\RelV p.2 q.2.2) kvs xs /\
   ∃ o es ep,h.get? a=g6 o/\o.ExactDict/\o.data=.dict es ep/\es.toList=xs.map (entryOfKey (tupleKind (qT P w)))/\(xs.map (·.1)).Nodup
 | .set S n=>h.SetOf (intKind P w) a S n
 | .ins C dx fs=>H dx=g6 (.own a)/\fs.length<=1000/\dx≠a/\h.get? a=g6 (cQ C dx) /\
   ∃ mA,h.Ns1 dx mA/\(∀ f,RelO (fs.lookup f) (mA f))/\PySem.Within mA (fs.map (·.1))
 | .own _=>∃ o,h.get? a=g6 o
 | .xd fs=>∃ mA,h.Ns1 a mA/\∀ f,RelO (fs.lookup f) (mA f)
 | .rng lo hi=>∃ t u v,h.get? a=g6 { cls:=.type "range",data:=.fields #[.int lo t,.int hi u,.int 1 v] }
 | .frz o u=>h.get? a=g6 o/\ObjOk H h a u
 | .tbl ps=>h.get? a=g6 { cls:=.none,data:=.fields ps }
 | .met f x=>h.get? a=g6 (eZ (.ref f) (.ref x))
 | .ext φ=>φ h/\(∃ o,h.get? a=g6 o)/\∀ h1 h2:Heap,φ h1->(∀ o,h1.get? a=g6 o->h2.get? a=g6 o)->φ h2
def HOk (H:Hp) (h:Heap):Prop:=∀ a o,H a=g6 o->ObjOk P w H h a o
end
variable {P:h8} {w:ib} {H':Hp} {h h':Heap} {α:Type}
section
theorem ObjOk.lt (x:ObjOk P w H h a o):a < h.objs.size:=by
 cases o with
 | lst xs=>obtain ⟨_,_,_,_,e⟩:=x; exact aq e
 | tup xs=>obtain ⟨_,_,_,p⟩:=x; exact p.lt
 | dK kvs=>obtain ⟨_,_,_,_,o,_,_,e,_⟩:=x; exact aq e
 | dT kvs=>obtain ⟨_,_,_,_,o,_,_,e,_⟩:=x; exact aq e
 | set S n=>obtain ⟨o,_,_,_,e,_⟩:=x; exact aq e
 | ins C dx fs=>obtain ⟨_,_,_,e,_⟩:=x; exact aq e
 | own y=>obtain ⟨_,e⟩:=x; exact aq e
 | xd fs=>obtain ⟨_,⟨_,_,_,e,_⟩,_⟩:=x; exact aq e
 | rng lo hi=>obtain ⟨_,_,_,e⟩:=x; exact aq e
 | frz ob u=>obtain ⟨e,_⟩:=x; exact aq e
 | tbl ps=>exact aq (show h.get? a=g6 _ from x)
 | met f y=>exact aq (show h.get? a=g6 _ from x)
 | ext φ=>obtain ⟨_,⟨_,e⟩,_⟩:=x; exact aq e
theorem Paired.mapP {β:Type} {F G:α->β->Prop}:∀ {l₁:List α} {l₂:List β},lb F l₁ l₂->(∀ a b,F a b->G a b)->lb G l₁ l₂
 | _,_,.nil,_=>.nil
 | _,_,.cons r t,f=>.cons (f _ _ r) (Paired.mapP t f)
theorem ObjOk.stay (x:ObjOk P w H h a o) (k:∀ b u,(b=a\/H b=g6 (.own a))->h.get? b=g6 u->h'.get? b=g6 u)
  (ho:∀ b,H b=g6 (.own a)->H' b=g6 (.own a)) (ht:∀ b xs,H b=g6 (.tup xs)->H' b=g6 (.tup xs)):ObjOk P w H' h' a o:=by
 induction o with
 | lst xs=>obtain ⟨z,its,n,r,e⟩:=x; exact ⟨z,its,n,r,k _ _ (.inl rfl) e⟩
 | tup xs=>obtain ⟨⟨z,o2,e2,d2⟩,its,r,ob,e,c⟩:=x; exact ⟨⟨z,o2,k _ _ (.inl rfl) e2,d2⟩,its,r,ob,k _ _ (.inl rfl) e,c⟩
 | dK kvs=>obtain ⟨z,y,vs,r,ob,es,ep,e,c⟩:=x; exact ⟨z,y,vs,r,ob,es,ep,k _ _ (.inl rfl) e,c⟩
 | dT kvs=>
  obtain ⟨z,y,xs,r,ob,es,ep,e,c⟩:=x
  exact ⟨z,y,xs,Paired.mapP r λp q z=>⟨z.1,ht _ _ z.2.1,z.2.2⟩,ob,es,ep,k _ _ (.inl rfl) e,c⟩
 | set S n=>obtain ⟨ob,es,ep,t,e,c⟩:=x; exact ⟨ob,es,ep,t,k _ _ (.inl rfl) e,c⟩
 | ins C dx fs=>
  obtain ⟨d,z,ne,e,mA,⟨od,es,ep,e2,c⟩,r⟩:=x
  exact ⟨ho _ d,z,ne,k _ _ (.inl rfl) e,mA,⟨od,es,ep,k _ _ (.inr d) e2,c⟩,r⟩
 | own y=>obtain ⟨ob,e⟩:=x; exact ⟨ob,k _ _ (.inl rfl) e⟩
 | xd fs=>obtain ⟨mA,⟨od,es,ep,e,c⟩,r⟩:=x; exact ⟨mA,⟨od,es,ep,k _ _ (.inl rfl) e,c⟩,r⟩
 | rng lo hi=>obtain ⟨t,u,v,e⟩:=x; exact ⟨t,u,v,k _ _ (.inl rfl) e⟩
 | frz ob u ih=>obtain ⟨e,q⟩:=x; exact ⟨k _ _ (.inl rfl) e,ih q⟩
 | tbl ps=>
  have e:h.get? a=g6 { cls:=.none,data:=.fields ps }:=x
  show h'.get? a=g6 { cls:=.none,data:=.fields ps }
  exact k a _ (.inl rfl) e
 | met f y=>
  have e:h.get? a=g6 (eZ (.ref f) (.ref y)):=x
  show h'.get? a=g6 (eZ (.ref f) (.ref y))
  exact k a _ (.inl rfl) e
 | ext φ=>obtain ⟨p,⟨o,e⟩,st⟩:=x; exact ⟨st _ _ p λo q=>k _ _ (.inl rfl) q,⟨o,k _ _ (.inl rfl) e⟩,st⟩
theorem HOk.lt (x:HOk P w H h) (e:H a=g6 o):a < h.objs.size:=(x a o e).lt
theorem HOk.fresh (x:HOk P w H h) (e:h.objs.size<=a):H a=none:=by
 cases q:H a with
 | none=>rfl
 | some u=>exact absurd (aI (x.lt q) e) (bQ _)
theorem HOk.kept (x:HOk P w H h) (k:∀ b u,h.get? b=g6 u->h'.get? b=g6 u):HOk P w H h':=λa o e=>
 (x a o e).stay (λb u _ q=>k b u q) (λ_ q=>q) λ_ _ q=>q
theorem HOk.laid (x:HOk P w H h) (k:∀ b u,h.get? b=g6 u->h'.get? b=g6 u) (hp:h.objs.size<=a) (new:ObjOk P w (upd H a o) h' a o):HOk P w (upd H a o) h':=λb u e=>by
 have hn:=x.fresh hp
 by_cases hb:b=a
 ·subst hb; rw [qp] at e; cases e; exact new
 ·rw [qC hb] at e
  exact (x b u e).stay (λc v _ q=>k c v q) (λc q=>by rw [qC (qJ q hn)]; exact q) λc xs q=>by rw [qC (qJ q hn)]; exact q
end
def Rd (H:Hp) (a:Addr) (u:HO):Prop:=H a=g6 u\/∃ o,H a=g6 (.frz o u)
theorem Rd.ok {u:HO} (r:Rd H a u) (x:HOk P w H h):ObjOk P w H h a u:=by
 rcases r with r | ⟨o,r⟩
 ·exact x a u r
 ·obtain ⟨_,q⟩:=x a _ r
  exact q
def Mut:Option HO->Prop
 | some (.lst _)=>True
 | some (.dK _)=>True
 | some (.dT _)=>True
 | some (.set _ _)=>True
 | some (.ins _ _ _)=>True
 | some (.ext _)=>True
 | _=>False
section
variable {x e:Addr} {o':HO}
theorem HOk.write (ok:HOk P w H h) (mu:Mut (H x)) (he:e=x\/H e=g6 (.own x)) (k:∀ b u,b≠e->h.get? b=g6 u->h'.get? b=g6 u) (heo:∃ u,h'.get? e=g6 u)
  (new:ObjOk P w (upd H x o') h' x o'):HOk P w (upd H x o') h':=λb u q=>by
 have nown:∀ c y,H c=g6 (.own y)->c≠x:=λc y r z=>by subst z; rw [r] at mu; exact mu
 have ntup:∀ c xs,H c=g6 (.tup xs)->c≠x:=λc xs r z=>by subst z; rw [r] at mu; exact mu
 by_cases hb:b=x
 ·subst hb; rw [qp] at q; cases q; exact new
 ·rw [qC hb] at q
  by_cases hbe:b=e
  ·have q':H b=g6 (.own x):=by
    rcases he with z | z
    ·exact absurd (hbe.trans z) hb
    ·rw [hbe]; exact z
   rw [q] at q'; cases q'
   obtain ⟨v,hv⟩:=heo
   exact ⟨v,by rw [hbe]; exact hv⟩
  ·refine (ok b u q).stay (λc v hc r=>k c v ?_ r) (λc r=>by rw [qC (nown c b r)]; exact r) λc xs r=>by rw [qC (ntup c xs r)]; exact r
   rcases hc with rfl | hc
   ·exact hbe
   ·rintro rfl
    rcases he with z | z
    ·exact nown c b hc z
    ·rw [hc] at z; cases z; exact hb rfl
end
structure Un (fs ex:List Addr) (H H':Hp) (h h':Heap):Prop where
 keep:∀ b o,h.get? b=g6 o->H b=g7->b∉fs->b∉ex->h'.get? b=g6 o
 slot:∀ b o,h.get? b=g6 o->H b=g7->b∈fs->b∉ex->∃ sl,h'.get? b=g6 { o with slots:=sl }
 free:∀ b o,h.get? b=g6 o->H b=g7->b∉ex->H' b=g7
 there:∀ b o,h.get? b=g6 o->b∉ex->∃ o',h'.get? b=g6 o'
 tups:∀ b xs,H b=g6 (.tup xs)->H' b=g6 (.tup xs)
 frzs:∀ b o u,H b=g6 (.frz o u)->H' b=g6 (.frz o u)
 tbls:∀ b ps,H b=g6 (.tbl ps)->∃ more,H' b=g6 (.tbl (ps++more))
section
variable {fs fs' ex ex':List Addr} {H1 H2:Hp} {h1 h2:Heap} {x e:Addr}
theorem Un.any (u:Un fs ex H H1 h h1) {ob:Obj} (q:h.get? b=g6 ob) (n:H b=g7) (hx:b∉ex):∃ sl,h1.get? b=g6 { ob with slots:=sl }:=by
 by_cases hb:b∈fs
 ·exact u.slot b ob q n hb hx
 ·exact ⟨ob.slots,u.keep b ob q n hb hx⟩
theorem Un.kept (k:∀ b u,h.get? b=g6 u->h'.get? b=g6 u):Un fs ex H H h h':=
 ⟨λb ob q _ _ _=>k b ob q,λb ob q _ _ _=>⟨ob.slots,k b ob q⟩,λ_ _ _ n _=>n,λb ob q _=>⟨ob,k b ob q⟩,λ_ _ q=>q,λ_ _ _ q=>q,λ_ ps q=>⟨#[],by rw [q]; simp⟩⟩
theorem Un.refl:Un fs ex H H h h:=Un.kept λ_ _ q=>q
theorem Un.laid (k:∀ b u,h.get? b=g6 u->h'.get? b=g6 u) (hp:h.objs.size<=a) (hn:H a=g7):Un fs ex H (upd H a o) h h' where
 keep:=λb u q _ _ _=>k b u q
 slot:=λb u q _ _ _=>⟨u.slots,k b u q⟩
 free:=λb u q n _=>by rw [qC (aB (aI (aq q) hp))]; exact n
 there:=λb u q _=>⟨u,k b u q⟩
 tups:=λb xs q=>by rw [qC (qJ q hn)]; exact q
 frzs:=λb u xs q=>by rw [qC (qJ q hn)]; exact q
 tbls:=λb ps q=>⟨#[],by rw [qC (qJ q hn),q]; simp⟩
theorem Un.write (mu:Mut (H x)) (he:e=x\/H e=g6 (.own x)) (k:∀ b u,b≠e->h.get? b=g6 u->h'.get? b=g6 u) (heo:∃ u,h'.get? e=g6 u):Un fs ex H (upd H x o) h h':=by
 have hx:∀ b,H b=g7->b≠x:=λb n z=>by subst z; rw [n] at mu; exact mu
 have hb:∀ b,H b=g7->b≠e:=λb n z=>by
  subst z
  rcases he with r | r
  ·exact hx b n r
  ·rw [n] at r; cases r
 have hm:∀ b u,H b=g6 u->¬Mut (g6 u)->b≠x:=λb u q nm z=>by subst z; rw [q] at mu; exact nm mu
 refine ⟨λb u q n _ _=>k b u (hb b n) q,λb u q n _ _=>⟨u.slots,k b u (hb b n) q⟩,λb u q n _=>by rw [qC (hx b n)]; exact n,λb u q _=>?_,
  λb xs q=>by rw [qC (hm b _ q λz=>z)]; exact q,λb u xs q=>by rw [qC (hm b _ q λz=>z)]; exact q,λb ps q=>⟨#[],by rw [qC (hm b _ q λz=>z),q]; simp⟩⟩
 by_cases hbe:b=e
 ·subst hbe; exact heo
 ·exact ⟨u,k b u hbe q⟩
end
noncomputable def trk (h:Heap) (H:Hp):List Addr:=(aE h.objs.size).filter λa=>(H a).isSome
noncomputable def qbj (h:Heap) (H:Hp):Heap:=bh h (trk h H)
theorem Zx (h:Heap) (H:Hp):(qbj h H).objs.size=h.objs.size:=PySem.W.hideAll_size _ _
theorem qbk {o:Obj} (e:h.get? b=g6 o) (n:H b=g7):(qbj h H).get? b=g6 o:=
 cY _ e λhm=>by
  have q:(H b).isSome=true:=(aF.mp hm).2
  rw [n] at q; simp at q
theorem qdH {o:Obj} (e:(qbj h H).get? b=g6 o):h.get? b=g6 o/\H b=none:=by
 have e':h.get? b=g6 o:=dN (trk h H) e
 refine ⟨e',?_⟩
 cases q:H b with
 | none=>rfl
 | some x=>
  have hm:b∈trk h H:=aF.mpr ⟨aL.mpr (aq e'),by simp [q]⟩
  have z:(qbj h H).get? b=none:=cS (trk h H) hm
  rw [z] at e; cases e
noncomputable def qdI (g h:Heap) (L:Addr):List (Addr×Obj):=(aE h.objs.size).filterMap λa=>if a=L\/(g.get? a).isSome=hZ then g7 else (h.get? a).map λo=>(a,o)
noncomputable def rest (g h:Heap) (L d:Addr):List (Addr×Obj):=(qdI g h L).filter λp=>decide (p.1≠d)
structure Mod (K:Frag) (mg:Str->Option g9) (base:Heap):Prop where
 kin:K.In base
 glob:base.Ns mainGlobals mg
 blt:∃ mb,base.Ns builtinsNs mb/\∀ x:Str,x ≠ "__name__"->mb x=bootBuiltins x
 nolimit:base.NoLimit
structure Cx where
 prog:h8
 w:ib
 K:Frag
 mg:Str->Option g9
 base:Heap
 A:ii
 N:List Str
 s₀:hV
 H₀:Hp
 env:Env
 outer:List Env
 stack:List Env
 ex:List Addr
 fn:Str->Bool
 calm:Bool
 pn:List (Addr×Obj)
 xe:g9->hV->Prop
noncomputable def frs (l:List Env):List Addr:=l.filterMap (·.frame)
abbrev Cx.fs (X:Cx):List Addr:=frs X.outer
def Vis (sc:i7) (x:Str):Prop:=sc.names.lookup x=g6 .local\/sc.names.lookup x=g6 .cell\/sc.names.lookup x=g6 .free
def Loc (sc:i7) (x:Str):Prop:=sc.names.lookup x=g6 .local\/sc.names.lookup x=g6 .cell
def Vk (env:Env) (h:Heap) (m:Str->Option g9) (x:Str) (u:g9):Prop:=
 (env.kindOf x=g6 .local/\m x=g6 u)\/((env.kindOf x=g6 .cell\/env.kindOf x=g6 .free)/\∃ c,env.cells.lookup x=g6 c/\h.IsCell c (g6 u))
structure Cx.Ok (X:Cx):Prop where
 mod:Mod X.K X.mg X.base
 kind:X.env.scope.kind=.function
 glob:X.env.globals=mainGlobals
 blt:X.env.builtins=builtinsNs
 above:X.s₀.heap.objs.size<=X.env.locals
 inj:∀ x y c,X.env.cells.lookup x=g6 c->X.env.cells.lookup y=g6 c->x=y
 has:∀ x,(X.env.kindOf x=g6 .cell\/X.env.kindOf x=g6 .free)->∃ c,X.env.cells.lookup x=g6 c
 cab:∀ x c,X.fn x=hZ->X.env.cells.lookup x=g6 c->X.s₀.heap.objs.size<=c
 hd:X.calm=hZ->X.A.handled=g7
 frames:X.A.frames=g6 X.stack
 stk:X.stack=X.outer\/(X.stack=X.env::X.outer/\X.env.frame=g6 X.env.locals)
 exf:∀ b∈X.ex,b≠X.env.locals/\∀ x c,X.env.cells.lookup x=g6 c->c≠b
 bs:∀ b o,X.base.get? b=g6 o->X.s₀.heap.get? b=g6 o/\X.H₀ b=g7
 bsz:X.base.objs.size<=X.s₀.heap.objs.size
 noex:∀ b o,X.base.get? b=g6 o->b∉X.ex
 exfs:∀ b∈X.ex,b∉X.fs
 funs:X.s₀.heap.FunFrames X.base X.outer
 frf:∀ b∈X.fs,X.H₀ b=g7
structure Inv (X:Cx) (pins:List (Addr×Obj)) (σ:List (Option V)) (H:Hp) (s:hV):Prop where
 ok:X.Ok
 os:s.os=X.s₀.os
 bare:i9 s.gens
 base:Un X.fs X.ex X.H₀ H X.s₀.heap s.heap
 loc:∃ m,s.heap.Ns X.env.locals m/\∀ (i:Nat) (x:Str) (v:V),X.N[i]?=g6 x->σ[i]?=g6 (g6 v)->Vis X.env.scope x->∃ u,RelV v u/\Vk X.env s.heap m x u
 cell:∀ x c,X.env.cells.lookup x=g6 c->∃ v,s.heap.IsCell c v
 free:H X.env.locals=g7
 freeC:∀ x c,X.env.cells.lookup x=g6 c->H c=g7
 pin:∀ p∈X.pn++pins,s.heap.get? p.1=g6 p.2/\H p.1=g7/\p.1≠X.env.locals/\p.1∉X.fs/\∀ v,p.2.data≠.cell v
 hok:HOk X.prog X.w H s.heap
 len:σ.length=X.N.length
variable {x:Str} {X:Cx} {pins:List (Addr×Obj)} {s s':hV} {t' i:Nat} {it:Addr} {v:V}
section
variable {σ:List (Option V)}
theorem Cx.Ok.nofr (ok:X.Ok) {o:Obj} (e:X.base.get? b=g6 o):b∉X.fs:=λhb=>by
 have:=(ok.funs.mem hb).1
 rw [e] at this; cases this
theorem Inv.bs (I:Inv X pins σ H s):∀ b o,X.base.get? b=g6 o->s.heap.get? b=g6 o/\H b=none:=λb o e=>
 ⟨I.base.keep b o (I.ok.bs b o e).1 (I.ok.bs b o e).2 (I.ok.nofr e) (I.ok.noex b o e),I.base.free b o (I.ok.bs b o e).1 (I.ok.bs b o e).2 (I.ok.noex b o e)⟩
theorem Inv.bk (I:Inv X pins σ H s):∀ b o,X.base.get? b=g6 o->s.heap.get? b=g6 o:=λb o e=>(I.bs b o e).1
theorem Inv.mod (I:Inv X pins σ H s):Mod X.K X.mg X.base:=I.ok.mod
theorem Inv.kIn (I:Inv X pins σ H s):X.K.In s.heap:=I.ok.mod.kin.keeps I.bk
theorem Inv.nolimit (I:Inv X pins σ H s):s.heap.NoLimit:=I.ok.mod.nolimit.keeps I.bk
theorem Inv.fr (I:Inv X pins σ H s):∃ m,Fr X.base X.env.locals s.heap m:=
 let ⟨m,hn,_⟩:=I.loc
 ⟨m,hn,I.bk,br I.ok.bsz I.ok.above⟩
theorem Inv.lt (I:Inv X pins σ H s):X.env.locals < s.heap.objs.size:=let ⟨_,hn,_⟩:=I.loc; hn.lt
theorem Inv.sz (I:Inv X pins σ H s):X.s₀.heap.objs.size<=s.heap.objs.size:=br I.ok.above (d7 I.lt)
theorem Inv.nofs (I:Inv X pins σ H s) (h:s.heap.objs.size<=a):a∉X.fs:=λhb=>by
 obtain ⟨_,o,ho,_⟩:=I.ok.funs.mem hb
 exact absurd (aI (aq ho) (br I.sz h)) (bQ _)
theorem Inv.cne (I:Inv X pins σ H s):∀ x c,X.env.cells.lookup x=g6 c->c≠X.env.locals:=λx c e z=>by
 obtain ⟨v,o,ho,hd⟩:=I.cell x c e
 obtain ⟨m,⟨o',es,ep,ho',hd',_⟩,_⟩:=I.loc
 rw [z,ho'] at ho; cases ho; rw [hd'] at hd; cases hd
theorem Inv.funs (I:Inv X pins σ H s):s.heap.FunFrames X.base X.outer:=by
 have all:∀ (l:List Env),(∀ b∈frs l,b∈X.fs)->X.s₀.heap.FunFrames X.base l->s.heap.FunFrames X.base l:=by
  intro l
  induction l with
  | nil=>intro _ _; trivial
  | cons env r ih=>
   intro hs hl
   obtain ⟨hk,⟨L,o,hf,hn,ho,hd⟩,hr⟩:=hl
   have hL:L∈X.fs:=hs L (by unfold frs; rw [bu,hf]; exact af)
   obtain ⟨sl,e⟩:=I.base.slot L o ho (I.ok.frf L hL) hL λz=>I.ok.exfs L z hL
   exact ⟨hk,⟨L,_,hf,hn,e,hd⟩,ih (λb hb=>hs b (by unfold frs; rw [bu,hf]; exact aa _ hb)) hr⟩
 exact all X.outer (λ_ hb=>hb) I.ok.funs
theorem Inv.stack (I:Inv X pins σ H s):s.heap.FunFrames X.base X.stack:=by
 rcases I.ok.stk with e | ⟨e,hf⟩
 ·rw [e]; exact I.funs
 ·rw [e]
  obtain ⟨m,hn,_⟩:=I.loc
  refine .cons (by rw [I.ok.kind]; decide) hf hn ?_ I.funs
  exact Heap.get?_none_of_le (br I.ok.bsz I.ok.above)
theorem Inv.stkSub (I:Inv X pins σ H s):∀ b∈frs X.stack,b∈X.env.locals::X.fs:=λb hb=>by
 rcases I.ok.stk with e | ⟨e,hf⟩
 ·rw [e] at hb; exact aa _ hb
 ·rw [e] at hb
  unfold frs at hb
  rw [bu,hf] at hb
  exact hb
theorem Inv.stkFree (I:Inv X pins σ H s):∀ b∈frs X.stack,H b=none:=λb hb=>by
 rcases ae.mp (I.stkSub b hb) with e | hb
 ·rw [e]; exact I.free
 ·obtain ⟨_,o,ho,_⟩:=I.ok.funs.mem hb
  exact I.base.free b o ho (I.ok.frf b hb) λz=>I.ok.exfs b z hb
theorem Inv.step {g':Array j8} {t':Nat} {d':Drawn} {ch:List Addr} (I:Inv X pins σ H s)
  (hch:∀ b∈ch,(b∈X.ex\/X.s₀.heap.objs.size<=b)/\b≠X.env.locals/\(∀ x c,X.env.cells.lookup x=g6 c->c≠b)/\∀ p∈X.pn++pins,p.1≠b)
  (keep:∀ b o,b≠X.env.locals->b∉X.fs->b∉ch->s.heap.get? b=g6 o->H b=g7->h'.get? b=g6 o)
  (slot:∀ b o,b≠X.env.locals->b∈X.fs->b∉ch->s.heap.get? b=g6 o->H b=g7->∃ sl,h'.get? b=g6 { o with slots:=sl }) (free:∀ b o,b∉ch->s.heap.get? b=g6 o->H b=g7->H' b=g7)
  (there:∀ b o,b∉ch->s.heap.get? b=g6 o->∃ o',h'.get? b=g6 o')
  (tups:∀ b xs,H b=g6 (.tup xs)->H' b=g6 (.tup xs)) (frzs:∀ b o u,H b=g6 (.frz o u)->H' b=g6 (.frz o u)) (tbls:∀ b ps,H b=g6 (.tbl ps)->∃ more,H' b=g6 (.tbl (ps++more)))
  (ns:∀ m,s.heap.Ns X.env.locals m->h'.Ns X.env.locals m) (hok:HOk X.prog X.w H' h') (hg:i9 g') :
  Inv X pins σ H' { s with heap:=h',gens:=g',drawn:=d',toks:=t' }:=by
 have neL:∀ b o,X.s₀.heap.get? b=g6 o->b≠X.env.locals:=λb o e=>aB (aI (aq e) I.ok.above)
 have neC:∀ b o,X.s₀.heap.get? b=g6 o->b∉X.ex->b∉ch:=λb o e hx hb=>by
  rcases (hch b hb).1 with z | z
  ·exact hx z
  ·exact absurd (aI (aq e) z) (bQ _)
 have cellK:∀ x c,X.env.cells.lookup x=g6 c->∀ v,s.heap.IsCell c v->h'.IsCell c v:=λx c e v ⟨o,ho,hd⟩=>by
  have nch:c∉ch:=λz=>(hch c z).2.2.1 x c e rfl
  by_cases hc:c∈X.fs
  ·obtain ⟨sl,q⟩:=slot c o (I.cne x c e) hc nch ho (I.freeC x c e)
   exact ⟨_,q,hd⟩
  ·exact ⟨o,keep c o (I.cne x c e) hc nch ho (I.freeC x c e),hd⟩
 refine ⟨I.ok,I.os,hg,⟨λb o e n hb hx=>?_,λb o e n hb hx=>?_,λb o e n hx=>?_,λb o e hx=>?_,λb xs e=>tups b xs (I.base.tups b xs e),λb o xs e=>frzs b o xs (I.base.frzs b o xs e),λb ps e=>?_⟩,?_,λx c e=>?_,?_,λx c e=>?_,λp hp=>?_,hok,I.len⟩
 ·exact keep b o (neL b o e) hb (neC b o e hx) (I.base.keep b o e n hb hx) (I.base.free b o e n hx)
 ·obtain ⟨sl,e1⟩:=I.base.slot b o e n hb hx
  obtain ⟨sl',e2⟩:=slot b _ (neL b o e) hb (neC b o e hx) e1 (I.base.free b o e n hx)
  exact ⟨sl',e2⟩
 ·obtain ⟨o',e1⟩:=I.base.there b o e hx
  exact free b o' (neC b o e hx) e1 (I.base.free b o e n hx)
 ·obtain ⟨o',e1⟩:=I.base.there b o e hx
  exact there b o' (neC b o e hx) e1
 ·obtain ⟨m1,e1⟩:=I.base.tbls b ps e
  obtain ⟨m2,e2⟩:=tbls b _ e1
  exact ⟨m1++m2,by rw [e2,Array.append_assoc]⟩
 ·obtain ⟨m,hn,hl⟩:=I.loc
  refine ⟨m,ns m hn,λi x v e1 e2 e3=>?_⟩
  obtain ⟨u,r,l⟩:=hl i x v e1 e2 e3
  refine ⟨u,r,?_⟩
  rcases l with l | ⟨k,c,e,z⟩
  ·exact .inl l
  ·exact .inr ⟨k,c,e,cellK x c e _ z⟩
 ·obtain ⟨v,z⟩:=I.cell x c e
  exact ⟨v,cellK x c e v z⟩
 ·obtain ⟨m,⟨o,_,_,ho,_⟩,_⟩:=I.loc
  exact free _ o (λz=>(hch _ z).2.1 rfl) ho I.free
 ·obtain ⟨v,o,ho,hd⟩:=I.cell x c e
  exact free c o (λz=>(hch c z).2.2.1 x c e rfl) ho (I.freeC x c e)
 ·obtain ⟨e,n,ne,nf,d⟩:=I.pin p hp
  have nch:p.1∉ch:=λz=>(hch p.1 z).2.2.2 p hp rfl
  exact ⟨keep p.1 p.2 ne nf nch e n,free p.1 p.2 nch e n,ne,nf,d⟩
theorem Inv.un (I:Inv X pins σ H s) (u:Un X.fs [] H H' s.heap h') (hok:HOk X.prog X.w H' h'):Inv X pins σ H' { s with heap:=h',toks:=t' }:=by
 obtain ⟨m,⟨o,es,ep,ho,r⟩,_⟩:=id I.loc
 obtain ⟨sl,hL⟩:=u.any ho I.free 'h'
 exact I.step (g':=s.gens) (d':=s.drawn) (ch:=[]) (λ_ z=>nomatch z) (λb o _ hb _ e n=>u.keep b o e n hb 'h') (λb o _ hb _ e n=>u.slot b o e n hb 'h') (λb o _ e n=>u.free b o e n 'h') (λb o _ e=>u.there b o e 'h') u.tups u.frzs u.tbls (λm' hm=>by
  obtain ⟨o',es',ep',ho',r'⟩:=hm
  rw [ho] at ho'; cases ho'
  exact ⟨_,es',ep',hL,r'⟩) hok I.bare
theorem Inv.call {g':Array j8} {t':Nat} {d':Drawn} {ch:List Addr} (I:Inv X pins σ H s) (u:Un (frs X.stack) ch H H' s.heap h') (hok:HOk X.prog X.w H' h') (hg:i9 g')
  (hch:∀ b∈ch,(b∈X.ex\/X.s₀.heap.objs.size<=b)/\b≠X.env.locals/\(∀ x c,X.env.cells.lookup x=g6 c->c≠b)/\∀ p∈X.pn++pins,p.1≠b) :
  Inv X pins σ H' { s with heap:=h',gens:=g',drawn:=d',toks:=t' }:=by
 obtain ⟨m,⟨o,es,ep,ho,r⟩,_⟩:=id I.loc
 obtain ⟨sl,hL⟩:=u.any ho I.free λz=>(hch _ z).2.1 rfl
 exact I.step (ch:=ch) hch (λb o hL hb hc e n=>u.keep b o e n (λz=>(ae.mp (I.stkSub b z)).elim hL hb) hc) (λb o _ _ hc e n=>u.any e n hc) (λb o hc e n=>u.free b o e n hc) (λb o hc e=>u.there b o e hc) u.tups u.frzs u.tbls (λm' hm=>by
  obtain ⟨o',es',ep',ho',r'⟩:=hm
  rw [ho] at ho'; cases ho'
  exact ⟨_,es',ep',hL,r'⟩) hok hg
theorem Inv.turned {t':Nat} (I:Inv X pins σ H s) (k:∀ b o,b≠it->s.heap.get? b=g6 o->h'.get? b=g6 o) (hn:H it=g7) (hL:it≠X.env.locals)
  (h1:it∈X.ex\/X.s₀.heap.objs.size<=it) (h2:∀ x c,X.env.cells.lookup x=g6 c->c≠it) (h3:∀ p∈X.pn++pins,p.1≠it):Inv X pins σ H { s with heap:=h',toks:=t' }:=by
 have nit:∀ b u,H b=g6 u->b≠it:=λb u e z=>by rw [z,hn] at e; cases e
 refine I.step (g':=s.gens) (d':=s.drawn) (ch:=[it]) (λb hb=>?_) (λb o _ _ hc e _=>k b o (λz=>hc (by simp [z])) e) (λb o _ _ hc e _=>⟨o.slots,k b o (λz=>hc (by simp [z])) e⟩) (λ_ _ _ _ n=>n)
  (λb o hc e=>⟨o,k b o (λz=>hc (by simp [z])) e⟩) (λ_ _ e=>e) (λ_ _ _ e=>e) (λb ps e=>⟨#[],by rw [e]; simp⟩) (λm hm=>?_) (λb u e=>?_) I.bare
 ·have e:b=it:=by simpa using hb
  subst e
  exact ⟨h1,hL,h2,h3⟩
 ·obtain ⟨o,es,ep,ho,r⟩:=hm
  exact ⟨o,es,ep,k _ o (bf hL) ho,r⟩
 ·refine (I.hok b u e).stay (λc v hc q=>k c v ?_ q) (λ_ q=>q) λ_ _ q=>q
  rcases hc with z | z
  ·rw [z]; exact nit b u e
  ·exact nit c _ z
theorem Inv.tok (I:Inv X pins σ H s) (t:Nat):Inv X pins σ H { s with toks:=t }:=I.un (h':=s.heap) (t':=t) Un.refl I.hok
theorem Inv.kept (I:Inv X pins σ H s) (k:∀ b u,s.heap.get? b=g6 u->h'.get? b=g6 u):Inv X pins σ H { s with heap:=h',toks:=t' }:=I.un (Un.kept k) (I.hok.kept k)
theorem Inv.laid {t':Nat} (I:Inv X pins σ H s) (k:∀ b u,s.heap.get? b=g6 u->h'.get? b=g6 u) (hp:s.heap.objs.size<=a) (new:ObjOk X.prog X.w (upd H a o) h' a o) :
  Inv X pins σ (upd H a o) { s with heap:=h',toks:=t' }:=I.un (Un.laid k hp (I.hok.fresh hp)) (I.hok.laid k hp new)
theorem Inv.write {x e:Addr} {o:HO} {t':Nat} (I:Inv X pins σ H s) (mu:Mut (H x)) (he:e=x\/H e=g6 (.own x)) (k:∀ b u,b≠e->s.heap.get? b=g6 u->h'.get? b=g6 u) (heo:∃ u,h'.get? e=g6 u)
  (new:ObjOk X.prog X.w (upd H x o) h' x o):Inv X pins σ (upd H x o) { s with heap:=h',toks:=t' }:=I.un (Un.write mu he k heo) (I.hok.write mu he k heo new)
theorem Inv.weak {σ':List (Option V)} (I:Inv X pins σ H s) (hl:σ'.length=σ.length) (w:∀ (i:Nat) v,σ'[i]?=g6 (g6 v)->σ[i]?=g6 (g6 v)):Inv X pins σ' H s:=
 ⟨I.ok,I.os,I.bare,I.base,let ⟨m,hn,hl'⟩:=I.loc; ⟨m,hn,λi x v e1 e2 e3=>hl' i x v e1 (w i v e2) e3⟩,I.cell,I.free,I.freeC,I.pin,I.hok,hl.trans I.len⟩
theorem Inv.pins_of {pins':List (Addr×Obj)} (I:Inv X pins σ H s) (h:∀ p∈pins',s.heap.get? p.1=g6 p.2/\H p.1=g7/\p.1≠X.env.locals/\p.1∉X.fs/\∀ v,p.2.data≠.cell v):Inv X pins' σ H s:=
 ⟨I.ok,I.os,I.bare,I.base,I.loc,I.cell,I.free,I.freeC,λp hp=>(ao.mp hp).elim (λz=>I.pin p (cu _ z)) (h p),I.hok,I.len⟩
theorem Yg {N:List Str} (hN:N.Nodup) {j:Nat} (a:N[i]?=g6 x) (b:N[j]?=g6 x):i=j:=by
 obtain ⟨h1,e1⟩:=aC.mp a
 obtain ⟨h2,e2⟩:=aC.mp b
 exact (fz hN).mp (e1.trans e2.symm)
theorem Vl {M:Model} {A:ii} {E:g9->hV->Prop} {Q:Unit->hV->Prop} (I:Inv X pins σ H s) (hN:X.N.Nodup) (hi:X.N[i]?=g6 x) (hx:Loc X.env.scope x) (r:RelV v u)
  (h:∀ s',Inv X pins (σ.set i (g6 v)) H s'->(∃ a,bT a s.heap s'.heap/\(a=X.env.locals\/X.env.cells.lookup x=g6 a))->Q () s') (hf:X.fn x=hZ\/X.env.scope.names.lookup x=g6 .local:=by first | exact .inl rfl | exact .inr rfl | assumption):wpAny M A (storeName X.env x u) Q E s:=by
 obtain ⟨m,hn,hl⟩:=id I.loc
 have hcls:(X.env.scope.kind == .class||(X.env.scope.kind == .module&&X.env.locals != X.env.globals))=false:=by rw [I.ok.kind]; rfl
 have hiσ:i < σ.length:=by rw [I.len]; exact (aC.mp hi).1
 have cne:=I.cne
 have tracked:∀ {a:Addr} {h':Heap},(∃ o,s.heap.get? a=g6 o/\H a=g7)->bT a s.heap h'->HOk X.prog X.w H h':=λ{a h'} ha hs b ob e=>by
  obtain ⟨_,_,hfree⟩:=ha
  refine (I.hok b ob e).stay (λc w' hc q=>(hs.2 c ?_).trans q) (λ_ q=>q) λ_ _ q=>q
  rintro rfl
  rcases hc with rfl | hc
  ·rw [hfree] at e; cases e
  ·rw [hfree] at hc; cases hc
 rcases hx with hk | hk
 ·refine wpAny_storeName_local hk hn (λh' hn' hs=>?_) hcls
  obtain ⟨oL,_,_,hoL,_⟩:=id hn
  refine h _ ⟨I.ok,I.os,I.bare,⟨λb o e n hb hx=>?_,λb o e n hb hx=>?_,I.base.free,λb o e hx=>?_,I.base.tups,I.base.frzs,I.base.tbls⟩,⟨_,hn',λj y v' e1 e2 e3=>?_⟩,λy c e=>?_,I.free,I.freeC,λp hp=>?_,tracked ⟨oL,hoL,I.free⟩ hs,by simpa using I.len⟩ ⟨_,hs,.inl rfl⟩
  ·exact (hs.2 b (aB (aI (aq e) I.ok.above))).trans (I.base.keep b o e n hb hx)
  ·obtain ⟨sl,e1⟩:=I.base.slot b o e n hb hx
   exact ⟨sl,(hs.2 b (aB (aI (aq e) I.ok.above))).trans e1⟩
  ·obtain ⟨o',e1⟩:=I.base.there b o e hx
   exact ⟨o',(hs.2 b (aB (aI (aq e) I.ok.above))).trans e1⟩
  ·by_cases hj:j=i
   ·subst hj
    rw [hi] at e1; cases e1
    rw [aH hiσ] at e2
    cases e2
    exact ⟨u,r,.inl ⟨hk,by simp⟩⟩
   ·rw [ay (bf hj)] at e2
    obtain ⟨u',r',q⟩:=hl j y v' e1 e2 e3
    refine ⟨u',r',?_⟩
    rcases q with ⟨k,e⟩ | ⟨k,c,e,z⟩
    ·refine .inl ⟨k,?_⟩
     have:y≠x:=λe=>hj (Yg hN e1 (e ▸ hi))
     simp [this,e]
    ·exact .inr ⟨k,c,e,z.sameBut hs (cne y c e)⟩
  ·obtain ⟨w',z⟩:=I.cell y c e
   exact ⟨w',z.sameBut hs (cne y c e)⟩
  ·obtain ⟨e,n,ne,nf,d⟩:=I.pin p hp
   exact ⟨(hs.2 p.1 ne).trans e,n,ne,nf,d⟩
 ·have hfn:X.fn x=true:=by
   rcases hf with z | z
   ·exact z
   ·rw [z] at hk; cases hk
  obtain ⟨c,hc⟩:=I.ok.has x (.inl hk)
  obtain ⟨w',z⟩:=I.cell x c hc
  refine wpAny_storeName_cell I.ok.kind hk hc z (λh' hc' hs=>?_)
  obtain ⟨oc,hoc,hocd⟩:=id z
  refine h { s with heap:=h' } ⟨I.ok,I.os,I.bare,⟨λb o e n hb hx=>?_,λb o e n hb hx=>?_,I.base.free,λb o e hx=>?_,I.base.tups,I.base.frzs,I.base.tbls⟩,⟨m,hn.sameBut hs (bf (cne x c hc)),λj y v' e1 e2 e3=>?_⟩,λy c' e=>?_,I.free,I.freeC,λp hp=>?_,tracked ⟨oc,hoc,I.freeC x c hc⟩ hs,by simpa using I.len⟩ ⟨c,hs,.inr hc⟩
  ·exact (hs.2 b (aB (aI (aq e) (I.ok.cab x c hfn hc)))).trans (I.base.keep b o e n hb hx)
  ·obtain ⟨sl,e1⟩:=I.base.slot b o e n hb hx
   exact ⟨sl,(hs.2 b (aB (aI (aq e) (I.ok.cab x c hfn hc)))).trans e1⟩
  ·obtain ⟨o',e1⟩:=I.base.there b o e hx
   exact ⟨o',(hs.2 b (aB (aI (aq e) (I.ok.cab x c hfn hc)))).trans e1⟩
  ·by_cases hj:j=i
   ·subst hj
    rw [hi] at e1; cases e1
    rw [aH hiσ] at e2
    cases e2
    exact ⟨u,r,.inr ⟨.inl hk,c,hc,hc'⟩⟩
   ·rw [ay (bf hj)] at e2
    obtain ⟨u',r',q⟩:=hl j y v' e1 e2 e3
    refine ⟨u',r',?_⟩
    rcases q with q | ⟨k,c',e,z'⟩
    ·exact .inl q
    ·refine .inr ⟨k,c',e,z'.sameBut hs ?_⟩
     rintro rfl
     exact hj (Yg hN e1 (I.ok.inj _ _ _ e hc ▸ hi))
  ·by_cases hcc:c'=c
   ·subst hcc; exact ⟨_,hc'⟩
   ·obtain ⟨w2,z2⟩:=I.cell y c' e
    exact ⟨w2,z2.sameBut hs hcc⟩
  ·obtain ⟨e,n,ne,nf,d⟩:=I.pin p hp
   refine ⟨(hs.2 p.1 ?_).trans e,n,ne,nf,d⟩
   intro q
   rw [q,hoc] at e
   have q':oc=p.2:=aU.inj e
   exact d w' (by rw [<-q']; exact hocd)
theorem Yh {M:Model} {A:ii} {E:g9->hV->Prop} {Q:Unit->hV->Prop} (I:Inv X pins σ H s) (hN:X.N.Nodup) (hi:X.N[i]?=g6 x) (hx:Loc X.env.scope x) (r:RelV v u)
  (h:∀ s',Inv X pins (σ.set i (g6 v)) H s'->Q () s') (hf:X.fn x=hZ\/X.env.scope.names.lookup x=g6 .local:=by first | exact .inl rfl | exact .inr rfl | assumption):wpAny M A (storeName X.env x u) Q E s:=
 Vl I hN hi hx r (λs' I' _=>h s' I') hf
theorem Inv.call' {ch:List Addr} (I:Inv X pins σ H s) (ho:s'.os=s.os) (u:Un (frs X.stack) ch H H' s.heap s'.heap) (hok:HOk X.prog X.w H' s'.heap) (hg:i9 s'.gens)
  (hch:∀ b∈ch,(b∈X.ex\/X.s₀.heap.objs.size<=b)/\b≠X.env.locals/\(∀ x c,X.env.cells.lookup x=g6 c->c≠b)/\∀ p∈X.pn++pins,p.1≠b):Inv X pins σ H' s':=by
 obtain ⟨h',g',d',t',o'⟩:=s'
 have e:o'=s.os:=ho
 subst e
 exact I.call (g':=g') (t':=t') (d':=d') u hok hg hch
end
abbrev XK:=g9->Option Addr->Hp->Prop
abbrev St:=List (Option V)
abbrev VK:=V->Hp->Prop
abbrev TE:=St->Hp->VK->Prop
abbrev TT:=St->Hp->(Bool->Hp->Prop)->Prop
abbrev TA:=St->Hp->(List V->Hp->Prop)->Prop
structure Ends where
 nx:St->Hp->Prop
 rt:VK
 bk:St->Hp->Prop:=λ_ _=>False
 ct:St->Hp->Prop:=λ_ _=>False
abbrev TS:=Ends->St->Hp->Prop
def EP (X:Cx) (pins:List (Addr×Obj)) (σ:St) (Q:VK) (u:g9) (s':hV):Prop:=∃ v H',Inv X pins σ H' s'/\RelV v u/\Q v H'
def TP (X:Cx) (pins:List (Addr×Obj)) (σ:St) (Q:Bool->Hp->Prop) (b:Bool) (s':hV):Prop:=∃ H',Inv X pins σ H' s'/\Q b H'
def AP (X:Cx) (pins:List (Addr×Obj)) (σ:St) (Q:List V->Hp->Prop) (us:List g9) (s':hV):Prop:=∃ vs H',Inv X pins σ H' s'/\Vals vs us/\Q vs H'
def SP (X:Cx) (pins:List (Addr×Obj)) (D:Ends) (f:Flow) (s':hV):Prop:=
 match f with
 | .next=>∃ σ' H',Inv X pins σ' H' s'/\D.nx σ' H'
 | .brk=>∃ σ' H',Inv X pins σ' H' s'/\D.bk σ' H'
 | .cont=>∃ σ' H',Inv X pins σ' H' s'/\D.ct σ' H'
 | .ret u=>∃ v σ' H',Inv X pins σ' H' s'/\RelV v u/\D.rt v H'
structure PE (X:Cx) (e:Expr) (t:TE):Prop where
 run:∀ (pins:List (Addr×Obj)) (s:hV) (σ:St) (H:Hp) (Q:VK),Inv X pins σ H s->t σ H Q->wpAny 'd' X.A (eval e X.env) (EP X pins σ Q) X.xe s
instance {X:Cx} {e:Expr} {t:TE}:CoeFun (PE X e t) (λ_=>∀ (pins:List (Addr×Obj)) (s:hV) (σ:St) (H:Hp) (Q:VK),Inv X pins σ H s->t σ H Q->wpAny 'd' X.A (eval e X.env) (EP X pins σ Q) X.xe s):=⟨λh=>h.run⟩
structure PT (X:Cx) (e:Expr) (t:TT):Prop where
 run:∀ (pins:List (Addr×Obj)) (s:hV) (σ:St) (H:Hp) (Q:Bool->Hp->Prop),Inv X pins σ H s->t σ H Q->wpAny 'd' X.A (isTrue e X.env (eval e X.env)) (TP X pins σ Q) X.xe s
instance {X:Cx} {e:Expr} {t:TT}:CoeFun (PT X e t) (λ_=>∀ (pins:List (Addr×Obj)) (s:hV) (σ:St) (H:Hp) (Q:Bool->Hp->Prop),Inv X pins σ H s->t σ H Q->wpAny 'd' X.A (isTrue e X.env (eval e X.env)) (TP X pins σ Q) X.xe s):=⟨λh=>h.run⟩
structure PW (X:Cx) (e:Expr) (t:TT):Prop where
 run:∀ (whole:Sem g9) (pins:List (Addr×Obj)) (s:hV) (σ:St) (H:Hp) (Q:Bool->Hp->Prop),Inv X pins σ H s->t σ H Q->wpAny 'd' X.A (isTrue e X.env whole) (TP X pins σ Q) X.xe s
instance {X:Cx} {e:Expr} {t:TT}:CoeFun (PW X e t) (λ_=>∀ (whole:Sem g9) (pins:List (Addr×Obj)) (s:hV) (σ:St) (H:Hp) (Q:Bool->Hp->Prop),Inv X pins σ H s->t σ H Q->wpAny 'd' X.A (isTrue e X.env whole) (TP X pins σ Q) X.xe s):=⟨λh=>h.run⟩
variable {e:Expr}
theorem PW.pt {t:TT} (h:PW X e t):PT X e t:=⟨h.run _⟩
structure PA (X:Cx) (es:List Expr) (t:TA):Prop where
 run:∀ (pos:Pos) (pins:List (Addr×Obj)) (s:hV) (σ:St) (H:Hp) (Q:List V->Hp->Prop),Inv X pins σ H s->t σ H Q->wpAny 'd' X.A (spliced (backTo pos (starEach es X.env))) (AP X pins σ Q) X.xe s
instance {X:Cx} {es:List Expr} {t:TA}:CoeFun (PA X es t) (λ_=>∀ (pos:Pos) (pins:List (Addr×Obj)) (s:hV) (σ:St) (H:Hp) (Q:List V->Hp->Prop),Inv X pins σ H s->t σ H Q->wpAny 'd' X.A (spliced (backTo pos (starEach es X.env))) (AP X pins σ Q) X.xe s):=⟨λh=>h.run⟩
structure PS (X:Cx) (st:Stmt) (t:TS):Prop where
 run:∀ (pins:List (Addr×Obj)) (s:hV) (σ:St) (H:Hp) (D:Ends),Inv X pins σ H s->t D σ H->wpAny 'd' X.A (exec st X.env) (SP X pins D) X.xe s
instance {X:Cx} {st:Stmt} {t:TS}:CoeFun (PS X st t) (λ_=>∀ (pins:List (Addr×Obj)) (s:hV) (σ:St) (H:Hp) (D:Ends),Inv X pins σ H s->t D σ H->wpAny 'd' X.A (exec st X.env) (SP X pins D) X.xe s):=⟨λh=>h.run⟩
structure PSs (X:Cx) (st:List Stmt) (t:TS):Prop where
 run:∀ (pins:List (Addr×Obj)) (s:hV) (σ:St) (H:Hp) (D:Ends),Inv X pins σ H s->t D σ H->wpAny 'd' X.A (execs st X.env) (SP X pins D) X.xe s
instance {X:Cx} {st:List Stmt} {t:TS}:CoeFun (PSs X st t) (λ_=>∀ (pins:List (Addr×Obj)) (s:hV) (σ:St) (H:Hp) (D:Ends),Inv X pins σ H s->t D σ H->wpAny 'd' X.A (execs st X.env) (SP X pins D) X.xe s):=⟨λh=>h.run⟩
variable {A:ii} {E:g9->hV->Prop}
theorem thn {t:Sem α} {Q Q':α->hV->Prop} {M:Model} (h:wpAny M A t Q E s) (hQ:∀ a s,Q a s->Q' a s):wpAny M A t Q' E s:=iU h hQ λ_ _ x=>x
variable {σ:St} {pos:Pos} {Q:g9->hV->Prop} {ta:TE} {c:Expr}
section
def qhM (i:Nat):TE:=λσ H Q=>∃ v,σ[i]?=g6 (g6 v)/\Q v H
def tC (v:V):TE:=λ_ H Q=>Q v H
theorem yG (hN:X.N[i]?=g6 x) (hv:Vis X.env.scope x) (hd:'m'=false:=by decide) (hcd:(x == ("__classdict__":Str))=false:=by decide):PE X (.Name x pos) (qhM i):=by
 refine ⟨?_⟩
 intro pins s σ H Q I h
 obtain ⟨v,e,h⟩:=h
 obtain ⟨m,hn,hl⟩:=I.loc
 obtain ⟨u,r,l⟩:=hl i x v hN e hv
 have fin:EP X pins σ Q u s:=⟨v,H,I,r,h⟩
 rcases l with ⟨hk,hm⟩ | ⟨hk,c,hc,hcell⟩
 ·exact wpAny_Name (wpAny_loadName_local I.ok.kind hk hn hm fin) hd
 ·rcases hk with hk | hk
  ·exact wpAny_Name (wpAny_loadName_cell I.ok.kind hk hc hcell fin) hd
  ·exact wpAny_Name (wpAny_loadName_free I.ok.kind hk hc hcell fin hcd) hd
theorem qcY {i j pos}:PE X (.Constant (.int i) j pos) (tC (.int i)):=⟨λ_ _ _ H _ I h=>wpAny_Constant_int ⟨.int i,H,I.tok _,⟨_,rfl⟩,h⟩⟩
theorem qhN {b j pos}:PE X (.Constant (.bool b) j pos) (tC (.bl b)):=⟨λ_ _ _ H _ I h=>Constant_bool ⟨.bl b,H,I,rfl,h⟩⟩
theorem qfG {j pos}:PE X (.Constant .none j pos) (tC .non):=⟨λ_ _ _ H _ I h=>Constant_none ⟨.non,H,I,rfl,h⟩⟩
theorem qcZ {x j pos}:PE X (.Constant (.str x) j pos) (tC (.str x)):=⟨λ_ _ _ H _ I h=>Calls.Constant_str ⟨.str x,H,I.tok _,⟨_,rfl⟩,h⟩⟩
def Gl (X:Cx) (x:Str):Prop:=X.env.kindOf x=g6 .globalImplicit
theorem JJ {E:g9->hV->Prop} {pos:Pos} (I:Inv X pins σ H s) (hg:Gl X x) (hm:X.mg x=g6 u) (h:Q u s)
  (hd:'m'=false:=by decide):wpAny 'd' X.A (eval (.Name x pos) X.env) Q E s:=
 Calls.Name_function_global I.ok.kind hg (Calls.loadGlobal_global (by rw [I.ok.glob]; exact I.mod.glob.keeps I.bk) hm h) hd
theorem xj {E:g9->hV->Prop} {pos:Pos} (I:Inv X pins σ H s) (hg:Gl X x) (hm:X.mg x=g7) (hv:bootBuiltins x=g6 u) (h:Q u s)
  (hn:x ≠ "__name__":=by decide) (hd:'m'=false:=by decide):wpAny 'd' X.A (eval (.Name x pos) X.env) Q E s:=by
 obtain ⟨mb,h1,h2⟩:=I.mod.blt
 exact Calls.Name_function_global I.ok.kind hg (Calls.loadGlobal_builtin (by rw [I.ok.glob]; exact I.mod.glob.keeps I.bk) hm (by rw [I.ok.blt]; exact h1.keeps I.bk) ((h2 x hn).trans hv) h) hd
theorem qdJ (hg:Gl X x) (hm:X.mg x=g6 u) (r:RelV v u) (hd:'m'=false:=by decide):PE X (.Name x pos) (tC v):=⟨λ_ _ _ H _ I h=>JJ I hg hm ⟨v,H,I,r,h⟩ hd⟩
theorem qdK (hg:Gl X x) (hm:X.mg x=g7) (hv:bootBuiltins x=g6 u) (r:RelV v u) (hn:x ≠ "__name__":=by decide) (hd:'m'=false:=by decide):PE X (.Name x pos) (tC v):=⟨λ_ _ _ H _ I h=>xj I hg hm hv ⟨v,H,I,r,h⟩ hn hd⟩
variable {a b:Expr} {tb:TE}
variable {tA tB':TT} {rest:List Expr}
def qjp (t u:TT):TT:=λσ H Q=>t σ H λc H1=>if c=hZ then u σ H1 Q else Q hJ H1
def tOr (t u:TT):TT:=λσ H Q=>t σ H λc H1=>if c=hZ then Q hZ H1 else u σ H1 Q
def qjq (t:TT):TT:=λσ H Q=>t σ H λc H1=>Q (!c) H1
theorem qdL (ha:PT X a tA):PW X (.BoolOp .And [a] pos) tA:=by
 refine ⟨?_⟩
 intro wh pins s σ H Q I h
 refine isTrue_and (thn (ha pins s σ H Q I h) λc s1 e=>?_)
 cases c with
 | true=>exact isTrue_and_nil e
 | false=>exact e
theorem qfH (ha:PT X a tA):PW X (.BoolOp .Or [a] pos) tA:=by
 refine ⟨?_⟩
 intro wh pins s σ H Q I h
 refine isTrue_or (thn (ha pins s σ H Q I h) λc s1 e=>?_)
 cases c with
 | false=>exact isTrue_or_nil e
 | true=>exact e
theorem qfI (ha:PT X a tA) (hb:PW X (.BoolOp .And (b::rest) pos) tB'):PW X (.BoolOp .And (a::b::rest) pos) (qjp tA tB'):=by
 refine ⟨?_⟩
 intro wh pins s σ H Q I h
 refine isTrue_and (thn (ha pins s σ H _ I h) λc s1 ⟨H1,I1,q1⟩=>?_)
 cases c with
 | true=>exact hb wh pins s1 σ H1 Q I1 q1
 | false=>exact ⟨H1,I1,q1⟩
theorem qhO (ha:PT X a tA) (hb:PW X (.BoolOp .Or (b::rest) pos) tB'):PW X (.BoolOp .Or (a::b::rest) pos) (tOr tA tB'):=by
 refine ⟨?_⟩
 intro wh pins s σ H Q I h
 refine isTrue_or (thn (ha pins s σ H _ I h) λc s1 ⟨H1,I1,q1⟩=>?_)
 cases c with
 | true=>exact ⟨H1,I1,q1⟩
 | false=>exact hb wh pins s1 σ H1 Q I1 q1
theorem qfJ (ha:PT X a tA):PT X (.UnaryOp .Not a pos) (qjq tA):=by
 refine ⟨?_⟩
 intro pins s σ H Q I h
 exact isTrue_not (ha pins s σ H (λc H1=>Q (!c) H1) I h)
def qhP (ta tb:TE):TE:=λσ H Q=>ta σ H λx H1=>∃ c,x=.bl c/\if c=hZ then tb σ H1 Q else Q (.bl hJ) H1
theorem qfK {op} {t:TE} (h:PE X a t):PE X (.BoolOp op [a] pos) t:=⟨λpins s σ H Q I hw=>BoolOp_one (h pins s σ H Q I hw)⟩
theorem qfL (ha:PE X a ta) (hb:PE X (.BoolOp .And (b::rest) pos) tb):PE X (.BoolOp .And (a::b::rest) pos) (qhP ta tb):=by
 refine ⟨?_⟩
 intro pins s σ H Q I h
 refine BoolOp_and (thn (ha pins s σ H _ I h) λv s1 ⟨x,H1,I1,r1,q1⟩=>?_)
 obtain ⟨c,rfl,q1⟩:=q1
 cases r1
 refine iy ?_
 cases c with
 | true=>exact hb pins s1 σ H1 Q I1 q1
 | false=>exact ⟨.bl hJ,H1,I1,rfl,q1⟩
def tIf (t:TT) (ta tb:TE):TE:=λσ H Q=>t σ H λc H1=>if c=hZ then ta σ H1 Q else tb σ H1 Q
theorem qbl (hc:PT X c tA) (ha:PE X a ta) (hb:PE X b tb):PE X (.IfExp c a b pos) (tIf tA ta tb):=by
 refine ⟨?_⟩
 intro pins s σ H Q I h
 refine wpAny_IfExp (thn (hc pins s σ H _ I h) λd s1 ⟨H1,I1,q1⟩=>?_)
 cases d with
 | true=>exact ha pins s1 σ H1 Q I1 q1
 | false=>exact hb pins s1 σ H1 Q I1 q1
end
def SqL (K:Frag) (H:Hp) (a:Addr) (xs:List V):Prop:=
 Rd H a (.lst xs) \/
  ∃ (o:Obj) (its:Array g9) (n:Nat),K.lookup a=g6 o/\o.cls=.type "list"/\o.dict=g7/\o.data=.seq its n/\its.size<=sizeLine/\Vals xs its.toList
def SqT (K:Frag) (H:Hp) (a:Addr) (xs:List V):Prop:=
 Rd H a (.tup xs) \/
  ∃ (o:Obj) (its:Array g9) (n:Nat),K.lookup a=g6 o/\(o.cls=.type "tuple"/\o.dict=g7)/\o.data=.seq its n/\its.size<=sizeLine/\Vals xs its.toList
noncomputable def qjr:g9->Option V
 | .none=>g6 .non
 | .bool b=>g6 (.bl b)
 | .int i _=>g6 (.int i)
 | .str x _=>g6 (.str x)
 | .bytes b _=>g6 (.byt b)
 | .float b _=>g6 (.flt b)
 | .ref a=>g6 (.ref a)
 | .type n=>g6 (.ty n)
 | _=>g7
theorem RelV.abs {x:V} (r:RelV x u):qjr u=g6 x:=by
 cases x with
 | non=>cases r; rfl
 | bl _=>cases r; rfl
 | int _=>obtain ⟨t,rfl⟩:=r; rfl
 | str _=>obtain ⟨t,rfl⟩:=r; rfl
 | byt _=>obtain ⟨t,rfl⟩:=r; rfl
 | flt _=>obtain ⟨t,rfl⟩:=r; rfl
 | ref _=>cases r; rfl
 | ty _=>cases r; rfl
theorem RelV.inj {x y:V} (r:RelV x u) (q:RelV y u):x=y:=aU.inj (r.abs.symm.trans q.abs)
theorem Vals.inj:∀ {xs ys:List V} {us:List g9},Vals xs us->Vals ys us->xs=ys
 | _,_,_,.nil,.nil=>rfl
 | _,_,_,.cons r t,.cons r' t'=>by rw [r.inj r',Vals.inj t t']
variable {K:Frag}
section
variable {ys:List V}
theorem SqT.of (h:H a=g6 (.tup xs)):SqT K H a xs:=.inl (.inl h)
theorem Inv.list (I:Inv X pins σ H s) (h:SqL X.K H a xs):∃ its:List g9,Vals xs its/\PlainL s.heap a its.toArray/\xs.length<=sizeLine:=by
 rcases h with h | ⟨o,its,n,hk,hc,hd,hs,hz,r⟩
 ·obtain ⟨z,its,n,r,e⟩:=h.ok I.hok
  exact ⟨its,r,⟨_,n,e,rfl,rfl,rfl⟩,z⟩
 ·refine ⟨its.toList,r,⟨o,n,I.kIn a o hk,hc,hd,by simpa using hs⟩,?_⟩
  have e:=r.length
  simp only [bN] at e
  omega
theorem Inv.tuple (I:Inv X pins σ H s) (h:SqT X.K H a xs):∃ its:List g9,Vals xs its/\IsTup s.heap a its.toArray/\xs.length<=sizeLine:=by
 rcases h with h | ⟨o,its,n,hk,hc,hs,hz,r⟩
 ·obtain ⟨⟨z,_⟩,its,r,p⟩:=h.ok I.hok
  exact ⟨its,r,p,z⟩
 ·refine ⟨its.toList,r,⟨o,I.kIn a o hk,hc.1,n,by simpa using hs⟩,?_⟩
  have e:=r.length
  simp only [bN] at e
  omega
theorem Inv.tupleN (I:Inv X pins σ H s) (h:SqT X.K H a xs):∃ o,s.heap.get? a=g6 o/\o.dict=none:=by
 rcases h with h | ⟨o,its,n,hk,hc,hs,hz,r⟩
 ·obtain ⟨⟨z,w⟩,its,r,p⟩:=h.ok I.hok
  exact w
 ·exact ⟨o,I.kIn a o hk,hc.2⟩
theorem Inv.list_inj (I:Inv X pins σ H s) (h:SqL X.K H a xs) (h':SqL X.K H a ys):xs=ys:=by
 obtain ⟨its,r,⟨o,n,e,_,_,d⟩,_⟩:=I.list h
 obtain ⟨its',r',⟨o',n',e',_,_,d'⟩,_⟩:=I.list h'
 rw [e] at e'; cases e'
 rw [d] at d'
 injection d' with d1 _
 have:its=its':=by simpa using congrArg Array.toList d1
 subst this
 exact r.inj r'
theorem Inv.tuple_inj (I:Inv X pins σ H s) (h:SqT X.K H a xs) (h':SqT X.K H a ys):xs=ys:=by
 obtain ⟨its,r,⟨o,e,_,n,d⟩,_⟩:=I.tuple h
 obtain ⟨its',r',⟨o',e',_,n',d'⟩,_⟩:=I.tuple h'
 rw [e] at e'; cases e'
 rw [d] at d'
 injection d' with d1 _
 have:its=its':=by simpa using congrArg Array.toList d1
 subst this
 exact r.inj r'
end
variable {te:TE} {tc:TT}
section
variable {st:Stmt} {rest:List Stmt} {t u:TS}
def qhQ:TS:=λD σ H=>D.nx σ H
def qjs (t u:TS):TS:=λD σ H=>t { D with nx:=u D } σ H
theorem Zy:PSs X [] qhQ:=⟨λ_ _ σ H _ I h=>i8 ⟨σ,H,I,h⟩⟩
theorem qbm (h1:PS X st t) (h2:PSs X rest u):PSs X (st::rest) (qjs t u):=by
 refine ⟨?_⟩
 intro pins s σ H D I h
 refine wpAny_execs_cons (thn (h1 pins s σ H { D with nx:=u D } I h) λf s1 q=>?_)
 cases f with
 | next=>
  obtain ⟨σ',H',I',q⟩:=q
  exact h2 pins s1 σ' H' D I' q
 | ret v=>exact q
 | brk=>exact q
 | cont=>exact q
theorem qdM (h1:PS X st t):PSs X [st] t:=by
 refine ⟨?_⟩
 intro pins s σ H D I h
 refine wpAny_execs_cons (thn (h1 pins s σ H D I h) λf s1 q=>?_)
 cases f with
 | next=>exact i8 q
 | ret v=>exact q
 | brk=>exact q
 | cont=>exact q
theorem Inv.quiet (I:Inv X pins σ H s):interactive X.env=false:=by simp [interactive,I.ok.kind]
def qhR (te:TE):TS:=λD σ H=>te σ H λ_ H1=>D.nx σ H1
theorem qdN (he:PE X e te) (hs:swapsWith e g7 pos.line X.env=pure false:=by rfl):PS X (.Expr e pos) (qhR te):=by
 refine ⟨?_⟩
 intro pins s σ H D I h
 exact wpAny_Expr_any (thn (he pins s σ H _ I h) λv s1 ⟨x,H1,I1,r1,q1⟩=>⟨σ,H1,I1,q1⟩) I.quiet hs
def qjt (te:TE):TS:=λD σ H=>te σ H D.rt
theorem qfM (he:PE X e te):PS X (.Return (g6 e) pos) (qjt te):=by
 refine ⟨?_⟩
 intro pins s σ H D I h
 exact wpAny_Return_some (thn (he pins s σ H _ I h) λv s1 ⟨x,H1,I1,r1,q1⟩=>⟨x,σ,H1,I1,r1,q1⟩)
def qju (c:TT) (t u:TS):TS:=λD σ H=>c σ H λb H1=>if b=hZ then t D σ H1 else u D σ H1
theorem qhS {a b:List Stmt} (hc:PT X c tc) (ha:PSs X a t) (hb:PSs X b u):PS X (.If c a b pos) (qju tc t u):=by
 refine ⟨?_⟩
 intro pins s σ H D I h
 refine wpAny_If (thn (hc pins s σ H _ I h) λd s1 ⟨H1,I1,q1⟩=>?_)
 cases d with
 | true=>exact ha pins s1 σ H1 D I1 q1
 | false=>exact hb pins s1 σ H1 D I1 q1
end
abbrev TG:=V->St->Hp->(St->Hp->Prop)->Prop
abbrev TGs:=List V->St->Hp->(St->Hp->Prop)->Prop
structure PG (X:Cx) (target:Expr) (t:TG):Prop where
 run:∀ (pins:List (Addr×Obj)) (s:hV) (σ:St) (H:Hp) (v:V) (u:g9) (Q:St->Hp->Prop),Inv X pins σ H s->RelV v u->t v σ H Q ->
  wpAny 'd' X.A (assign target X.env u) (λ_ s'=>∃ σ' H',Inv X pins σ' H' s'/\Q σ' H') X.xe s
instance {X:Cx} {target:Expr} {t:TG}:CoeFun (PG X target t) (λ_=>∀ (pins:List (Addr×Obj)) (s:hV) (σ:St) (H:Hp) (v:V) (u:g9) (Q:St->Hp->Prop),Inv X pins σ H s->RelV v u->t v σ H Q ->
  wpAny 'd' X.A (assign target X.env u) (λ_ s'=>∃ σ' H',Inv X pins σ' H' s'/\Q σ' H') X.xe s):=⟨λh=>h.run⟩
structure PGs (X:Cx) (ts:List Expr) (t:TGs):Prop where
 run:∀ (pins:List (Addr×Obj)) (s:hV) (σ:St) (H:Hp) (vs:List V) (us:List g9) (Q:St->Hp->Prop),Inv X pins σ H s->Vals vs us->t vs σ H Q ->
  wpAny 'd' X.A (assignInOrder ((assignEach ts X.env).map (·.2)) us) (λ_ s'=>∃ σ' H',Inv X pins σ' H' s'/\Q σ' H') X.xe s
instance {X:Cx} {ts:List Expr} {t:TGs}:CoeFun (PGs X ts t) (λ_=>∀ (pins:List (Addr×Obj)) (s:hV) (σ:St) (H:Hp) (vs:List V) (us:List g9) (Q:St->Hp->Prop),Inv X pins σ H s->Vals vs us->t vs σ H Q ->
  wpAny 'd' X.A (assignInOrder ((assignEach ts X.env).map (·.2)) us) (λ_ s'=>∃ σ' H',Inv X pins σ' H' s'/\Q σ' H') X.xe s):=⟨λh=>h.run⟩
abbrev qhT:=V->V->V->Hp->(Hp->Prop)->Prop
def qiT (X:Cx) (t:qhT):Prop:=
 ∀ (pins:List (Addr×Obj)) (s:hV) (σ:St) (H:Hp) (o i v:V) (ov iv u:g9) (Q:Hp->Prop),Inv X pins σ H s->RelV o ov->RelV i iv->RelV v u->t o i v H Q ->
  wpAny 'd' X.A (setItem ov iv u) (λ_ s'=>∃ H',Inv X pins σ H' s'/\Q H') X.xe s
variable {es:List Expr} {tg:Expr}
section
def qfN (i:Nat):TG:=λv σ H Q=>Q (σ.set i (g6 v)) H
theorem qdO (hN:X.N.Nodup) (hi:X.N[i]?=g6 x) (hx:Loc X.env.scope x) (hf:X.fn x=hZ\/X.env.scope.names.lookup x=g6 .local:=by first | exact .inl rfl | exact .inr rfl | assumption):PG X (.Name x pos) (qfN i):=by
 refine ⟨?_⟩
 intro pins s σ H v u Q I r h
 exact wpAny_assign_Name (Yh I hN hi hx r (λs' I'=>⟨_,H,I',h⟩) hf)
def qjv:TGs:=λvs σ H Q=>vs=[]/\Q σ H
def qhU (t:TG) (u:TGs):TGs:=λvs σ H Q=>∃ v r,vs=v::r/\t v σ H λσ' H'=>u r σ' H' Q
theorem qdP:PGs X [] qjv:=by
 refine ⟨?_⟩
 intro pins s σ H vs us Q I r h
 obtain ⟨e,h⟩:=h
 subst e
 cases r
 exact assignInOrder_nil ⟨σ,H,I,h⟩
theorem qbn {t:TG} {u:TGs} (h1:PG X e t) (h2:PGs X es u)
  (hs:(assignEach (e::es) X.env).map (·.2)=assign e X.env::(assignEach es X.env).map (·.2):=by rfl):PGs X (e::es) (qhU t u):=by
 refine ⟨?_⟩
 intro pins s σ H vs us Q I r h
 obtain ⟨v,vr,e1,h⟩:=h
 subst e1
 cases r with
 | cons r rr=>
  rw [hs]
  refine assignInOrder_cons (thn (h1 pins s σ H _ _ _ I r h) λ_ s1 ⟨σ1,H1,I1,q1⟩=>?_)
  exact h2 pins s1 σ1 H1 _ _ Q I1 rr q1
def qjw (K:Frag) (n:Nat) (t:TGs):TG:=λv σ H Q=>∃ a xs,v=.ref a/\SqT K H a xs/\xs.length=n/\t xs σ H Q
theorem qfO {k:Nat} {t:TGs} {n:Nat} (hc:X.calm=hZ) (h:PGs X es t)
  (hn:(assignEach es X.env).length=n:=by rfl) (hst:(assignEach es X.env).findIdx? (·.1)=none:=by rfl):PG X (.Tuple es k pos) (qjw X.K n t):=by
 refine ⟨?_⟩
 intro pins s σ H v u Q I r hw
 obtain ⟨a,xs,e1,hq,hl,hw⟩:=hw
 subst e1
 cases r
 obtain ⟨its,rv,ht,hz⟩:=I.tuple hq
 refine assign_Tuple_tuple (I.ok.hd hc) ht (by simp [hn,<-hl,rv.length]) hst λh' hx=>?_
 have I1:Inv X pins σ H { s with heap:=h' }:=I.kept (t':=s.toks) λb o e=>hx b o (aB (aq e)) e
 exact h pins _ σ H xs _ Q I1 (by simpa using rv) hw
def qjx (to ti:TE) (t:qhT):TG:=λv σ H Q=>to σ H λo H1=>ti σ H1 λi H2=>t o i v H2 λH3=>Q σ H3
theorem qfP {o i:Expr} {to ti:TE} {t:qhT} (ho:PE X o to) (hi:PE X i ti) (hs:qiT X t)
  (ha:∀ v,assign (.Subscript o i pos) X.env v=(do
   let ov <-holding [v] (eval o X.env)
   let iv <-holding [v,ov] (eval i X.env)
   standAt pos
   holding [v,ov,iv] (setItem ov iv v)
   release [v,ov,iv] []):=by intro _; rfl):PG X (.Subscript o i pos) (qjx to ti t):=by
 refine ⟨?_⟩
 intro pins s σ H v u Q I r h
 rw [ha]
 refine g8 (ig (thn (ho pins s σ H _ I h) λov s1 ⟨x,H1,I1,r1,q1⟩=>?_))
 refine g8 (ig (thn (hi pins s1 σ H1 _ I1 q1) λiv s2 ⟨y,H2,I2,r2,q2⟩=>?_))
 refine g8 (wpAny_standAt (g8 (ig (thn (hs pins s2 σ H2 x y v ov iv u _ I2 r1 r2 r q2) λ_ s3 ⟨H3,I3,q3⟩=>?_))))
 exact wpAny_release ⟨σ,H3,I3,q3⟩
def qiU (te:TE) (g:TG):TS:=λD σ H=>te σ H λx H1=>g x σ H1 D.nx
theorem qfQ {g:TG} (he:PE X e te) (hg:PG X tg g) (hs:swapsWithSole [tg] e pos.line X.env=pure false:=by rfl) (hw:swappedStores [tg] e X.env=pure none:=by rfl)
  (h1:(assignEach [tg] X.env).map (·.2)=[assign tg X.env]:=by rfl):PS X (.Assign [tg] e pos) (qiU te g):=by
 refine ⟨?_⟩
 intro pins s σ H D I h
 refine wpAny_Assign_stores (thn (he pins s σ H _ I h) λv s1 ⟨x,H1,I1,r1,q1⟩=>?_) hs hw
 rw [h1]
 exact thn (hg pins s1 σ H1 x v _ I1 r1 q1) λ_ s2 q=>q
theorem qc0 {pos':Pos} (hN:X.N.Nodup) (hi:X.N[i]?=g6 x) (hx:Loc X.env.scope x) (he:PE X e te) (hs:swapsWith e (g6 (.Name x pos')) pos.line X.env=pure false:=by rfl) (hf:X.fn x=hZ\/X.env.scope.names.lookup x=g6 .local:=by first | exact .inl rfl | exact .inr rfl | assumption) :
  PS X (.Assign [.Name x pos'] e pos) (qiU te (qfN i)):=by
 refine ⟨?_⟩
 intro pins s σ H D I h
 refine wpAny_Assign_Name (thn (he pins s σ H _ I h) λv s1 ⟨y,H1,I1,r1,q1⟩=>?_) hs
 exact Yh I1 hN hi hx r1 (λs2 I2=>⟨_,H1,I2,q1⟩) hf
end
variable {tb:TS} {body:List Stmt}
section
def qfR (c:TT) (tb:TS):TS:=λD σ H=>∃ W:Nat->St->Hp->Prop,(∃ m,W m σ H)/\∀ m σ H,W m σ H ->
 c σ H λb H1=>if b=hZ then ∃ N:St->Hp->Prop,(∀ σ' H',N σ' H'->∃ m',m' < m/\W m' σ' H')/\tb { D with nx:=N,ct:=N,bk:=D.nx } σ H1 else D.nx σ H1
theorem qbo (hp:PassesOwn 'd' X.A X.env X.xe) (hc:PT X c tc) (hb:PSs X body tb):PS X (.While c body [] pos) (qfR tc tb):=by
 refine ⟨?_⟩
 intro pins s σ H D I h
 obtain ⟨W,⟨m0,w0⟩,turn⟩:=h
 refine wpAny_While (codeAny_whileLoop (λn s'=>∃ σ' H',Inv X pins σ' H' s'/\W n σ' H') ?_ m0 ⟨σ,H,I,w0⟩)
 rintro n s1 ⟨σ1,H1,I1,w1⟩
 refine iJ hp (thn (hc pins s1 σ1 H1 _ I1 (turn n σ1 H1 w1)) λb s2 ⟨H2,I2,q2⟩=>?_)
 cases b with
 | true=>
  obtain ⟨N,hN,q2⟩:=q2
  rw [if_pos rfl]
  refine iJ hp (thn (hb pins s2 σ1 H2 _ I2 q2) λf s3 q3=>?_)
  cases f with
  | next=>
   obtain ⟨σ3,H3,I3,n3⟩:=q3
   obtain ⟨m',hm,w3⟩:=hN σ3 H3 n3
   exact ⟨m',hm,σ3,H3,I3,w3⟩
  | cont=>
   obtain ⟨σ3,H3,I3,n3⟩:=q3
   obtain ⟨m',hm,w3⟩:=hN σ3 H3 n3
   exact ⟨m',hm,σ3,H3,I3,w3⟩
  | brk=>exact q3
  | ret v=>exact q3
 | false=>
  rw [if_neg be]
  exact i8 ⟨σ1,H2,I2,q2⟩
end
structure It where
 go:Nat->Hp->Prop
 yld:Nat->Hp->V->Hp->Prop
 stop:Nat->Hp->Prop
def WM (X:Cx) (pins:List (Addr×Obj)) (H:Hp) (b:Addr):Prop:=
 H b=g7/\b≠X.env.locals/\b∉X.fs/\(b∈X.ex\/X.s₀.heap.objs.size<=b)/\(∀ x c,X.env.cells.lookup x=g6 c->c≠b)/\∀ p∈X.pn++pins,p.1≠b
theorem Inv.fpOk (I:Inv X pins σ H s) (hb:s.heap.objs.size<=b) (hn:H' b=g7):WM X pins H' b:=by
 refine ⟨hn,cr (aI I.lt hb),I.nofs hb,.inr (br I.sz hb),λx c e z=>?_,λp hp z=>?_⟩
 ·obtain ⟨v,q⟩:=I.cell x c e
  exact absurd (aI q.lt (by rw [z]; exact hb)) (bQ _)
 ·exact absurd (aI (aq (I.pin p hp).1) (by rw [z]; exact hb)) (bQ _)
structure Turn (P:h8) (w:ib) (K:Frag) (tg:Expr) (J:It) (fp:List Addr) (it:Addr) (tn:Nat->Heap->Prop):Prop where
 mem:it∈fp
 obj:∀ i h,tn i h->∀ b∈fp,∃ o,h.get? b=g6 o/\∀ v,o.data≠.cell v
 keep:∀ i h h',tn i h->(∀ b∈fp,∀ o,h.get? b=g6 o->h'.get? b=g6 o)->tn i h'
 item:∀ (X:Cx),X.prog=P->X.w=w->X.K=K->X.calm=hZ->∀ (i:Nat) (pins:List (Addr×Obj)) (s:hV) (σ:St) (H:Hp) (E:g9->hV->Prop),Inv X pins σ H s->(∀ b∈fp,WM X pins H b)->tn i s.heap->J.go i H ->
  wpAny (model P w) X.A (pyNext (.ref it)) (λr s1=>∃ u,r=g6 u /\
   wpAny (model P w) X.A (letOwnedTupleGo tg (.ref it) u) (λ_ s2=>∃ x H',Inv X pins σ H' s2/\RelV x u/\J.yld i H x H'/\tn (i+1) s2.heap/\∀ b∈fp,H' b=g7) E s1) E s
 done:∀ (X:Cx),X.prog=P->X.w=w->X.K=K->X.calm=hZ->∀ (i:Nat) (pins:List (Addr×Obj)) (s:hV) (σ:St) (H:Hp) (E:g9->hV->Prop),Inv X pins σ H s->(∀ b∈fp,WM X pins H b)->tn i s.heap->J.stop i H ->
  wpAny (model P w) X.A (pyNext (.ref it)) (λr s1=>r=g7/\Inv X pins σ H s1) E s
 self:∀ (A:ii) (i:Nat) (s:hV) (Q:g9->hV->Prop) (E:g9->hV->Prop),tn i s.heap->Q (.ref it) s->wpAny (model P w) A (pyIter (.ref it)) Q E s
abbrev TI:=St->Hp->(It->Hp->Prop)->Prop
def PIE (X:Cx) (pins:List (Addr×Obj)) (σ:St) (tg:Expr) (R:It->Hp->Prop) (itv:g9) (s2:hV):Prop:=
 ∃ (it:Addr) (fp:List Addr) (tn:Nat->Heap->Prop) (J:It) (H':Hp),itv=.ref it/\Inv X pins σ H' s2/\Turn X.prog X.w X.K tg J fp it tn/\tn 0 s2.heap/\(∀ b∈fp,WM X pins H' b)/\R J H'
structure PI (X:Cx) (tg iter:Expr) (wi:TI):Prop where
 run:∀ (pins:List (Addr×Obj)) (s:hV) (σ:St) (H:Hp) (R:It->Hp->Prop),Inv X pins σ H s->wi σ H R ->
  wpAny 'd' X.A (eval iter X.env) (λv s1=>wpAny 'd' X.A (pyIter v) (PIE X pins σ tg R) X.xe s1) X.xe s
instance {X:Cx} {tg iter:Expr} {wi:TI}:CoeFun (PI X tg iter wi) (λ_=>∀ (pins:List (Addr×Obj)) (s:hV) (σ:St) (H:Hp) (R:It->Hp->Prop),Inv X pins σ H s->wi σ H R ->
  wpAny 'd' X.A (eval iter X.env) (λv s1=>wpAny 'd' X.A (pyIter v) (PIE X pins σ tg R) X.xe s1) X.xe s):=⟨λh=>h.run⟩
theorem qbp {M:Model} {A:ii} {E:g9->hV->Prop} {tg:Expr} {u:g9} {o:Obj} {n:String} {vs:Array g9} {Q:Unit->hV->Prop} (ho:s.heap.get? it=g6 o) (hc:o.cls=.type n) (hd:o.data=.fields vs)
    (hn:["enumerate", "zip", "dict_itemiterator", "dict_reverseitemiterator", "odict_iterator", "itertools.zip_longest", "itertools.pairwise"].contains n=hJ) (hQ:Q () s):wpAny M A (letOwnedTupleGo tg (.ref it) u) Q E s:=by
  unfold letOwnedTupleGo
  cases tg <;> first
    | exact h7 hQ
    | (cases u <;> first
        | exact h7 hQ
        | (refine g8 (wpAny_load ho ?_)
           rw [hc,hd]
           show wpAny M A (if (["enumerate", "zip", "dict_itemiterator", "dict_reverseitemiterator", "odict_iterator", "itertools.zip_longest", "itertools.pairwise"].contains n&&vs[0]? == g6 (rawInt _))=hZ then _ else _) Q E s
           rw [if_neg (by intro h; rw [hn,Bool.false_and] at h; cases h)]
           exact h7 hQ))
noncomputable def Itl (K:Frag) (a:Addr):It:=
 ⟨λi H=>∃ xs x,SqL K H a xs/\xs[i]?=g6 x,λi H x H'=>H'=H/\∀ xs,SqL K H a xs->xs[i]?=g6 x,λi H=>∃ xs,SqL K H a xs/\xs.length<=i⟩
noncomputable def Itt (K:Frag) (a:Addr):It:=
 ⟨λi H=>∃ xs x,SqT K H a xs/\xs[i]?=g6 x,λi H x H'=>H'=H/\∀ xs,SqT K H a xs->xs[i]?=g6 x,λi H=>∃ xs,SqT K H a xs/\xs.length<=i⟩
noncomputable def Itr (lo:Int) (n:Nat):It:=⟨λi _=>i < n,λi H x H'=>H'=H/\x=.int (lo+i),λi _=>n<=i⟩
theorem Zz (a it:Addr):Turn P w K tg (Itl K a) [it] it (λi h=>h.IsListIter it a i) where
 mem:=by simp
 obj:=λi h st b hb=>by
  have e:b=it:=by simpa using hb
  subst e
  obtain ⟨o,e,c,d⟩:=st
  exact ⟨o,e,λv z=>by rw [d] at z; cases z⟩
 keep:=λi h h' st k=>st.at λo e=>k it 'h' o e
 item:=by
  intro X hP hw hK hc i pins s σ H E I hf st hg
  subst hP hw hK
  obtain ⟨xs,x,hq,hx⟩:=hg
  obtain ⟨its,rv,p,hz⟩:=I.list hq
  obtain ⟨u,hu,ru⟩:=rv.get hx
  obtain ⟨f0,f1,f2,f3,f4,f5⟩:=hf it 'h'
  refine wpAny_pyNext_list_item st p.isList (x:=u) (by simpa using hu) λh' st' sb=>?_
  have I1:Inv X pins σ H { s with heap:=h' }:=I.turned (t':=s.toks) (λb o hb e=>(sb.2 b hb).trans e) f0 f1 f3 f4 f5
  obtain ⟨o,e,c,d⟩:=id st'
  exact ⟨u,rfl,qbp (s:={ s with heap:=h' }) e c d 'c' ⟨x,H,I1,ru,⟨rfl,λys hy=>by rw [I.list_inj hy hq]; exact hx⟩,st',λb hb=>(hf b hb).1⟩⟩
 done:=by
  intro X hP hw hK hc i pins s σ H E I hf st hg
  subst hP hw hK
  obtain ⟨xs,hq,hx⟩:=hg
  obtain ⟨its,rv,p,hz⟩:=I.list hq
  obtain ⟨f0,f1,f2,f3,f4,f5⟩:=hf it 'h'
  have hl:=rv.length
  exact wpAny_pyNext_list_end (I.ok.hd hc) st p.isList (by simp; omega) λh' eb=>⟨rfl,I.turned (t':=s.toks) (λb o hb e=>eb b o hb e) f0 f1 f3 f4 f5⟩
 self:=λ_ _ _ _ _ st h=>wpAny_pyIter_listiter st h
theorem XA (a it:Addr):Turn P w K tg (Itt K a) [it] it (λi h=>h.IsTupleIter it a i) where
 mem:=by simp
 obj:=λi h st b hb=>by
  have e:b=it:=by simpa using hb
  subst e
  obtain ⟨o,e,c,d⟩:=st
  exact ⟨o,e,λv z=>by rw [d] at z; cases z⟩
 keep:=λi h h' st k=>st.at λo e=>k it 'h' o e
 item:=by
  intro X hP hw hK hc i pins s σ H E I hf st hg
  subst hP hw hK
  obtain ⟨xs,x,hq,hx⟩:=hg
  obtain ⟨its,rv,p,hz⟩:=I.tuple hq
  obtain ⟨u,hu,ru⟩:=rv.get hx
  obtain ⟨f0,f1,f2,f3,f4,f5⟩:=hf it 'h'
  refine wpAny_pyNext_tuple_item st (show s.heap.IsTuple a its.toArray from p) (x:=u) (by simpa using hu) λh' st' sb=>?_
  have I1:Inv X pins σ H { s with heap:=h' }:=I.turned (t':=s.toks) (λb o hb e=>(sb.2 b hb).trans e) f0 f1 f3 f4 f5
  obtain ⟨o,e,c,d⟩:=id st'
  exact ⟨u,rfl,qbp (s:={ s with heap:=h' }) e c d 'c' ⟨x,H,I1,ru,⟨rfl,λys hy=>by rw [I.tuple_inj hy hq]; exact hx⟩,st',λb hb=>(hf b hb).1⟩⟩
 done:=by
  intro X hP hw hK hc i pins s σ H E I hf st hg
  subst hP hw hK
  obtain ⟨xs,hq,hx⟩:=hg
  obtain ⟨its,rv,p,hz⟩:=I.tuple hq
  obtain ⟨f0,f1,f2,f3,f4,f5⟩:=hf it 'h'
  have hl:=rv.length
  exact wpAny_pyNext_tuple_end (I.ok.hd hc) st (show s.heap.IsTuple a its.toArray from p) (by simp; omega) λh' eb=>⟨rfl,I.turned (t':=s.toks) (λb o hb e=>eb b o hb e) f0 f1 f3 f4 f5⟩
 self:=λ_ _ _ _ _ st h=>wpAny_pyIter_tupleiter st h
theorem XB (it:Addr) (lo:Int) (n:Nat):Turn P w K tg (Itr lo n) [it] it (λi h=>IsRangeIter h it (lo+(i:Nat) * 1) ((n:Int) - (i:Nat)) 1) where
 mem:=by simp
 obj:=λi h st b hb=>by
  have e:b=it:=by simpa using hb
  subst e
  exact ⟨_,st,λv z=>by
   have z':Data.fields _=Data.cell v:=z
   cases z'⟩
 keep:=λi h h' st k=>k it 'h' _ st
 item:=by
  intro X hP hw hK hc i pins s σ H E I hf st hg
  subst hP hw hK
  obtain ⟨f0,f1,f2,f3,f4,f5⟩:=hf it 'h'
  have W:=Walks.range (prog:=X.prog) (w:=X.w) (I.ok.hd hc) it lo 1 n
  refine W.item i s _ _ hg st λv h' tk hv st' kk=>?_
  obtain ⟨t,rfl⟩:=hv
  have I1:Inv X pins σ H { s with heap:=h',toks:=tk }:=I.turned (λb o hb e=>kk b o (by simpa using hb) e) f0 f1 f3 f4 f5
  refine ⟨_,rfl,qbp (s:={ s with heap:=h',toks:=tk }) (n := "range_iterator") st' rfl rfl 'c' ⟨.int (lo+i),H,I1,⟨t,?_⟩,⟨rfl,rfl⟩,st',λb hb=>(hf b hb).1⟩⟩
  rw [Int.mul_one]
 done:=by
  intro X hP hw hK hc i pins s σ H E I hf st hg
  subst hP hw hK
  obtain ⟨f0,f1,f2,f3,f4,f5⟩:=hf it 'h'
  exact wpAny_pyNext_range_end (I.ok.hd hc) st (by have:n<=i:=hg; omega) λh' eb=>⟨rfl,I.turned (t':=s.toks) (λb o hb e=>eb b o hb e) f0 f1 f3 f4 f5⟩
 self:=λ_ _ _ _ _ st h=>wpAny_pyIter_rangeiter st h
variable {p:Pos} {fp:List Addr}
section
theorem Yi {R:It->Hp->Prop} {E:g9->hV->Prop} {lo hi:Int} {t u v:Tok} {tk:Nat} (I:Inv X pins σ H s) (h1:-(2 ^ 62)<=lo) (h2:lo < 2 ^ 62) (h3:-(2 ^ 62)<=hi) (h4:hi < 2 ^ 62)
  (q:R (Itr lo (hi - lo).toNat) H):wpAny 'd' X.A (pyIter 'o') (PIE X pins σ tg R) E { s with heap:=s.heap.push { cls:=.type "range",data:=.fields #[.int lo t,.int hi u,.int 1 v] },toks:=tk }:=by
 refine wpAny_pyIter_range (IsRange.new ..) (small_one h1 h2 h3 h4) ?_
 have I1:Inv X pins σ H { s with heap:=s.heap.push { cls:=.type "range",data:=.fields #[.int lo t,.int hi u,.int 1 v] },toks:=tk }:=I.kept λb o e=>ac _ e
 refine ⟨(s.heap.push { cls:=.type "range",data:=.fields #[.int lo t,.int hi u,.int 1 v] }).objs.size,[(s.heap.push { cls:=.type "range",data:=.fields #[.int lo t,.int hi u,.int 1 v] }).objs.size],_,_,H,rfl,
  I1.kept (t':=tk) λb o e=>ac _ e,XB _ lo (hi - lo).toNat,?_,λb hb=>?_,q⟩
 ·have e1:lo+((0:Nat):Int) * 1=lo:=by simp
  have e2:(((hi - lo).toNat:Nat):Int) - ((0:Nat):Int)=Builtin.Range.rangeSize lo hi 1:=by rw [rangeSize_one]; split <;> omega
  show IsRangeIter _ _ (lo+((0:Nat):Int) * 1) ((((hi - lo).toNat:Nat):Int) - ((0:Nat):Int)) 1
  rw [e1,e2]
  exact ak _ rfl
 ·have e:b=(s.heap.push { cls:=.type "range",data:=.fields #[.int lo t,.int hi u,.int 1 v] }).objs.size:=by simpa using hb
  subst e
  exact I1.fpOk (ax _) (I1.hok.fresh (ax _))
def qhV (ta:TA):TI:=λσ H R=>ta σ H λvs H1=>∃ j:Int,vs=[.int j]/\-(2 ^ 62)<=j/\j < 2 ^ 62/\R (Itr 0 j.toNat) H1
def qhW (ta:TA):TI:=λσ H R=>ta σ H λvs H1=>∃ i j:Int,vs=[.int i,.int j]/\(-(2 ^ 62)<=i/\i < 2 ^ 62/\-(2 ^ 62)<=j/\j < 2 ^ 62)/\R (Itr i (j - i).toNat) H1
theorem ZA {a:Expr} {ta:TA} (hg:Gl X "range") (hm:X.mg "range"=g7) (ha:PA X [a] ta) (hs:starEach [a] X.env=[(hJ,eval a X.env)]:=by rfl):PI X tg (.Call (.Name "range" p) [a] [] pos) (qhV ta):=by
 refine ⟨?_⟩
 intro pins s σ H R I h
 refine Call_ (xj I hg hm boot_range (bn (thn (ha pos pins s σ H _ I h) λus s1 ⟨vs,H1,I1,r1,q1⟩=>?_) hs rfl))
 obtain ⟨j,e,q1,q2,q⟩:=q1
 subst e
 cases r1 with
 | cons r rr=>
  cases rr
  obtain ⟨t,rfl⟩:=r
  exact call_range_1 (Yi I1 'a' 'a' q1 q2 (by simpa using q))
theorem ZB {a b:Expr} {ta:TA} {p pos:Pos} (hg:Gl X "range") (hm:X.mg "range"=g7) (ha:PA X [a,b] ta) (hs:starEach [a,b] X.env=[(hJ,eval a X.env),(hJ,eval b X.env)]:=by rfl) (hs2:starEach [b] X.env=[(hJ,eval b X.env)]:=by rfl) :
  PI X tg (.Call (.Name "range" p) [a,b] [] pos) (qhW ta):=by
 refine ⟨?_⟩
 intro pins s σ H R I h
 refine Call_ (xj I hg hm boot_range (bn (thn (ha pos pins s σ H _ I h) λus s1 ⟨vs,H1,I1,r1,q1⟩=>?_) (by rw [hs,hs2]) (by rw [hs2]; rfl)))
 obtain ⟨i,j,e,⟨q1,q2,q3,q4⟩,q⟩:=q1
 subst e
 cases r1 with
 | cons r rr=>
  cases rr with
  | cons r' rr=>
   cases rr
   obtain ⟨t,rfl⟩:=r
   obtain ⟨t',rfl⟩:=r'
   exact call_range_2 (Yi I1 q1 q2 q3 q4 q)
def qjy (wi:TI) (g:TG) (tb:TS):TS:=λD σ H=>wi σ H λJ H1=>∃ W:Nat->Nat->St->Hp->Prop,(∃ m,W 0 m σ H1)/\∀ i m σ H,W i m σ H ->
 (J.stop i H/\D.nx σ H)\/(J.go i H/\∃ N:St->Hp->Prop,(∀ σ' H',N σ' H'->∃ m',m' < m/\W (i+1) m' σ' H')/\∀ x H',J.yld i H x H'->g x σ H' λσ2 H2=>tb { D with nx:=N,ct:=N,bk:=D.nx } σ2 H2)
noncomputable def Vm (fp:List Addr) (h:Heap):List (Addr×Obj):=fp.filterMap λb=>(h.get? b).map λo=>(b,o)
theorem yf {o:Obj} (hb:b∈fp) (e:h.get? b=g6 o):(b,o)∈Vm fp h:=dO.mpr ⟨b,hb,by rw [e]; rfl⟩
theorem ZC {p:Addr×Obj} (hp:p∈Vm fp h):p.1∈fp/\h.get? p.1=g6 p.2:=by
 obtain ⟨b,hb,e⟩:=dO.mp hp
 cases q:h.get? b with
 | none=>rw [q] at e; cases e
 | some o=>
  rw [q] at e
  have e':(b,o)=p:=aU.inj e
  subst e'
  exact ⟨hb,q⟩
theorem Inv.pinned (I:Inv X pins σ H s) (hf:∀ b∈fp,WM X pins H b) (ho:∀ b∈fp,∃ o,s.heap.get? b=g6 o/\∀ v,o.data≠.cell v):Inv X (pins++Vm fp s.heap) σ H s:=
 I.pins_of λp hp=>(ao.mp hp).elim (λz=>I.pin p (aO _ z)) λz=>by
  obtain ⟨hb,e⟩:=ZC z
  obtain ⟨f0,f1,f2,_⟩:=hf p.1 hb
  obtain ⟨o,e',d⟩:=ho p.1 hb
  rw [e] at e'; cases e'
  exact ⟨e,f0,f1,f2,d⟩
theorem Inv.unpinned {pl:List (Addr×Obj)} (I:Inv X (pins++pl) σ H s):Inv X pins σ H s:=I.pins_of λp hp=>I.pin p (aO _ (cu _ hp))
theorem qfS {iter:Expr} {wi:TI} {g:TG} {pos:Pos} (hp:PassesOwn 'd' X.A X.env X.xe) (hc:X.calm=hZ) (hi:PI X tg iter wi) (hg:PG X tg g) (hb:PSs X body tb)
  (hs:∀ x,foldedSetIterable iter X.env x=pure x:=by intro _; rfl):PS X (.For tg iter body [] pos) (qjy wi g tb):=by
 refine ⟨?_⟩
 intro pins s σ H D I h
 refine wpAny_For (thn (hi pins s σ H _ I h) λv s1 h1=>thn h1 λitv s2 h2=>?_) hs
 obtain ⟨it,fp,tn,J,H2,e,I2,T,st2,f2,W,⟨m0,w0⟩,turn⟩:=h2
 subst e
 have stat:∀ {H':Hp},(∀ b∈fp,H' b=g7)->∀ b∈fp,WM X pins H' b:=λhn b hb=>⟨hn b hb,(f2 b hb).2⟩
 refine codeAny_forLoop_any (λn s'=>∃ i σ' H',Inv X pins σ' H' s'/\tn i s'.heap/\(∀ b∈fp,H' b=g7)/\W i n σ' H') ?_ m0 ⟨0,σ,H2,I2,st2,λb hb=>(f2 b hb).1,w0⟩
 rintro n s3 ⟨i,σ3,H3,I3,st3,fr3,w3⟩
 rcases turn i n σ3 H3 w3 with ⟨stop,qn⟩ | ⟨go,N,hN,step⟩
 ·refine iJ hp (thn (T.done X rfl rfl rfl hc i pins s3 σ3 H3 X.xe I3 (stat fr3) st3 stop) λr s4 ⟨hr,I4⟩=>?_)
  subst hr
  exact i8 ⟨σ3,H3,I4,qn⟩
 ·refine iJ hp (thn (T.item X rfl rfl rfl hc i pins s3 σ3 H3 X.xe I3 (stat fr3) st3 go) λr s4 ⟨u,hr,h4⟩=>?_)
  subst hr
  refine iJ hp (thn h4 λ_ s5 ⟨x,H5,I5,r5,y5,st5,fr5⟩=>?_)
  have I5':=I5.pinned (stat fr5) (T.obj _ _ st5)
  refine iJ hp (thn (hg _ s5 σ3 H5 x u _ I5' r5 (step x H5 y5)) λ_ s6 ⟨σ6,H6,I6,q6⟩=>?_)
  refine iJ hp (thn (hb _ s6 σ6 H6 _ I6 q6) λf s7 q7=>?_)
  have again:∀ {σ7:St} {H7:Hp},Inv X (pins++Vm fp s5.heap) σ7 H7 s7->N σ7 H7->∃ m,m < n/\∃ i σ' H',Inv X pins σ' H' s7/\tn i s7.heap/\(∀ b∈fp,H' b=g7)/\W i m σ' H':=λ{σ7 H7} I7 n7=>by
   obtain ⟨m',hm,w7⟩:=hN σ7 H7 n7
   refine ⟨m',hm,i+1,σ7,H7,I7.unpinned,T.keep _ _ _ st5 λb hb o e=>(I7.pin (b,o) (aO _ (aO _ (yf hb e)))).1,λb hb=>?_,w7⟩
   obtain ⟨o,e,d⟩:=T.obj _ _ st5 b hb
   exact (I7.pin (b,o) (aO _ (aO _ (yf hb e)))).2.1
  cases f with
  | next=>obtain ⟨σ7,H7,I7,n7⟩:=q7; exact again I7 n7
  | cont=>obtain ⟨σ7,H7,I7,n7⟩:=q7; exact again I7 n7
  | brk=>obtain ⟨σ7,H7,I7,q7⟩:=q7; exact ⟨σ7,H7,I7.unpinned,q7⟩
  | ret v=>obtain ⟨x7,σ7,H7,I7,r7,q7⟩:=q7; exact ⟨x7,σ7,H7,I7.unpinned,r7,q7⟩
end
abbrev R2:=V->V->Hp->VK->Prop
def OpR (X:Cx) (f:g9->g9->Sem g9) (r:R2):Prop:=
 ∀ (pins:List (Addr×Obj)) (s:hV) (σ:St) (H:Hp) (x y:V) (v u:g9) (Q:VK),Inv X pins σ H s->RelV x v->RelV y u->r x y H Q ->
  wpAny 'd' X.A (f v u) (EP X pins σ Q) X.xe s
def UnR (X:Cx) (f:g9->Sem g9) (r:V->Hp->VK->Prop):Prop:=
 ∀ (pins:List (Addr×Obj)) (s:hV) (σ:St) (H:Hp) (x:V) (v:g9) (Q:VK),Inv X pins σ H s->RelV x v->r x H Q ->
  wpAny 'd' X.A (f v) (EP X pins σ Q) X.xe s
def yC (X:Cx) (f:g9) (r:List V->Hp->VK->Prop):Prop:=
 ∀ (pins:List (Addr×Obj)) (s:hV) (σ:St) (H:Hp) (xs:List V) (us:List g9) (Q:VK),Inv X pins σ H s->Vals xs us->r xs H Q ->
  wpAny 'd' X.A (call f us) (EP X pins σ Q) X.xe s
def qjz (X:Cx) (r:V->Hp->(Bool->Hp->Prop)->Prop):Prop:=
 ∀ (pins:List (Addr×Obj)) (s:hV) (σ:St) (H:Hp) (x:V) (v:g9) (Q:Bool->Hp->Prop),Inv X pins σ H s->RelV x v->r x H Q ->
  wpAny 'd' X.A (truthy v) (TP X pins σ Q) X.xe s
def tOp (r:R2) (ta tb:TE):TE:=λσ H Q=>ta σ H λx H1=>tb σ H1 λy H2=>r x y H2 Q
def tUn (r:V->Hp->VK->Prop) (ta:TE):TE:=λσ H Q=>ta σ H λx H1=>r x H1 Q
def rI (C:Int->Int->Prop) (g:Int->Int->V):R2:=λx y H Q=>∃ i j,x=.int i/\y=.int j/\C i j/\Q (g i j) H
def rI0 (g:Int->Int->V):R2:=λx y H Q=>∃ i j,x=.int i/\y=.int j/\Q (g i j) H
def rU (g:Int->V):V->Hp->VK->Prop:=λx H Q=>∃ i,x=.int i/\Q (g i) H
variable {r:R2}
section
variable {a b:Expr} {tb tc:TE}
theorem qhX (ha:PE X a ta) (hb:PE X b tb) {R:V->V->Hp->Prop} (I:Inv X pins σ H s)
  (h:ta σ H λx H1=>tb σ H1 λy H2=>R x y H2) {Q:g9->hV->Prop} {f:g9->g9->Sem g9}
  (hf:∀ v u s2 x y H2,Inv X pins σ H2 s2->RelV x v->RelV y u->R x y H2->wpAny 'd' X.A (f v u) Q X.xe s2) :
  wpAny 'd' X.A (eval a X.env) (λv s₁=>wpAny 'd' X.A (eval b X.env) (λu s₂=>wpAny 'd' X.A (f v u) Q X.xe s₂) X.xe s₁) X.xe s:=by
 refine thn (ha pins s σ H _ I h) λv s1 ⟨x,H1,I1,r1,q1⟩=>?_
 refine thn (hb pins s1 σ H1 _ I1 q1) λu s2 ⟨y,H2,I2,r2,q2⟩=>?_
 exact hf v u s2 x y H2 I2 r1 r2 q2
theorem qhY {op:Operator} (ho:OpR X (binaryOp op) r) (ha:PE X a ta) (hb:PE X b tb):PE X (.BinOp a op b pos) (tOp r ta tb):=by
 refine ⟨?_⟩
 intro pins s σ H Q I h
 exact wpAny_BinOp (qhX ha hb I h λv u s2 x y H2 I2 rx ry q=>ho pins s2 σ H2 x y v u Q I2 rx ry q)
theorem qhZ {op:UnaryOp} {r:V->Hp->VK->Prop} (ho:UnR X (unaryOp op) r) (ha:PE X a ta):PE X (.UnaryOp op a pos) (tUn r ta):=by
 refine ⟨?_⟩
 intro pins s σ H Q I h
 exact UnaryOp_ (thn (ha pins s σ H _ I h) λv s1 ⟨x,H1,I1,r1,q1⟩=>ho pins s1 σ H1 x v Q I1 r1 q1)
theorem opI {f:g9->g9->Sem g9} {C:Int->Int->Prop} {g:Int->Int->Int}
  (rule:∀ (i j:Int) (t u:Tok) (s:hV) (Q:g9->hV->Prop) (E:g9->hV->Prop),C i j->Q (.int (g i j) s.toks) { s with toks:=s.toks+1 }->wpAny 'd' X.A (f (.int i t) (.int j u)) Q E s) :
  OpR X f (rI C λi j=>.int (g i j)):=by
 sleep 2
 obtain ⟨i,j,rfl,rfl,hc,q⟩:=h
 obtain ⟨t,rfl⟩:=rx
 obtain ⟨t',rfl⟩:=ry
 exact rule i j t t' s _ _ hc ⟨.int (g i j),H,I.tok _,⟨_,rfl⟩,q⟩
theorem qiV {f:g9->g9->Sem g9} {g:Int->Int->Int}
  (rule:∀ (i j:Int) (t u:Tok) (s:hV) (Q:g9->hV->Prop) (E:g9->hV->Prop),Q (.int (g i j) s.toks) { s with toks:=s.toks+1 }->wpAny 'd' X.A (f (.int i t) (.int j u)) Q E s) :
  OpR X f (rI0 λi j=>.int (g i j)):=by
 sleep 2
 obtain ⟨i,j,rfl,rfl,q⟩:=h
 obtain ⟨t,rfl⟩:=rx
 obtain ⟨t',rfl⟩:=ry
 exact rule i j t t' s _ _ ⟨.int (g i j),H,I.tok _,⟨_,rfl⟩,q⟩
theorem qht {f:g9->g9->Sem g9} {g:Int->Int->Bool}
  (rule:∀ (i j:Int) (t u:Tok) (s:hV) (Q:g9->hV->Prop) (E:g9->hV->Prop),Q (.bool (g i j)) s->wpAny 'd' X.A (f (.int i t) (.int j u)) Q E s) :
  OpR X f (rI0 λi j=>.bl (g i j)):=by
 sleep 2
 obtain ⟨i,j,rfl,rfl,q⟩:=h
 obtain ⟨t,rfl⟩:=rx
 obtain ⟨t',rfl⟩:=ry
 exact rule i j t t' s _ _ ⟨.bl (g i j),H,I,rfl,q⟩
def qfT (i j:Int):Prop:=0 < j/\j < 1073741824
def qfv (i j:Int):Prop:=0<=j/\j<=1000000/\i.natAbs < 2 ^ 64
def CMul (i j:Int):Prop:=(-(2 ^ 64) < i/\i < 2 ^ 64)\/(-(2 ^ 64) < j/\j < 2 ^ 64)
theorem CMul.ok {i j:Int} (h:CMul i j):IntMulOk i j:=by
 rcases h with ⟨h1,h2⟩ | ⟨h1,h2⟩
 ·exact .of_left (intBits_le_64 h1 h2)
 ·exact .of_right (intBits_le_64 h1 h2)
theorem qfU:OpR X (binaryOp .Add) (rI0 λi j=>.int (i+j)):=qiV λ_ _ _ _ _ _ _ q=>add_int q
theorem qfV:OpR X (binaryOp .Sub) (rI0 λi j=>.int (i - j)):=qiV λ_ _ _ _ _ _ _ q=>sub_int q
theorem qfW:OpR X (binaryOp .Mult) (rI CMul λi j=>.int (i * j)):=opI λ_ _ _ _ _ _ _ hc q=>mul_int q hc.ok
theorem qdQ:OpR X (binaryOp .FloorDiv) (rI qfT λi j=>.int (i / j)):=opI λi j _ _ _ _ _ hc q=>by
 have h1:(0:Int) < j:=hc.1
 have h2:j < 1073741824:=hc.2
 exact floordiv_int 'a' (by rw [Int.fdiv_eq_ediv_of_nonneg i 'a']; exact q) (.inl (PyProof.noPylong_small 'a'))
theorem qfX:OpR X (binaryOp .Mod) (rI (λ_ j=>0 < j) λi j=>.int (i % j)):=opI λi j _ _ _ _ _ hc q=>by
 have h1:(0:Int) < j:=hc
 exact mod_int' 'a' (by rw [Int.fmod_eq_emod_of_nonneg i 'a']; exact q)
theorem qc1:OpR X (binaryOp .Pow) (rI qfv λi j=>.int (i ^ j.toNat)):=opI λ_ _ _ _ _ _ _ hc q=>pow_int_small hc.1 hc.2.1 hc.2.2 q
theorem unI {f:g9->Sem g9} {g:Int->Int}
  (rule:∀ (i:Int) (t:Tok) (s:hV) (Q:g9->hV->Prop) (E:g9->hV->Prop),Q (.int (g i) s.toks) { s with toks:=s.toks+1 }->wpAny 'd' X.A (f (.int i t)) Q E s) :
  UnR X f (rU λi=>.int (g i)):=by
 intro pins s σ H x v Q I rx h
 obtain ⟨i,rfl,q⟩:=h
 obtain ⟨t,rfl⟩:=rx
 exact rule i t s _ _ ⟨.int (g i),H,I.tok _,⟨_,rfl⟩,q⟩
theorem qfY:UnR X (unaryOp .USub) (rU λi=>.int (-i)):=unI λ_ _ _ _ _ q=>neg_int q
end
variable {op op':CmpOp} {r':R2}
section
variable {a b:Expr} {tb tc:TE}
theorem Yj {Q:VK} {k k':Bool} (I:Inv X pins σ H s) (q:Q (.bl k) H) (e:k=k'):EP X pins σ Q (.bool k') s:=by
 subst e
 exact ⟨.bl k,H,I,rfl,q⟩
theorem qh0:OpR X (compareOp .Lt) (rI0 λi j=>.bl (decide (i < j))):=qht λ_ _ _ _ _ _ _ q=>lt_int q
theorem qh1:OpR X (compareOp .LtE) (rI0 λi j=>.bl (decide (i<=j))):=qht λ_ _ _ _ _ _ _ q=>le_int q
theorem qh2:OpR X (compareOp .Gt) (rI0 λi j=>.bl (decide (j < i))):=qht λ_ _ _ _ _ _ _ q=>gt_int q
theorem qh3:OpR X (compareOp .GtE) (rI0 λi j=>.bl (decide (j<=i))):=qht λ_ _ _ _ _ _ _ q=>ge_int q
theorem ZD:OpR X (compareOp .Lt) (λx y H Q=>∃ i j,x=.str i/\y=.str j/\Q (.bl (decide (i.cps.toList < j.cps.toList))) H):=by
 sleep 2
 obtain ⟨i,j,rfl,rfl,q⟩:=h
 obtain ⟨t,rfl⟩:=rx
 obtain ⟨t',rfl⟩:=ry
 exact lt_str (Yj I q rfl)
theorem qfZ:OpR X (compareOp .Is) (λx y H Q=>y=.non/\Q (.bl (decide (x=.non))) H):=by
 sleep 2
 obtain ⟨rfl,q⟩:=h
 cases ry
 refine is_none_gen (Yj I q ?_)
 cases x <;> first
  | (cases rx; rfl)
  | (obtain ⟨t,rfl⟩:=rx; rfl)
theorem qdR:OpR X (compareOp .IsNot) (λx y H Q=>y=.non/\Q (.bl (!decide (x=.non))) H):=by
 sleep 2
 obtain ⟨rfl,q⟩:=h
 cases ry
 refine isnot_none_gen (Yj I q ?_)
 cases x <;> first
  | (cases rx; rfl)
  | (obtain ⟨t,rfl⟩:=rx; rfl)
theorem qc2 (b:Expr) (h:op≠.In:=by decide) (h2:op≠.NotIn:=by decide):behindInMarks op b=false:=by
 have e1:(op == CmpOp.In)=false:=by cases op <;> first | rfl | exact absurd rfl h
 have e2:(op == CmpOp.NotIn)=false:=by cases op <;> first | rfl | exact absurd rfl h2
 cases b <;> simp [behindInMarks,e1,e2]
theorem qdS (ho:OpR X (compareOp op) r) (ha:PE X a ta) (hb:PE X b tb) (hm:behindInMarks op b=hJ):PE X (.Compare a [op] [b] pos) (tOp r ta tb):=by
 refine ⟨?_⟩
 intro pins s σ H Q I h
 exact wpAny_Compare1 (qhX ha hb I h λv u s2 x y H2 I2 rx ry q=>ho pins s2 σ H2 x y v u Q I2 rx ry q) hm
def qf0 (t:TE):TT:=λσ H Q=>t σ H λx H'=>∃ k,x=.bl k/\Q k H'
theorem qdT (ho:OpR X (compareOp op) r) (ha:PE X a ta) (hb:PE X b tb) (hm:behindInMarks op b=hJ):PT X (.Compare a [op] [b] pos) (qf0 (tOp r ta tb)):=by
 refine ⟨?_⟩
 intro pins s σ H Q I h
 refine wpAny_isTrue_Compare1 (thn (ha pins s σ H _ I h) λv s1 ⟨x,H1,I1,r1,q1⟩=>thn (hb pins s1 σ H1 _ I1 q1) λu s2 ⟨y,H2,I2,r2,q2⟩=>
  thn (ho pins s2 σ H2 x y v u _ I2 r1 r2 q2) λc s3 ⟨z,H3,I3,r3,k,e,q3⟩=>?_) hm
 subst e
 cases r3
 exact iy ⟨H3,I3,q3⟩
def ZE (r r':R2) (ta tb tc:TE):TE:=λσ H Q=>ta σ H λx H1=>tb σ H1 λy H2=>r x y H2 λz H3=>∃ k,z=.bl k /\
 (if k=hZ then tc σ H3 λw' H4=>r' y w' H4 Q else Q (.bl hJ) H3)
theorem qbq (ho:OpR X (compareOp op) r) (ho':OpR X (compareOp op') r') (ha:PE X a ta) (hb:PE X b tb) (hc:PE X c tc)
  (hm:lastMarks [op,op'] [b,c]=false:=by with_unfolding_all rfl):PE X (.Compare a [op,op'] [b,c] pos) (ZE r r' ta tb tc):=by
 refine ⟨?_⟩
 intro pins s σ H Q I h
 refine Compare_chain (thn (ha pins s σ H _ I h) λv s1 ⟨x,H1,I1,r1,q1⟩=>chain_link (thn (hb pins s1 σ H1 _ I1 q1) λu s2 ⟨y,H2,I2,r2,q2⟩=>
  thn (ho pins s2 σ H2 x y v u _ I2 r1 r2 q2) λd s3 ⟨z,H3,I3,r3,k,e,q3⟩=>?_)) hm
 subst e
 cases r3
 refine iy ?_
 cases k with
 | false=>exact ite_ff ⟨.bl hJ,H3,I3,rfl,q3⟩
 | true=>exact ite_tt (chain_last (thn (hc pins s3 σ H3 _ I3 q3) λw' s4 ⟨z',H4,I4,r4,q4⟩=>ho' pins s4 σ H4 y z' u w' Q I4 r2 r4 q4))
theorem qbr (ho:OpR X (compareOp op) r) (ho':OpR X (compareOp op') r') (ha:PE X a ta) (hb:PE X b tb) (hc:PE X c tc)
  (hm:lastMarks [op,op'] [b,c]=false:=by with_unfolding_all rfl):PT X (.Compare a [op,op'] [b,c] pos) (qf0 (ZE r r' ta tb tc)):=by
 refine ⟨?_⟩
 intro pins s σ H Q I h
 refine isTrue_chain (thn (ha pins s σ H _ I h) λv s1 ⟨x,H1,I1,r1,q1⟩=>test_link (thn (hb pins s1 σ H1 _ I1 q1) λu s2 ⟨y,H2,I2,r2,q2⟩=>
  thn (ho pins s2 σ H2 x y v u _ I2 r1 r2 q2) λd s3 ⟨z,H3,I3,r3,k,e,q3⟩=>?_)) hm
 subst e
 cases r3
 refine iy ?_
 cases k with
 | false=>
  obtain ⟨k',e',q'⟩:=q3
  cases e'
  exact ite_ff ⟨H3,I3,q'⟩
 | true=>
  refine ite_tt (test_last (thn (hc pins s3 σ H3 _ I3 q3) λw' s4 ⟨z',H4,I4,r4,q4⟩=>thn (ho' pins s4 σ H4 y z' u w' _ I4 r2 r4 q4) λd' s5 ⟨z2,H5,I5,r5,k2,e2,q5⟩=>?_))
  subst e2
  cases r5
  exact iy ⟨H5,I5,q5⟩
def qh4 (K:Frag) (x:V) (H:Hp) (k:Bool):Prop:=
 match x with
 | .non=>k=hJ
 | .bl b=>k=b
 | .int i=>k=(i != 0)
 | .str y=>y.length<=sizeLine/\k=((y.length:Int) != 0)
 | .byt y=>y.size<=sizeLine/\k=((y.size:Int) != 0)
 | .ref p=>(∃ xs,SqL K H p xs/\k=!xs.isEmpty)\/(∃ xs,SqT K H p xs/\k=!xs.isEmpty)\/∃ kvs,H p=g6 (.dK kvs)/\k=!kvs.isEmpty
 | _=>False
theorem XC {κ:Type} {kvs:List (κ×V)} {vs:List (κ×g9)} (r:KV kvs vs):(!vs.isEmpty)=!kvs.isEmpty:=by
 cases r <;> rfl
theorem Jj {its:List g9} (r:Vals xs its):(!its.toArray.isEmpty)=!xs.isEmpty:=by
 cases r <;> simp
theorem Jk:(sizeLine:Nat) < 2 ^ 63:=by rw [ij]; decide
theorem qf1:qjz X (λx H Q=>∃ k,qh4 X.K x H k/\Q k H):=by
 intro pins s σ H x v Q I rx h
 obtain ⟨k,e,q⟩:=h
 have hl:=Jk
 have hs:sizeLine=16777216:=ij
 cases x with
 | non=>
  cases rx
  have e':k=false:=e
  subst e'
  exact truthy_none ⟨H,I,q⟩
 | bl b=>
  cases rx
  have e':k=b:=e
  subst e'
  exact iy ⟨H,I,q⟩
 | int i=>
  obtain ⟨t,rfl⟩:=rx
  have e':k=(i != 0):=e
  subst e'
  exact PySem.P.truthy_int ⟨H,I,q⟩
 | str y=>
  obtain ⟨t,rfl⟩:=rx
  obtain ⟨hy,e'⟩:y.length<=sizeLine/\k=((y.length:Int) != 0):=e
  subst e'
  exact PySem.P.truthy_str 'a' ⟨H,I.tok _,q⟩
 | byt y=>
  obtain ⟨t,rfl⟩:=rx
  obtain ⟨hy,e'⟩:y.size<=sizeLine/\k=((y.size:Int) != 0):=e
  subst e'
  exact PySem.W.truthy_bytes 'a' ⟨H,I.tok _,q⟩
 | ref p=>
  cases rx
  have e':(∃ xs,SqL X.K H p xs/\k=!xs.isEmpty)\/(∃ xs,SqT X.K H p xs/\k=!xs.isEmpty)\/∃ kvs,H p=g6 (.dK kvs)/\k=!kvs.isEmpty:=e
  rcases e' with ⟨xs,hx,e'⟩ | ⟨xs,hx,e'⟩ | ⟨kvs,hx,e'⟩
  ·subst e'
   obtain ⟨its,r,pl,hz⟩:=I.list hx
   have hlen:=r.length
   exact wpAny_truthy_list pl.isList (by simp only [au]; omega) ⟨H,I.tok _,by rw [Jj r]; exact q⟩
  ·subst e'
   obtain ⟨its,r,pl,hz⟩:=I.tuple hx
   have hlen:=r.length
   exact truthy_tuple pl (by simp only [au]; omega) ⟨H,I.tok _,by rw [Jj r]; exact q⟩
  ·subst e'
   obtain ⟨hz,hS,vs,r,m⟩:kvs.length<=sizeLine/\(p == sysModules)=hJ/\∃ vs,KV kvs vs/\s.heap.DictOf (qT X.prog X.w) p vs:=I.hok p _ hx
   have hlen:kvs.length=vs.length:=fm r
   exact wpAny_truthy_dict hS m 'a' ⟨H,I.tok _,by rw [XC r]; exact q⟩
 | _=>exact (show False from e).elim
theorem qbs (ha:PE X a ta) (he:∀ whole,isTrue a X.env whole=(do let v <-whole; standAt a.pos; holding [v] (truthy v))) :
  PT X a (λσ H Q=>ta σ H λx H'=>∃ k,qh4 X.K x H' k/\Q k H'):=by
 refine ⟨?_⟩
 intro pins s σ H Q I h
 exact isTrue_plain (thn (ha pins s σ H _ I h) λv s1 ⟨x,H1,I1,r1,q1⟩=>qf1 pins s1 σ H1 x v Q I1 r1 q1) (he _)
theorem XD:OpR X (binaryOp .Add) (λx y H Q=>∃ i j,x=.str i/\y=.str j/\i.length+j.length<=sizeLine/\Q (.str (i++j)) H):=by
 sleep 2
 obtain ⟨i,j,rfl,rfl,hz,q⟩:=h
 obtain ⟨t,rfl⟩:=rx
 obtain ⟨t',rfl⟩:=ry
 exact add_str (λt' tk=>⟨.str (i++j),H,I.tok _,⟨_,rfl⟩,q⟩) hz
theorem uw {x:V} (r:Vals [x] us):∃ u,us=[u]/\RelV x u:=by
 cases r with
 | cons r1 r2=>cases r2; exact ⟨_,rfl,r1⟩
theorem qdU {x y:V} (r:Vals [x,y] us):∃ u w',us=[u,w']/\RelV x u/\RelV y w':=by
 cases r with
 | cons r1 r2=>
  cases r2 with
  | cons r3 r4=>cases r4; exact ⟨_,_,rfl,r1,r3⟩
theorem ZF (hc:X.calm=hZ):yC X (.builtin "max") (λxs H Q=>∃ i j,xs=[.int i,.int j]/\Q (.int (if j > i then j else i)) H):=by
 intro pins s σ H xs us Q I r h
 obtain ⟨i,j,rfl,q⟩:=h
 obtain ⟨u,w',rfl,⟨t,rfl⟩,⟨t',rfl⟩⟩:=qdU r
 refine max_two_ints (I.ok.hd hc) λh' tk k=>⟨_,H,I.kept k,?_,q⟩
 by_cases hj:j > i
 ·rw [if_pos hj,if_pos hj]; exact ⟨_,rfl⟩
 ·rw [if_neg hj,if_neg hj]; exact ⟨_,rfl⟩
theorem ZG (hc:X.calm=hZ):yC X (.builtin "min") (λxs H Q=>∃ i j,xs=[.int i,.int j]/\Q (.int (if j < i then j else i)) H):=by
 intro pins s σ H xs us Q I r h
 obtain ⟨i,j,rfl,q⟩:=h
 obtain ⟨u,w',rfl,⟨t,rfl⟩,⟨t',rfl⟩⟩:=qdU r
 refine min_two_ints (I.ok.hd hc) λh' tk k=>⟨_,H,I.kept k,?_,q⟩
 by_cases hj:j < i
 ·rw [if_pos hj,if_pos hj]; exact ⟨_,rfl⟩
 ·rw [if_neg hj,if_neg hj]; exact ⟨_,rfl⟩
def qjA (K:Frag) (x:V) (H:Hp) (n:Nat):Prop:=
 match x with
 | .str y=>y.length<=sizeLine/\n=y.length
 | .byt y=>y.size<=sizeLine/\n=y.size
 | .ref p=>(∃ xs,SqL K H p xs/\n=xs.length)\/∃ xs,SqT K H p xs/\n=xs.length
 | _=>False
theorem JK:yC X (.builtin "len") (λxs H Q=>∃ x n,xs=[x]/\qjA X.K x H n/\Q (.int n) H):=by
 intro pins s σ H xs us Q I r h
 obtain ⟨x,n,rfl,e,q⟩:=h
 obtain ⟨u,rfl,rx⟩:=uw r
 have hl:=Jk
 have hs:sizeLine=16777216:=ij
 cases x with
 | str y=>
  obtain ⟨t,rfl⟩:=rx
  obtain ⟨hy,e'⟩:y.length<=sizeLine/\n=y.length:=e
  subst e'
  exact len_str 'a' ⟨.int _,H,I.tok _,⟨_,rfl⟩,q⟩
 | byt y=>
  obtain ⟨t,rfl⟩:=rx
  obtain ⟨hy,e'⟩:y.size<=sizeLine/\n=y.size:=e
  subst e'
  exact PySem.W.len_bytes 'a' ⟨.int _,H,I.tok _,⟨_,rfl⟩,q⟩
 | ref p=>
  cases rx
  have e':(∃ xs,SqL X.K H p xs/\n=xs.length)\/∃ xs,SqT X.K H p xs/\n=xs.length:=e
  rcases e' with ⟨xs,hx,e'⟩ | ⟨xs,hx,e'⟩
  ·subst e'
   obtain ⟨its,r',pl,hz⟩:=I.list hx
   have hlen:=r'.length
   exact Calls.call_len_list pl.isList (by simp only [au]; omega) ⟨.int xs.length,H,I.tok _,⟨_,by simp only [au]; rw [hlen]⟩,q⟩
  ·subst e'
   obtain ⟨its,r',pl,hz⟩:=I.tuple hx
   have hlen:=r'.length
   exact len_tuple pl (by simp only [au]; omega) ⟨.int xs.length,H,I.tok _,⟨_,by simp only [au]; rw [hlen]⟩,q⟩
 | _=>exact (show False from e).elim
end
structure ObjM (h:Heap) (x dx C:Addr) (mA:Str->Option g9):Prop where
 obj:h.get? x=g6 (cQ C dx)
 ns:h.Ns1 dx mA
 ne:dx≠x
variable {dx:Addr} {mA:Str->Option g9}
theorem ZH (n:h.Ns1 dx mA):∃ od,h.get? dx=g6 od/\∀ name,fJ name od=g6 (mA name):=by
 obtain ⟨o,es,ep,ho,hd,hk,_,hm⟩:=n
 refine ⟨o,ho,λname=>?_⟩
 have e:=hm name
 unfold nsFind findBy at e
 rw [<-Array.find?_toList] at e
 unfold fJ
 rw [hd]
 dsimp only
 split
 ·rename_i y q
  rw [q] at e
  exact congrArg g6 e
 ·rename_i q
  rw [q] at e
  have a:es.toList.any (·.refKey)=false:=by
   rw [List.any_eq_false]
   intro y hy
   obtain ⟨z,t,hkey⟩:=hk y (Array.mem_toList_iff.mp hy)
   simp [DictEntry.refKey,hkey]
  have a':¬es.toList.any (·.refKey)=true:=by rw [a]; exact be
  rw [if_neg a']
  exact congrArg g6 e
variable {C:Addr}
theorem ObjM.look {x:Addr} (I:ObjM h x dx C mA):∃ od,PySem.W.InstAt h x (cQ C dx) C (g6 od)/\∀ name,fJ name od=g6 (mA name):=
 let ⟨od,ho,hl⟩:=ZH I.ns
 ⟨od,⟨I.obj,rfl,rfl,ho⟩,hl⟩
theorem RelO.some_of {o:Option g9} (r:RelO (g6 v) o):∃ u,o=g6 u/\RelV v u:=by
 cases o with
 | none=>exact (show False from r).elim
 | some u=>exact ⟨u,rfl,r⟩
section
variable {fs:List (Str×V)} {f:Str}
theorem Inv.made (I:Inv X pins σ H s):Inv X pins σ (upd (upd H s.heap.objs.size (.own (s.heap.objs.size+1))) (s.heap.objs.size+1) (.ins C s.heap.objs.size []))
  { s with heap:=(s.heap.push bX).push (cQ C s.heap.objs.size) }:=by
 have e1:(s.heap.push bX).get? s.heap.objs.size=g6 bX:=ak s.heap rfl
 have e2:((s.heap.push bX).push (cQ C s.heap.objs.size)).get? (s.heap.objs.size+1)=g6 (cQ C s.heap.objs.size):=by
  have:=ak (s.heap.push bX) (o:=cQ C s.heap.objs.size) rfl
  rwa [bR] at this
 have e3:(s.heap.push bX).Ns s.heap.objs.size (λ_=>g7):=⟨bX,#[],_,e1,rfl,(λe he=>absurd he 'h'),λ_=>rfl⟩
 have I1:=I.laid (a:=s.heap.objs.size) (o:=.own (s.heap.objs.size+1)) (h':=s.heap.push bX) (t':=s.toks) (λb u q=>ac _ q) (ax _) ⟨_,e1⟩
 refine I1.laid (a:=s.heap.objs.size+1) (o:=.ins C s.heap.objs.size []) (t':=s.toks) (λb u q=>ac _ q) (eT (bR _ _)) ?_
 have ne:s.heap.objs.size≠s.heap.objs.size+1:=aB (Nat.lt_succ_self _)
 refine ⟨by rw [qC ne,qp],bp _,ne,e2,λ_=>g7,(Heap.Ns1.of_empty e3).at λo q=>ac _ q,λ_=>dB,λy hy=>absurd rfl hy⟩
end
structure Room (k:Nat) (A:ii):Prop where
 hd:A.handled=g7
 dp:A.depth+3 * k+5 < recursionLimit
 un:A.units+16 * k+200 < cLine
theorem Room.mono {j k:Nat} (r:Room k A) (h:j<=k):Room j A:=⟨r.hd,by have:=r.dp; omega,by have:=r.un; omega⟩
theorem Room.deeper {k:Nat} (r:Room (k+1) A) (env:Env):Room k (A.deeper env):=
 ⟨r.hd,by have:=r.dp; show A.depth+1+3 * k+5 < _; omega,by have:=r.un; show A.units+3+16 * k+200 < _; omega⟩
theorem Room.in1 {k:Nat} (r:Room (k+1) A):Room k A.in1:=
 ⟨r.hd,by have:=r.dp; show A.depth+3 * k+5 < _; omega,by have:=r.un; show A.units+1+16 * k+200 < _; omega⟩
theorem Room.depth {k:Nat} (r:Room k A):A.depth < recursionLimit:=by have:=r.dp; omega
theorem Room.units {k:Nat} (r:Room k A):A.units+64 < cLine:=by have:=r.un; omega
def qh5:TA:=λ_ H Q=>Q [] H
def qbt (ta:TE) (tr:TA):TA:=λσ H Q=>ta σ H λx H1=>tr σ H1 λxs H2=>Q (x::xs) H2
section
variable {t:TA}
theorem ke:PA X [] qh5:=⟨λ_ _ _ _ H Q I h=>e7 ⟨[],H,I,.nil,h⟩⟩
theorem jk (ha:PE X e te) (hr:PA X es t) (hs:starEach (e::es) X.env=(hJ,eval e X.env)::starEach es X.env:=by rfl):PA X (e::es) (qbt te t):=by
 refine ⟨?_⟩
 intro pos pins s σ H Q I h
 rw [hs]
 show wpAny _ _ (spliced ((hJ,eval e X.env)::backTo pos (starEach es X.env))) _ _ s
 refine dP (thn (ha pins s σ H _ I h) λu s1 ⟨x,H1,I1,r1,q1⟩=>?_)
 exact thn (hr pos pins s1 σ H1 _ I1 q1) λus s2 ⟨xs,H2,I2,r2,q2⟩=>⟨x::xs,H2,I2,.cons r1 r2,q2⟩
def qjB (t:TA):TE:=λσ H Q=>t σ H λxs H1=>xs.length<=sizeLine/\∀ p,H1 p=g7->Q (.ref p) (upd H1 p (.tup xs))
def qjC (t:TA):TE:=λσ H Q=>t σ H λxs H1=>xs.length<=sizeLine/\∀ p,H1 p=g7->Q (.ref p) (upd H1 p (.lst xs))
theorem qf2 {x1} (h:PA X es t):PE X (.Tuple es x1 pos) (qjB t):=by
 refine ⟨?_⟩
 intro pins s σ H Q I hq
 refine wpAny_Tuple_spliced (thn (h pos pins s σ H _ I hq) λus s1 ⟨xs,H1,I1,r,z,q⟩=>⟨by rw [<-r.length]; exact z,?_⟩)
 have hf:H1 s1.heap.objs.size=none:=I1.hok.fresh (ax _)
 refine ⟨.ref s1.heap.objs.size,upd H1 s1.heap.objs.size (.tup xs),I1.laid (t':=s1.toks) (λb u e=>ac _ e) (ax _) ?_,rfl,q _ hf⟩
 exact ⟨⟨z,_,ak _ rfl,rfl⟩,us,r,⟨_,ak _ rfl,rfl,_,rfl⟩⟩
theorem qf3 (h:PA X es t):PE X (.List es pos) (qjC t):=by
 refine ⟨?_⟩
 intro pins s σ H Q I hq
 refine wpAny_List_spliced (thn (h pos pins s σ H _ I hq) λus s1 ⟨xs,H1,I1,r,z,q⟩=>⟨by rw [<-r.length]; exact z,?_⟩)
 have hf:H1 s1.heap.objs.size=none:=I1.hok.fresh (ax _)
 refine ⟨.ref s1.heap.objs.size,upd H1 s1.heap.objs.size (.lst xs),I1.laid (t':=s1.toks) (λb u e=>ac _ e) (ax _) ?_,rfl,q _ hf⟩
 exact ⟨z,us,0,r,ak _ rfl⟩
end
abbrev Sp:=List V->Hp->VK->XK->Prop
abbrev CXT:=List Env->Hp->hV->XK->g9->hV->Prop
structure Env0 (P:h8) (w:ib) (K:Frag) (mg:Str->Option g9) (base:Heap) (A:ii) (outer:List Env) (s:hV) (H:Hp):Prop where
 frames:A.frames=g6 outer
 mod:Mod K mg base
 bs:∀ b o,base.get? b=g6 o->s.heap.get? b=g6 o/\H b=g7
 bsz:base.objs.size<=s.heap.objs.size
 funs:s.heap.FunFrames base outer
 frf:∀ b∈frs outer,H b=g7
 hok:HOk P w H s.heap
 bare:i9 s.gens
def CE (outer:List Env) (P:h8) (w:ib) (H:Hp) (s:hV) (Q:VK) (u:g9) (s':hV):Prop:=
 ∃ v H',s'.os=s.os/\i9 s'.gens/\Un (frs outer) [] H H' s.heap s'.heap/\HOk P w H' s'.heap/\RelV v u/\Q v H'
def CR (CX:CXT) (outer:List Env) (P:h8) (w:ib) (H:Hp) (s:hV) (Q:VK) (E:XK) (r:k8) (s':hV):Prop:=
 match r with
 | .ok (.ret u)=>CE outer P w H s Q u s'
 | .ok _=>False
 | .error e=>CX outer H s E e s'
structure FnOk (P:h8) (w:ib) (K:Frag) (mg:Str->Option g9) (base:Heap) (CX:CXT) (k:Nat) (f:Addr) (fd:iP) (ps:List Str) (sp:Sp):Prop where
 len:∀ vs H Q E,sp vs H Q E->vs.length=ps.length
 run:∀ (A:ii) (outer:List Env) (s:hV) (H:Hp) (args:Args) (us:List g9) (vs:List V) (Q:VK) (E:XK),Room k A->Env0 P w K mg base A outer s H->lc s fd args (ps.zip us)->Vals vs us->sp vs H Q E ->
  codeAny (model P w) A (.call (.ref f) args) (CR CX outer P w H s Q E) s
variable {f:Addr} {mg:Str->Option g9} {base:Heap} {CX:CXT} {fd:iP} {ps:List Str} {sp:Sp}
theorem FnOk.imp {k:Nat} {sp':Sp} (F:FnOk P w K mg base CX k f fd ps sp)
  (h:∀ vs H Q E,sp' vs H Q E->sp vs H Q E):FnOk P w K mg base CX k f fd ps sp':=
 ⟨λvs H Q E q=>F.len vs H Q E (h _ _ _ _ q),λA outer s H args us vs Q E hr he hb hv hs=>F.run A outer s H args us vs Q E hr he hb hv (h _ _ _ _ hs)⟩
theorem Env0.in1 {outer:List Env} (e:Env0 P w K mg base A outer s H) :
  Env0 P w K mg base A.in1 outer s H:=⟨e.frames,e.mod,e.bs,e.bsz,e.funs,e.frf,e.hok,e.bare⟩
section
theorem Inv.env0 (I:Inv X pins σ H s):Env0 X.prog X.w X.K X.mg X.base X.A X.stack s H:=
 ⟨I.ok.frames,I.ok.mod,I.bs,br I.ok.bsz I.sz,I.stack,I.stkFree,I.hok,I.bare⟩
theorem Inv.after {Q:VK} (I:Inv X pins σ H s) (h:CE X.stack X.prog X.w H s Q u s'):EP X pins σ Q u s':=by
 obtain ⟨v,H',os,bare,un,hok,r,q⟩:=h
 obtain ⟨hh,g,d,t,os'⟩:=s'
 obtain rfl:os'=s.os:=os
 exact ⟨v,H',I.call (h':=hh) (g':=g) (d':=d) (t':=t) (ch:=[]) un hok bare (λb z=>absurd z 'h'),r,q⟩
end
def qh6 (sp:Sp) (dvs:List V) (E:XK) (t:TA):TE:=λσ H Q=>t σ H λvs H1=>sp (vs++dvs) H1 Q E
def Binds (K:Frag) (fd:iP) (ps:List Str) (ds:List g9):Prop:=
 ∀ (s:hV) (us:List g9),K.In s.heap->(us++ds).length=ps.length->lc s fd ⟨us,[]⟩ (ps.zip (us++ds))
theorem Binds.all (h:∀ us:List g9,us.length=ps.length->bindArgs fd ⟨us,[]⟩=pure (ps.zip us)):Binds K fd ps []:=λs us _ hl=>by
 rw [bg] at hl ⊢
 exact .of_eq (h us hl)
def zA (CX:CXT) (X:Cx) (E:XK):Prop:=∀ (pins:List (Addr×Obj)) (σ:St) (H:Hp) (s:hV) (e:g9) (s':hV),Inv X pins σ H s->CX X.stack H s E e s'->X.xe e s'
variable {apos:Pos}
section
variable {k:Nat} {dvs:List V} {ds:List g9} {E:XK} {m:Str} {o:Expr} {t:TA}
theorem qf4 {pins:List (Addr×Obj)} {σ:St} {H:Hp} {s:hV} {Q:VK} {us:List g9} {vs:List V} (F:FnOk X.prog X.w X.K X.mg X.base CX k f fd ps sp) (hr:Room k X.A) (hb:Binds X.K fd ps ds) (hd:Vals dvs ds) (hx:zA CX X E)
  (I:Inv X pins σ H s) (r:Vals vs us) (h:sp (vs++dvs) H Q E):wpAny 'd' X.A (call (.ref f) us) (EP X pins σ Q) X.xe s:=by
 have r2:Vals (vs++dvs) (us++ds):=r.append hd
 have hl:(us++ds).length=ps.length:=by rw [<-r2.length]; exact F.len _ _ _ _ h
 refine wpAny_call (j0 (F.run X.A X.stack s H ⟨us,[]⟩ (us++ds) (vs++dvs) Q E hr I.env0 (hb s us I.kIn hl) r2 h) λr s' hq=>?_)
 cases r with
 | error e=>exact hx pins σ H s e s' I hq
 | ok fl=>
  cases fl with
  | ret u=>exact I.after hq
  | next=>exact dD hq
  | brk=>exact dD hq
  | cont=>exact dD hq
theorem qdV (F:FnOk X.prog X.w X.K X.mg X.base CX k f fd ps sp) (hr:Room k X.A) (hg:Gl X x) (hm:X.mg x=g6 (.ref f)) (hk:keepIn X.K (.ref f)=hZ) (hb:Binds X.K fd ps ds) (hd:Vals dvs ds) (hx:zA CX X E)
  (ha:PA X (e::es) t) (hdb:'m'=false:=by decide) (he:starEach (e::es) X.env=(hJ,eval e X.env)::starEach es X.env:=by rfl) (hpl:(backTo pos (starEach es X.env)).any (·.1)=false:=by rfl) :
  PE X (.Call (.Name x p) (e::es) [] pos) (qh6 sp dvs E t):=by
 refine ⟨?_⟩
 intro pins s σ H Q I h
 refine iN (JJ I hg hm ?_ hdb)
 refine PySem.W.callWith_K (h₀:=X.base) I.ok.mod.kin hk (thn (ha pos pins s σ H _ I h) λus s1 ⟨vs,H1,I1,r,q⟩=>⟨I1.kIn,?_⟩) he hpl
 exact qf4 F hr hb hd hx I1 r q
end
section
variable {k:Nat} {ks:List Str} {E:XK} {m:Str} {kpos:Pos} {o:Expr} {kws:List iI} {t tk:TA} {nm:Option Str}
variable {g:List g9->List g9->List g9} {gV:List V->List V->List V}
end
structure FnScope (N P:List Str) (sc:i7):Prop where
 kind:sc.kind=.function
 co:sc.isCoroutine=hJ
 gen:sc.isGenerator=hJ
 nd:N.Nodup
 pre:N.take P.length=P
 par:∀ x∈P,sc.names.lookup x=g6 .local\/sc.names.lookup x=g6 .cell
 nofree:∀ y∈sc.names,y.2≠.free
variable {kindOf:Str->Option iM}
theorem Vn:∀ {binds:List (Str×g9)} {m:Str->Option g9},(∀ v,(x,v)∉binds)->bindL kindOf binds m x=m x
 | [],_,_=>rfl
 | (n,v)::r,m,h=>by
  unfold bindL
  rw [Vn λw hw=>h w (aa _ hw)]
  split
  ·have:x≠n:=by rintro rfl; exact h v af
   simp [this]
  ·rfl
theorem Vo:∀ {binds:List (Str×g9)} {m:Str->Option g9},(∀ v,(x,v)∉binds)->bindC kindOf binds m x=m x
 | [],_,_=>rfl
 | (n,v)::r,m,h=>by
  unfold bindC
  rw [Vo λw hw=>h w (aa _ hw)]
  split
  ·rfl
  ·have:x≠n:=by rintro rfl; exact h v af
   simp [this]
theorem Vp {kindOf:Str->Option iM} {x:Str} {v:g9}:∀ {P:List Str} {vs:List g9} {i:Nat} {m:Str->Option g9},P.Nodup->P[i]?=g6 x->vs[i]?=g6 v->kindOf x=g6 .local ->
  bindL kindOf (P.zip vs) m x=g6 v
 | [],_,_,_,_,h,_,_=>by simp at h
 | _::_,[],_,_,_,_,h,_=>by simp at h
 | p::P,w::vs,0,m,nd,h1,h2,hk=>by
  simp at h1 h2; subst h1; subst h2
  show bindL kindOf ((p,w)::P.zip vs) m p=_
  unfold bindL
  rw [Vn λv hv=>(aM.mp nd).1 (fE hv).1,if_pos hk]
  simp
 | p::P,w::vs,i+1,m,nd,h1,h2,hk=>by
  show bindL kindOf ((p,w)::P.zip vs) m x=_
  unfold bindL
  exact Vp (i:=i) (aM.mp nd).2 (by simpa using h1) (by simpa using h2) hk
theorem Vq {kindOf:Str->Option iM} {x:Str} {v:g9}:∀ {P:List Str} {vs:List g9} {i:Nat} {m:Str->Option g9},P.Nodup->P[i]?=g6 x->vs[i]?=g6 v->kindOf x≠g6 .local ->
  bindC kindOf (P.zip vs) m x=g6 v
 | [],_,_,_,_,h,_,_=>by simp at h
 | _::_,[],_,_,_,_,h,_=>by simp at h
 | p::P,w::vs,0,m,nd,h1,h2,hk=>by
  simp at h1 h2; subst h1; subst h2
  show bindC kindOf ((p,w)::P.zip vs) m p=_
  unfold bindC
  rw [Vo λv hv=>(aM.mp nd).1 (fE hv).1,if_neg hk]
  simp
 | p::P,w::vs,i+1,m,nd,h1,h2,hk=>by
  show bindC kindOf ((p,w)::P.zip vs) m x=_
  unfold bindC
  exact Vq (i:=i) (aM.mp nd).2 (by simpa using h1) (by simpa using h2) hk
noncomputable def xl (N:List Str) (vs:List V):St:=vs.map g6++bD (N.length - vs.length) g7
def qdW (CX:CXT) (P:h8) (w:ib) (K:Frag) (mg:Str->Option g9) (base:Heap) (N:List Str) (qual:Str) (scope:i7) (f:Addr) (cd:g9) (A:ii) (outer:List Env) (s:hV) (H:Hp) (E:XK):Cx where
 prog:=P
 w:=w
 K:=K
 mg:=mg
 base:=base
 A:=A.deeper (envOfC qual scope s.heap.objs.size f cd)
 N:=N
 s₀:=s
 H₀:=H
 env:=envOfC qual scope s.heap.objs.size f cd
 outer:=outer
 stack:=envOfC qual scope s.heap.objs.size f cd::outer
 ex:=[]
 calm:=hZ
 fn:=λ_=>hZ
 pn:=[]
 xe:=λe s'=>wpAny (model P w) (A.deeper (envOfC qual scope s.heap.objs.size f cd)) (leaving (envOfC qual scope s.heap.objs.size f cd) e) (λ_ s''=>CX outer H s E e s'') (λe' s''=>CX outer H s E e' s'') s'
theorem Yk {sc:i7} {n:Nat} (h:sc.names.lookup x=g6 .cell):∃ c,(cellsFrom n sc.names []).lookup x=g6 c:=by
 have q:=PySem.W.cellsFrom_some sc.names n [] (.inl h)
 exact Option.isSome_iff_exists.mp q
theorem ZI {CX:CXT} {P:h8} {w:ib} {K:Frag} {mg:Str->Option g9} {base:Heap} {N ps:List Str} {qual:Str} {scope:i7} {f:Addr} {cd:g9} {A:ii} {outer:List Env} {s s1:hV} {H:Hp} {E:XK} {us:List g9} {vs:List V}
  (S:FnScope N ps scope) (hd:A.handled=g7) (e0:Env0 P w K mg base A outer s H) (hl:vs.length=ps.length) (r:Vals vs us)
  (x:InCallC s s.heap.objs.size (bindL (envOfC qual scope s.heap.objs.size f cd).kindOf (ps.zip us) λ_=>g7) (cellsFrom (s.heap.objs.size+1) scope.names []) (bindC (envOfC qual scope s.heap.objs.size f cd).kindOf (ps.zip us) λ_=>g7) s1) :
  Inv (qdW CX P w K mg base N qual scope f cd A outer s H E) [] (xl N vs) H s1:=by
 have hpl:ps.length<=N.length:=by have:=congrArg fK S.pre; rw [List.length_take] at this; omega
 obtain ⟨h1,tk,rfl,hk⟩:=x.done
 have noA:∀ b:Addr,b∉(qdW CX P w K mg base N qual scope f cd A outer s H E).ex:=λb z=>absurd (show b∈([]:List Addr) from z) 'h'
 refine ⟨⟨e0.mod,S.kind,rfl,rfl,ax _,λy z c h1 h2=>?_,λy hy=>?_,λy c _ h=>?_,λ_=>hd,Around.frames_deeper e0.frames,.inr ⟨rfl,rfl⟩,λb z=>absurd z (noA b),e0.bs,e0.bsz,λb _ _=>noA b,λb z=>absurd z (noA b),e0.funs,e0.frf⟩,
  rfl,e0.bare,Un.kept hk,⟨_,x.toInCall.ns,λi y v h1 h2 h3=>?_⟩,λy c h=>⟨_,x.cell y c h⟩,e0.hok.fresh (ax _),λy c h=>?_,λp hp=>absurd (show p∈([]:List (Addr×Obj)) from hp) 'h',e0.hok.kept hk,?_⟩
 ·exact name_of_addr x.apart (cZ h1) (cZ h2)
 ·have hy:scope.names.lookup y=g6 .cell\/scope.names.lookup y=g6 .free:=hy
  rcases hy with hy | hy
  ·exact Yk hy
  ·exact absurd rfl (S.nofree _ (cZ hy))
 ·exact d7 (x.above y c (cZ h))
 ·have hi:i < vs.length:=by
   unfold xl at h2
   by_cases hi:i < vs.length
   ·exact hi
   ·rw [cK (by simpa using hi)] at h2
    rw [cz] at h2
    split at h2 <;> cases h2
  have ha:vs[i]?=g6 v:=by
   unfold xl at h2
   rw [cO (by simpa using hi),aG] at h2
   cases e:vs[i]? with
   | none=>rw [e] at h2; cases h2
   | some a=>rw [e] at h2; cases h2; rfl
  obtain ⟨u,hu,rv⟩:=r.get ha
  have hp:ps[i]?=g6 y:=by
   rw [<-S.pre,List.getElem?_take_of_lt 'a']; exact h1
  have ndP:ps.Nodup:=by rw [<-S.pre]; exact S.nd.sublist (List.take_sublist _ _)
  refine ⟨u,rv,?_⟩
  rcases S.par y (aV hp) with k | k
  ·exact .inl ⟨k,Vp ndP hp hu k⟩
  ·obtain ⟨c,e⟩:=Yk (n:=s.heap.objs.size+1) k
   refine .inr ⟨.inl k,c,e,?_⟩
   have q:=x.cell y c e
   rw [Vq ndP hp hu (by show scope.names.lookup y≠_; rw [k]; decide)] at q
   exact q
 ·exact e0.hok.fresh (d7 (x.above y c (cZ h)))
 ·unfold xl
  show _=N.length
  rw [aj,aA,eB]
  omega
theorem qh7 {CX:CXT} {P:h8} {w:ib} {K:Frag} {mg:Str->Option g9} {base:Heap} {k:Nat} {f:Addr} {name qual:Str} {params:Arguments} {body:List Stmt} {scope:i7} {dV kV doc pm cdv ct oc:g9} {an od:Option Addr}
  {osl:Array (Option g9)} {N ps:List Str} {sp:Sp} (lk:K.lookup f=g6 ⟨oc,od,.func (cF name qual params body scope dV kV doc pm an cdv ct),osl⟩) (hcd:codeIn K cdv qual=hZ) (S:FnScope N ps scope)
  (len:∀ vs H Q E,sp vs H Q E->vs.length=ps.length)
  (hbody:∀ (A:ii) (outer:List Env) (s:hV) (H:Hp) (vs:List V) (Q:VK) (E:XK),Room k (A.deeper (envOfC qual scope s.heap.objs.size f cdv))->sp vs H Q E ->
   ∃ t,PSs (qdW CX P w K mg base N qual scope f cdv A outer s H E) body t/\t { nx:=λ_ H'=>Q .non H',rt:=Q } (xl N vs) H) :
  FnOk P w K mg base CX (k+1) f (cF name qual params body scope dV kV doc pm an cdv ct) ps sp:=by
 refine ⟨len,λA outer s H args us vs Q E hr e0 hb r hsp=>?_⟩
 have hl:=len _ _ _ _ hsp
 have KX:K.In s.heap:=e0.mod.kin.keeps λb o e=>(e0.bs b o e).1
 have lim:s.heap.NoLimit:=e0.mod.nolimit.keeps λb o e=>(e0.bs b o e).1
 have hkind:∀ y∈ps.zip us,scope.names.lookup y.1=g6 .local\/(scope.names.lookup y.1=g6 .cell/\((cellsFrom (s.heap.objs.size+1) scope.names []).lookup y.1).isSome=hZ):=λ⟨n,v⟩ hy=>by
  rcases S.par n (fE hy).1 with q | q
  ·exact .inl q
  ·exact .inr ⟨q,PySem.W.cellsFrom_some _ _ _ (.inl q)⟩
 refine codeAny_call_function hr.depth (KX _ _ lk) rfl S.co S.gen rfl (PySem.W.codeRec_of KX hcd) (hb _ _ _ _ ?_)
 refine wpAny_newFunctionEnv_cells S.kind hkind λenv he s1 x=>?_
 subst he
 refine ⟨lim.keeps x.toInCall.keep,codeAny_func ?_⟩
 obtain ⟨t,ht,hq⟩:=hbody A outer s H vs Q E (hr.deeper _) hsp
 have I:Inv (qdW CX P w K mg base N qual scope f cdv A outer s H E) [] (xl N vs) H s1:=ZI S hr.hd e0 hl r x
 refine iU (ht [] s1 (xl N vs) H _ I hq) (λfl s' hs=>?_) λe s' hs=>hs
 have fin:∀ {σ':St} {H':Hp} {v:V} {u:g9},Inv (qdW CX P w K mg base N qual scope f cdv A outer s H E) [] σ' H' s'->RelV v u->Q v H'->CE outer P w H s Q u s':=
  λ{σ' H' v u} J rv q=>⟨v,H',J.os,J.bare,J.base,J.hok,rv,q⟩
 cases fl with
 | ret u=>
  obtain ⟨v,σ',H',J,rv,q⟩:=hs
  exact fin J rv q
 | next=>
  obtain ⟨σ',H',J,q⟩:=hs
  exact fin (v:=V.non) (u:=cq) J rfl q
 | brk=>
  obtain ⟨_,_,_,q⟩:=hs
  exact dD q
 | cont=>
  obtain ⟨_,_,_,q⟩:=hs
  exact dD q
section
variable {t:TA} {id T:String} {r:List V->Hp->VK->Prop}
def tCB (r:List V->Hp->VK->Prop) (t:TA):TE:=λσ H Q=>t σ H λvs H1=>r vs H1 Q
theorem xm (hc:yC X (.builtin id) r) (hg:Gl X x) (hm:X.mg x=g7) (hv:bootBuiltins x=g6 (.builtin id)) (ha:PA X (e::es) t) (hn:x ≠ "__name__":=by decide) (hdb:'m'=false:=by decide)
  (he:starEach (e::es) X.env=(hJ,eval e X.env)::starEach es X.env:=by rfl) (hpl:(backTo pos (starEach es X.env)).any (·.1)=false:=by rfl):PE X (.Call (.Name x p) (e::es) [] pos) (tCB r t):=by
 refine ⟨?_⟩
 intro pins s σ H Q I h
 refine iN (xj I hg hm hv ?_ hn hdb)
 exact PyProof.Rows.callWith_builtin1 (thn (ha pos pins s σ H _ I h) λus s1 ⟨vs,H1,I1,r1,q1⟩=>hc pins s1 σ H1 vs us Q I1 r1 q1) he hpl
theorem ux (hc:yC X (.type T) r) (hg:Gl X x) (hm:X.mg x=g7) (hv:bootBuiltins x=g6 (.type T)) (ha:PA X (e::es) t) (hn:x ≠ "__name__":=by decide) (hdb:'m'=false:=by decide)
  (he:starEach (e::es) X.env=(hJ,eval e X.env)::starEach es X.env:=by rfl) (hpl:(backTo pos (starEach es X.env)).any (·.1)=false:=by rfl):PE X (.Call (.Name x p) (e::es) [] pos) (tCB r t):=by
 refine ⟨?_⟩
 intro pins s σ H Q I h
 refine iN (xj I hg hm hv ?_ hn hdb)
 exact bn (thn (ha pos pins s σ H _ I h) λus s1 ⟨vs,H1,I1,r1,q1⟩=>hc pins s1 σ H1 vs us Q I1 r1 q1) he hpl
end
end L2
namespace HT
open PySem PyProof.Rows
theorem JL (A:ii) (s:hV) (a:Int) (t:Tok) (c:Int) (u:Tok) (prog:h8) (w:ib) (E:g9->hV->Prop) (Q:g9->hV->Prop) (h:Q (.bool (decide (a < c))) s) :
  wpAny 'g' A (richCompare .Lt (.int a t) (.int c u)) Q E s:=
 (PyProof.Rows.lt_int h:wpAny 'g' A (compareOp .Lt (.int a t) (.int c u)) Q E s)
section
open PySem.SeqAt
open PySem.AutoSeq1 (wpAny_loadPart')
open PySem.MeetsSeq PySem.MeetsSeq2 PySem.MeetsSeq3
end
section
variable {prog:h8} {w:ib} {A:ii} {E:g9->hV->Prop} {s:hV}
theorem cat_tup {t b:Addr} {vs ws:List g9} {Q:g9->hV->Prop} (ht:IsTup s.heap t vs.toArray) (hb:IsTup s.heap b ws.toArray) (hv:vs≠[])
  (h1:ws=[]->Q (.ref t) s) (h2:ws≠[]->Q 'o' { s with heap:=s.heap.push { cls:=.type "tuple",data:=.seq (vs++ws).toArray } })
  (hsz:vs.length+ws.length<=sizeLine):wpAny 'g' A (binaryOp .Add (.ref t) (.ref b)) Q E s:=by
 obtain ⟨⟨cls,dd,data,sl⟩,ho,hc,n,hd⟩:=id ht
 obtain ⟨⟨cls2,dd2,data2,sl2⟩,ho2,hc2,n2,hd2⟩:=id hb
 simp only at hc hd hc2 hd2
 subst hc hd hc2 hd2
 have e:vs.toArray++ws.toArray=(vs++ws).toArray:=by simp
 by_cases hw:ws=[]
 ·exact j9 ⟨_,ho,rfl⟩ ⟨_,ho2,rfl⟩ noFill_tuple_add seq_tuple_add d8 dS (dI _ _)
   (tuple_addW1 t b vs.toArray ws.toArray n n2 dd dd2 sl sl2 (by simpa using hv) (by simp [hw])) ⟨ho,ho2,h1 hw⟩
 ·refine j9 ⟨_,ho,rfl⟩ ⟨_,ho2,rfl⟩ noFill_tuple_add seq_tuple_add d8 dS (dI _ _)
   (tuple_addW2 t b vs.toArray ws.toArray n n2 dd dd2 sl sl2 (by simpa using hv) (by simpa using hw) (by rw [au,au]; exact hsz)) ⟨ho,ho2,?_⟩
  rw [e]
  exact h2 hw
theorem slicePart_ {v:g9} {o:Option Int} {Q:Option Int->hV->Prop} (p:j3 v o) (h:Q o s):wpAny 'g' A (Builtin.Slice.slicePartIndex v) Q E s:=by
 cases p with
 | none=>exact slicePart_none h
 | int i t=>exact slicePart_int h
end
end HT
namespace L2
open PySem PySem.Spec PyProof.Rows
abbrev TO:=St->Hp->(Option Int->Hp->Prop)->Prop
def PO (X:Cx) (e:Option Expr) (t:TO):Prop:=
 ∀ (pins:List (Addr×Obj)) (s:hV) (σ:St) (H:Hp) (Q:Option Int->Hp->Prop),Inv X pins σ H s->t σ H Q ->
  wpAny 'd' X.A (evalPart e X.env) (λu s'=>∃ o H',Inv X pins σ H' s'/\j3 u o/\Q o H') X.xe s
def qdX:TO:=λ_ H Q=>Q g7 H
def qh8 (t:TE):TO:=λσ H Q=>t σ H λx H1=>∃ i,x=.int i/\Q (g6 i) H1
variable {X:Cx} {e:Expr} {pos:Pos} {xs:List V} {us:List g9}
section
variable {te:TE} {lo hi:Option Expr} {tl th:TO} {p2:Pos}
theorem qdY:PO X g7 qdX:=by
 intro pins s σ H Q I h
 rw [evalPart_none]
 exact h7 ⟨g7,H,I,.none,h⟩
theorem qdZ (h:PE X e te):PO X (g6 e) (qh8 te):=by
 intro pins s σ H Q I hw
 rw [evalPart_some]
 refine thn (h pins s σ H _ I hw) λu s1 ⟨x,H1,I1,r1,q1⟩=>?_
 obtain ⟨i,rfl,q⟩:=q1
 obtain ⟨t,rfl⟩:=r1
 exact ⟨g6 i,H1,I1,.int i t,q⟩
def qh9 (K:Frag):R2:=λx y H Q=>∃ a b xs ys,x=.ref a/\y=.ref b/\SqT K H a xs/\SqT K H b ys/\xs≠[]/\xs.length+ys.length<=sizeLine /\
 (ys=[]->Q (.ref a) H)/\(ys≠[]->∀ p,H p=g7->Q (.ref p) (upd H p (.tup (xs++ys))))
theorem Vals.nil_iff (r:Vals xs us):us=[]↔xs=[]:=by
 cases r with
 | nil=>simp
 | cons _ _=>simp
theorem qd0:OpR X (binaryOp .Add) (qh9 X.K):=by
 sleep 2
 obtain ⟨a,b,xs,ys,rfl,rfl,ha,hb,hx,hz,q1,q2⟩:=h
 cases rx
 cases ry
 obtain ⟨its,r1,p1,_⟩:=I.tuple ha
 obtain ⟨its2,r2,p2,_⟩:=I.tuple hb
 refine HT.cat_tup p1 p2 (λz=>hx (r1.nil_iff.mp z)) (λz=>⟨.ref a,H,I,rfl,q1 (r2.nil_iff.mp z)⟩) (λz=>?_) (by rw [<-r1.length,<-r2.length]; exact hz)
 refine ⟨.ref s.heap.objs.size,_,I.laid (t':=s.toks) (o:=.tup (xs++ys)) (λb ob q=>ac _ q) (ax _) ?_,rfl,q2 (λw=>z (r2.nil_iff.mpr w)) _ (I.hok.fresh (ax _))⟩
 exact ⟨⟨by rw [aj]; exact hz,_,ak _ rfl,rfl⟩,_,r1.append r2,IsTup.new _ _⟩
end
noncomputable def ixN (n:Nat) (i:Int):Option Nat:=if 0<=i then (if i < n then g6 i.toNat else g7) else if -(n:Int)<=i then g6 (i+n).toNat else g7
variable {α:Type}
noncomputable def atI (xs:List α) (i:Int):Option α:=(ixN xs.length i).bind λj=>xs[j]?
variable {n j:Nat} {i:Int}
theorem ZJ (h:ixN n i=g6 j):seqIndex? i n=g6 j/\j < n/\-(n:Int)<=i/\i < n:=by
 unfold ixN at h
 by_cases h0:0<=i
 ·rw [if_pos h0] at h
  by_cases h1:i < n
  ·rw [if_pos h1] at h
   have e:i.toNat=j:=aU.inj h
   exact ⟨by rw [seqIndex_of h0 h1,e],by omega,by omega,h1⟩
  ·rw [if_neg h1] at h; cases h
 ·rw [if_neg h0] at h
  by_cases h1:-(n:Int)<=i
  ·rw [if_pos h1] at h
   have e:(i+n).toNat=j:=aU.inj h
   exact ⟨by rw [seqIndex_neg 'a' h1,e],by omega,h1,by omega⟩
  ·rw [if_neg h1] at h; cases h
theorem WR {xs:List α} {v:α} (h:atI xs i=g6 v):∃ j,seqIndex? i xs.length=g6 j/\xs[j]?=g6 v/\j < xs.length/\-(xs.length:Int)<=i/\i < xs.length:=by
 unfold atI at h
 cases e:ixN xs.length i with
 | none=>rw [e] at h; cases h
 | some j=>
  rw [e] at h
  obtain ⟨h1,h2,h3,h4⟩:=ZJ e
  exact ⟨j,h1,h,h2,h3,h4⟩
theorem wp {xs:List α} {v:α} (h:xs[j]?=g6 v):atI xs (j:Int)=g6 v:=by
 have hj:j < xs.length:=(aC.mp h).1
 have e:ixN xs.length (j:Int)=g6 j:=by
  unfold ixN
  rw [if_pos 'a',if_pos 'a']; simp
 unfold atI; rw [e]; exact h
def WS (b:Expr):Prop:=∀ o i,subscripted b hJ o i=operate [o,i] (getItem o i)
def IxR (X:Cx) (r:R2):Prop:=
 ∀ (value slice:Expr) (pins:List (Addr×Obj)) (s:hV) (σ:St) (H:Hp) (x y:V) (v u:g9) (Q:VK),Inv X pins σ H s->RelV x v->RelV y u->r x y H Q ->
  subscripted slice hJ v u=operate [v,u] (getItem v u)->wpAny 'd' X.A (subscriptTail value slice v u) (EP X pins σ Q) X.xe s
def MtR (X:Cx) (id:String) (r:V->List V->Hp->VK->Prop):Prop:=
 ∀ (pins:List (Addr×Obj)) (s:hV) (σ:St) (H:Hp) (x:V) (xs:List V) (v:g9) (us:List g9) (Q:VK),Inv X pins σ H s->RelV x v->Vals xs us->r x xs H Q ->
  wpAny 'd' X.A (call (.builtin id) (v::us)) (EP X pins σ Q) X.xe s
variable {pins:List (Addr×Obj)} {σ:St} {H:Hp} {s:hV} {p:Addr} {T:String}
section
variable {a b:Expr} {ta tb:TE}
theorem IxR.or {r r':R2} (h:IxR X r) (h':IxR X r'):IxR X (λx y H Q=>r x y H Q\/r' x y H Q):=by
 intro value slice pins s σ H x y v u Q I rx ry q hs
 rcases q with q | q
 ·exact h value slice pins s σ H x y v u Q I rx ry q hs
 ·exact h' value slice pins s σ H x y v u Q I rx ry q hs
theorem qf5 {r:R2} (hr:IxR X r) (ha:PE X a ta) (hb:PE X b tb) (hs:WS b):PE X (.Subscript a b pos) (tOp r ta tb):=by
 refine ⟨?_⟩
 intro pins s σ H Q I h
 exact Subscript_ (qhX ha hb I h λv u s2 x y H2 I2 rx ry q=>hr a b pins s2 σ H2 x y v u Q I2 rx ry q (hs _ _))
def qiW (K:Frag):R2:=λx y H Q=>∃ p xs i v,x=.ref p/\y=.int i/\SqL K H p xs/\atI xs i=g6 v/\Q v H
def qiX (K:Frag):R2:=λx y H Q=>∃ p xs i v,x=.ref p/\y=.int i/\SqT K H p xs/\atI xs i=g6 v/\Q v H
def qiY:R2:=λx y H Q=>∃ z i c,x=.str z/\y=.int i/\z.length<=sizeLine/\atI z.cps.toList i=g6 c/\Q (.str ⟨#[c]⟩) H
theorem ix_list:IxR X (qiW X.K):=by
 intro value slice pins s σ H x y v u Q I rx ry h hs
 obtain ⟨p,xs,i,z,rfl,rfl,hq,he,q⟩:=h
 cases rx
 obtain ⟨t,rfl⟩:=ry
 obtain ⟨its,r,pl,hz⟩:=I.list hq
 obtain ⟨j,h1,h2,h3,h4,h5⟩:=WR he
 obtain ⟨w,ew,rw'⟩:=r.get h2
 have hl:=r.length
 have hn:=Jk
 have fin:EP X pins σ Q w s:=⟨z,H,I,rw',q⟩
 by_cases h0:0<=i
 ·have hj:i.toNat=j:=by
   rw [seqIndex_of h0 h5] at h1
   exact aU.inj h1
  exact item_listR pl.isList h0 'a' (by rw [hj]; simpa using ew) fin hs
 ·have hj:(i+(its.toArray.size:Int)).toNat=j:=by
   rw [seqIndex_neg 'a' h4] at h1
   rw [au,<-hl]
   exact aU.inj h1
  exact subscriptTail_builtinR (x:=w) pl.isList.typeIs slot_list_getitem.lookup
   (wpAny_getItem_list_neg (Q:=λr s'=>r=w/\EP X pins σ Q r s') pl.isList 'a' (by rw [au] <;> omega) 'a' (by rw [hj]; simpa using ew) ⟨rfl,fin⟩) hs
theorem ix_tup:IxR X (qiX X.K):=by
 intro value slice pins s σ H x y v u Q I rx ry h hs
 obtain ⟨p,xs,i,z,rfl,rfl,hq,he,q⟩:=h
 cases rx
 obtain ⟨t,rfl⟩:=ry
 obtain ⟨its,r,pl,hz⟩:=I.tuple hq
 obtain ⟨j,h1,h2,h3,h4,h5⟩:=WR he
 obtain ⟨w,ew,rw'⟩:=r.get h2
 have hl:=r.length
 have hn:=Jk
 have fin:EP X pins σ Q w s:=⟨z,H,I,rw',q⟩
 exact subscriptTail_builtinR (x:=w) pl.typeIs slot_tuple_getitem.lookup
  (getItem_tuple (j:=j) (Q:=λr s'=>r=w/\EP X pins σ Q r s') pl 'a' 'a' (by rw [au,<-hl]; exact h1) (by simpa using ew) ⟨rfl,fin⟩) hs
theorem qf6:IxR X qiY:=by
 intro value slice pins s σ H x y v u Q I rx ry h hs
 obtain ⟨z,i,c,rfl,rfl,hz,he,q⟩:=h
 obtain ⟨t,rfl⟩:=rx
 obtain ⟨t',rfl⟩:=ry
 obtain ⟨j,h1,h2,h3,h4,h5⟩:=WR he
 have hl:z.cps.toList.length=z.length:=by simp [fS]
 rw [hl] at h1 h4 h5
 have hn:=Jk
 exact tail_any (typeIs_str s z t) slot_str_getitem.lookup (getItem_str (c:=c) (by
  have e1:decide (i < -(2 ^ 63:Int))=false:=decide_eq_false 'a'
  have e2:decide (i ≥ 2 ^ 63)=false:=decide_eq_false 'a'
  rw [e1,e2,Bool.or_false]) (by rw [h1]; simpa using h2) ⟨.str ⟨#[c]⟩,H,I.tok _,⟨_,rfl⟩,q⟩) hs
def rIx (K:Frag):R2:=λx y H Q=>qiW K x y H Q\/qiX K x y H Q\/qiY x y H Q
theorem qf7:IxR X (rIx X.K):=ix_list.or (ix_tup.or qf6)
theorem XE (its:List g9) (n j:Nat) (u:g9):cT (·.setIfInBounds j u) { cls:=.type "list",data:=.seq its.toArray n }={ cls:=.type "list",data:=.seq (its.set j u).toArray n }:=by
 simp [cT]
theorem Inv.lst (I:Inv X pins σ H s) (h:H p=g6 (.lst xs)) :
  ∃ (its:List g9) (n:Nat),Vals xs its/\s.heap.get? p=g6 { cls:=.type "list",data:=.seq its.toArray n }/\xs.length<=sizeLine:=by
 obtain ⟨z,its,n,r,e⟩:=I.hok p _ h
 exact ⟨its,n,r,e,z⟩
theorem Inv.lstUpd {ys:List V} {its its':List g9} {n n':Nat} {f:Obj->Obj} (I:Inv X pins σ H s) (h:H p=g6 (.lst xs))
  (ho:s.heap.get? p=g6 { cls:=.type "list",data:=.seq its.toArray n }) (hf:f { cls:=.type "list",data:=.seq its.toArray n }={ cls:=.type "list",data:=.seq its'.toArray n' }) (r:Vals ys its') (hz:ys.length<=sizeLine) (t:Nat) :
  Inv X pins σ (upd H p (.lst ys)) { s with heap:=s.heap.update p f,toks:=t }:=by
 have e:(s.heap.update p f).get? p=g6 { cls:=.type "list",data:=.seq its'.toArray n' }:=by
  rw [aQ f ho (by rw [hf] <;> rfl),hf]
 refine I.write (x:=p) (e:=p) (by rw [h]; trivial) (.inl rfl) (λb u hb q=>(ba _ _ (bf hb)).trans q) ⟨_,e⟩ ?_
 exact ⟨hz,its',n',r,e⟩
def qia:V->V->V->Hp->(Hp->Prop)->Prop:=λo i v H Q=>∃ p xs k j,o=.ref p/\i=.int k/\H p=g6 (.lst xs)/\ixN xs.length k=g6 j/\Q (upd H p (.lst (xs.set j v)))
theorem qbu:qiT X qia:=by
 intro pins s σ H o i v ov iv u Q I ro ri rv h
 obtain ⟨p,xs,k,j,rfl,rfl,hp,hj,q⟩:=h
 cases ro
 obtain ⟨t,rfl⟩:=ri
 obtain ⟨its,n,r,ho,hz⟩:=I.lst hp
 obtain ⟨h1,h2,h3,h4⟩:=ZJ hj
 have hl:=r.length
 have hn:=Jk
 have I':Inv X pins σ (upd H p (.lst (xs.set j v))) { s with heap:=s.heap.update p (cT (·.setIfInBounds j u)) }:=
  I.lstUpd hp ho (XE its n j u) (r.set rv j) (by rw [cA]; exact hz) s.toks
 by_cases h0:0<=k
 ·have hk:k.toNat=j:=by
   rw [seqIndex_of h0 h4] at h1
   exact aU.inj h1
  exact PySem.W.ki_setAt ho h0 'a' (by rw [au,<-hl]; exact h4) (by rw [hk]; exact ⟨_,I',q⟩)
 ·have hk:(k+(its.toArray.size:Int)).toNat=j:=by
   rw [seqIndex_neg 'a' h3] at h1
   rw [au,<-hl]
   exact aU.inj h1
  exact PySem.W.ki_setBack ho 'a' (by rw [au,<-hl]; exact h3) 'a' (by rw [hk]; exact ⟨_,I',q⟩)
theorem zB:yC X (.type "list") (λxs H Q=>∃ p ys,xs=[.ref p]/\(SqL X.K H p ys\/SqT X.K H p ys)/\∀ l,H l=g7->Q (.ref l) (upd H l (.lst ys))):=by
 intro pins s σ H xs us Q I r h
 obtain ⟨p,ys,rfl,hq,q⟩:=h
 obtain ⟨u,rfl,rx⟩:=uw r
 cases rx
 have fin:∀ (its:List g9),Vals ys its->ys.length<=sizeLine->∀ (h':Heap) (c':Nat),(∀ b o',s.heap.get? b=g6 o'->h'.get? b=g6 o') ->
   h'.get? s.heap.objs.size=g6 { cls:=.type "list",dict:=g7,data:=.seq its.toArray c',slots:=#[] }->EP X pins σ Q 'o' { s with heap:=h' }:=λits r' hz h' c' kp e=>
  ⟨.ref s.heap.objs.size,_,I.laid (t':=s.toks) kp (ax _) (show ObjOk X.prog X.w _ h' _ (.lst ys) from ⟨hz,its,c',r',e⟩),rfl,q _ (I.hok.fresh (ax _))⟩
 rcases hq with hq | hq
 ·obtain ⟨its,r',pl,hz⟩:=I.list hq
  have hlen:=r'.length
  obtain ⟨o,ho,hc,n,hd⟩:=pl.isList
  exact call_list_seq p (.inl rfl) ho hc hd (λh' c' kp e=>fin its r' hz h' c' kp e) (by simp only [au] <;> omega)
 ·obtain ⟨its,r',pl,hz⟩:=I.tuple hq
  have hlen:=r'.length
  obtain ⟨o,ho,hc,n,hd⟩:=pl
  exact call_list_seq p (.inr rfl) ho hc hd (λh' c' kp e=>fin its r' hz h' c' kp e) (by simp only [au] <;> omega)
theorem xn:yC X (.type "tuple") (λxs H Q=>∃ p ys,xs=[.ref p]/\((SqL X.K H p ys/\∀ l,H l=g7->Q (.ref l) (upd H l (.tup ys)))\/(SqT X.K H p ys/\Q (.ref p) H))):=by
 intro pins s σ H xs us Q I r h
 obtain ⟨p,ys,rfl,h⟩:=h
 obtain ⟨u,rfl,rx⟩:=uw r
 cases rx
 rcases h with ⟨hq,q⟩ | ⟨hq,q⟩
 ·obtain ⟨its,r',pl,hz⟩:=I.list hq
  have hlen:=r'.length
  refine call_tuple_list pl.isList (λh' kp=>?_) (by simp only [au] <;> omega)
  have I1:Inv X pins σ H { s with heap:=h' }:=I.kept (t':=s.toks) kp
  have I2:Inv X pins σ (upd H h'.objs.size (.tup ys)) { s with heap:=h'.push { cls:=.type "tuple",data:=.seq its.toArray } }:=
   I1.laid (t':=s.toks) (λb o e=>ac _ e) (ax _) (show ObjOk X.prog X.w _ _ _ (.tup ys) from ⟨⟨hz,_,ak _ rfl,rfl⟩,its,r',IsTup.new _ _⟩)
  exact ⟨.ref h'.objs.size,_,I2,rfl,q _ (I1.hok.fresh (ax _))⟩
 ·obtain ⟨its,r',pl,hz⟩:=I.tuple hq
  exact call_tuple_same pl ⟨.ref p,H,I,rfl,q⟩
def tyV (K:Frag) (T:String) (x:V) (H:Hp):Prop:=match x with
 | .str _=>T = "str"
 | .int _=>T = "int"
 | .ref p=>(T = "list"/\∃ xs,SqL K H p xs)\/(T = "tuple"/\∃ o,K.lookup p=g6 o/\o.cls=.type "tuple"/\o.dict=g7) \/
   (T = "dict"/\((∃ kvs,H p=g6 (.dK kvs))\/∃ kvs,H p=g6 (.dT kvs)))\/(T = "set"/\∃ S n,H p=g6 (.set S n))
 | _=>False
theorem qf8 {x:V} {v:g9} (I:Inv X pins σ H s) (r:RelV x v) (ty:tyV X.K T x H) :
  s.TypeIs v T/\∀ a,v=.ref a->∃ ob,s.heap.get? a=g6 ob/\ob.dict=none:=by
 cases x with
 | str z=>
  obtain ⟨t,rfl⟩:=r
  cases (show T = "str" from ty)
  exact ⟨typeIs_str s z t,λ_ e=>nomatch e⟩
 | int i=>
  obtain ⟨t,rfl⟩:=r
  cases (show T = "int" from ty)
  exact ⟨typeIs_int s i t,λ_ e=>nomatch e⟩
 | ref p=>
  cases r
  rcases ty with ⟨rfl,xs,hq⟩ | ⟨rfl,o,hk,hc,hd⟩ | ⟨rfl,hk⟩ | ⟨rfl,S,n,hk⟩
  ·obtain ⟨its,_,pl,_⟩:=I.list hq
   refine ⟨pl.isList.typeIs,λa e=>?_⟩
   cases e
   obtain ⟨o,n,e,c,hd,_⟩:=pl
   exact ⟨o,e,hd⟩
  ·refine ⟨⟨o,I.kIn p o hk,hc⟩,λa e=>?_⟩
   cases e
   exact ⟨o,I.kIn _ o hk,hd⟩
  ·have z:∃ o,s.heap.get? p=g6 o/\o.ExactDict:=by
    rcases hk with ⟨kvs,hk⟩ | ⟨kvs,hk⟩
    ·obtain ⟨_,_,_,_,o,_,_,e,ex,_⟩:=I.hok p _ hk
     exact ⟨o,e,ex⟩
    ·obtain ⟨_,_,_,_,o,_,_,e,ex,_⟩:=I.hok p _ hk
     exact ⟨o,e,ex⟩
   obtain ⟨o,e,ex⟩:=z
   refine ⟨⟨o,e,ex.1⟩,λa e2=>?_⟩
   cases e2
   exact ⟨o,e,ex.2.1⟩
  ·obtain ⟨o,_,_,_,e,ex,_⟩:=I.hok p _ hk
   refine ⟨⟨o,e,ex.1⟩,λa e2=>?_⟩
   cases e2
   exact ⟨o,e,ex.2.1⟩
 | _=>exact dD ty
def tBM (K:Frag) (T:String) (r:V->List V->Hp->VK->Prop) (to:TE) (t:TA):TE:=λσ H Q=>to σ H λx H1=>tyV K T x H1/\t σ H1 λxs H2=>r x xs H2 Q
variable {o:Expr} {es:List Expr} {to:TE} {t:TA} {name:Str} {apos cpos:Pos} {id:String} {r:V->List V->Hp->VK->Prop}
theorem qbv (pa:PlainAttrs T) (slot:Slot T name id) (hty:typeOf (.builtin id)=pure (.type "method_descriptor")) (hm:MtR X id r) (ho:PE X o to) (ha:PA X (e::es) t)
  (hbase:attributeBase o name X.env (eval o X.env)=eval o X.env:=by rfl)
  (hfew:((backTo cpos (starEach (e::es) X.env)).all (λx=>!x.1)&&(backToKw cpos (keywordEach [] X.env)).all (λx=>x.1.isSome)
   && decide ((e::es).length+([]:List iI).length+(if ([]:List iI).isEmpty then 0 else 1) < 30))=true:=by rfl)
  (hline:(apos.endLine == cpos.line)=true:=by rfl) (hs:starEach (e::es) X.env=(hJ,eval e X.env)::starEach es X.env:=by rfl) (hplain:(backTo cpos (starEach es X.env)).any (·.1)=false:=by rfl) :
  PE X (.Call (.Attribute o name apos) (e::es) [] cpos) (tBM X.K T r to t):=by
 refine ⟨?_⟩
 intro pins s σ H Q I h
 refine wpAny_Call_method_late hbase hfew hline rfl (thn (ho pins s σ H _ I h) λv s1 ⟨x,H1,I1,r1,ty,q1⟩=>?_)
 obtain ⟨h1,h2⟩:=qf8 I1 r1 ty
 refine ⟨T,id,pa,slot,hty,h1,h2,?_⟩
 have hA:=ha cpos pins s1 σ H1 _ I1 q1
 rw [hs] at hA ⊢
 refine Calls.callWith_builtin (by show (hJ||(backTo cpos (starEach es X.env)).any (·.1))=hJ; rw [hplain] <;> rfl) (eL ?_)
 exact thn hA λus s2 ⟨vs,H2,I2,r2,q2⟩=>hm pins s2 σ H2 x vs v us Q I2 r1 r2 q2
end
def MtM (X:Cx) (id:String) (r:V->List V->Hp->VK->Prop):Prop:=
 ∀ (pins:List (Addr×Obj)) (s:hV) (σ:St) (H:Hp) (x:V) (xs:List V) (v:g9) (us:List g9) (Q:VK),Inv X pins σ H s->RelV x v->Vals xs us->r x xs H Q ->
  wpAny 'd' X.A (call (.builtin id) (v::us)) (EP X pins σ Q) X.xe s
theorem Vals.one:∀ {x:V} {us:List g9},Vals [x] us->∃ u,us=[u]/\RelV x u
 | _,_,.cons r .nil=>⟨_,rfl,r⟩
theorem Vals.two:∀ {x y:V} {us:List g9},Vals [x,y] us->∃ u v,us=[u,v]/\RelV x u/\RelV y v
 | _,_,_,.cons r (.cons q .nil)=>⟨_,_,rfl,r,q⟩
theorem Vals.zero:∀ {us:List g9},Vals [] us->us=[]
 | _,.nil=>rfl
theorem Vals.dropLast (h:Vals xs us):Vals xs.dropLast us.dropLast:=by
 induction h with
 | nil=>exact .nil
 | cons r t ih=>
  cases t with
  | nil=>exact .nil
  | cons q t'=>exact .cons r ih
theorem Vals.eraseIdx:∀ {xs:List V} {us:List g9} (i:Nat),Vals xs us->Vals (xs.eraseIdx i) (us.eraseIdx i)
 | _,_,_,.nil=>.nil
 | _,_,0,.cons _ t=>t
 | _,_,i+1,.cons r t=>.cons r (Vals.eraseIdx i t)
theorem Vals.reverse (h:Vals xs us):Vals xs.reverse us.reverse:=by
 induction h with
 | nil=>exact .nil
 | cons r t ih=>rw [dq,dq]; exact Vals.append ih (.cons r .nil)
theorem Vals.rep (h:Vals xs us):∀ k:Nat,Vals (bD k xs).flatten (bD k us).flatten
 | 0=>.nil
 | k+1=>by
  rw [List.replicate_succ,List.replicate_succ,List.flatten_cons,List.flatten_cons]
  exact Vals.append h (Vals.rep h k)
theorem Vr:∀ (l:List α) (i:Nat),(l.eraseIdx i).length<=l.length
 | [],_=>ax _
 | _::_,0=>e8 _
 | _::r,i+1=>Nat.succ_le_succ (Vr r i)
section
variable {l b:Addr} {ys zs:List V}
theorem Inv.lset {its its':List g9} {n:Nat} {f:Array g9->Array g9} {t':Nat} (I:Inv X pins σ H s) (hH:H l=g6 (.lst xs))
  (e:s.heap.get? l=g6 { cls:=.type "list",data:=.seq its.toArray n }) (hf:f its.toArray=its'.toArray) (hv:Vals ys its') (hz:ys.length<=sizeLine) :
  Inv X pins σ (upd H l (.lst ys)) { s with heap:=s.heap.update l (cT f),toks:=t' }:=by
 have q:=PySem.IsL.update e f
 rw [hf] at q
 refine I.write (x:=l) (e:=l) (by rw [hH]; exact trivial) (.inl rfl) (λb' u hb hu=>(ba s.heap (cT f) (bf hb)).trans hu) ⟨_,q⟩ ?_
 exact ⟨hz,its',_,hv,q⟩
theorem Inv.lnew {its:List g9} {t':Nat} (I:Inv X pins σ H s) (hv:Vals ys its) (hz:ys.length<=sizeLine) :
  Inv X pins σ (upd H s.heap.objs.size (.lst ys)) { s with heap:=s.heap.push { cls:=.type "list",data:=.seq its.toArray },toks:=t' }:=
 I.laid (λ_ _ q=>ac _ q) (ax _) ⟨hz,its,0,hv,ak _ rfl⟩
theorem Inv.fresh (I:Inv X pins σ H s):H s.heap.objs.size=none:=I.hok.fresh (ax _)
theorem Inv.lstM (I:Inv X pins σ H s) (hH:H l=g6 (.lst xs)):xs.length<=sizeLine/\∃ (its:List g9) (n:Nat),Vals xs its/\xs.length=its.length/\s.heap.get? l=g6 { cls:=.type "list",data:=.seq its.toArray n }:=by
 obtain ⟨z,its,n,r,e⟩:=I.hok l _ hH
 exact ⟨z,its,n,r,r.length,e⟩
theorem qbw (h:n<=sizeLine):dJ n=false:=by
 unfold dJ
 exact decide_eq_false 'a'
end
section
def WT:V->List V->Hp->VK->Prop:=λx vs H Q=>∃ l xs y,x=.ref l/\vs=[y]/\H l=g6 (.lst xs)/\xs.length < sizeLine/\Q .non (upd H l (.lst (xs++[y])))
theorem Vs:MtM X "list.append" WT:=by
 intro pins s σ H x vs v us Q I rx rv h
 obtain ⟨l,xs,y,rfl,rfl,hH,hz,q⟩:=h
 cases rx
 obtain ⟨u,rfl,ru⟩:=rv.one
 obtain ⟨z,its,n,r,hl,e⟩:=I.lstM hH
 refine k6 F.slot_list_append ⟨_,e,rfl⟩ F.entry_list_append (F.args_list_append_2 _ _) (PySem.list_append l its.toArray n u (by rw [au]; omega)) ⟨e,?_⟩
 refine ⟨.non,_,I.lset (its':=its++[u]) hH e 'h' (r.append (.cons ru .nil)) ?_,rfl,q⟩
 rw [aj,List.length_singleton]
 omega
def qd1:V->List V->Hp->VK->Prop:=λx vs H Q=>∃ l b xs zs,x=.ref l/\vs=[.ref b]/\H l=g6 (.lst xs)/\H b=g6 (.lst zs)/\xs.length+zs.length<=sizeLine/\Q .non (upd H l (.lst (xs++zs)))
theorem ZK:MtM X "list.extend" qd1:=by
 intro pins s σ H x vs v us Q I rx rv h
 obtain ⟨l,b,xs,zs,rfl,rfl,hH,hB,hz,q⟩:=h
 cases rx
 obtain ⟨u,rfl,ru⟩:=rv.one
 cases ru
 obtain ⟨z,its,n,r,hl,e⟩:=I.lstM hH
 obtain ⟨z2,its2,n2,r2,hl2,e2⟩:=I.lstM hB
 have hsz:its.toArray.size+its2.toArray.size<=sizeLine:=by rw [au,au]; omega
 have hlong:¬(!its.toArray.isEmpty&&dJ (its.toArray.size+its2.toArray.size))=true:=by
  rw [qbw hsz,Bool.and_false]
  exact be
 refine k6 F.slot_list_extend ⟨_,e,rfl⟩ F.entry_list_extend (F.args_list_extend_2 _ _)
  (AutoSeq1.list_extend_list_list_0 l its.toArray n b its2.toArray n2 hlong (by rw [au]; omega) 'a') ⟨e,e2,?_⟩
 refine ⟨.non,_,I.lset (its':=its++its2) hH e 'h' (r.append r2) ?_,rfl,q⟩
 rw [aj]
 omega
def qf9:V->List V->Hp->VK->Prop:=λx vs H Q=>∃ l xs i k y,x=.ref l/\vs=[.int i]/\H l=g6 (.lst xs)/\-(2 ^ 63)<=i/\i < 2 ^ 63/\seqIndex? i xs.length=g6 k/\xs[k]?=g6 y/\Q y (upd H l (.lst (xs.eraseIdx k)))
theorem qbx:MtM X "list.pop" qf9:=by
 intro pins s σ H x vs v us Q I rx rv h
 obtain ⟨l,xs,i,k,y,rfl,rfl,hH,h1,h2,hk,hy,q⟩:=h
 cases rx
 obtain ⟨u,rfl,ru⟩:=rv.one
 obtain ⟨t,rfl⟩:=ru
 obtain ⟨z,its,n,r,hl,e⟩:=I.lstM hH
 obtain ⟨w,hw,rw'⟩:=r.get hy
 refine k6 F.slot_list_pop ⟨_,e,rfl⟩ F.entry_list_pop (F.args_list_pop_2 _ _)
  (MeetsSeq.list_pop_at l its.toArray n i t k w (fitsIndex_both h1 h2) (by rw [au,<-hl]; exact hk) (by rw [<-bq]; exact hw) (by rw [au]; omega)) ⟨e,?_⟩
 refine ⟨y,_,I.lset (its':=its.eraseIdx k) hH e ?_ (r.eraseIdx k) ?_,rw',q⟩
 ·show its.toArray.eraseIdxIfInBounds k=(its.eraseIdx k).toArray
  rw [List.eraseIdxIfInBounds_toArray]
 ·have:=Vr xs k
  omega
end
end L2
namespace Att
open PySem PySem.W PySem.Calls PyProof.Rows
theorem gG {P:Params} {h:Heap}:∀ (ns:List Int) (vs:List g9),WellAll P h vs (ns.map WData.int)->IntsAre vs ns:=by
 intro ns
 induction ns with
 | nil=>
  intro vs w
  rw [bU] at w
  cases w
  exact .nil
 | cons n ns ih=>
  intro vs w
  rw [aD] at w
  cases w with
  | cons a b=>
   cases a
   exact .cons _ _ (ih _ b)
theorem ZL {l:OpenLaw} {n:Nat} (hn:l.most=g6 n) {P:Params} {h:Heap} {args:List WData} {vals:List g9}
  (hpre:l.row.toRowW.claim.pre args=hZ) (hwl:WellAll P h vals args) :
  ∃ a vs ns,vals=[cf a]/\args=[WData.list (ns.map WData.int)]/\h.get? a=g6 { cls:=.type "list",data:=.seq vs.toArray }/\IntsAre vs ns/\ns.length<=n:=by
 have hsh:WShape.hasAll [] args [.list .int]=true:=(pre_splitW hpre).1
 have hc:l.pre.holds [] { args:=args }=true:=(pre_splitW hpre).2
 obtain ⟨d,r,rfl,h1,h2⟩:=hasAllW_cons hsh
 obtain rfl:=hasAllW_nil h2
 obtain ⟨xs,rfl,h3⟩:=hasW_list h1
 obtain ⟨ns,rfl⟩:=items_int h3
 have hlen:ns.length<=n:=by
  unfold OpenLaw.pre at hc
  have h4:(WTm.not (.lt (.lit (.int (n:Int))) (.len (.arg 0)))).holds [] { args:=[.list (ns.map .int)] }=true:=by
   have h4:=(holds_andW hc).1
   rw [hn] at h4
   exact h4
  have h5:=condW_of h4 (w_not (w_lt w_lit (w_len_list (w_arg rfl))))
  rw [aA] at h5
  refine Nat.le_of_not_lt λq=>?_
  have q':(n:Int) < ((ns.length:Nat):Int):=by omega
  first
   | (rw [decide_eq_true q'] at h5; exact absurd h5 'c')
   | (simp at h5; omega)
 cases hwl with
 | cons w1 w2=>
  cases w2
  cases w1 with
  | list ho hall=>exact ⟨_,_,ns,rfl,rfl,ho,gG ns _ hall,hlen⟩
theorem ZM (l:OpenLaw) (args:List WData):l.row.toRowW.claim.post args (.bool hZ) args=true:=
 postW_of (r:=l.row.toRowW) (X:=(hZ == hZ))
  (show WShape.has [] (.bool hZ) .bool=hZ by first | rfl | decide | simp [WShape.has,WShape.arms,WShape.armsAll])
  (show (WTm.eq .res (.lit (.bool hZ))).value [] { args:=args,res:=g6 (.bool hZ),after:=args }=g6 (.bool (hZ == hZ)) from w_eq_bool (w_res rfl) w_lit) rfl
theorem attach_call {l:OpenLaw} {n:Nat} {q:h8} {loose:List Str} {XP:(Str->Option g9)->Heap->Prop} {YP:ib->Heap->Prop} {d:DefRec}
  (hn:l.most=g6 n) (hdf:d.params.defaults=[])
  (call:∀ (w:ib) (s₀ s₁:hV) (mg mb:Str->Option g9) (fa:Addr) (o:Obj) (pm cd doc:g9) (a:Addr) (vs:List g9) (ns:List Int),
   Ground q loose [] XP w s₀ mg mb s₁.heap->YP w s₁.heap ->
   s₁.heap.get? fa=g6 o->o.data=.func (docDef d.name d.params d.body d.scope pm cd doc)->s₁.heap.CodeRec cd d.name->mg d.name=g6 (.ref fa) ->
   s₁.heap.get? a=g6 { cls:=.type "list",data:=.seq vs.toArray }->IntsAre vs ns->ns.length<=n->s₁.gens=#[] ->
   codeAny (model l.prog w) callerA (.call (.ref fa) ⟨[.ref a],[]⟩) (λr s'=>r=.ok (.ret (.bool hZ))/\OldK s₁.heap s'.heap/\s'.os=s₁.os/\i9 s'.gens) s₁) :
  WalkO q loose XP YP l.row.toRowW d [] (λf vs=>f9 f vs):=by
 intro w s₀ s₁ mg mb G Y fa o pm cd doc dV kV ho hd hcd hD hmg hg args vals as hpre hlay hrd hwl hlo
 obtain rfl:dV=.none:=Dflts.none hD hdf
 obtain rfl:kV=.none:=Dflts.noKw hD
 obtain ⟨a,vs,ns,rfl,rfl,hobj,hints,hlen⟩:=ZL hn hpre hwl
 refine enter_call (j0 (call w s₀ s₁ mg mb fa o pm cd doc a vs ns G Y ho (fd_plain hd) hcd hmg hobj hints hlen hg) λr s' hq=>?_)
 obtain ⟨rfl,h2,h3,h4⟩:=hq
 exact ⟨.inl ⟨.bool hZ,.bool hZ,[],rfl,λ_=>rfl,.bool hZ,ZM l _,λ_=>⟨d9,λ_ hm=>(nomatch hm)⟩⟩,h2,h3,h4⟩
end Att
namespace L2
open PySem PySem.Spec PyProof.Rows
theorem Vt:∀ {vs:List g9} {ns:List Int},IntsAre vs ns->Vals (ns.map V.int) vs
 | _,_,.nil=>.nil
 | _,_,.cons n t h=>.cons ⟨t,rfl⟩ (Vt h)
def qib (H:Hp):Prop:=∀ b,H b=g7\/∃ o xs,H b=g6 (.frz o (.lst xs))
theorem qby {P:h8} {w:ib} {K:Frag} {mg mb:Str->Option g9} {CX:CXT} {k:Nat} {fa a:Addr} {fd:iP} {x:Str} {sp:Sp} {s₁:hV} {vs:List g9} {ns:List Int}
  (KX:K.In s₁.heap) (hns:s₁.heap.Ns mainGlobals mg) (hb:s₁.heap.Ns builtinsNs mb) (hbb:∀ x:Str,x ≠ "__name__"->mb x=bootBuiltins x) (hlim:s₁.heap.NoLimit) (hg:s₁.gens=#[])
  (ha:s₁.heap.get? a=g6 { cls:=.type "list",data:=.seq vs.toArray }) (hi:IntsAre vs ns) (hl:ns.length<=sizeLine) (hr:Room k callerA)
  (F:∀ base:Heap,K.In base->base.Ns mainGlobals mg->FnOk P w K mg base CX k fa fd [x] sp) (hbind:∀ (s:hV) (u:g9),lc s fd ⟨[u],[]⟩ [(x,u)])
  (hsp:∀ H:Hp,qib H->SqL K H a (ns.map V.int)->sp [.ref a] H (λv _=>v=.bl hZ) λ_ _ _=>False)
  (hCX:∀ H e s',CX [] H s₁ (λ_ _ _=>False) e s'->False) :
  codeAny (model P w) callerA (.call (.ref fa) ⟨[.ref a],[]⟩) (λr s'=>r=.ok (.ret (.bool hZ))/\OldK s₁.heap s'.heap/\s'.os=s₁.os/\i9 s'.gens) s₁:=by
 have rv:=Vt hi
 have lenV:=hi.length
 have core:∀ H:Hp,qib H->SqL K H a (ns.map V.int)->HOk P w H s₁.heap->(∀ b,H b≠g7->b=a)->(H a≠g7->K.lookup a=g7) ->
   codeAny (model P w) callerA (.call (.ref fa) ⟨[.ref a],[]⟩) (λr s'=>r=.ok (.ret (.bool hZ))/\OldK s₁.heap s'.heap/\s'.os=s₁.os/\i9 s'.gens) s₁:=by
  intro H hO hS hok hA hK
  have base_of:∀ {b:Addr} {o:Obj},s₁.heap.get? b=g6 o->H b=g7->(qbj s₁.heap H).get? b=g6 o:=λe n=>qbk e n
  have noA:∀ {b:Addr} {o:Obj} {es:Array DictEntry} {ep:Nat},s₁.heap.get? b=g6 o->o.data=.dict es ep->H b=none:=λ{b o es ep} e d=>by
   cases q:H b with
   | none=>rfl
   | some u=>
    have e':b=a:=hA b (by rw [q]; simp)
    subst e'
    rw [ha] at e; cases e
    have d':Data.seq vs.toArray _=Data.dict es ep:=d
    cases d'
  have nsK:∀ {b:Addr} {m:Str->Option g9},s₁.heap.Ns b m->(qbj s₁.heap H).Ns b m:=λ{b m} ⟨o,es,ep,e,d,r⟩=>⟨o,es,ep,base_of e (noA e d),d,r⟩
  have hKb:K.In (qbj s₁.heap H):=λb o e=>base_of (KX b o e) (by
   cases q:H b with
   | none=>rfl
   | some u=>
    have e':b=a:=hA b (by rw [q]; simp)
    subst e'
    rw [hK (by rw [q]; simp)] at e; cases e)
  have hM:Mod K mg (qbj s₁.heap H):=⟨hKb,nsK hns,⟨mb,nsK hb,hbb⟩,let ⟨mc,h1,h2⟩:=hlim; ⟨mc,nsK h1,h2⟩⟩
  have e0:Env0 P w K mg (qbj s₁.heap H) callerA [] s₁ H:=⟨rfl,hM,λb o e=>qdH e,eT (Zx _ _),trivial,λb hb=>absurd (show b∈([]:List Addr) from hb) 'h',hok,.of_eq hg⟩
  refine j0 ((F _ hKb (nsK hns)).run callerA [] s₁ H ⟨[.ref a],[]⟩ [.ref a] [.ref a] _ _ hr e0 (hbind s₁ (.ref a)) (.cons rfl .nil) (hsp H hO hS)) λr s' h=>?_
  cases r with
  | error e=>exact (hCX H e s' h).elim
  | ok fl=>
   cases fl with
   | next=>exact dD h
   | brk=>exact dD h
   | cont=>exact dD h
   | ret u=>
    obtain ⟨v,H',os,bare,un,hok',r',q⟩:=h
    have q':v=.bl true:=q
    subst q'
    obtain rfl:u=dg true:=r'
    refine ⟨rfl,OldK.of_keep λb o e=>?_,os,bare⟩
    cases q:H b with
    | none=>exact un.keep b o e q (by intro z; exact absurd (show b∈([]:List Addr) from z) 'h') 'h'
    | some u=>
     rcases hO b with z | ⟨ob,xs,z⟩
     ·rw [q] at z; cases z
     ·have z2:=un.frzs b ob _ z
      obtain ⟨e1,_⟩:=hok b _ z
      obtain ⟨e2,_⟩:=hok' b _ z2
      rw [e] at e1; cases e1
      exact e2
 cases hk:K.lookup a with
 | some o=>
  have e:=KX a o hk
  rw [ha] at e
  cases e
  refine core (λ_=>g7) (λ_=>.inl rfl) (.inr ⟨_,vs.toArray,_,hk,rfl,rfl,rfl,by rw [au,lenV]; exact hl,by simpa using rv⟩) (λb u z=>by have z':(g7:Option HO)=g6 u:=z; cases z') (λb z=>absurd rfl z) λz=>absurd rfl z
 | none=>
  refine core (λb=>if b=a then g6 (.frz { cls:=.type "list",data:=.seq vs.toArray } (.lst (ns.map V.int))) else g7) (λb=>?_) (.inl (.inr ⟨{ cls:=.type "list",data:=.seq vs.toArray },if_pos rfl⟩)) (λb u z=>?_) (λb z=>?_) λ_=>hk
  ·by_cases hb:b=a
   ·exact .inr ⟨_,_,if_pos hb⟩
   ·exact .inl (if_neg hb)
  ·by_cases hb:b=a
   ·have z':=(if_pos hb).symm.trans z
    cases z'
    subst hb
    exact ⟨ha,by rw [aA]; exact hl,vs,_,rv,ha⟩
   ·have z':=(if_neg hb).symm.trans z
    cases z'
  ·by_cases hb:b=a
   ·exact hb
   ·exact absurd (if_neg hb) z
theorem qd2 {l:fF} {n k:Nat} {q:h8} {loose:List Str} {XP:(Str->Option g9)->Heap->Prop} {YP:ib->Heap->Prop} {d:DefRec} {K:Params->Frag} {CX:ib->CXT} {sp:ib->Sp} {x:Str}
  (hn:l.most=g6 n) (hn2:n<=sizeLine) (hdf:d.params.defaults=[]) (hr:Room k callerA)
  (hY:∀ (w:ib) (h:Heap),YP w h->(K w.params).In h)
  (F:∀ (w:ib) (mg:Str->Option g9) (fa:Addr) (h:Heap),(K w.params).In h->h.Ns mainGlobals mg->mg d.name=g6 (.ref fa) ->
   ∃ fd:iP,(∀ (s:hV) (u:g9),lc s fd ⟨[u],[]⟩ [(x,u)]) /\
    ∀ base:Heap,(K w.params).In base->base.Ns mainGlobals mg->FnOk l.prog w (K w.params) mg base (CX w) k fa fd [x] (sp w))
  (hsp:∀ (w:ib) (H:Hp) (a:Addr) (ns:List Int),ns.length<=n->qib H->SqL (K w.params) H a (ns.map V.int)->sp w [.ref a] H (λv _=>v=.bl hZ) λ_ _ _=>False)
  (hCX:∀ (w:ib) (H:Hp) (s:hV) (e:g9) (s':hV),CX w [] H s (λ_ _ _=>False) e s'->False) :
  PySem.W.WalkO q loose XP YP l.row.toRowW d [] (λf vs=>f9 f vs):=by
 refine Att.attach_call hn hdf λw s₀ s₁ mg mb fa o pm cd doc a vs ns G Y ho hd hcd hmg hobj hints hlen hg=>?_
 have KX:=hY w _ Y
 obtain ⟨fd,hb,hF⟩:=F w mg fa _ KX G.T.g hmg
 exact qby KX G.T.g G.T.b G.T.builtins G.T.nolimit hg hobj hints (br hlen hn2) hr hF hb (λH hO hS=>hsp w H a ns hlen hO hS) λH e s'=>hCX w H s₁ e s'
noncomputable def uy (s:Stmt):Arguments:=match s with
 | .FunctionDef _ a _ _ _ _ _ _ _ _=>a
 | _=>{ posonlyargs:=[],args:=[],vararg:=g7,kwonlyargs:=[],kw_defaults:=[],kwarg:=g7,defaults:=[] }
noncomputable def wq (s:Stmt):List Stmt:=match s with
 | .FunctionDef _ _ b _ _ _ _ _ _ _=>b
 | _=>[]
noncomputable def qe (s:Stmt):i7:=match s with
 | .FunctionDef _ _ _ _ _ _ sc _ _ _=>sc
 | _=>{ kind:=.function,names:=[],isGenerator:=hJ,isCoroutine:=hJ }
structure Fun (K:Frag) (x qual:Str) (st:Stmt) (f:Addr) (fd:iP):Prop where
 ex:∃ (oc:g9) (od:Option Addr) (kV doc pm:g9) (an:Option Addr) (cdv ct:g9) (osl:Array (Option g9)),
  fd=cF x qual (uy st) (wq st) (qe st) .none kV doc pm an cdv ct/\K.lookup f=g6 ⟨oc,od,.func fd,osl⟩/\codeIn K cdv qual=hZ
 kp:keepIn K (.ref f)=hZ
variable {P:h8} {w:ib} {K:Frag} {x qual:Str} {st:Stmt} {f:Addr}
section
variable {mg:Str->Option g9} {base:Heap}
theorem Fun.binds {fd:iP} {ps:List Str} (F:Fun K x qual st f fd)
  (h:∀ (kV doc pm:g9) (an:Option Addr) (cdv ct:g9) (us:List g9),us.length=ps.length->bindArgs (cF x qual (uy st) (wq st) (qe st) .none kV doc pm an cdv ct) ⟨us,[]⟩=pure (ps.zip us)):Binds K fd ps []:=by
 obtain ⟨oc,od,kV,doc,pm,an,cdv,ct,osl,rfl,lk,hcd⟩:=F.ex
 exact .all (h kV doc pm an cdv ct)
theorem ZN {oc:g9} {od an:Option Addr} {osl:Array (Option g9)} {kV doc pm cdv ct:g9} (l:K.lookup f=g6 ⟨oc,od,.func (cF x qual (uy st) (wq st) (qe st) .none kV doc pm an cdv ct),osl⟩)
  (c:codeIn K cdv qual=hZ) (k:keepIn K (.ref f)=hZ):Fun K x qual st f (cF x qual (uy st) (wq st) (qe st) .none kV doc pm an cdv ct):=⟨⟨oc,od,kV,doc,pm,an,cdv,ct,osl,rfl,l,c⟩,k⟩
end
variable {X:Cx}
section
theorem pv (i:Nat) {pos:Pos} (hN:X.N[i]?=g6 x:=by rfl) (hv:Vis X.env.scope x:=by first | exact aw rfl | exact bH 'e' | exact bH (bH rfl)) (hd:'m'=false:=by decide)
  (hcd:(x == ("__classdict__":Str))=false:=by decide):PE X (.Name x pos) (qhM i):=yG hN hv hd hcd
end
def Same (H H':Hp):Prop:=∀ b o,H b=g6 o->H' b=g6 o
theorem Same.refl (H:Hp):Same H H:=λ_ _ h=>h
variable {H:Hp}
theorem Same.trans {H1 H2:Hp} (a:Same H H1) (b:Same H1 H2):Same H H2:=λc o h=>b c o (a c o h)
variable {H':Hp}
theorem Same.free (e:Same H H') {l:Addr} (h:H' l=Option.none):H l=Option.none:=by
 cases q:H l with
 | none=>rfl
 | some o=>
  rw [e l o q] at h
  cases h
variable {a:Addr}
theorem Same.seq {xs:List V} (e:Same H H') (h:SqL K H a xs):SqL K H' a xs:=by
 rcases h with (h | ⟨o,h⟩) | h
 ·exact .inl (.inl (e _ _ h))
 ·exact .inl (.inr ⟨o,e _ _ h⟩)
 ·exact .inr h
variable {o:Option V} {u:g9} {d y:V}
section
variable {κ:Type} [DecidableEq κ]
noncomputable def WN (kvs:List (κ×V)) (k:κ):Option V:=(kvs.find? λkv=>decide (kv.1=k)).map (·.2)
noncomputable def zR (kvs:List (κ×V)) (k:κ) (v:V):List (κ×V):=
 if (kvs.any λkv=>decide (kv.1=k))=hZ then kvs.map (λkv=>if kv.1=k then (kv.1,v) else kv) else kvs++[(k,v)]
theorem ga {p:κ×V} {r:List (κ×V)} {k:κ} (e:p.1=k):WN (p::r) k=g6 p.2:=by simp [WN,dn,e]
theorem xo {p:κ×V} {r:List (κ×V)} {k:κ} (e:¬p.1=k):WN (p::r) k=WN r k:=by simp [WN,dn,e]
theorem JM (k:κ):∀ kvs:List (κ×V),(kvs.any λkv=>decide (kv.1=k))=(WN kvs k).isSome
 | []=>rfl
 | p::r=>by
  rw [cG]
  by_cases e:p.1=k
  ·simp only [ga e,decide_eq_true e,Bool.true_or,Option.isSome_some]
  ·rw [xo e,decide_eq_false e,Bool.false_or]; exact JM k r
theorem yS (kvs:List (κ×V)) (k:κ) (v:V):(zR kvs k v).length<=kvs.length+1:=by
 unfold zR
 split
 ·rw [aA]; omega
 ·rw [aj,ap,bc]; omega
theorem RelO.isSome_eq {u:Option g9} (r:RelO o u):o.isSome=u.isSome:=by
 cases o with
 | none=>cases u with
  | none=>rfl
  | some _=>exact (show False from r).elim
 | some _=>cases u with
  | none=>exact (show False from r).elim
  | some _=>rfl
theorem RelO.getD {u:Option g9} {d':g9} (r:RelO o u) (rd:RelV d d'):RelV (o.getD d) (u.getD d'):=by
 cases o with
 | none=>cases u with
  | none=>exact rd
  | some _=>exact (show False from r).elim
 | some _=>cases u with
  | none=>exact (show False from r).elim
  | some _=>exact r
theorem KV.val {kvs:List (κ×V)} {vs:List (κ×g9)} (r:KV kvs vs) (k:κ):RelO (WN kvs k) (valueAt vs k):=by
 unfold KV at r
 induction r with
 | nil=>exact dB
 | @cons p q ps qs h t ih=>
  obtain ⟨h1,h2⟩:=h
  by_cases e:p.1=k
  ·have e':q.1=k:=h1.symm.trans e
   have b:valueAt (q::qs) k=g6 q.2:=by simp [valueAt,dn,e']
   rw [ga e,b]; exact h2
  ·have e':¬q.1=k:=λz=>e (h1.trans z)
   have b:valueAt (q::qs) k=valueAt qs k:=by simp [valueAt,dn,e']
   rw [xo e,b]; exact ih
theorem KV.any {kvs:List (κ×V)} {vs:List (κ×g9)} (r:KV kvs vs) (k:κ):(kvs.any λkv=>decide (kv.1=k))=vs.any λkv=>decide (kv.1=k):=by
 unfold KV at r
 induction r with
 | nil=>rfl
 | cons h t ih=>rw [cG,cG,ih,h.1]
theorem KV.repl {kvs:List (κ×V)} {vs:List (κ×g9)} (r:KV kvs vs) (k:κ) (ry:RelV y u) :
  KV (kvs.map λkv=>if kv.1=k then (kv.1,y) else kv) (vs.map λkv=>if kv.1=k then (kv.1,u) else kv):=by
 unfold KV at r ⊢
 induction r with
 | nil=>exact .nil
 | @cons p q ps qs h t ih=>
  rw [aD,aD]
  refine .cons ?_ ih
  obtain ⟨h1,h2⟩:=h
  by_cases e:p.1=k
  ·rw [if_pos e,if_pos (h1.symm.trans e)]; exact ⟨h1,ry⟩
  ·rw [if_neg e,if_neg (λz=>e (h1.trans z))]; exact ⟨h1,h2⟩
theorem KV.put {kvs:List (κ×V)} {vs:List (κ×g9)} (r:KV kvs vs) (k:κ) (ry:RelV y u):KV (zR kvs k y) (stored vs k u):=by
 unfold zR stored
 rw [r.any k]
 by_cases e:(vs.any λkv=>decide (kv.1=k))=hZ
 ·rw [if_pos e,if_pos e]; exact r.repl k ry
 ·rw [if_neg e,if_neg e]; exact Paired.snoc r ⟨rfl,ry⟩
theorem KV.keys {kvs:List (κ×V)} {vs:List (κ×g9)} (r:KV kvs vs):kvs.map (·.1)=vs.map (·.1):=by
 unfold KV at r
 induction r with
 | nil=>rfl
 | cons h t ih=>rw [aD,aD,ih,h.1]
theorem KV.length {kvs:List (κ×V)} {vs:List (κ×g9)} (r:KV kvs vs):kvs.length=vs.length:=fm r
end
theorem XF {k:Key} (r:RelV (kV k) u):(qT P w).is k u=true:=by
 cases k with
 | inl i=>obtain ⟨t,e⟩:=(show ∃ t,u=fO i t from r); subst e; exact WP P w i t
 | inr x=>obtain ⟨t,e⟩:=(show ∃ t,u=fy x t from r); subst e; exact WQ P w x t
theorem Vu:∀ {ks:List Key} {us:List g9},Vals (ks.map kV) us->ItemsAre (qT P w) ks us
 | [],_,r=>by rw [bU] at r; cases r; exact .nil
 | k::ks,_,r=>by
  rw [aD] at r
  cases r with
  | cons h t=>exact .cons (XF h) (Vu t)
abbrev KT (H:Hp):List (List Key×V)->List (List Key×Addr×g9)->Prop:=lb λp q=>p.1=q.1/\H q.2.1=g6 (.tup (p.1.map kV))/\RelV p.2 q.2.2
variable {xs:List (List Key×Addr×g9)} {kvs:List (List Key×V)}
theorem KT.val (r:KT H kvs xs) (k:List Key):RelO (WN kvs k) ((atKey xs k).map (·.2)):=by
 induction r with
 | nil=>exact dB
 | @cons p q ps qs h t ih=>
  obtain ⟨h1,_,h2⟩:=h
  by_cases e:p.1=k
  ·have e':q.1=k:=h1.symm.trans e
   have b:atKey (q::qs) k=g6 q.2:=by simp [atKey,dn,e']
   rw [ga e,b]; exact h2
  ·have e':¬q.1=k:=λz=>e (h1.trans z)
   have b:atKey (q::qs) k=atKey qs k:=by simp [atKey,dn,e']
   rw [xo e,b]; exact ih
theorem KT.repl (r:KT H kvs xs) (k:List Key) (ry:RelV y u) :
  KT H (kvs.map λkv=>if kv.1=k then (kv.1,y) else kv) (xs.map (putAt k u)):=by
 induction r with
 | nil=>exact .nil
 | @cons p q ps qs h t ih=>
  rw [aD,aD]
  refine .cons ?_ ih
  obtain ⟨h1,h2,h3⟩:=h
  unfold putAt
  by_cases e:p.1=k
  ·rw [if_pos e,if_pos (h1.symm.trans e)]; exact ⟨h1,h2,ry⟩
  ·rw [if_neg e,if_neg (λz=>e (h1.trans z))]; exact ⟨h1,h2,h3⟩
variable {b:Addr}
theorem KT.put (r:KT H kvs xs) (k:List Key) (hb:H b=g6 (.tup (k.map kV))) (ry:RelV y u) :
  KT H (zR kvs k y) (storedH xs k b u):=by
 have e:(kvs.any λkv=>decide (kv.1=k))=(atKey xs k).isSome:=by
  rw [JM,(r.val k).isSome_eq,e9]
 unfold zR storedH
 rw [e]
 by_cases q:(atKey xs k).isSome=hZ
 ·rw [if_pos q,if_pos q]; exact r.repl k ry
 ·rw [if_neg q,if_neg q]; exact Paired.snoc r ⟨rfl,hb,ry⟩
theorem KT.keeps (r:KT H kvs xs) (ht:∀ b ys,H b=g6 (.tup ys)->H' b=g6 (.tup ys)):KT H' kvs xs:=
 Paired.mapP r λ_ _ z=>⟨z.1,ht _ _ z.2.1,z.2.2⟩
section
variable {h:Heap}
theorem qga {u:HO} (ok:HOk P w H h) (e:Rd H a u):ObjOk P w H h a u:=e.ok ok
theorem Vv {kvs:List (Key×V)} (ok:HOk P w H h) (e:Rd H a (.dK kvs)):kvs.length<=sizeLine/\(a == sysModules)=hJ/\∃ vs,KV kvs vs/\h.DictOf (qT P w) a vs:=
 show ObjOk P w H h a (.dK kvs) from qga ok e
theorem qic {kvs:List (Key×V)} (ok:HOk P w H h) (e:H a=g6 (.dK kvs)):kvs.length<=sizeLine/\(a == sysModules)=hJ/\∃ vs,KV kvs vs/\h.DictOf (qT P w) a vs:=Vv ok (.inl e)
theorem zC {ks:List Key} (ok:HOk P w H h) (e:H a=g6 (.tup (ks.map kV))):(tupleKind (qT P w)).is h ks a:=by
 obtain ⟨_,its,r,o,h1,h2,n,h3⟩:=(show ObjOk P w H h a (.tup (ks.map kV)) from ok a _ e)
 exact ⟨o,its.toArray,n,h1,h2,h3,by simpa using Vu r⟩
theorem WU (ok:HOk P w H h) (e:Rd H a (.dT kvs)):kvs.length<=sizeLine/\(a == sysModules)=hJ /\
  ∃ xs,KT H kvs xs/\h.DictOfH (tupleKind (qT P w)) a xs:=by
 obtain ⟨z,y,xs,r,o,es,ep,h1,h2,h3,h4,h5⟩:=(show ObjOk P w H h a (.dT kvs) from qga ok e)
 refine ⟨z,y,xs,r,o,es,ep,h1,h2,h3,h4,λx hx=>?_,h5⟩
 have all:∀ {l:List (List Key×V)} {m:List (List Key×Addr×g9)},KT H l m->∀ x∈m,(tupleKind (qT P w)).is h x.1 x.2.1:=by
  intro l m q
  induction q with
  | nil=>intro x hx; exact nomatch hx
  | @cons p q ps qs hq t ih=>
   intro x hx
   rcases ae.mp hx with e | hx
   ·subst e
    exact zC ok (by rw [<-hq.1]; exact hq.2.1)
   ·exact ih x hx
 exact all r x hx
theorem qid (ok:HOk P w H h) (e:H a=g6 (.dT kvs)):kvs.length<=sizeLine/\(a == sysModules)=hJ /\
  ∃ xs,KT H kvs xs/\h.DictOfH (tupleKind (qT P w)) a xs:=WU ok (.inl e)
end
def DGet (H:Hp) (a:Addr) (y:V) (r:Option V):Prop:=
 (∃ kvs k,Rd H a (.dK kvs)/\y=kV k/\r=WN kvs k)\/∃ kvs k b,Rd H a (.dT kvs)/\y=.ref b/\H b=g6 (.tup (k.map kV))/\r=WN kvs k
def DPut (H:Hp) (a:Addr) (y v:V) (H':Hp):Prop:=
 (∃ kvs k,H a=g6 (.dK kvs)/\y=kV k/\kvs.length < sizeLine/\H'=upd H a (.dK (zR kvs k v))) \/
 ∃ kvs k b,H a=g6 (.dT kvs)/\y=.ref b/\H b=g6 (.tup (k.map kV))/\kvs.length < sizeLine/\H'=upd H a (.dT (zR kvs k v))
theorem DGet.k {kvs:List (Key×V)} {k:Key} (e:H a=g6 (.dK kvs)):DGet H a (kV k) (WN kvs k):=.inl ⟨kvs,k,.inl e,rfl,rfl⟩
theorem DGet.t {k:List Key} (e:H a=g6 (.dT kvs)) (eb:H b=g6 (.tup (k.map kV))):DGet H a (.ref b) (WN kvs k):=.inr ⟨kvs,k,b,.inl e,rfl,eb,rfl⟩
variable {v:V}
theorem DPut.k {kvs:List (Key×V)} {k:Key} (e:H a=g6 (.dK kvs)) (hl:kvs.length < sizeLine):DPut H a (kV k) v (upd H a (.dK (zR kvs k v))):=.inl ⟨kvs,k,e,rfl,hl,rfl⟩
theorem DPut.t {k:List Key} {v:V} (e:H a=g6 (.dT kvs)) (eb:H b=g6 (.tup (k.map kV))) (hl:kvs.length < sizeLine) :
  DPut H a (.ref b) v (upd H a (.dT (zR kvs k v))):=.inr ⟨kvs,k,b,e,rfl,eb,hl,rfl⟩
variable {pins:List (Addr×Obj)} {σ:St} {s:hV} {A:ii} {E Q:g9->hV->Prop} {h':Heap}
section
variable {r:g9}
theorem Inv.big (I:Inv X pins σ H s):sysModules < s.heap.objs.size:=by
 have h:mainGlobals < s.heap.objs.size:=(I.mod.glob.keeps I.bk).lt
 exact dh 'c' h
theorem ZO (hu:A.units+1 < cLine) (I:Inv X pins σ H s) (g:DGet H a y (g6 v)) (ry:RelV y u) (h:∀ w' s',Inv X pins σ H s'->RelV v w'->Q w' s') :
  wpAny 'd' A (getItem (.ref a) u) Q E s:=by
 rcases g with ⟨kvs,k,e,ey,l⟩ | ⟨kvs,k,b,e,ey,eb,l⟩
 ·subst ey
  obtain ⟨z,hd,vs,rel,dd⟩:=Vv I.hok e
  obtain ⟨w',hw,rw'⟩:=RelO.some_of (v:=v) (o:=valueAt vs k) (by rw [l]; exact rel.val k)
  exact wpAny_getItem_of (XF ry) dd.mapOf hw (h w' _ (I.tok _) rw')
 ·subst ey
  cases (show u=cf b from ry)
  obtain ⟨z,hd,xs,rel,dd⟩:=WU I.hok e
  obtain ⟨w',hw,rw'⟩:=RelO.some_of (v:=v) (o:=(atKey xs k).map (·.2)) (by rw [l]; exact rel.val k)
  obtain ⟨p,hp,hp2⟩:=aZ.mp hw
  refine wpAny_getItem_heap (iO hu) (zC I.hok eb) dd hp ?_
  rw [hp2]
  exact h w' _ (I.tok _) rw'
theorem qjD (hu:A.units+1 < cLine) (I:Inv X pins σ H s) (g:DGet H a y o) (ry:RelV y u) (h:∀ s',Inv X pins σ H s'->Q (.bool o.isSome) s') :
  wpAny 'd' A (compareOp .In u (.ref a)) Q E s:=by
 rcases g with ⟨kvs,k,e,ey,l⟩ | ⟨kvs,k,b,e,ey,eb,l⟩
 ·subst ey
  obtain ⟨z,hd,vs,rel,dd⟩:=Vv I.hok e
  refine wpAny_in_of (XF ry) hd dd.mapOf ?_
  rw [<-(rel.val k).isSome_eq,<-l]
  exact h _ (I.tok _)
 ·subst ey
  cases (show u=cf b from ry)
  obtain ⟨z,hd,xs,rel,dd⟩:=WU I.hok e
  refine wpAny_in_heap (iO hu) (zC I.hok eb) hd dd ?_
  have q:=(rel.val k).isSome_eq
  rw [e9] at q
  rw [<-q,<-l]
  exact h _ (I.tok _)
theorem qd3 (hu:A.units+1 < cLine) (I:Inv X pins σ H s) (g:DGet H a y o) (ry:RelV y u) (h:∀ s',Inv X pins σ H s'->Q (.bool (!o.isSome)) s') :
  wpAny 'd' A (compareOp .NotIn u (.ref a)) Q E s:=by
 rcases g with ⟨kvs,k,e,ey,l⟩ | ⟨kvs,k,b,e,ey,eb,l⟩
 ·subst ey
  obtain ⟨z,hd,vs,rel,dd⟩:=Vv I.hok e
  refine wpAny_notIn_of (XF ry) hd dd.mapOf ?_
  rw [<-(rel.val k).isSome_eq,<-l]
  exact h _ (I.tok _)
 ·subst ey
  cases (show u=cf b from ry)
  obtain ⟨z,hd,xs,rel,dd⟩:=WU I.hok e
  refine wpAny_notIn_heap (iO hu) (zC I.hok eb) hd dd ?_
  have q:=(rel.val k).isSome_eq
  rw [e9] at q
  rw [<-q,<-l]
  exact h _ (I.tok _)
theorem ZP {t':Nat} {ob:HO} (I:Inv X pins σ H s) (mu:Mut (H a)) (hs:bT a s.heap h') (he:∃ q,h'.get? a=g6 q) (new:ObjOk X.prog X.w (upd H a ob) h' a ob) :
  Inv X pins σ (upd H a ob) { s with heap:=h',toks:=t' }:=
 I.write (x:=a) (e:=a) mu (.inl rfl) (λb q hb z=>(hs.2 b hb).trans z) he new
theorem ZQ {H':Hp} {kvs:List (Key×V)} {vs:List (Key×g9)} (z:kvs.length<=sizeLine) (hd:(a == sysModules)=hJ) (rel:KV kvs vs) (dd:h'.DictOf (qT P w) a vs) :
  ObjOk P w H' h' a (.dK kvs):=⟨z,hd,vs,rel,dd⟩
theorem ZR {Q:Unit->hV->Prop} (hu:A.units+1 < cLine) (I:Inv X pins σ H s) (g:DPut H a y v H') (ry:RelV y u) (rv:RelV v r) (h:∀ s',Inv X pins σ H' s'->Q () s') :
  wpAny 'd' A (setItem (.ref a) u r) Q E s:=by
 rcases g with ⟨kvs,k,e,ey,l,eH⟩ | ⟨kvs,k,b,e,ey,eb,l,eH⟩
 ·subst ey eH
  obtain ⟨z,hd,vs,rel,dd⟩:=qic I.hok e
  have hz:vs.length<=sizeLine:=by rw [<-rel.length]; exact z
  have hl:(zR kvs k v).length<=sizeLine:=by have:=yS kvs k v; omega
  refine wpAny_setItem_pairs (hsz:=hz) (XF ry) dd λh' dd' hs=>h _ ?_
  have he:∃ q,h'.get? a=g6 q:=let ⟨q,_,_,hq,_⟩:=dd'; ⟨q,hq⟩
  exact ZP I (by rw [e]; exact dB) hs he (ZQ hl hd (rel.put k rv) dd')
 ·subst ey eH
  cases (show u=cf b from ry)
  obtain ⟨z,hd,xs,rel,dd⟩:=qid I.hok e
  have hz:xs.length<=sizeLine:=by rw [<-fm rel]; exact z
  have hl:(zR kvs k v).length<=sizeLine:=by have:=yS kvs k v; omega
  refine wpAny_setItem_heap (hsz:=hz) (iO hu) (zC I.hok eb) dd λh' dd' hs=>h _ ?_
  obtain ⟨q,es,ep,hq,h2,h3,h4,_,h5⟩:=dd'
  refine ZP I (by rw [e]; exact dB) hs ⟨q,hq⟩ ⟨hl,hd,_,(rel.put k eb rv).keeps λc ys ec=>?_,q,es,ep,hq,h2,h3,h4,h5⟩
  rw [qC (qhL ec e (λz=>nomatch z))]
  exact ec
end
section
variable {kvs:List (Key×V)} {k:Key}
theorem qie (I:Inv X pins σ H s) (e:Rd H a (.dK kvs)) (h:∀ t s',Inv X pins σ H s'->Q (.int kvs.length t) s'):wpAny 'd' A (call (.builtin "len") [.ref a]) Q E s:=by
 obtain ⟨z,hd,vs,rel,dd⟩:=Vv I.hok e
 refine call_len_dict hd dd (by rw [<-rel.length]; rw [ij] at z; omega) ?_
 rw [<-rel.length]
 exact h _ _ (I.tok _)
end
theorem WV (I:Inv X pins σ H s) (g:DGet H a y o):s.TypeIs (.ref a) "dict":=by
 rcases g with ⟨kvs,k,e,_,_⟩ | ⟨kvs,k,b,e,_,_,_⟩
 ·obtain ⟨_,_,vs,_,dd⟩:=Vv I.hok e
  exact dd.typeIs
 ·obtain ⟨_,_,xs,_,dd⟩:=WU I.hok e
  exact dd.typeIs
def qif (td ty tv:TE):TS:=λD σ H=>tv σ H λv H1=>td σ H1 λx H2=>ty σ H2 λy H3=>∃ a H4,x=.ref a/\DPut H3 a y v H4/\D.nx σ H4
variable {pos:Pos}
section
variable {o i e value:Expr} {pos' tpos:Pos} {td ty tv:TE}
theorem qd4 (hu:X.A.units+1 < cLine) (ho:PE X o td) (hi:PE X i ty) (hv:PE X value tv) (hs:swapsWith value (g6 (.Subscript o i pos')) pos.line X.env=pure hJ) :
  PS X (.Assign [.Subscript o i pos'] value pos) (qif td ty tv):=by
 refine ⟨?_⟩
 intro pins s σ H D I h
 refine wpAny_Assign_Subscript (thn (hv pins s σ H _ I h) λr s1 ⟨v,H1,I1,rv,q1⟩=>thn (ho pins s1 σ H1 _ I1 q1) λu s2 ⟨x,H2,I2,rx,q2⟩=>thn (hi pins s2 σ H2 _ I2 q2) λiv s3 ⟨y,H3,I3,ry,a,H4,ex,g,q3⟩=>?_) hs
 subst ex
 obtain rfl:u=cf a:=rx
 exact ZR hu I3 g ry rv λs4 I4=>⟨σ,H4,I4,q3⟩
end
theorem qbz (h:Heap) (hb:sysModules < h.objs.size):ObjOk P w H (h.push { cls:=.type "dict",data:=.dict #[] }) h.objs.size (.dK []):=
 ⟨bp _,beq_eq_false_iff_ne.mpr (bf (aB hb)),[],.nil,fG h⟩
def qgb:TE:=λ_ H Q=>∀ p,H p=g7->Q (.ref p) (upd H p (.dK []))
section
theorem qbA:PE X (.Dict [] [] pos) qgb:=⟨λpins s σ H Q I h=>
 wpAny_Dict_empty ⟨.ref s.heap.objs.size,_,I.laid (a:=s.heap.objs.size) (o:=.dK []) (t':=s.toks) (λ_ _ q=>ac _ q) (ax _) (qbz s.heap I.big),rfl,h _ (I.hok.fresh (ax _))⟩⟩
end
structure M1 (X:Cx) (o:Expr) (m:Str) (apos:Pos) (e:Expr) (cpos:Pos):Prop where
 base:attributeBase o m X.env (eval o X.env)=eval o X.env
 few:((backTo cpos (starEach [e] X.env)).all (λx=>!x.1)&&(backToKw cpos (keywordEach [] X.env)).all (λx=>x.1.isSome)
  && decide (([e]:List Expr).length+([]:List iI).length+(if ([]:List iI).isEmpty then 0 else 1) < 30))=hZ
 line:(apos.endLine == cpos.line)=hZ
 trees:backTo cpos (starEach [e] X.env)=[(hJ,eval e X.env)]
structure M2 (X:Cx) (o:Expr) (m:Str) (apos:Pos) (e f:Expr) (cpos:Pos):Prop where
 base:attributeBase o m X.env (eval o X.env)=eval o X.env
 few:((backTo cpos (starEach [e,f] X.env)).all (λx=>!x.1)&&(backToKw cpos (keywordEach [] X.env)).all (λx=>x.1.isSome)
  && decide (([e,f]:List Expr).length+([]:List iI).length+(if ([]:List iI).isEmpty then 0 else 1) < 30))=hZ
 line:(apos.endLine == cpos.line)=hZ
 trees:backTo cpos (starEach [e,f] X.env)=[(hJ,eval e X.env),(hJ,eval f X.env)]
def IsD (H:Hp) (a:Addr):Prop:=(∃ kvs,Rd H a (.dK kvs))\/∃ kvs,Rd H a (.dT kvs)
theorem qgc (I:Inv X pins σ H s) (d:IsD H a) :
  s.TypeIs (.ref a) "dict"/\(∀ b,cf a=.ref b->∃ ob,s.heap.get? b=g6 ob/\ob.dict=g7)/\(a == sysModules)=false:=by
 rcases d with ⟨kvs,e⟩ | ⟨kvs,e⟩
 ·obtain ⟨_,hd,vs,_,dd⟩:=Vv I.hok e
  refine ⟨dd.typeIs,λb q=>?_,hd⟩
  cases q
  obtain ⟨ob,_,_,h1,h2,_⟩:=dd
  exact ⟨ob,h1,h2.2.1⟩
 ·obtain ⟨_,hd,xs,_,dd⟩:=WU I.hok e
  refine ⟨dd.typeIs,λb q=>?_,hd⟩
  cases q
  obtain ⟨ob,_,_,h1,h2,_⟩:=dd
  exact ⟨ob,h1,h2.2.1⟩
section
variable {r:g9}
theorem qgd (hu:A.units+1 < cLine) (I:Inv X pins σ H s) (g:DGet H a y o) (ry:RelV y u) (rd:RelV d r) (h:∀ w' s',Inv X pins σ H s'->RelV (o.getD d) w'->Q w' s') :
  wpAny 'd' A (call (.builtin "dict.get") [.ref a,u,r]) Q E s:=by
 rcases g with ⟨kvs,k,e,ey,l⟩ | ⟨kvs,k,b,e,ey,eb,l⟩
 ·subst ey
  obtain ⟨z,hd,vs,rel,dd⟩:=Vv I.hok e
  refine call_meetsIn eC dd.typeIs PySem.F.entry_dict_get (PySem.F.args_dict_get_3 _ _ _) (meets_dict_get_default (qT X.prog X.w) a (XF ry) hd r) ⟨_,dd.mapOf,h _ _ (I.tok _) ?_⟩
  rw [l]
  exact (rel.val k).getD rd
 ·subst ey
  cases (show u=cf b from ry)
  obtain ⟨z,hd,xs,rel,dd⟩:=WU I.hok e
  refine call_meetsIn eC dd.typeIs PySem.F.entry_dict_get (PySem.F.args_dict_get_3 _ _ _) (meetsH_dict_get_default (tupleKind (qT X.prog X.w)) a b hd r) ⟨iO hu,k,xs,zC I.hok eb,dd,h _ _ (I.tok _) ?_⟩
  rw [l]
  exact (rel.val k).getD rd
end
def qge (td ty tx:TE):TE:=λσ H Q=>td σ H λx H1=>∃ a,x=.ref a/\IsD H1 a/\ty σ H1 λy H2=>tx σ H2 λz H3=>∃ o,DGet H3 a y o/\Q (o.getD z) H3
section
variable {o e f:Expr} {apos cpos:Pos} {td ty tx:TE}
theorem qbB (hu:X.A.units+1 < cLine) (ho:PE X o td) (he:PE X e ty) (hf:PE X f tx) (m:M2 X o "get" apos e f cpos):PE X (.Call (.Attribute o "get" apos) [e,f] [] cpos) (qge td ty tx):=by
 refine ⟨?_⟩
 intro pins s σ H Q I h
 refine wpAny_Call_method m.base m.few m.line PySem.F.plainAttrs_dict eC PySem.F.type_dict_get (thn (ho pins s σ H _ I h) λu s1 ⟨x,H1,I1,rx,a,ex,d,q1⟩=>?_)
 subst ex
 obtain rfl:u=cf a:=rx
 obtain ⟨t1,t2,_⟩:=qgc I1 d
 refine ⟨t1,t2,?_⟩
 rw [m.trees]
 refine Calls.callWith_builtin rfl (eL (dP (thn (he pins s1 σ H1 _ I1 q1) λiv s2 ⟨y,H2,I2,ry,q2⟩=>
  dP (thn (hf pins s2 σ H2 _ I2 q2) λfv s3 ⟨z,H3,I3,rz,ov,g,q3⟩=>e7 ?_))))
 exact qgd hu I3 g ry rz λw' s4 I4 rw'=>⟨_,H3,I4,rw',q3⟩
end
section
theorem ZS:yC X (.builtin "len") (λxs H Q=>∃ a kvs,xs=[V.ref a]/\H a=g6 (.dK kvs)/\Q (.int kvs.length) H):=by
 intro pins s σ H xs us Q I r h
 obtain ⟨a,kvs,rfl,ha,q⟩:=h
 obtain ⟨u,rfl,ru⟩:=uw r
 cases ru
 exact qie I (.inl ha) λt s' I'=>⟨.int kvs.length,H,I',⟨t,rfl⟩,q⟩
end
end L2
namespace L2.D2
open PySem PySem.Spec PyProof.Rows
variable {b:List Nat}
theorem zD {a:List Nat} (h:(a.all λi=>decide (i∈b))=hZ):∀ i∈a,i∈b:=λi hi=>of_decide_eq_true (aS.mp h i hi)
theorem Yl {i:Nat} (h:decide (i∈b)=hJ):i∉b:=of_decide_eq_false h
noncomputable def WW:Expr->Bool
 | .Starred ..=>hJ
 | _=>hZ
variable {e:Expr} {env:Env}
theorem kS {es:List Expr} (h:WW e=hZ):starEach (e::es) env=(hJ,eval e env)::starEach es env:=by cases e <;> first | rfl | cases h
theorem ja (h:WW e=hZ):starEach [e] env=[(hJ,eval e env)]:=kS h
theorem qbC {a b:Expr} (h:WW a=hZ) (k:WW b=hZ):starEach [a,b] env=[(hJ,eval a env),(hJ,eval b env)]:=by rw [kS h,ja k]
variable {pos:Pos}
theorem JO:∀ {es:List Expr},es.all WW=hZ->(backTo pos (starEach es env)).any (·.1)=hJ
 | [],_=>rfl
 | e::es,h=>by
  rw [fP,aT] at h
  rw [kS h.1]
  exact JO h.2
theorem xp (h:WW e=hZ):((backTo pos (starEach [e] env)).all (λx=>!x.1)&&(backToKw pos (keywordEach [] env)).all (λx=>x.1.isSome)
   && decide ([e].length+([]:List iI).length+(if ([]:List iI).isEmpty then 0 else 1) < 30))=true:=by rw [ja h]; rfl
inductive D where
 | non | bl (b:Bool) | int (i:Int) | str (x:Str)
 | tup (xs:List D) | lst (xs:List D) | dct (kvs:List (Key×D)) | raw (v:V)
 | xcp (C:Addr) | ins (C:Addr) (fs:List (Str×D)) | at_ (a:Addr) (xs:List D)
 deriving Inhabited
abbrev Sl:=List (Option D)
inductive Out (α:Type) where
 | ok (a:α) | exc (c:Str) (o:Sl) | bad
variable {α β:Type}
noncomputable def Out.bind (o:Out α) (k:α->Out β):Out β:=match o with
 | .ok a=>k a
 | .exc c o=>.exc c o
 | .bad=>.bad
@[simp] theorem Out.ok_bind (a:α) (k:α->Out β):(Out.ok a).bind k=k a:=rfl
@[simp] theorem Out.exc_bind (c:Str) (o:Sl) (k:α->Out β):(Out.exc c o:Out α).bind k=.exc c o:=rfl
@[simp] theorem Out.bad_bind (k:α->Out β):(Out.bad:Out α).bind k=.bad:=rfl
noncomputable def Ym (a C:Addr):HO:=.ext λh=>∃ oe vs,h.get? a=g6 oe/\oe.cls=.ref C/\oe.data=.fields vs
mutual
/-- the value v is the data d,all its objects in F -/
inductive Is (K:Frag) (F:Hp):V->D->Prop
 | non:Is K F .non .non
 | bl (b:Bool):Is K F (.bl b) (.bl b)
 | int (i:Int):Is K F (.int i) (.int i)
 | str {x:Str} (h:x.length<=sizeLine):Is K F (.str x) (.str x)
 | tup {a:Addr} {xs:List V} {ds:List D} (h:SqT K F a xs) (t:IsL K F xs ds):Is K F (.ref a) (.tup ds)
 | lst {a:Addr} {xs:List V} {ds:List D} (h:SqL K F a xs) (t:IsL K F xs ds):Is K F (.ref a) (.lst ds)
 | dct {a:Addr} {kv:List (Key×V)} {kvs:List (Key×D)} (h:F a=g6 (.dK kv)) (t:IsK K F kv kvs):Is K F (.ref a) (.dct kvs)
 | raw (v:V):Is K F v (.raw v)
 | xcp {a C:Addr} (h:F a=g6 (Ym a C)):Is K F (.ref a) (.xcp C)
 | ins {a C dx:Addr} {fv:List (Str×V)} {fs:List (Str×D)} (h:F a=g6 (.ins C dx fv)) (t:IsF K F fv fs):Is K F (.ref a) (.ins C fs)
 | at_ {a:Addr} {xs:List V} {ds:List D} (h:SqL K F a xs) (t:IsL K F xs ds):Is K F (.ref a) (.at_ a ds)
inductive IsL (K:Frag) (F:Hp):List V->List D->Prop
 | nil:IsL K F [] []
 | cons {v:V} {d:D} {vs:List V} {ds:List D} (h:Is K F v d) (t:IsL K F vs ds):IsL K F (v::vs) (d::ds)
inductive IsK (K:Frag) (F:Hp):List (Key×V)->List (Key×D)->Prop
 | nil:IsK K F [] []
 | cons {k:Key} {v:V} {d:D} {vs:List (Key×V)} {ds:List (Key×D)} (h:Is K F v d) (t:IsK K F vs ds):IsK K F ((k,v)::vs) ((k,d)::ds)
inductive IsF (K:Frag) (F:Hp):List (Str×V)->List (Str×D)->Prop
 | nil:IsF K F [] []
 | cons {k:Str} {v:V} {d:D} {vs:List (Str×V)} {ds:List (Str×D)} (h:Is K F v d) (t:IsF K F vs ds):IsF K F ((k,v)::vs) ((k,d)::ds)
end
theorem qN {K:Frag} {H H':Hp} {a:Addr} {xs:List V} (e:Same H H') (h:SqT K H a xs):SqT K H' a xs:=by
 rcases h with (h | ⟨o,h⟩) | h
 ·exact .inl (.inl (e _ _ h))
 ·exact .inl (.inr ⟨o,e _ _ h⟩)
 ·exact .inr h
mutual
theorem Is.mono {K:Frag} {F F':Hp} (e:Same F F'):∀ {v:V} {d:D},Is K F v d->Is K F' v d
 | _,_,.non=>.non
 | _,_,.bl b=>.bl b
 | _,_,.int i=>.int i
 | _,_,.str h=>.str h
 | _,_,.tup h t=>.tup (qN e h) (IsL.mono e t)
 | _,_,.lst h t=>.lst (e.seq h) (IsL.mono e t)
 | _,_,.dct h t=>.dct (e _ _ h) (IsK.mono e t)
 | _,_,.raw v=>.raw v
 | _,_,.xcp h=>.xcp (e _ _ h)
 | _,_,.ins h t=>.ins (e _ _ h) (IsF.mono e t)
 | _,_,.at_ h t=>.at_ (e.seq h) (IsL.mono e t)
theorem IsL.mono {K:Frag} {F F':Hp} (e:Same F F'):∀ {vs:List V} {ds:List D},IsL K F vs ds->IsL K F' vs ds
 | _,_,.nil=>.nil
 | _,_,.cons h t=>.cons (Is.mono e h) (IsL.mono e t)
theorem IsK.mono {K:Frag} {F F':Hp} (e:Same F F'):∀ {vs:List (Key×V)} {ds:List (Key×D)},IsK K F vs ds->IsK K F' vs ds
 | _,_,.nil=>.nil
 | _,_,.cons h t=>.cons (Is.mono e h) (IsK.mono e t)
theorem IsF.mono {K:Frag} {F F':Hp} (e:Same F F'):∀ {vs:List (Str×V)} {ds:List (Str×D)},IsF K F vs ds->IsF K F' vs ds
 | _,_,.nil=>.nil
 | _,_,.cons h t=>.cons (Is.mono e h) (IsF.mono e t)
end
theorem IsL.length {K:Frag} {F:Hp}:∀ {vs:List V} {ds:List D},IsL K F vs ds->vs.length=ds.length
 | _,_,.nil=>rfl
 | _,_,.cons _ t=>congrArg (·+1) (IsL.length t)
theorem IsL.get {K:Frag} {F:Hp}:∀ {vs:List V} {ds:List D} {i:Nat} {v:V},IsL K F vs ds->vs[i]?=g6 v->∃ d,ds[i]?=g6 d/\Is K F v d
 | _,_,_,_,.nil,e=>by simp at e
 | _,_,0,_,.cons h _,e=>by simp at e; subst e; exact ⟨_,rfl,h⟩
 | _,_,i+1,v,.cons _ t,e=>by
  obtain ⟨d,h1,h2⟩:=IsL.get (i:=i) (v:=v) t (by simpa using e)
  exact ⟨d,by simpa using h1,h2⟩
theorem IsL.getD {K:Frag} {F:Hp}:∀ {vs:List V} {ds:List D} {i:Nat} {d:D},IsL K F vs ds->ds[i]?=g6 d->∃ v,vs[i]?=g6 v/\Is K F v d
 | _,_,_,_,.nil,e=>by simp at e
 | _,_,0,_,.cons h _,e=>by simp at e; subst e; exact ⟨_,rfl,h⟩
 | _,_,i+1,v,.cons _ t,e=>by
  obtain ⟨d,h1,h2⟩:=IsL.getD (i:=i) (d:=v) t (by simpa using e)
  exact ⟨d,by simpa using h1,h2⟩
theorem IsL.append {K:Frag} {F:Hp}:∀ {vs ws:List V} {ds es:List D},IsL K F vs ds->IsL K F ws es->IsL K F (vs++ws) (ds++es)
 | _,_,_,_,.nil,s=>s
 | _,_,_,_,.cons h t,s=>.cons h (IsL.append t s)
theorem IsL.take {K:Frag} {F:Hp}:∀ {vs:List V} {ds:List D} (n:Nat),IsL K F vs ds->IsL K F (vs.take n) (ds.take n)
 | _,_,0,_=>.nil
 | _,_,_+1,.nil=>.nil
 | _,_,n+1,.cons h t=>.cons h (IsL.take n t)
theorem IsL.set {K:Frag} {F:Hp} {v:V} {d:D} (h:Is K F v d):∀ {vs:List V} {ds:List D} (i:Nat),IsL K F vs ds->IsL K F (vs.set i v) (ds.set i d)
 | _,_,_,.nil=>.nil
 | _,_,0,.cons _ t=>.cons h t
 | _,_,i+1,.cons q t=>.cons q (IsL.set h i t)
def OwnIs (K:Frag) (F H:Hp) (a:Addr):D->Prop
 | .lst ds=>∃ xs,H a=g6 (.lst xs)/\IsL K F xs ds
 | .dct kvs=>∃ kv,H a=g6 (.dK kv)/\IsK K F kv kvs
 | .ins C fs=>∃ dx fv,H a=g6 (.ins C dx fv)/\IsF K F fv fs
 | .at_ b ds=>b=a/\∃ xs,H a=g6 (.lst xs)/\IsL K F xs ds
 | _=>False
def TopIs (K:Frag) (F H:Hp) (v:V) (d:D):Prop:=Is K F v d\/∃ a,v=.ref a/\OwnIs K F H a d
inductive Mo where
 | sh | fr | any
def MoIs (K:Frag) (m:Mo) (H0 F H:Hp) (v:V) (d:D):Prop:=match m with
 | .sh=>Is K F v d
 | .fr=>∃ a,v=.ref a/\H0 a=g7/\F a=g7/\OwnIs K F H a d
 | .any=>TopIs K F H v d
theorem MoIs.top {K:Frag} {m:Mo} {H0 F H:Hp} {v:V} {d:D} (h:MoIs K m H0 F H v d):TopIs K F H v d:=by
 cases m with
 | sh=>exact .inl h
 | fr=>obtain ⟨a,e,_,_,o⟩:=h; exact .inr ⟨a,e,o⟩
 | any=>exact h
structure Chg (A:Addr->Prop) (F H F' H':Hp):Prop where
 keep:∀ b o,H b=g6 o->¬A b->H' b=g6 o
 stay:∀ b,H b≠g7->H' b≠g7
 grow:Same F F'
 new:∀ b,F' b≠g7->F b≠g7\/H b=g7\/A b
theorem Chg.refl {A:Addr->Prop} {F H:Hp}:Chg A F H F H:=⟨λ_ _ e _=>e,λ_ h=>h,Same.refl _,λ_ h=>.inl h⟩
theorem Chg.trans {A A1:Addr->Prop} {F H F1 H1 F2 H2:Hp} (a:Chg A F H F1 H1) (b:Chg A1 F1 H1 F2 H2) (hA:∀ x,A1 x->A x\/H x=g7):Chg A F H F2 H2 where
 keep:=λx o e n=>b.keep x o (a.keep x o e n) λz=>(hA x z).elim n λq=>by rw [e] at q; cases q
 stay:=λx h=>b.stay x (a.stay x h)
 grow:=a.grow.trans b.grow
 new:=λx h=>by
  rcases b.new x h with q | q | q
  ·exact a.new x q
  ·refine .inr (.inl ?_)
   cases e:H x with
   | none=>rfl
   | some o=>exact absurd q (a.stay x (by rw [e]; simp))
  ·rcases hA x q with z | z
   ·exact .inr (.inr z)
   ·exact .inr (.inl z)
theorem Chg.trans' {A:Addr->Prop} {F H F1 H1 F2 H2:Hp} (a:Chg A F H F1 H1) (b:Chg A F1 H1 F2 H2):Chg A F H F2 H2:=a.trans b λ_ z=>.inl z
theorem Chg.mono {A A':Addr->Prop} {F H F1 H1:Hp} (a:Chg A F H F1 H1) (h:∀ x,A x->A' x):Chg A' F H F1 H1:=
 ⟨λb o e n=>a.keep b o e λz=>n (h b z),a.stay,a.grow,λb z=>(a.new b z).imp id (Or.imp id (h b))⟩
abbrev No:Addr->Prop:=λ_=>False
theorem Chg.ofNo {A:Addr->Prop} {F H F1 H1:Hp} (a:Chg No F H F1 H1):Chg A F H F1 H1:=a.mono λ_ z=>z.elim
structure Rep (K:Frag) (own:List Nat) (F H:Hp) (σ:St) (ρ:Sl):Prop where
 sub:Same F H
 len:σ.length=ρ.length
 val:∀ i d,i∉own->ρ[i]?=g6 (g6 d)->∃ v,σ[i]?=g6 (g6 v)/\Is K F v d
 ow:∀ i d,i∈own->ρ[i]?=g6 (g6 d)->∃ a,σ[i]?=g6 (g6 (.ref a))/\F a=g7/\OwnIs K F H a d
 opn:∀ i,i∈own->∃ d,ρ[i]?=g6 (g6 d)
 dis:∀ i j a,i∈own->j∈own->σ[i]?=g6 (g6 (V.ref a))->σ[j]?=g6 (g6 (V.ref a))->i=j
def OA (own:List Nat) (σ:St):Addr->Prop:=λb=>∃ i∈own,σ[i]?=g6 (g6 (V.ref b))
theorem OwnIs.there {K:Frag} {F H:Hp} {a:Addr} {d:D} (h:OwnIs K F H a d):H a≠none:=by
 cases d with
 | lst ds=>obtain ⟨xs,e,_⟩:=h; rw [e]; simp
 | dct ds=>obtain ⟨xs,e,_⟩:=h; rw [e]; simp
 | ins C fs=>obtain ⟨dx,xs,e,_⟩:=h; rw [e]; simp
 | at_ b ds=>obtain ⟨_,xs,e,_⟩:=h; rw [e]; simp
 | _=>exact h.elim
theorem OwnIs.grow {K:Frag} {F H F' H':Hp} {a:Addr} {d:D} (h:OwnIs K F H a d) (g:Same F F') (k:∀ o,H a=g6 o->H' a=g6 o):OwnIs K F' H' a d:=by
 cases d with
 | lst ds=>obtain ⟨xs,e,t⟩:=h; exact ⟨xs,k _ e,t.mono g⟩
 | dct ds=>obtain ⟨xs,e,t⟩:=h; exact ⟨xs,k _ e,t.mono g⟩
 | ins C fs=>obtain ⟨dx,xs,e,t⟩:=h; exact ⟨dx,xs,k _ e,t.mono g⟩
 | at_ b ds=>obtain ⟨eb,xs,e,t⟩:=h; exact ⟨eb,xs,k _ e,t.mono g⟩
 | _=>exact h.elim
theorem Rep.OA_there {K:Frag} {own:List Nat} {F H:Hp} {σ:St} {ρ:Sl} (r:Rep K own F H σ ρ) {b:Addr} (h:OA own σ b):H b≠g7/\F b=none:=by
 obtain ⟨i,hi,e⟩:=h
 obtain ⟨d,hd⟩:=r.opn i hi
 obtain ⟨a,e1,e2,o⟩:=r.ow i d hi hd
 rw [e] at e1
 cases e1
 exact ⟨o.there,e2⟩
theorem Rep.grow {K:Frag} {own:List Nat} {F H F' H':Hp} {σ:St} {ρ:Sl} (r:Rep K own F H σ ρ) (c:Chg No F H F' H') (s:Same F' H'):Rep K own F' H' σ ρ where
 sub:=s
 len:=r.len
 val:=λi d hi e=>let ⟨v,h1,h2⟩:=r.val i d hi e; ⟨v,h1,h2.mono c.grow⟩
 ow:=λi d hi e=>by
  obtain ⟨a,h1,h2,h3⟩:=r.ow i d hi e
  refine ⟨a,h1,?_,h3.grow c.grow λo q=>c.keep a o q λz=>z⟩
  cases q:F' a with
  | none=>rfl
  | some o=>
   rcases c.new a (by rw [q]; simp) with z | z | z
   ·exact absurd h2 z
   ·exact absurd z h3.there
   ·exact z.elim
 opn:=r.opn
 dis:=r.dis
theorem MoIs.grow {K:Frag} {A:Addr->Prop} {m:Mo} {H0 F H F' H':Hp} {v:V} {d:D} (h:MoIs K m H0 F H v d) (hm:m≠.any) (c:Chg A F H F' H') (hA:∀ x,A x->H0 x≠g7):MoIs K m H0 F' H' v d:=by
 cases m with
 | sh=>exact Is.mono c.grow h
 | fr=>
  obtain ⟨a,e,h0,hF,o⟩:=h
  have nA:¬A a:=λz=>hA a z h0
  refine ⟨a,e,h0,?_,o.grow c.grow λo q=>c.keep a o q nA⟩
  cases q:F' a with
  | none=>rfl
  | some u=>
   rcases c.new a (by rw [q]; simp) with z | z | z
   ·exact absurd hF z
   ·exact absurd z o.there
   ·exact absurd z nA
 | any=>exact absurd rfl hm
def Zv (K:Frag) (io:List Nat) (F H:Hp) (σ:St) (ρ:Sl):Prop:=∀ i∈io,∃ d a,ρ[i]?=g6 (g6 d)/\σ[i]?=g6 (g6 (V.ref a))/\F a=g7/\OwnIs K F H a d
theorem Rep.ioIs {K:Frag} {own io:List Nat} {F H:Hp} {σ:St} {ρ:Sl} (r:Rep K own F H σ ρ) (h:∀ i∈io,i∈own):Zv K io F H σ ρ:=λi hi=>by
 obtain ⟨d,hd⟩:=r.opn i (h i hi)
 obtain ⟨a,h1,h2,h3⟩:=r.ow i d (h i hi) hd
 exact ⟨d,a,hd,h1,h2,h3⟩
structure Ct where
 K:Frag
 cv:Str->g9
 E:XK
 io:List Nat
 mr:Mo
 ol:List Nat
 ox:List Nat
 oxs:∀ i∈ox,i∈io
def Po (C:Ct) (own:List Nat) (m:Mo) (σ:St) (F H:Hp) (r:Out (D×Sl)) (Q:VK):Prop:=match r with
 | .ok (d,ρ')=>∀ v F' H',Rep C.K own F' H' σ ρ'->Chg (OA own σ) F H F' H'->MoIs C.K m H F' H' v d->Q v H'
 | .exc c ρ'=>∀ F' H',Same F' H'->Zv C.K C.ox F' H' σ ρ'->Chg (OA own σ) F H F' H'->C.E (C.cv c) g7 H'
 | .bad=>False
def tE (C:Ct) (own:List Nat) (m:Mo) (f:Sl->Out (D×Sl)):TE:=λσ H Q=>∃ F ρ,Rep C.K own F H σ ρ/\Po C own m σ F H (f ρ) Q
theorem MoIs.back {K:Frag} {m:Mo} {A:Addr->Prop} {H0 F H F1 H1:Hp} {Fa Ha:Hp} {v:V} {d:D} (c:Chg A Fa H0 F1 H1) (h:MoIs K m H1 F H v d):MoIs K m H0 F H v d:=by
 cases m with
 | sh=>exact h
 | fr=>
  obtain ⟨a,e,h0,r⟩:=h
  refine ⟨a,e,?_,r⟩
  cases q:H0 a with
  | none=>rfl
  | some o=>exact absurd h0 (c.stay a (by rw [q]; simp))
 | any=>exact h
theorem Po.shift {C:Ct} {own:List Nat} {m:Mo} {σ:St} {F H F1 H1:Hp} {r:Out (D×Sl)} {Q:VK} (h:Po C own m σ F H r Q) (c:Chg (OA own σ) F H F1 H1):Po C own m σ F1 H1 r Q:=by
 cases r with
 | ok p=>exact λv F' H' rp c' mo=>h v F' H' rp (c.trans' c') (MoIs.back (Ha:=H1) c mo)
 | exc x=>exact λF' H' s io c'=>h F' H' s io (c.trans' c')
 | bad=>exact h.elim
theorem Po.bind {C:Ct} {own:List Nat} {m ma:Mo} {σ:St} {F H:Hp} {o:Out (D×Sl)} {k:D×Sl->Out (D×Sl)} {Q R:VK} (hp:Po C own m σ F H (o.bind k) Q)
  (h:∀ v F1 H1 d ρ1,Rep C.K own F1 H1 σ ρ1->Chg (OA own σ) F H F1 H1->MoIs C.K ma H F1 H1 v d->Po C own m σ F1 H1 (k (d,ρ1)) Q->R v H1):Po C own ma σ F H o R:=by
 cases o with
 | ok p=>
  obtain ⟨d,ρ1⟩:=p
  exact λv F1 H1 rp c mo=>h v F1 H1 d ρ1 rp c mo (Po.shift (show Po C own m σ F H (k (d,ρ1)) Q from hp) c)
 | exc x=>exact hp
 | bad=>exact hp.elim
def PoV (C:Ct) (m:Mo) (F H:Hp) (r:Out D) (Q:VK):Prop:=match r with
 | .ok d=>∀ v F' H',Same F' H'->Chg No F H F' H'->MoIs C.K m H F' H' v d->Q v H'
 | _=>False
def OpD (X:Cx) (C:Ct) (m:Mo) (f:g9->g9->Sem g9) (g:D->D->Out D):Prop:=
 OpR X f (λx y H Q=>∃ F dx dy,Same F H/\TopIs C.K F H x dx/\TopIs C.K F H y dy/\PoV C m F H (g dx dy) Q)
def UnD (X:Cx) (C:Ct) (m:Mo) (f:g9->Sem g9) (g:D->Out D):Prop:=
 UnR X f (λx H Q=>∃ F dx,Same F H/\TopIs C.K F H x dx/\PoV C m F H (g dx) Q)
noncomputable def Out.plain {α:Type}:Out α->Out α
 | .ok a=>.ok a
 | _=>.bad
theorem PoV.of {C:Ct} {own:List Nat} {m:Mo} {σ:St} {F H:Hp} {o:Out D} {ρ:Sl} {Q:VK} (rp:Rep C.K own F H σ ρ) (h:Po C own m σ F H (o.plain.bind λd=>.ok (d,ρ)) Q):PoV C m F H o Q:=by
 cases o with
 | ok d=>exact λv F' H' s c mo=>h v F' H' (rp.grow c s) c.ofNo mo
 | exc c=>exact h.elim
 | bad=>exact h.elim
noncomputable def d2 (g:D->D->Out D) (fa fb:Sl->Out (D×Sl)):Sl->Out (D×Sl):=λρ=>(fa ρ).bind λp=>(fb p.2).bind λq=>(g p.1 q.1).plain.bind λd=>.ok (d,q.2)
noncomputable def d1 (g:D->Out D) (fa:Sl->Out (D×Sl)):Sl->Out (D×Sl):=λρ=>(fa ρ).bind λp=>(g p.1).plain.bind λd=>.ok (d,p.2)
section
variable {X:Cx} {C:Ct} {own:List Nat} {a b:Expr} {fa fb:Sl->Out (D×Sl)} {m ma mb:Mo} {pos:Pos}
theorem Vw {g:D->D->Out D} {σ:St} {H:Hp} {Q:VK} (hma:ma≠.any) (h:tE C own m (d2 g fa fb) σ H Q) :
  tE C own ma fa σ H λx H1=>tE C own mb fb σ H1 λy H2=>∃ F dx dy,Same F H2/\TopIs C.K F H2 x dx/\TopIs C.K F H2 y dy/\PoV C m F H2 (g dx dy) Q:=by
 obtain ⟨F,ρ,rp,h⟩:=h
 refine ⟨F,ρ,rp,Po.bind h λv F1 H1 d ρ1 rp1 c1 mo1 h1=>⟨F1,ρ1,rp1,Po.bind h1 λw F2 H2 e ρ2 rp2 c2 mo2 h2=>?_⟩⟩
 exact ⟨F2,d,e,rp2.sub,(mo1.grow hma c2 λx z=>(rp.OA_there z).1).top,mo2.top,PoV.of rp2 h2⟩
theorem qbD {g:D->Out D} {σ:St} {H:Hp} {Q:VK} (h:tE C own m (d1 g fa) σ H Q) :
  tE C own ma fa σ H λx H1=>∃ F dx,Same F H1/\TopIs C.K F H1 x dx/\PoV C m F H1 (g dx) Q:=by
 obtain ⟨F,ρ,rp,h⟩:=h
 refine ⟨F,ρ,rp,Po.bind h λv F1 H1 d ρ1 rp1 c1 mo1 h1=>?_⟩
 exact ⟨F1,d,rp1.sub,mo1.top,PoV.of rp1 h1⟩
theorem kn {e:Expr} {t t':TE} (h:PE X e t) (i:∀ σ H Q,t' σ H Q->t σ H Q):PE X e t':=⟨λpins s σ H Q I hw=>h pins s σ H Q I (i σ H Q hw)⟩
theorem qbE {e:Expr} {t t':TT} (h:PT X e t) (i:∀ σ H Q,t' σ H Q->t σ H Q):PT X e t':=⟨λpins s σ H Q I hw=>h pins s σ H Q I (i σ H Q hw)⟩
theorem jh {op:Operator} {g:D->D->Out D} (ho:OpD X C m (binaryOp op) g) (ha:PE X a (tE C own ma fa)) (hb:PE X b (tE C own mb fb)) (hma:ma≠.any:=by decide):PE X (.BinOp a op b pos) (tE C own m (d2 g fa fb)):=
 kn (qhY ho ha hb) λ_ _ _ h=>Vw hma h
theorem uq {op:CmpOp} {g:D->D->Out D} (ho:OpD X C m (compareOp op) g) (ha:PE X a (tE C own ma fa)) (hb:PE X b (tE C own mb fb)) (hma:ma≠.any:=by decide)
  (hk:behindInMarks op b=false:=by first | exact qc2 _ | with_unfolding_all rfl):PE X (.Compare a [op] [b] pos) (tE C own m (d2 g fa fb)):=
 kn (qdS ho ha hb hk) λ_ _ _ h=>Vw hma h
theorem qd5 {op:UnaryOp} {g:D->Out D} (ho:UnD X C m (unaryOp op) g) (ha:PE X a (tE C own ma fa)):PE X (.UnaryOp op a pos) (tE C own m (d1 g fa)):=
 kn (qhZ ho ha) λ_ _ _ h=>qbD h
end
instance:DecidableEq Mo:=λa b=>by cases a <;> cases b <;> first | exact isTrue rfl | exact isFalse (by intro h; cases h)
theorem qbF {K:Frag} {own:List Nat} {H0 F H:Hp} {σ:St} {ρ:Sl} {v:V} {d:D} (rp:Rep K own F H σ ρ) (hA:∀ b,OA own σ b->H0 b≠g7) (h:MoIs K .fr H0 F H v d) :
  ∃ F',Rep K own F' H σ ρ/\Same F F'/\Is K F' v d/\∀ b,F' b≠g7->F b≠g7\/H0 b=none:=by
 obtain ⟨a,rfl,h0,hF,o⟩:=h
 obtain ⟨u,hu⟩:∃ u,H a=g6 u:=by
  cases q:H a with
  | none=>exact absurd q o.there
  | some u=>exact ⟨u,rfl⟩
 have gr:Same F (upd F a u):=λb w e=>by rw [qC (qJ e hF)]; exact e
 have sb:Same (upd F a u) H:=λb w e=>by
  by_cases q:b=a
  ·subst q; rw [qp] at e; cases e; exact hu
  ·rw [qC q] at e; exact rp.sub b w e
 refine ⟨upd F a u,⟨sb,rp.len,λi d hi e=>?_,λi d hi e=>?_,rp.opn,rp.dis⟩,gr,?_,λb hb=>?_⟩
 ·obtain ⟨v,h1,h2⟩:=rp.val i d hi e
  exact ⟨v,h1,h2.mono gr⟩
 ·obtain ⟨c,h1,h2,h3⟩:=rp.ow i d hi e
  refine ⟨c,h1,?_,h3.grow gr λ_ q=>q⟩
  have nc:c≠a:=λq=>by subst q; exact hA c ⟨i,hi,h1⟩ h0
  rw [qC nc]; exact h2
 ·cases d with
  | lst ds=>obtain ⟨xs,e,t⟩:=o; rw [hu] at e; cases e; exact .lst (.inl (.inl qp)) (t.mono gr)
  | dct ds=>obtain ⟨xs,e,t⟩:=o; rw [hu] at e; cases e; exact .dct qp (t.mono gr)
  | ins C fs=>obtain ⟨dx,xs,e,t⟩:=o; rw [hu] at e; cases e; exact .ins qp (t.mono gr)
  | at_ b ds=>obtain ⟨eb,xs,e,t⟩:=o; rw [hu] at e; cases e; subst eb; exact .at_ (.inl (.inl qp)) (t.mono gr)
  | _=>exact o.elim
 ·by_cases q:b=a
  ·exact .inr (by rw [q]; exact h0)
  ·rw [qC q] at hb; exact .inl hb
theorem Po.toSh {C:Ct} {own:List Nat} {m:Mo} {σ:St} {F H:Hp} {ρ0:Sl} {r:Out (D×Sl)} {Q:VK} (rp:Rep C.K own F H σ ρ0) (hm:m≠.any) (h:Po C own .sh σ F H r Q):Po C own m σ F H r Q:=by
 cases r with
 | ok p=>
  intro v F' H' rp' c mo
  cases m with
  | sh=>exact h v F' H' rp' c mo
  | fr=>
   obtain ⟨F2,rp2,gr,is,nw⟩:=qbF rp' (λb z=>(rp.OA_there z).1) mo
   refine h v F2 H' rp2 ⟨c.keep,c.stay,c.grow.trans gr,λb hb=>?_⟩ is
   rcases nw b hb with z | z
   ·exact c.new b z
   ·exact .inr (.inl z)
  | any=>exact absurd rfl hm
 | exc x=>exact h
 | bad=>exact h.elim
section
variable {X:Cx} {C:Ct} {own:List Nat} {a b e:Expr} {f fa fb:Sl->Out (D×Sl)} {m ma mb:Mo} {pos:Pos}
theorem yT (h:PE X e (tE C own m f)) (hm:m≠.any):PE X e (tE C own .sh f):=kn h λ_ _ _ ⟨F,ρ,rp,p⟩=>⟨F,ρ,rp,p.toSh rp hm⟩
noncomputable def qd (i:Nat):Sl->Out (D×Sl):=λρ=>match ρ[i]? with
 | some (g6 d)=>.ok (d,ρ)
 | _=>.bad
noncomputable def dC (d:D):Sl->Out (D×Sl):=λρ=>.ok (d,ρ)
theorem qgf {i:Nat} {x:Str} (hN:X.N[i]?=g6 x) (hv:Vis X.env.scope x) (ho:i∉own) (hd:'m'=false:=by decide) (hcd:(x == ("__classdict__":Str))=false:=by decide):PE X (.Name x pos) (tE C own .sh (qd i)):=by
 refine kn (yG hN hv hd hcd) λσ H Q ⟨F,ρ,rp,h⟩=>?_
 unfold qd at h
 cases e:ρ[i]? with
 | none=>rw [e] at h; exact h.elim
 | some o=>
  cases o with
  | none=>rw [e] at h; exact h.elim
  | some d=>
   rw [e] at h
   obtain ⟨v,h1,h2⟩:=rp.val i d ho e
   exact ⟨v,h1,h v F H rp .refl h2⟩
theorem ka {i:Nat} {x:Str} (hN:X.N[i]?=g6 x) (hv:Vis X.env.scope x) (ho:i∈own) (hd:'m'=false:=by decide) (hcd:(x == ("__classdict__":Str))=false:=by decide):PE X (.Name x pos) (tE C own .any (qd i)):=by
 refine kn (yG hN hv hd hcd) λσ H Q ⟨F,ρ,rp,h⟩=>?_
 unfold qd at h
 cases e:ρ[i]? with
 | none=>rw [e] at h; exact h.elim
 | some o=>
  cases o with
  | none=>rw [e] at h; exact h.elim
  | some d=>
   rw [e] at h
   obtain ⟨a,h1,h2,h3⟩:=rp.ow i d ho e
   exact ⟨_,h1,h _ F H rp .refl (.inr ⟨a,rfl,h3⟩)⟩
theorem qgg {v:V} {d:D} (h:PE X e (tC v)) (i:∀ F,Is C.K F v d):PE X e (tE C own .sh (dC d)):=kn h λσ H Q ⟨F,ρ,rp,h⟩=>h v F H rp .refl (i F)
theorem qr {i j pos}:PE X (.Constant (.int i) j pos) (tE C own .sh (dC (.int i))):=qgg qcY λ_=>.int i
theorem zS {i j pos}:PE X (.Constant (.bool i) j pos) (tE C own .sh (dC (.bl i))):=qgg qhN λ_=>.bl i
theorem Vx {j pos}:PE X (.Constant .none j pos) (tE C own .sh (dC .non)):=qgg qfG λ_=>.non
theorem yH {x j pos} (h:fS x<=sizeLine:=by decide):PE X (.Constant (.str x) j pos) (tE C own .sh (dC (.str x))):=qgg qcZ λ_=>.str h
theorem qd6 {x:Str} {v:V} {d:D} {u:g9} (hg:Gl X x) (hm:X.mg x=g6 u) (r:RelV v u) (i:∀ F,Is C.K F v d) (hd:'m'=false:=by decide):PE X (.Name x pos) (tE C own .sh (dC d)):=qgg (qdJ hg hm r hd) i
noncomputable def uz (g:Int->Int->Out D):D->D->Out D
 | .int i,.int j=>g i j
 | _,_=>.bad
theorem TopIs.int {K:Frag} {F H:Hp} {v:V} {i:Int} (h:TopIs K F H v (.int i)):v=.int i:=by
 rcases h with h | ⟨a,_,h⟩
 ·cases h; rfl
 ·exact h.elim
theorem TopIs.str {K:Frag} {F H:Hp} {v:V} {x:Str} (h:TopIs K F H v (.str x)):v=.str x/\x.length<=sizeLine:=by
 rcases h with h | ⟨a,_,h⟩
 ·cases h; exact ⟨rfl,by assumption⟩
 ·exact h.elim
theorem TopIs.bl {K:Frag} {F H:Hp} {v:V} {x:Bool} (h:TopIs K F H v (.bl x)):v=.bl x:=by
 rcases h with h | ⟨a,_,h⟩
 ·cases h; rfl
 ·exact h.elim
theorem TopIs.non {K:Frag} {F H:Hp} {v:V} (h:TopIs K F H v .non):v=.non:=by
 rcases h with h | ⟨a,_,h⟩
 ·cases h; rfl
 ·exact h.elim
theorem TopIs.raw {K:Frag} {F H:Hp} {v u:V} (h:TopIs K F H v (.raw u)):v=u:=by
 rcases h with h | ⟨a,_,h⟩
 ·cases h; rfl
 ·exact h.elim
theorem TopIs.lst {K:Frag} {F H:Hp} {v:V} {ds:List D} (s:Same F H) (h:TopIs K F H v (.lst ds)):∃ a xs,v=.ref a/\SqL K H a xs/\IsL K F xs ds:=by
 rcases h with h | ⟨a,e,h⟩
 ·cases h with
  | lst h t=>exact ⟨_,_,rfl,s.seq h,t⟩
 ·obtain ⟨xs,e2,t⟩:=h
  exact ⟨a,xs,e,.inl (.inl e2),t⟩
theorem TopIs.tup {K:Frag} {F H:Hp} {v:V} {ds:List D} (s:Same F H) (h:TopIs K F H v (.tup ds)):∃ a xs,v=.ref a/\SqT K H a xs/\IsL K F xs ds:=by
 rcases h with h | ⟨a,e,h⟩
 ·cases h with
  | tup h t=>exact ⟨_,_,rfl,qN s h,t⟩
 ·exact h.elim
theorem TopIs.dct {K:Frag} {F H:Hp} {v:V} {ds:List (Key×D)} (s:Same F H) (h:TopIs K F H v (.dct ds)):∃ a kv,v=.ref a/\H a=g6 (.dK kv)/\IsK K F kv ds:=by
 rcases h with h | ⟨a,e,h⟩
 ·cases h with
  | dct h t=>exact ⟨_,_,rfl,s _ _ h,t⟩
 ·obtain ⟨xs,e2,t⟩:=h
  exact ⟨a,xs,e,e2,t⟩
theorem Yn {fn:g9->g9->Sem g9} {P:Int->Int->Prop} [∀ i j,Decidable (P i j)] {g:Int->Int->V} {gd:Int->Int->D} (ho:OpR X fn (rI P g)) (hg:∀ F i j,Is C.K F (g i j) (gd i j)) :
  OpD X C .sh fn (uz λi j=>if P i j then .ok (gd i j) else .bad):=by
 sleep 2
 obtain ⟨F,dx,dy,sb,tx,ty,po⟩:=h
 cases dx <;> try exact po.elim
 cases dy <;> try exact po.elim
 rename_i i j
 have po:PoV C .sh F H (if P i j then .ok (gd i j) else .bad) Q:=po
 obtain rfl:=tx.int
 obtain rfl:=ty.int
 by_cases q:P i j
 ·rw [if_pos q] at po
  exact ho pins s σ H _ _ v u Q I rx ry ⟨i,j,rfl,rfl,q,po (g i j) F H sb .refl (hg F i j)⟩
 ·rw [if_neg q] at po; exact po.elim
theorem WX {fn:g9->g9->Sem g9} {g:Int->Int->V} {gd:Int->Int->D} (ho:OpR X fn (rI0 g)) (hg:∀ F i j,Is C.K F (g i j) (gd i j)):OpD X C .sh fn (uz λi j=>.ok (gd i j)):=by
 sleep 2
 obtain ⟨F,dx,dy,sb,tx,ty,po⟩:=h
 cases dx <;> try exact po.elim
 cases dy <;> try exact po.elim
 rename_i i j
 obtain rfl:=tx.int
 obtain rfl:=ty.int
 exact ho pins s σ H _ _ v u Q I rx ry ⟨i,j,rfl,rfl,po (g i j) F H sb .refl (hg F i j)⟩
noncomputable def Vy:D->D->Out D:=uz λi j=>.ok (.int (i - j))
theorem gH:OpD X C .sh (binaryOp .Sub) Vy:=WX qfV λ_ _ _=>.int _
instance:∀ i j,Decidable (CMul i j):=λi j=>inferInstanceAs (Decidable (_\/_))
instance:∀ i j,Decidable (qfT i j):=λi j=>inferInstanceAs (Decidable (_/\_))
noncomputable def qfw:D->D->Out D:=uz λi j=>if CMul i j then .ok (.int (i * j)) else .bad
theorem ZT:OpD X C .sh (binaryOp .Mult) qfw:=Yn qfW λ_ _ _=>.int _
noncomputable def zd:D->D->Out D:=uz λi j=>if 0 < j then .ok (.int (i % j)) else .bad
theorem vQ:OpD X C .sh (binaryOp .Mod) zd:=Yn qfX λ_ _ _=>.int _
noncomputable def XG:D->D->Out D:=uz λi j=>if qfT i j then .ok (.int (i / j)) else .bad
theorem WY:OpD X C .sh (binaryOp .FloorDiv) XG:=Yn qdQ λ_ _ _=>.int _
noncomputable def vP (x y:Str):Bool:=decide (x.cps.toList < y.cps.toList)
noncomputable def ltD:D->D->Out D
 | .int i,.int j=>.ok (.bl (decide (i < j)))
 | .str x,.str y=>.ok (.bl (vP x y))
 | _,_=>.bad
theorem qig:OpD X C .sh (compareOp .Lt) ltD:=by
 sleep 2
 obtain ⟨F,dx,dy,sb,tx,ty,po⟩:=h
 cases dx <;> try exact po.elim
 ·cases dy <;> try exact po.elim
  obtain rfl:=tx.int
  obtain rfl:=ty.int
  exact qh0 pins s σ H _ _ v u Q I rx ry ⟨_,_,rfl,rfl,po _ F H sb .refl (.bl _)⟩
 ·cases dy <;> try exact po.elim
  obtain ⟨rfl,_⟩:=tx.str
  obtain ⟨rfl,_⟩:=ty.str
  exact ZD pins s σ H _ _ v u Q I rx ry ⟨_,_,rfl,rfl,po _ F H sb .refl (.bl _)⟩
end
noncomputable def eqS:D->D->Option Bool
 | .non,.non=>g6 hZ
 | .non,.bl _=>g6 hJ
 | .non,.int _=>g6 hJ
 | .non,.str _=>g6 hJ
 | .non,.tup _=>g6 hJ
 | .non,.lst _=>g6 hJ
 | .bl _,.non=>g6 hJ
 | .bl a,.bl b=>g6 (a == b)
 | .bl a,.int b=>g6 ((if a then 1 else 0) == b)
 | .bl _,.str _=>g6 hJ
 | .bl _,.tup _=>g6 hJ
 | .bl _,.lst _=>g6 hJ
 | .int _,.non=>g6 hJ
 | .int a,.bl b=>g6 (a == (if b then 1 else 0))
 | .int a,.int b=>g6 (a == b)
 | .int _,.str _=>g6 hJ
 | .int _,.tup _=>g6 hJ
 | .int _,.lst _=>g6 hJ
 | .str _,.non=>g6 hJ
 | .str _,.bl _=>g6 hJ
 | .str _,.int _=>g6 hJ
 | .str a,.str b=>g6 (a == b)
 | .str _,.tup _=>g6 hJ
 | .str _,.lst _=>g6 hJ
 | .tup _,.non=>g6 hJ
 | .tup _,.bl _=>g6 hJ
 | .tup _,.int _=>g6 hJ
 | .tup _,.str _=>g6 hJ
 | .tup _,.lst _=>g6 hJ
 | .lst _,.non=>g6 hJ
 | .lst _,.bl _=>g6 hJ
 | .lst _,.int _=>g6 hJ
 | .lst _,.str _=>g6 hJ
 | .lst _,.tup _=>g6 hJ
 | _,_=>g7
noncomputable def wz (f:D->D->Option Bool):List D->List D->Option Bool
 | x::xs,y::ys=>(f x y).bind λa=>(wz f xs ys).bind λb=>g6 (a&&b)
 | _,_=>g6 hZ
noncomputable def eqN:Nat->D->D->Option Bool
 | n+1,.tup xs,.tup ys=>(wz (eqN n) xs ys).map λb=>b&&xs.length == ys.length
 | n+1,.lst xs,.lst ys=>if xs.length=ys.length then wz (eqN n) xs ys else g6 hJ
 | _,a,b=>eqS a b
theorem Yo {n:Nat} {a b:D} (h1:∀ xs ys,a=.tup xs->b≠.tup ys) (h2:∀ xs ys,a=.lst xs->b≠.lst ys):eqN n a b=eqS a b:=by
 cases n with
 | zero=>rfl
 | succ n=>
  cases a with
  | tup xs=>cases b with
   | tup ys=>exact absurd rfl (h1 xs ys rfl)
   | _=>rfl
  | lst xs=>cases b with
   | lst ys=>exact absurd rfl (h2 xs ys rfl)
   | _=>rfl
  | _=>rfl
noncomputable def itE (f:D->D->Option Bool) (xs ys:List D) (j:Nat):Bool:=((xs[j]?).bind λx=>(ys[j]?).bind λy=>f x y).getD hJ
theorem wB {f:D->D->Option Bool}:∀ {xs ys:List D} {b:Bool},wz f xs ys=g6 b->b=(aE (min xs.length ys.length)).all (itE f xs ys)
 | [],ys,b,h=>by simp [wz] at h ⊢; exact h
 | x::xs,[],b,h=>by simp [wz] at h ⊢; exact h
 | x::xs,y::ys,b,h=>by
  unfold wz at h
  cases e:f x y with
  | none=>rw [e] at h; simp at h
  | some a=>
   cases e2:wz f xs ys with
   | none=>rw [e,e2] at h; simp at h
   | some c=>
    rw [e,e2] at h
    have h:(a&&c)=b:=by simpa using h
    have ih:=wB e2
    have hm:min (x::xs).length (y::ys).length=min xs.length ys.length+1:=by simp only [ap]; omega
    rw [hm,List.range_succ_eq_map,fP,List.all_map]
    have e0:itE f (x::xs) (y::ys) 0=a:=by simp [itE,e]
    have e1:(itE f (x::xs) (y::ys)) ∘ Nat.succ=itE f xs ys:=by
     funext j
     simp [itE]
    rw [e0,e1,<-ih]
    exact h.symm
theorem ZU {f:D->D->Option Bool}:∀ {xs ys:List D} {b:Bool},wz f xs ys=g6 b->∀ (j:Nat) (x y:D),xs[j]?=g6 x->ys[j]?=g6 y->f x y=g6 (itE f xs ys j)
 | [],ys,b,_,j,x,y,hx,_=>by simp at hx
 | x::xs,[],b,_,j,_,y,_,hy=>by simp at hy
 | x::xs,y::ys,b,h,0,x',y',hx,hy=>by
  simp at hx hy
  subst hx hy
  unfold wz at h
  cases e:f x y with
  | none=>rw [e] at h; simp at h
  | some a=>simp [itE,e]
 | x::xs,y::ys,b,h,j+1,x',y',hx,hy=>by
  unfold wz at h
  cases e:f x y with
  | none=>rw [e] at h; simp at h
  | some a=>
   cases e2:wz f xs ys with
   | none=>rw [e,e2] at h; simp at h
   | some c=>
    have q:=ZU e2 j x' y' (by simpa using hx) (by simpa using hy)
    rw [q]
    simp [itE]
section
variable {X:Cx} {pins:List (Addr×Obj)} {σ:St} {F H:Hp} {s:hV}
theorem ZV (I:Inv X pins σ H s) (sb:Same F H):∀ (n:Nat) {v:V} {d e:D} {b:Bool},Is X.K F v d->Is X.K F v e->eqN n d e=g6 b->b=true:=by
 intro n
 induction n with
 | zero=>
  intro v d e b h1 h2 h
  cases h1 <;> cases h2 <;> simp [eqN,eqS] at h <;> try exact h.symm
  all_goals first
   | exact h
   | (rename_i p1 _ _ _ p2 _; obtain ⟨_,_,q1,_⟩:=I.list (sb.seq (by assumption)); obtain ⟨_,_,q2,_⟩:=I.tuple (qN sb (by assumption)); exact absurd rfl (cB q1.isList q2))
   | (rename_i p1 _ _ _ p2 _; obtain ⟨_,_,q1,_⟩:=I.list (sb.seq (by assumption)); obtain ⟨_,_,q2,_⟩:=I.tuple (qN sb (by assumption)); exact absurd rfl (cB q1.isList q2).symm)
   | skip
 | succ n ih=>
  have lists:∀ {xs:List V} {ds es:List D} {b:Bool},IsL X.K F xs ds->IsL X.K F xs es->wz (eqN n) ds es=g6 b->b=true:=by
   intro xs
   induction xs with
   | nil=>intro ds es b h1 h2 h; cases h1; cases h2; simp [wz] at h; exact h
   | cons x xs ihx=>
    intro ds es b h1 h2 h
    cases h1 with
    | cons a1 t1=>
     cases h2 with
     | cons a2 t2=>
      rename_i d ds e es
      unfold wz at h
      cases q:eqN n d e with
      | none=>rw [q] at h; simp at h
      | some a=>
       cases q2:wz (eqN n) ds es with
       | none=>rw [q,q2] at h; simp at h
       | some c=>
        rw [q,q2] at h
        rw [ih a1 a2 q,ihx t1 t2 q2] at h
        simpa using h.symm
  intro v d e b h1 h2 h
  cases h1 with
  | tup p1 t1=>
   cases h2 with
   | tup p2 t2=>
    have e:=I.tuple_inj (qN sb p1) (qN sb p2)
    subst e
    simp only [eqN] at h
    rename_i xs ds es
    cases q:wz (eqN n) ds es with
    | none=>rw [q] at h; simp at h
    | some c=>
     rw [q] at h
     have hl:ds.length=es.length:=by rw [<-t1.length,<-t2.length]
     have hb:(ds.length == es.length)=true:=by simp [hl]
     rw [lists t1 t2 q] at h
     simpa [hb] using h.symm
   | lst p2 t2=>
    obtain ⟨_,_,q1,_⟩:=I.list (sb.seq p2)
    obtain ⟨_,_,q2,_⟩:=I.tuple (qN sb p1)
    exact absurd rfl (cB q1.isList q2)
   | _=>simp [eqN,eqS] at h
  | lst p1 t1=>
   cases h2 with
   | lst p2 t2=>
    have e:=I.list_inj (sb.seq p1) (sb.seq p2)
    subst e
    simp only [eqN] at h
    have hl:=t1.length.symm.trans t2.length
    rw [if_pos hl] at h
    exact lists t1 t2 h
   | tup p2 t2=>
    obtain ⟨_,_,q1,_⟩:=I.list (sb.seq p1)
    obtain ⟨_,_,q2,_⟩:=I.tuple (qN sb p2)
    exact absurd rfl (cB q1.isList q2)
   | _=>simp [eqN,eqS] at h
  | _=>cases h2 <;> simp [eqN,eqS] at h <;> first | exact h.symm | exact h | skip
end
open PySem.SeqAt
section
variable {X:Cx} {pins:List (Addr×Obj)} {σ:St} {F H:Hp} {s:hV}
theorem Vals.getE {xs:List V} {us:List g9} (r:Vals xs us) {j:Nat} (h:j < us.length):∃ x,xs[j]?=g6 x/\RelV x us[j]:=by
 have hl:=r.length
 have hj:j < xs.length:=by omega
 obtain ⟨u,e1,e2⟩:=Vals.get (i:=j) (x:=xs[j]) r (by simp [hj])
 refine ⟨xs[j],by simp [hj],?_⟩
 rw [ah h] at e1
 cases e1
 exact e2
theorem yg {A:ii} {n:Nat} {xs ys:List V} {ds es:List D} {us ws:List g9} {b:Bool} (ih:∀ {v w:V} {d e:D} {u t:g9} {b:Bool},Is X.K F v d->Is X.K F w e->RelV v u->RelV w t->eqN n d e=g6 b->EqAt A s u t b)
  (r1:Vals xs us) (r2:Vals ys ws) (i1:IsL X.K F xs ds) (i2:IsL X.K F ys es) (h:wz (eqN n) ds es=g6 b) :
  ∀ j (h1:j < us.toArray.size) (h2:j < ws.toArray.size),EqAt A s us.toArray[j] ws.toArray[j] (itE (eqN n) ds es j):=by
 intro j h1 h2
 have h1':j < us.length:=by simpa using h1
 have h2':j < ws.length:=by simpa using h2
 obtain ⟨x,ex,rx⟩:=Vals.getE r1 h1'
 obtain ⟨y,ey,ry⟩:=Vals.getE r2 h2'
 obtain ⟨d,ed,idd⟩:=i1.get ex
 obtain ⟨e,ee,ie⟩:=i2.get ey
 have q:=ZU h j d e ed ee
 simpa using ih idd ie rx ry q
theorem Yp {A:ii} {n:Nat} {a c:Addr} {xs ys:List V} {ds es:List D} {b:Bool} (I:Inv X pins σ H s) (ih:∀ {v w:V} {d e:D} {u t:g9} {b:Bool},Is X.K F v d->Is X.K F w e->RelV v u->RelV w t->eqN n d e=g6 b->EqAt A.in1 s u t b)
  (p1:SqT X.K H a xs) (p2:SqT X.K H c ys) (i1:IsL X.K F xs ds) (i2:IsL X.K F ys es) (h:eqN (n+1) (.tup ds) (.tup es)=g6 b) (hu:A.units < cLine):RcAt A s (.ref a) (.ref c) b:=by
 obtain ⟨us,r1,t1,_⟩:=I.tuple p1
 obtain ⟨ws,r2,t2,_⟩:=I.tuple p2
 simp only [eqN] at h
 cases q:wz (eqN n) ds es with
 | none=>rw [q] at h; simp at h
 | some k=>
  rw [q] at h
  have l1:us.toArray.size=ds.length:=by rw [au,<-r1.length,i1.length]
  have l2:ws.toArray.size=es.length:=by rw [au,<-r2.length,i2.length]
  have z:=RcAt.tuples (A:=A) t1 t2 hu (yg (A:=A.in1) ih r1 r2 i1 i2 q)
  rw [l1,l2,<-wB q] at z
  have e:b=(k&&ds.length == es.length):=by simpa using h.symm
  rw [e]; exact z
theorem Yq {A:ii} {n:Nat} {a c:Addr} {xs ys:List V} {ds es:List D} {b:Bool} (I:Inv X pins σ H s) (ih:∀ {v w:V} {d e:D} {u t:g9} {b:Bool},Is X.K F v d->Is X.K F w e->RelV v u->RelV w t->eqN n d e=g6 b->EqAt A.in1 s u t b)
  (p1:SqL X.K H a xs) (p2:SqL X.K H c ys) (i1:IsL X.K F xs ds) (i2:IsL X.K F ys es) (h:eqN (n+1) (.lst ds) (.lst es)=g6 b) (hu:A.units < cLine):RcAt A s (.ref a) (.ref c) b:=by
 obtain ⟨us,r1,t1,_⟩:=I.list p1
 obtain ⟨ws,r2,t2,_⟩:=I.list p2
 have l1:us.toArray.size=ds.length:=by rw [au,<-r1.length,i1.length]
 have l2:ws.toArray.size=es.length:=by rw [au,<-r2.length,i2.length]
 simp only [eqN] at h
 by_cases hl:ds.length=es.length
 ·rw [if_pos hl] at h
  have z:=RcAt.lists (A:=A) t1.isList t2.isList 'a' hu (yg (A:=A.in1) ih r1 r2 i1 i2 h)
  have e:=wB h
  rw [l1] at z
  rw [e,show min ds.length es.length=ds.length by omega]
  exact z
 ·rw [if_neg hl] at h
  cases h
  exact RcAt.lists_lengths t1.isList t2.isList (bne_iff_ne.mpr (by rw [l1,l2]; exact hl)) hu
def Kd (s:hV):D->g9->Prop
 | .non,u=>u=.none
 | .bl b,u=>u=.bool b
 | .int i,u=>∃ t,u=.int i t
 | .str x,u=>∃ t,u=.str x t
 | .tup _,u=>∃ a its,u=.ref a/\s.heap.IsTuple a its
 | .lst _,u=>∃ a its,u=.ref a/\s.heap.IsList a its
 | _,_=>True
theorem XH (I:Inv X pins σ H s) (sb:Same F H) {v:V} {d:D} {u:g9} (t:TopIs X.K F H v d) (r:RelV v u):Kd s d u:=by
 cases d with
 | non=>obtain rfl:=t.non; exact r
 | bl=>obtain rfl:=t.bl; exact r
 | int=>obtain rfl:=t.int; exact r
 | str=>obtain ⟨rfl,_⟩:=t.str; exact r
 | tup=>obtain ⟨a,_,rfl,p,_⟩:=t.tup sb; obtain ⟨_,_,q,_⟩:=I.tuple p; exact ⟨a,_,r,q⟩
 | lst=>obtain ⟨a,_,rfl,p,_⟩:=t.lst sb; obtain ⟨_,_,q,_⟩:=I.list p; exact ⟨a,_,r,q.isList⟩
 | _=>trivial
theorem qgh {A:ii} {d e:D} {u t:g9} {b:Bool} (hu:A.units < cLine) (k1:Kd s d u) (k2:Kd s e t) (h:eqS d e=g6 b):EqAt A s u t b:=by
 cases d <;> cases e <;> try (cases h; done)
 all_goals
  cases h
  first | obtain ⟨_,_,rfl,q1⟩:=k1 | obtain ⟨_,rfl⟩:=k1 | cases k1
  first | obtain ⟨_,_,rfl,q2⟩:=k2 | obtain ⟨_,rfl⟩:=k2 | cases k2
  with_reducible first | exact EqAt.same _ | exact EqAt.none_bool _ | exact EqAt.none_int _ _ | exact EqAt.none_str _ _ | exact EqAt.bool_none _ | exact EqAt.bool_bool _ _ | exact EqAt.bool_int _ _ _ | exact EqAt.bool_str _ _ _ | exact EqAt.int_none _ _ | exact EqAt.int_bool _ _ _ | exact EqAt.int_int _ _ _ _ | exact EqAt.int_str _ _ _ _ | exact EqAt.str_none _ _ | exact EqAt.str_bool _ _ _ | exact EqAt.str_int _ _ _ _ | exact EqAt.str_str _ _ _ _ | exact EqAt.none_tuple q2 hu | exact EqAt.tuple_none q1 hu | exact EqAt.none_list q2 hu | exact EqAt.list_none q1 hu | exact EqAt.bool_tuple _ q2 hu | exact EqAt.tuple_bool _ q1 hu | exact EqAt.bool_list _ q2 hu | exact EqAt.list_bool _ q1 hu | exact EqAt.int_tuple _ _ q2 hu | exact EqAt.tuple_int _ _ q1 hu | exact EqAt.int_list _ _ q2 hu | exact EqAt.list_int _ _ q1 hu | exact EqAt.str_tuple _ _ q2 hu | exact EqAt.tuple_str _ _ q1 hu | exact EqAt.str_list _ _ q2 hu | exact EqAt.list_str _ _ q1 hu | exact EqAt.tuple_list q1 q2 hu | exact EqAt.list_tuple q1 q2 hu
theorem Yr (I:Inv X pins σ H s) (sb:Same F H):∀ (n:Nat) {A:ii} {v w:V} {d e:D} {u t:g9} {b:Bool},A.units+n < cLine->Is X.K F v d->Is X.K F w e->RelV v u->RelV w t->eqN n d e=g6 b->EqAt A s u t b:=by
 intro n
 induction n with
 | zero=>exact λhu h1 h2 rx ry h=>qgh 'a' (XH I sb (.inl h1) rx) (XH I sb (.inl h2) ry) h
 | succ n ih=>
  intro A v w d e u t b hu h1 h2 rx ry h
  have hu1:A.in1.units+n < cLine:=by show A.units+1+n < cLine; omega
  by_cases both:(∃ xs ys,d=.tup xs/\e=.tup ys)\/(∃ xs ys,d=.lst xs/\e=.lst ys)
  ·rcases both with ⟨ds,es,rfl,rfl⟩ | ⟨ds,es,rfl,rfl⟩
   ·have h1':=h1
    have h2':=h2
    cases h1 with
    | tup p1 t1=>
     cases h2 with
     | tup p2 t2=>
      rename_i a xs c ys
      cases rx
      cases ry
      by_cases ne:a=c
      ·subst ne
       rw [ZV I sb (n+1) h1' h2' h]
       exact EqAt.same _
      ·exact EqAt.of_refs ne (Yp I (λa1 a2 a3 a4 a5=>ih hu1 a1 a2 a3 a4 a5) (qN sb p1) (qN sb p2) t1 t2 h 'a')
   ·have h1':=h1
    have h2':=h2
    cases h1 with
    | lst p1 t1=>
     cases h2 with
     | lst p2 t2=>
      rename_i a xs c ys
      cases rx
      cases ry
      by_cases ne:a=c
      ·subst ne
       rw [ZV I sb (n+1) h1' h2' h]
       exact EqAt.same _
      ·exact EqAt.of_refs ne (Yq I (λa1 a2 a3 a4 a5=>ih hu1 a1 a2 a3 a4 a5) (sb.seq p1) (sb.seq p2) t1 t2 h 'a')
  ·have e1:eqN (n+1) d e=eqS d e:=Yo (λxs ys a1 a2=>both (.inl ⟨xs,ys,a1,a2⟩)) (λxs ys a1 a2=>both (.inr ⟨xs,ys,a1,a2⟩))
   have e2:eqN n d e=eqS d e:=Yo (λxs ys a1 a2=>both (.inl ⟨xs,ys,a1,a2⟩)) (λxs ys a1 a2=>both (.inr ⟨xs,ys,a1,a2⟩))
   exact ih 'a' h1 h2 rx ry (by rw [e2,<-e1]; exact h)
end
end L2.D2
namespace L2.D2
open PySem PySem.Spec PyProof.Rows
open PySem.SeqAt
variable {X:Cx} {A:ii} {n:Nat} {b:Bool}
section
variable {pins:List (Addr×Obj)} {σ:St} {F H:Hp} {s:hV}
theorem qbG {a c:Addr} {xs ys:List V} {ds es:List D} (I:Inv X pins σ H s) (ih:∀ {v w:V} {d e:D} {u t:g9} {b:Bool},Is X.K F v d->Is X.K F w e->RelV v u->RelV w t->eqN n d e=g6 b->EqAt A.in1 s u t b)
  (p1:SqT X.K H a xs) (p2:SqT X.K H c ys) (i1:IsL X.K F xs ds) (i2:IsL X.K F ys es) (h:eqN (n+1) (.tup ds) (.tup es)=g6 b) (hu:A.units < cLine):RcNeAt A s (.ref a) (.ref c) (!b):=by
 obtain ⟨us,r1,t1,_⟩:=I.tuple p1
 obtain ⟨ws,r2,t2,_⟩:=I.tuple p2
 simp only [eqN] at h
 cases q:wz (eqN n) ds es with
 | none=>rw [q] at h; simp at h
 | some k=>
  rw [q] at h
  have l1:us.toArray.size=ds.length:=by rw [au,<-r1.length,i1.length]
  have l2:ws.toArray.size=es.length:=by rw [au,<-r2.length,i2.length]
  have z:=RcNeAt.tuples (A:=A) t1 t2 hu (yg (A:=A.in1) ih r1 r2 i1 i2 q)
  rw [l1,l2,<-wB q] at z
  have e:b=(k&&ds.length == es.length):=by simpa using h.symm
  rw [e]; exact z
theorem qbH {a c:Addr} {xs ys:List V} {ds es:List D} (I:Inv X pins σ H s) (ih:∀ {v w:V} {d e:D} {u t:g9} {b:Bool},Is X.K F v d->Is X.K F w e->RelV v u->RelV w t->eqN n d e=g6 b->EqAt A.in1 s u t b)
  (p1:SqL X.K H a xs) (p2:SqL X.K H c ys) (i1:IsL X.K F xs ds) (i2:IsL X.K F ys es) (h:eqN (n+1) (.lst ds) (.lst es)=g6 b) (hu:A.units < cLine):RcNeAt A s (.ref a) (.ref c) (!b):=by
 obtain ⟨us,r1,t1,_⟩:=I.list p1
 obtain ⟨ws,r2,t2,_⟩:=I.list p2
 have l1:us.toArray.size=ds.length:=by rw [au,<-r1.length,i1.length]
 have l2:ws.toArray.size=es.length:=by rw [au,<-r2.length,i2.length]
 simp only [eqN] at h
 by_cases hl:ds.length=es.length
 ·rw [if_pos hl] at h
  have z:=RcNeAt.lists (A:=A) t1.isList t2.isList 'a' hu (yg (A:=A.in1) ih r1 r2 i1 i2 h)
  have e:=wB h
  rw [l1] at z
  rw [e,show min ds.length es.length=ds.length by omega]
  exact z
 ·rw [if_neg hl] at h
  cases h
  exact RcNeAt.lists_lengths t1.isList t2.isList (bne_iff_ne.mpr (by rw [l1,l2]; exact hl)) hu
theorem qgi (I:Inv X pins σ H s) (sb:Same F H) {v w:V} {d e:D} {u t:g9} (hu':A.units+n+1 < cLine) (t1:TopIs X.K F H v d) (t2:TopIs X.K F H w e) (rx:RelV v u) (ry:RelV w t) (h:eqN (n+1) d e=g6 b):RcAt A s u t b:=by
 have hu:A.units < cLine:=by omega
 have ih:∀ {v w:V} {d e:D} {u t:g9} {b:Bool},Is X.K F v d->Is X.K F w e->RelV v u->RelV w t->eqN n d e=g6 b->EqAt A.in1 s u t b:=λa1 a2 a3 a4 a5=>Yr I sb n (by show A.units+1+n < cLine; omega) a1 a2 a3 a4 a5
 have k1:=XH I sb t1 rx
 have k2:=XH I sb t2 ry
 cases d <;> cases e <;> try (cases h; done)
 case tup.tup=>
  obtain ⟨a,xs,rfl,p1,i1⟩:=t1.tup sb; obtain ⟨c,ys,rfl,p2,i2⟩:=t2.tup sb; cases rx; cases ry
  exact Yp I ih p1 p2 i1 i2 h hu
 case lst.lst=>
  obtain ⟨a,xs,rfl,p1,i1⟩:=t1.lst sb; obtain ⟨c,ys,rfl,p2,i2⟩:=t2.lst sb; cases rx; cases ry
  exact Yq I ih p1 p2 i1 i2 h hu
 all_goals
  cases h
  clear rx ry t1 t2
  first | obtain ⟨_,_,rfl,q1⟩:=k1 | obtain ⟨_,rfl⟩:=k1 | cases k1
  first | obtain ⟨_,_,rfl,q2⟩:=k2 | obtain ⟨_,rfl⟩:=k2 | cases k2
  with_reducible first | exact RcAt.none_none | exact RcAt.none_bool _ | exact RcAt.none_int _ _ | exact RcAt.none_str _ _ | exact RcAt.bool_none _ | exact RcAt.bool_bool _ _ | exact RcAt.bool_int _ _ _ | exact RcAt.bool_str _ _ _ | exact RcAt.int_none _ _ | exact RcAt.int_bool _ _ _ | exact RcAt.int_int _ _ _ _ | exact RcAt.int_str _ _ _ _ | exact RcAt.str_none _ _ | exact RcAt.str_bool _ _ _ | exact RcAt.str_int _ _ _ _ | exact RcAt.str_str _ _ _ _ | exact RcAt.none_tuple q2 hu | exact RcAt.tuple_none q1 hu | exact RcAt.none_list q2 hu | exact RcAt.list_none q1 hu | exact RcAt.bool_tuple _ q2 hu | exact RcAt.tuple_bool _ q1 hu | exact RcAt.bool_list _ q2 hu | exact RcAt.list_bool _ q1 hu | exact RcAt.int_tuple _ _ q2 hu | exact RcAt.tuple_int _ _ q1 hu | exact RcAt.int_list _ _ q2 hu | exact RcAt.list_int _ _ q1 hu | exact RcAt.str_tuple _ _ q2 hu | exact RcAt.tuple_str _ _ q1 hu | exact RcAt.str_list _ _ q2 hu | exact RcAt.list_str _ _ q1 hu | exact RcAt.tuple_list q1 q2 hu | exact RcAt.list_tuple q1 q2 hu
theorem qgj (I:Inv X pins σ H s) (sb:Same F H) {v w:V} {d e:D} {u t:g9} (hu':A.units+n+1 < cLine) (t1:TopIs X.K F H v d) (t2:TopIs X.K F H w e) (rx:RelV v u) (ry:RelV w t) (h:eqN (n+1) d e=g6 b):RcNeAt A s u t (!b):=by
 have hu:A.units < cLine:=by omega
 have ih:∀ {v w:V} {d e:D} {u t:g9} {b:Bool},Is X.K F v d->Is X.K F w e->RelV v u->RelV w t->eqN n d e=g6 b->EqAt A.in1 s u t b:=λa1 a2 a3 a4 a5=>Yr I sb n (by show A.units+1+n < cLine; omega) a1 a2 a3 a4 a5
 have k1:=XH I sb t1 rx
 have k2:=XH I sb t2 ry
 cases d <;> cases e <;> try (cases h; done)
 case tup.tup=>
  obtain ⟨a,xs,rfl,p1,i1⟩:=t1.tup sb; obtain ⟨c,ys,rfl,p2,i2⟩:=t2.tup sb; cases rx; cases ry
  exact qbG I ih p1 p2 i1 i2 h hu
 case lst.lst=>
  obtain ⟨a,xs,rfl,p1,i1⟩:=t1.lst sb; obtain ⟨c,ys,rfl,p2,i2⟩:=t2.lst sb; cases rx; cases ry
  exact qbH I ih p1 p2 i1 i2 h hu
 all_goals
  cases h
  clear rx ry t1 t2
  first | obtain ⟨_,_,rfl,q1⟩:=k1 | obtain ⟨_,rfl⟩:=k1 | cases k1
  first | obtain ⟨_,_,rfl,q2⟩:=k2 | obtain ⟨_,rfl⟩:=k2 | cases k2
  try simp only [Bool.not_true,Bool.not_false]
  with_reducible first | exact RcNeAt.none_none | exact RcNeAt.none_bool _ | exact RcNeAt.none_int _ _ | exact RcNeAt.none_str _ _ | exact RcNeAt.bool_none _ | exact RcNeAt.bool_bool _ _ | exact RcNeAt.bool_int _ _ _ | exact RcNeAt.bool_str _ _ _ | exact RcNeAt.int_none _ _ | exact RcNeAt.int_bool _ _ _ | exact RcNeAt.int_int _ _ _ _ | exact RcNeAt.int_str _ _ _ _ | exact RcNeAt.str_none _ _ | exact RcNeAt.str_bool _ _ _ | exact RcNeAt.str_int _ _ _ _ | exact RcNeAt.str_str _ _ _ _ | exact RcNeAt.none_tuple q2 hu | exact RcNeAt.tuple_none q1 hu | exact RcNeAt.none_list q2 hu | exact RcNeAt.list_none q1 hu | exact RcNeAt.bool_tuple _ q2 hu | exact RcNeAt.tuple_bool _ q1 hu | exact RcNeAt.bool_list _ q2 hu | exact RcNeAt.list_bool _ q1 hu | exact RcNeAt.int_tuple _ _ q2 hu | exact RcNeAt.tuple_int _ _ q1 hu | exact RcNeAt.int_list _ _ q2 hu | exact RcNeAt.list_int _ _ q1 hu | exact RcNeAt.str_tuple _ _ q2 hu | exact RcNeAt.tuple_str _ _ q1 hu | exact RcNeAt.str_list _ _ q2 hu | exact RcNeAt.list_str _ _ q1 hu | exact RcNeAt.tuple_list q1 q2 hu | exact RcNeAt.list_tuple q1 q2 hu | with_unfolding_all first | exact RcNeAt.bool_bool _ _ | exact RcNeAt.bool_int _ _ _ | exact RcNeAt.int_bool _ _ _ | exact RcNeAt.int_int _ _ _ _ | exact RcNeAt.str_str _ _ _ _
end
noncomputable def eqD (a b:D):Out D:=match eqN 8 a b with
 | some c=>.ok (.bl c)
 | none=>.bad
noncomputable def neD (a b:D):Out D:=match eqN 8 a b with
 | some c=>.ok (.bl (!c))
 | none=>.bad
section
variable {C:Ct}
theorem uA (hK:C.K=X.K) (hu:X.A.units+64 < cLine):OpD X C .sh (compareOp .Eq) eqD:=by
 sleep 2
 obtain ⟨F,dx,dy,sb,tx,ty,po⟩:=h
 rw [hK] at tx ty
 unfold eqD at po
 cases e:eqN 8 dx dy with
 | none=>rw [e] at po; exact po.elim
 | some c=>
  rw [e] at po
  exact qgi I sb (n:=7) 'a' tx ty rx ry e _ _ _ _ ⟨.bl c,H,I,rfl,po _ F H sb .refl (.bl _)⟩
theorem QU (hK:C.K=X.K) (hu:X.A.units+64 < cLine):OpD X C .sh (compareOp .NotEq) neD:=by
 sleep 2
 obtain ⟨F,dx,dy,sb,tx,ty,po⟩:=h
 rw [hK] at tx ty
 unfold neD at po
 cases e:eqN 8 dx dy with
 | none=>rw [e] at po; exact po.elim
 | some c=>
  rw [e] at po
  exact qgj I sb (n:=7) 'a' tx ty rx ry e _ _ _ _ ⟨.bl _,H,I,rfl,po _ F H sb .refl (.bl _)⟩
end
end L2.D2
namespace L2.D2
open PySem PySem.Spec PyProof.Rows
open PySem.SeqAt
variable {X:Cx} {pins:List (Addr×Obj)} {σ:St} {F H:Hp} {s:hV} {n:Nat} {v:V} {d e:D} {b:Bool}
section
theorem qd7 (I:Inv X pins σ H s) (sb:Same F H):∀ (n:Nat) {v:V} {d d' e:D} {b b':Bool},Is X.K F v d->Is X.K F v d'->eqN n d e=g6 b->eqN n d' e=g6 b'->b=b':=by
 have notTL:∀ {a:Addr} {xs ys:List V},SqT X.K F a xs->SqL X.K F a ys->False:=λp q=>by
  obtain ⟨_,_,q1,_⟩:=I.list (sb.seq q)
  obtain ⟨_,_,q2,_⟩:=I.tuple (qN sb p)
  exact absurd rfl (ne_of_list_tuple q1.isList q2)
 intro n
 induction n with
 | zero=>
  intro v d d' e b b' h1 h2 e1 e2
  have e1:eqS d e=g6 b:=e1
  have e2:eqS d' e=g6 b':=e2
  cases h1 <;> cases h2 <;> first
   | exact aU.inj (e1.symm.trans e2)
   | exact (notTL (by assumption) (by assumption)).elim
   | (refine aU.inj (e1.symm.trans (cL ?_ e2)); cases e <;> rfl; done)
   | (refine nomatch (show g7=g6 b' from cL ?_ e2); cases e <;> rfl; done)
   | (refine nomatch (show g7=g6 b from cL ?_ e1); cases e <;> rfl; done)
 | succ n ih=>
  have lists:∀ {xs:List V} {ds ds' es:List D} {b b':Bool},IsL X.K F xs ds->IsL X.K F xs ds'->wz (eqN n) ds es=g6 b->wz (eqN n) ds' es=g6 b'->b=b':=by
   intro xs
   induction xs with
   | nil=>intro ds ds' es b b' h1 h2 e1 e2; cases h1; cases h2; simp only [wz] at e1 e2; cases e1; cases e2; rfl
   | cons x xs ihx=>
    intro ds ds' es b b' h1 h2 e1 e2
    cases h1 with
    | cons a1 t1=>
     cases h2 with
     | cons a2 t2=>
      rename_i d ds d' ds'
      cases es with
      | nil=>simp only [wz] at e1 e2; cases e1; cases e2; rfl
      | cons e es=>
       unfold wz at e1 e2
       cases q:eqN n d e with
       | none=>rw [q] at e1; simp at e1
       | some k=>
        cases q2:eqN n d' e with
        | none=>rw [q2] at e2; simp at e2
        | some k'=>
         cases q3:wz (eqN n) ds es with
         | none=>rw [q,q3] at e1; simp at e1
         | some k3=>
          cases q4:wz (eqN n) ds' es with
          | none=>rw [q2,q4] at e2; simp at e2
          | some k4=>
           rw [q,q3] at e1
           rw [q2,q4] at e2
           rw [ih a1 a2 q q2,ihx t1 t2 q3 q4] at e1
           have e1:g6 (k'&&k4)=g6 b:=e1
           have e2:g6 (k'&&k4)=g6 b':=e2
           rw [e1] at e2
           exact aU.inj e2
  intro v d d' e b b' h1 h2 e1 e2
  cases h1 with
  | tup p1 t1=>
   cases h2 with
   | tup p2 t2=>
    have q:=I.tuple_inj (qN sb p1) (qN sb p2)
    subst q
    have hl:=t1.length.symm.trans t2.length
    cases e with
    | tup es=>
     rename_i ds ds'
     simp only [eqN] at e1 e2
     cases q3:wz (eqN n) ds es with
     | none=>rw [q3] at e1; simp at e1
     | some k3=>
      cases q4:wz (eqN n) ds' es with
      | none=>rw [q4] at e2; simp at e2
      | some k4=>
       rw [q3] at e1
       rw [q4] at e2
       rw [lists t1 t2 q3 q4,hl] at e1
       exact aU.inj (e1.symm.trans e2)
    | _=>simp only [eqN,eqS] at e1 e2 <;> first | (cases e1; cases e2; rfl) | (cases e1; done)
   | lst p2 t2=>exact (notTL p1 p2).elim
   | _=>cases e <;> simp [eqN,eqS] at e2
  | lst p1 t1=>
   cases h2 with
   | lst p2 t2=>
    have q:=I.list_inj (sb.seq p1) (sb.seq p2)
    subst q
    have hl:=t1.length.symm.trans t2.length
    cases e with
    | lst es=>
     rename_i ds ds'
     simp only [eqN] at e1 e2
     rw [hl] at e1
     by_cases z:ds'.length=es.length
     ·rw [if_pos z] at e1 e2
      exact lists t1 t2 e1 e2
     ·rw [if_neg z] at e1 e2
      exact aU.inj (e1.symm.trans e2)
    | _=>simp only [eqN,eqS] at e1 e2 <;> first | (cases e1; cases e2; rfl) | (cases e1; done)
   | tup p2 t2=>exact (notTL p2 p1).elim
   | _=>cases e <;> simp [eqN,eqS] at e2
  | _=>cases h2 <;> cases e <;> simp only [eqN,eqS] at e1 e2 <;> first
   | (cases e1; cases e2; rfl)
   | (cases e1; done)
   | (cases e2; done)
open Classical in
noncomputable def qbi (X:Cx) (F:Hp) (n:Nat) (e:D) (u:g9):Bool:=decide (∃ v d,Is X.K F v d/\RelV v u/\eqN n d e=g6 hZ)
open Classical in
theorem qd8 (I:Inv X pins σ H s) (sb:Same F H) {u:g9} (h:Is X.K F v d) (r:RelV v u) (q:eqN n d e=g6 b):qbi X F n e u=b:=by
 unfold qbi
 cases b with
 | true=>exact decide_eq_true ⟨v,d,h,r,q⟩
 | false=>
  refine decide_eq_false ?_
  rintro ⟨w,d',h',r',q'⟩
  have e:=r.inj r'
  subst e
  exact absurd (qd7 I sb n h h' q q') 'c'
noncomputable def JP (n:Nat) (e:D):List D->Option Bool
 | []=>g6 hJ
 | d::ds=>(eqN n d e).bind λa=>(JP n e ds).bind λb=>g6 (a||b)
theorem ZW {ds:List D} (h:JP n e (d::ds)=g6 b):∃ a c,eqN n d e=g6 a/\JP n e ds=g6 c/\b=(a||c):=by
 unfold JP at h
 cases q:eqN n d e with
 | none=>rw [q] at h; simp at h
 | some a=>
  cases q2:JP n e ds with
  | none=>rw [q,q2] at h; simp at h
  | some c=>rw [q,q2] at h; exact ⟨a,c,rfl,rfl,(aU.inj h).symm⟩
theorem ZX (I:Inv X pins σ H s) (sb:Same F H):∀ {vs:List V} {ds:List D} {us:List g9} {b:Bool},IsL X.K F vs ds->Vals vs us->JP n e ds=g6 b->us.any (qbi X F n e)=b/\∀ u∈us,∃ v d a,Is X.K F v d/\RelV v u/\eqN n d e=g6 a/\qbi X F n e u=a
 | _,_,_,b,.nil,.nil,h=>⟨by simpa using (aU.inj h),λu hu=>nomatch hu⟩
 | _,_,_,b,.cons i t,.cons r rs,h=>by
  obtain ⟨a,c,q1,q2,rfl⟩:=ZW h
  obtain ⟨ih1,ih2⟩:=ZX I sb t rs q2
  have e1:=qd8 I sb i r q1
  refine ⟨by rw [cG,e1,ih1],λu hu=>?_⟩
  rcases ae.mp hu with rfl | hu
  ·exact ⟨_,_,a,i,r,q1,e1⟩
  ·exact ih2 u hu
end
noncomputable def inD (x y:D):Out Bool:=match y with
 | .lst ds=>match JP 7 x ds with
  | some b=>.ok b
  | none=>.bad
 | .tup ds=>match JP 7 x ds with
  | some b=>.ok b
  | none=>.bad
 | _=>.bad
noncomputable def qhu (x y:D):Out D:=(inD x y).bind λb=>.ok (.bl b)
noncomputable def XI (x y:D):Out D:=(inD x y).bind λb=>.ok (.bl (!b))
theorem TopIs.is {K:Frag} (s:Same F H) (h:TopIs K F H v d):∃ F',Same F F'/\Same F' H/\Is K F' v d:=by
 rcases h with h | ⟨a,rfl,o⟩
 ·exact ⟨F,Same.refl _,s,h⟩
 ·obtain ⟨u,hu⟩:∃ u,H a=g6 u:=by
   cases q:H a with
   | none=>exact absurd q o.there
   | some u=>exact ⟨u,rfl⟩
  by_cases hF:F a=g7
  ·have gr:Same F (upd F a u):=λb w e=>by rw [qC (qJ e hF)]; exact e
   refine ⟨upd F a u,gr,λb w e=>?_,?_⟩
   ·by_cases q:b=a
    ·subst q; rw [qp] at e; cases e; exact hu
    ·rw [qC q] at e; exact s b w e
   ·cases d with
    | lst ds=>obtain ⟨xs,e,t⟩:=o; rw [hu] at e; cases e; exact .lst (.inl (.inl qp)) (t.mono gr)
    | dct ds=>obtain ⟨xs,e,t⟩:=o; rw [hu] at e; cases e; exact .dct qp (t.mono gr)
    | ins C fs=>obtain ⟨dx,xs,e,t⟩:=o; rw [hu] at e; cases e; exact .ins qp (t.mono gr)
    | at_ b ds=>obtain ⟨eb,xs,e,t⟩:=o; rw [hu] at e; cases e; subst eb; exact .at_ (.inl (.inl qp)) (t.mono gr)
    | _=>exact o.elim
  ·obtain ⟨w,hw⟩:∃ w,F a=g6 w:=by
    cases q:F a with
    | none=>exact absurd q hF
    | some w=>exact ⟨w,rfl⟩
   have e:=s a w hw
   cases d with
   | lst ds=>obtain ⟨xs,e',t⟩:=o; rw [e'] at e; cases e; exact ⟨F,Same.refl _,s,.lst (.inl (.inl hw)) t⟩
   | dct ds=>obtain ⟨xs,e',t⟩:=o; rw [e'] at e; cases e; exact ⟨F,Same.refl _,s,.dct hw t⟩
   | ins C fs=>obtain ⟨dx,xs,e',t⟩:=o; rw [e'] at e; cases e; exact ⟨F,Same.refl _,s,.ins hw t⟩
   | at_ b ds=>obtain ⟨eb,xs,e',t⟩:=o; rw [e'] at e; cases e; subst eb; exact ⟨F,Same.refl _,s,.at_ (.inl (.inl hw)) t⟩
   | _=>exact o.elim
section
variable {C:Ct}
theorem Ys {A:ii} {y x:V} {dx:D} {ds:List D} {b:Bool} {u v:g9} {a:Addr} {us:List g9} {xs:List V} (I:Inv X pins σ H s) (hu:A.units+64 < cLine) (sb:Same F H) (ix:Is X.K F x dx) (rx:RelV x v)
  (il:IsL X.K F xs ds) (r:Vals xs us) (h:JP 7 dx ds=g6 b):us.any (qbi X F 7 dx)=b/\∀ w,w∈us.toArray->EqAt A.in1 s w v (qbi X F 7 dx w):=by
 obtain ⟨h1,h2⟩:=ZX I sb il r h
 refine ⟨h1,λw hw=>?_⟩
 obtain ⟨vv,d,k,i1,r1,q,e⟩:=h2 w (by simpa using hw)
 rw [e]
 exact Yr I sb 7 (by show A.units+1+7 < cLine; omega) i1 ix r1 rx q
theorem qih (hK:C.K=X.K) (hu:X.A.units+64 < cLine):OpD X C .sh (compareOp .In) qhu:=by
 sleep 2
 obtain ⟨F,dx,dy,sb,tx,ty,po⟩:=h
 rw [hK] at tx ty
 unfold qhu inD at po
 obtain ⟨F',g',sb',ix⟩:=tx.is sb
 cases dy with
 | lst ds=>
  cases e:JP 7 dx ds with
  | none=>simp only [e] at po; exact po.elim
  | some b=>
   simp only [e] at po
   obtain ⟨a,xs,rfl,p,il⟩:=ty.lst sb
   cases ry
   obtain ⟨us,r,pl,_⟩:=I.list p
   obtain ⟨h1,h2⟩:=Ys (A:=X.A) (y:=.non) (a:=a) (u:=.none) I hu sb' ix rx (il.mono g') r e
   refine in_listAt (qbi X F' 7 dx) pl.isList h2 ⟨.bl b,H,I,by show _=_; rw [<-h1]; simp,po _ F H sb .refl (.bl _)⟩
 | tup ds=>
  cases e:JP 7 dx ds with
  | none=>simp only [e] at po; exact po.elim
  | some b=>
   simp only [e] at po
   obtain ⟨a,xs,rfl,p,il⟩:=ty.tup sb
   cases ry
   obtain ⟨us,r,pl,_⟩:=I.tuple p
   obtain ⟨h1,h2⟩:=Ys (A:=X.A) (y:=.non) (a:=a) (u:=.none) I hu sb' ix rx (il.mono g') r e
   refine in_tupleAt (qbi X F' 7 dx) pl h2 ⟨.bl b,H,I,by show _=_; rw [<-h1]; simp,po _ F H sb .refl (.bl _)⟩
 | _=>exact po.elim
theorem qbI (hK:C.K=X.K) (hu:X.A.units+64 < cLine):OpD X C .sh (compareOp .NotIn) XI:=by
 sleep 2
 obtain ⟨F,dx,dy,sb,tx,ty,po⟩:=h
 rw [hK] at tx ty
 unfold XI inD at po
 obtain ⟨F',g',sb',ix⟩:=tx.is sb
 cases dy with
 | lst ds=>
  cases e:JP 7 dx ds with
  | none=>simp only [e] at po; exact po.elim
  | some b=>
   simp only [e] at po
   obtain ⟨a,xs,rfl,p,il⟩:=ty.lst sb
   cases ry
   obtain ⟨us,r,pl,_⟩:=I.list p
   obtain ⟨h1,h2⟩:=Ys (A:=X.A) (y:=.non) (a:=a) (u:=.none) I hu sb' ix rx (il.mono g') r e
   refine notIn_listAt (qbi X F' 7 dx) pl.isList h2 ⟨.bl (!b),H,I,by show _=_; rw [<-h1]; simp,po _ F H sb .refl (.bl _)⟩
 | tup ds=>
  cases e:JP 7 dx ds with
  | none=>simp only [e] at po; exact po.elim
  | some b=>
   simp only [e] at po
   obtain ⟨a,xs,rfl,p,il⟩:=ty.tup sb
   cases ry
   obtain ⟨us,r,pl,_⟩:=I.tuple p
   obtain ⟨h1,h2⟩:=Ys (A:=X.A) (y:=.non) (a:=a) (u:=.none) I hu sb' ix rx (il.mono g') r e
   refine notIn_tupleAt (qbi X F' 7 dx) pl h2 ⟨.bl (!b),H,I,by show _=_; rw [<-h1]; simp,po _ F H sb .refl (.bl _)⟩
 | _=>exact po.elim
end
end L2.D2
namespace L2.D2
open PySem PySem.Spec PyProof.Rows
def PoT (C:Ct) (own:List Nat) (σ:St) (F H:Hp) (r:Out (Bool×Sl)) (Q:Bool->Hp->Prop):Prop:=match r with
 | .ok (b,ρ')=>∀ F' H',Rep C.K own F' H' σ ρ'->Chg (OA own σ) F H F' H'->Q b H'
 | .exc c ρ'=>∀ F' H',Same F' H'->Zv C.K C.ox F' H' σ ρ'->Chg (OA own σ) F H F' H'->C.E (C.cv c) g7 H'
 | .bad=>False
def tT (C:Ct) (own:List Nat) (f:Sl->Out (Bool×Sl)):TT:=λσ H Q=>∃ F ρ,Rep C.K own F H σ ρ/\PoT C own σ F H (f ρ) Q
variable {C:Ct} {own:List Nat} {σ:St} {F H F1 H1:Hp} {Q:Bool->Hp->Prop}
theorem PoT.shift {r:Out (Bool×Sl)} (h:PoT C own σ F H r Q) (c:Chg (OA own σ) F H F1 H1):PoT C own σ F1 H1 r Q:=by
 cases r with
 | ok p=>exact λF' H' rp c'=>h F' H' rp (c.trans' c')
 | exc x=>exact λF' H' s io c'=>h F' H' s io (c.trans' c')
 | bad=>exact h.elim
variable {o:Out (D×Sl)}
theorem PoT.bindV {ma:Mo} {k:D×Sl->Out (Bool×Sl)} {R:VK} (hp:PoT C own σ F H (o.bind k) Q)
  (h:∀ v F1 H1 d ρ1,Rep C.K own F1 H1 σ ρ1->Chg (OA own σ) F H F1 H1->MoIs C.K ma H F1 H1 v d->PoT C own σ F1 H1 (k (d,ρ1)) Q->R v H1):Po C own ma σ F H o R:=by
 cases o with
 | ok p=>
  obtain ⟨d,ρ1⟩:=p
  exact λv F1 H1 rp c mo=>h v F1 H1 d ρ1 rp c mo (PoT.shift (show PoT C own σ F H (k (d,ρ1)) Q from hp) c)
 | exc x=>exact hp
 | bad=>exact hp.elim
theorem PoT.bindT {o:Out (Bool×Sl)} {k:Bool×Sl->Out (Bool×Sl)} {R:Bool->Hp->Prop} (hp:PoT C own σ F H (o.bind k) Q)
  (h:∀ F1 H1 b ρ1,Rep C.K own F1 H1 σ ρ1->Chg (OA own σ) F H F1 H1->PoT C own σ F1 H1 (k (b,ρ1)) Q->R b H1):PoT C own σ F H o R:=by
 cases o with
 | ok p=>
  obtain ⟨d,ρ1⟩:=p
  exact λF1 H1 rp c=>h F1 H1 d ρ1 rp c (PoT.shift (show PoT C own σ F H (k (d,ρ1)) Q from hp) c)
 | exc x=>exact hp
 | bad=>exact hp.elim
variable {m:Mo}
theorem Po.bindT {o:Out (Bool×Sl)} {k:Bool×Sl->Out (D×Sl)} {Q:VK} {R:Bool->Hp->Prop} (hp:Po C own m σ F H (o.bind k) Q)
  (h:∀ F1 H1 b ρ1,Rep C.K own F1 H1 σ ρ1->Chg (OA own σ) F H F1 H1->Po C own m σ F1 H1 (k (b,ρ1)) Q->R b H1):PoT C own σ F H o R:=by
 cases o with
 | ok p=>
  obtain ⟨d,ρ1⟩:=p
  exact λF1 H1 rp c=>h F1 H1 d ρ1 rp c (Po.shift (show Po C own m σ F H (k (d,ρ1)) Q from hp) c)
 | exc x=>exact hp
 | bad=>exact hp.elim
noncomputable def wQ:D->Out Bool
 | .non=>.ok hJ
 | .bl b=>.ok b
 | .int i=>.ok (i != 0)
 | .str x=>.ok ((x.length:Int) != 0)
 | .tup xs=>.ok (!xs.isEmpty)
 | .lst xs=>.ok (!xs.isEmpty)
 | .dct xs=>.ok (!xs.isEmpty)
 | .raw _=>.bad
 | .xcp _=>.bad
 | .ins _ _=>.bad
 | .at_ _ _=>.bad
noncomputable def xq (f:Sl->Out (D×Sl)):Sl->Out (Bool×Sl):=λρ=>(f ρ).bind λp=>(wQ p.1).bind λb=>.ok (b,p.2)
variable {K:Frag} {vs:List V} {ds:List D}
theorem IsL.isEmpty (h:IsL K F vs ds):vs.isEmpty=ds.isEmpty:=by cases h <;> rfl
theorem IsK.isEmpty {vs:List (Key×V)} {ds:List (Key×D)} (h:IsK K F vs ds):vs.isEmpty=ds.isEmpty:=by cases h <;> rfl
variable {v:V} {d:D}
theorem qd9 {b:Bool} (s:Same F H) (h:TopIs K F H v d) (e:wQ d=.ok b):qh4 K v H b:=by
 cases d with
 | non=>obtain rfl:=h.non; cases e; rfl
 | bl x=>obtain rfl:=h.bl; cases e; rfl
 | int x=>obtain rfl:=h.int; cases e; rfl
 | str x=>obtain ⟨rfl,q⟩:=h.str; cases e; exact ⟨q,rfl⟩
 | tup x=>obtain ⟨a,xs,rfl,p,t⟩:=h.tup s; cases e; exact .inr (.inl ⟨xs,p,by rw [t.isEmpty]⟩)
 | lst x=>obtain ⟨a,xs,rfl,p,t⟩:=h.lst s; cases e; exact .inl ⟨xs,p,by rw [t.isEmpty]⟩
 | dct x=>obtain ⟨a,xs,rfl,p,t⟩:=h.dct s; cases e; exact .inr (.inr ⟨xs,p,by rw [t.isEmpty]⟩)
 | raw x=>cases e
 | xcp x=>cases e
 | ins x y=>cases e
 | at_ x y=>cases e
noncomputable def qV (f:Sl->Out (D×Sl)):Sl->Out (Bool×Sl):=λρ=>(f ρ).bind λp=>match p.1 with
 | .bl b=>.ok (b,p.2)
 | _=>.bad
variable {X:Cx} {c e:Expr} {f fa:Sl->Out (D×Sl)} {ft:Sl->Out (Bool×Sl)} {ma mb:Mo} {pos:Pos} {op op':CmpOp} {g g':D->D->Out D} {ρ:Sl}
section
variable {a b:Expr} {fb fc:Sl->Out (D×Sl)} {fu:Sl->Out (Bool×Sl)} {mc:Mo} {rest:List Expr}
theorem jv (hK:C.K=X.K) (h:PE X e (tE C own m f)) (he:∀ whole,isTrue e X.env whole=(do let v <-whole; standAt e.pos; holding [v] (truthy v))):PT X e (tT C own (xq f)):=by
 refine qbE (qbs h he) λσ H Q ⟨F,ρ,rp,h⟩=>⟨F,ρ,rp,PoT.bindV h λv F1 H1 d ρ1 rp1 c1 mo1 h1=>?_⟩
 cases q:wQ d with
 | ok k=>
  have h1:PoT C own σ F1 H1 ((wQ d).bind λb=>.ok (b,ρ1)) Q:=h1
  rw [q] at h1
  exact ⟨k,by rw [<-hK]; exact qd9 rp1.sub mo1.top q,h1 F1 H1 rp1 .refl⟩
 | exc x=>
  have h1:PoT C own σ F1 H1 ((wQ d).bind λb=>.ok (b,ρ1)) Q:=h1
  cases d <;> cases q
 | bad=>
  have h1:PoT C own σ F1 H1 ((wQ d).bind λb=>.ok (b,ρ1)) Q:=h1
  rw [q] at h1
  exact h1.elim
theorem ZY (h:tT C own (qV f) σ H Q):tE C own .sh f σ H λx H'=>∃ k,x=.bl k/\Q k H':=by
 obtain ⟨F,ρ,rp,h⟩:=h
 refine ⟨F,ρ,rp,PoT.bindV h λv F1 H1 d ρ1 rp1 c1 mo1 h1=>?_⟩
 cases d with
 | bl k=>
  have mo1:Is C.K F1 v (.bl k):=mo1
  cases mo1
  exact ⟨k,rfl,h1 F1 H1 rp1 .refl⟩
 | _=>exact h1.elim
theorem qM (ho:OpD X C .sh (compareOp op) g) (ha:PE X a (tE C own ma fa)) (hb:PE X b (tE C own mb fb)) (hma:ma≠.any:=by decide)
  (hk:behindInMarks op b=false:=by first | exact qc2 _ | with_unfolding_all rfl):PT X (.Compare a [op] [b] pos) (tT C own (qV (d2 g fa fb))):=by
 refine qbE (qdT ho ha hb hk) λσ H Q h=>?_
 exact Vw hma (ZY h)
noncomputable def QV (ft:Sl->Out (Bool×Sl)):Sl->Out (Bool×Sl):=λρ=>(ft ρ).bind λp=>.ok (!p.1,p.2)
theorem jP (h:PT X a (tT C own ft)):PT X (.UnaryOp .Not a pos) (tT C own (QV ft)):=by
 refine qbE (qfJ h) λσ H Q ⟨F,ρ,rp,h⟩=>⟨F,ρ,rp,PoT.bindT h λF1 H1 b ρ1 rp1 c1 h1=>h1 F1 H1 rp1 .refl⟩
theorem qgk {e:Expr} {t t':TT} (h:PW X e t) (i:∀ σ H Q,t' σ H Q->t σ H Q):PW X e t':=⟨λwh pins s σ H Q I hw=>h wh pins s σ H Q I (i σ H Q hw)⟩
noncomputable def qea (ft fu:Sl->Out (Bool×Sl)):Sl->Out (Bool×Sl):=λρ=>(ft ρ).bind λp=>if p.1=hZ then fu p.2 else .ok (hJ,p.2)
noncomputable def dOr (ft fu:Sl->Out (Bool×Sl)):Sl->Out (Bool×Sl):=λρ=>(ft ρ).bind λp=>if p.1=hZ then .ok (hZ,p.2) else fu p.2
theorem va {op} (h:PT X a (tT C own ft)):PW X (.BoolOp op [a] pos) (tT C own ft):=by
 cases op
 ·exact qdL h
 ·exact qfH h
theorem ZZ (ha:PT X a (tT C own ft)) (hb:PW X (.BoolOp .And (b::rest) pos) (tT C own fu)):PW X (.BoolOp .And (a::b::rest) pos) (tT C own (qea ft fu)):=by
 refine qgk (qfI ha hb) λσ H Q ⟨F,ρ,rp,h⟩=>⟨F,ρ,rp,PoT.bindT h λF1 H1 k ρ1 rp1 c1 h1=>?_⟩
 cases k with
 | true=>exact ⟨F1,ρ1,rp1,h1⟩
 | false=>exact h1 F1 H1 rp1 .refl
theorem yI (ha:PT X a (tT C own ft)) (hb:PW X (.BoolOp .Or (b::rest) pos) (tT C own fu)):PW X (.BoolOp .Or (a::b::rest) pos) (tT C own (dOr ft fu)):=by
 refine qgk (qhO ha hb) λσ H Q ⟨F,ρ,rp,h⟩=>⟨F,ρ,rp,PoT.bindT h λF1 H1 k ρ1 rp1 c1 h1=>?_⟩
 cases k with
 | true=>exact h1 F1 H1 rp1 .refl
 | false=>exact ⟨F1,ρ1,rp1,h1⟩
noncomputable def Vz (fa fb:Sl->Out (D×Sl)):Sl->Out (D×Sl):=λρ=>(fa ρ).bind λp=>match p.1 with
 | .bl hZ=>fb p.2
 | .bl hJ=>.ok (.bl hJ,p.2)
 | _=>.bad
noncomputable def qiZ (fa fb:Sl->Out (D×Sl)):Sl->Out (D×Sl):=λρ=>(fa ρ).bind λp=>match p.1 with
 | .bl hZ=>.ok (.bl hZ,p.2)
 | .bl hJ=>fb p.2
 | _=>.bad
theorem Yt {op} (h:PE X a (tE C own m f)):PE X (.BoolOp op [a] pos) (tE C own m f):=qfK h
theorem VA (ha:PE X a (tE C own .sh fa)) (hb:PE X (.BoolOp .And (b::rest) pos) (tE C own .sh fb)):PE X (.BoolOp .And (a::b::rest) pos) (tE C own .sh (Vz fa fb)):=by
 refine kn (qfL ha hb) λσ H Q ⟨F,ρ,rp,h⟩=>⟨F,ρ,rp,Po.bind h λv F1 H1 d ρ1 rp1 c1 mo1 h1=>?_⟩
 cases d with
 | bl k=>
  have mo1:Is C.K F1 v (.bl k):=mo1
  cases mo1
  refine ⟨k,rfl,?_⟩
  cases k with
  | true=>exact ⟨F1,ρ1,rp1,h1⟩
  | false=>exact h1 _ F1 H1 rp1 .refl (.bl _)
 | _=>exact h1.elim
noncomputable def dIf (ft:Sl->Out (Bool×Sl)) (fa fb:Sl->Out (D×Sl)):Sl->Out (D×Sl):=λρ=>(ft ρ).bind λp=>if p.1=hZ then fa p.2 else fb p.2
theorem WZ {t:Expr} (ht:PT X t (tT C own ft)) (ha:PE X a (tE C own ma fa)) (hb:PE X b (tE C own mb fb)) (h1:ma≠.any:=by decide) (h2:mb≠.any:=by decide):PE X (.IfExp t a b pos) (tE C own .sh (dIf ft fa fb)):=by
 refine kn (qbl ht (yT ha h1) (yT hb h2)) λσ H Q ⟨F,ρ,rp,h⟩=>⟨F,ρ,rp,Po.bindT h λF1 H1 k ρ1 rp1 c1 h1=>?_⟩
 cases k with
 | true=>exact ⟨F1,ρ1,rp1,h1⟩
 | false=>exact ⟨F1,ρ1,rp1,h1⟩
noncomputable def xu (g g':D->D->Out D) (fa fb fc:Sl->Out (D×Sl)):Sl->Out (D×Sl):=λρ=>(fa ρ).bind λp=>(fb p.2).bind λq=>(g p.1 q.1).plain.bind λz=>match z with
 | .bl hZ=>(fc q.2).bind λr=>(g' q.1 r.1).plain.bind λd=>.ok (d,r.2)
 | .bl hJ=>.ok (.bl hJ,q.2)
 | _=>.bad
theorem PoV.bind {o:Out D} {k:D->Out (D×Sl)} {Q R:VK} (rp:Rep C.K own F H σ ρ) (h:Po C own m σ F H (o.plain.bind k) Q)
  (hk:∀ v F1 H1 d,Rep C.K own F1 H1 σ ρ->Chg No F H F1 H1->MoIs C.K ma H F1 H1 v d->Po C own m σ F1 H1 (k d) Q->R v H1):PoV C ma F H o R:=by
 cases o with
 | ok d=>exact λv F1 H1 s c mo=>hk v F1 H1 d (rp.grow c s) c mo (Po.shift (show Po C own m σ F H (k d) Q from h) c.ofNo)
 | exc c=>exact h.elim
 | bad=>exact h.elim
theorem Yu {Q:VK} (hma:ma≠.any) (hmb:mb≠.any) (h:tE C own .sh (xu g g' fa fb fc) σ H Q) :
  ZE (λx y H Q=>∃ F dx dy,Same F H/\TopIs C.K F H x dx/\TopIs C.K F H y dy/\PoV C .sh F H (g dx dy) Q) (λx y H Q=>∃ F dx dy,Same F H/\TopIs C.K F H x dx/\TopIs C.K F H y dy/\PoV C .sh F H (g' dx dy) Q)
   (tE C own ma fa) (tE C own mb fb) (tE C own mc fc) σ H Q:=by
 obtain ⟨F,ρ,rp,h⟩:=h
 refine ⟨F,ρ,rp,Po.bind h λv F1 H1 d ρ1 rp1 c1 mo1 h1=>⟨F1,ρ1,rp1,Po.bind h1 λw F2 H2 e ρ2 rp2 c2 mo2 h2=>?_⟩⟩
 have oa:∀ x,OA own σ x->H x≠none:=λx z=>(rp.OA_there z).1
 have oa1:∀ x,OA own σ x->H1 x≠none:=λx z=>(rp1.OA_there z).1
 refine ⟨F2,d,e,rp2.sub,(mo1.grow hma c2 oa).top,mo2.top,PoV.bind (m:=.sh) rp2 h2 λz F3 H3 dz rp3 c3 mo3 h3=>?_⟩
 cases dz with
 | bl k=>
  have mo3:Is C.K F3 z (.bl k):=mo3
  cases mo3
  refine ⟨k,rfl,?_⟩
  cases k with
  | true=>
   refine ⟨F3,ρ2,rp3,Po.bind h3 λw' F4 H4 r ρ4 rp4 c4 mo4 h4=>?_⟩
   exact ⟨F4,e,r,rp4.sub,((mo2.grow hmb (c3.ofNo) oa1).grow hmb c4 oa1).top,mo4.top,PoV.of rp4 h4⟩
  | false=>exact h3 _ F3 H3 rp3 .refl (.bl _)
 | _=>exact h3.elim
theorem Yv (ho:OpD X C .sh (compareOp op) g) (ho':OpD X C .sh (compareOp op') g') (ha:PE X a (tE C own ma fa)) (hb:PE X b (tE C own mb fb)) (hc:PE X c (tE C own mc fc)) (hma:ma≠.any:=by decide) (hmb:mb≠.any:=by decide)
  (hm:lastMarks [op,op'] [b,c]=false:=by with_unfolding_all rfl):PE X (.Compare a [op,op'] [b,c] pos) (tE C own .sh (xu g g' fa fb fc)):=kn (qbq ho ho' ha hb hc hm) λ_ _ _ h=>Yu hma hmb h
theorem VB (ho:OpD X C .sh (compareOp op) g) (ho':OpD X C .sh (compareOp op') g') (ha:PE X a (tE C own ma fa)) (hb:PE X b (tE C own mb fb)) (hc:PE X c (tE C own mc fc)) (hma:ma≠.any:=by decide) (hmb:mb≠.any:=by decide)
  (hm:lastMarks [op,op'] [b,c]=false:=by with_unfolding_all rfl):PT X (.Compare a [op,op'] [b,c] pos) (tT C own (qV (xu g g' fa fb fc))):=qbE (qbr ho ho' ha hb hc hm) λ_ _ _ h=>Yu hma hmb (ZY h)
theorem Ga:OpR X (compareOp .LtE) (λx y H Q=>∃ i j,x=.str i/\y=.str j/\Q (.bl (!vP j i)) H):=by
 sleep 2
 obtain ⟨i,j,rfl,rfl,q⟩:=h
 obtain ⟨t,rfl⟩:=rx
 obtain ⟨t',rfl⟩:=ry
 exact PySem.P.le_str (Yj I q (by simp [vP]))
noncomputable def leD:D->D->Out D
 | .int i,.int j=>.ok (.bl (decide (i<=j)))
 | .str x,.str y=>.ok (.bl (!vP y x))
 | _,_=>.bad
theorem VC:OpD X C .sh (compareOp .LtE) leD:=by
 sleep 2
 obtain ⟨F,dx,dy,sb,tx,ty,po⟩:=h
 cases dx <;> try exact po.elim
 ·cases dy <;> try exact po.elim
  obtain rfl:=tx.int
  obtain rfl:=ty.int
  exact qh1 pins s σ H _ _ v u Q I rx ry ⟨_,_,rfl,rfl,po _ F H sb .refl (.bl _)⟩
 ·cases dy <;> try exact po.elim
  obtain ⟨rfl,_⟩:=tx.str
  obtain ⟨rfl,_⟩:=ty.str
  exact Ga pins s σ H _ _ v u Q I rx ry ⟨_,_,rfl,rfl,po _ F H sb .refl (.bl _)⟩
noncomputable def gtD:D->D->Out D:=uz λi j=>.ok (.bl (decide (j < i)))
theorem qeb:OpD X C .sh (compareOp .Gt) gtD:=WX qh2 λ_ _ _=>.bl _
noncomputable def geD:D->D->Out D:=uz λi j=>.ok (.bl (decide (j<=i)))
theorem qec:OpD X C .sh (compareOp .GtE) geD:=WX qh3 λ_ _ _=>.bl _
noncomputable def qed:D->D->Out D
 | .non,.non=>.ok (.bl hZ)
 | .raw _,.non=>.bad
 | _,.non=>.ok (.bl hJ)
 | _,_=>.bad
noncomputable def qee:D->D->Out D
 | .non,.non=>.ok (.bl hJ)
 | .raw _,.non=>.bad
 | _,.non=>.ok (.bl hZ)
 | _,_=>.bad
theorem TopIs.notN (h:TopIs K F H v d) (h1:d≠.non) (h2:∀ u,d≠.raw u):v≠.non:=by
 rintro rfl
 rcases h with h | ⟨a,e,_⟩
 ·cases h
  ·exact h1 rfl
  ·exact h2 _ rfl
 ·cases e
theorem qc3:OpD X C .sh (compareOp .Is) qed:=by
 sleep 2
 obtain ⟨F,dx,dy,sb,tx,ty,po⟩:=h
 have hy:dy=.non:=by cases dy <;> first | rfl | (cases dx <;> exact po.elim)
 subst hy
 obtain rfl:=ty.non
 refine qfZ pins s σ H x .non v u Q I rx ry ⟨rfl,?_⟩
 cases dx with
 | non=>obtain rfl:=tx.non; exact po _ F H sb .refl (.bl _)
 | raw _=>exact po.elim
 | _=>rw [decide_eq_false (tx.notN (by intro z; cases z) (by intro _ z; cases z))]; exact po _ F H sb .refl (.bl _)
theorem qef:OpD X C .sh (compareOp .IsNot) qee:=by
 sleep 2
 obtain ⟨F,dx,dy,sb,tx,ty,po⟩:=h
 have hy:dy=.non:=by cases dy <;> first | rfl | (cases dx <;> exact po.elim)
 subst hy
 obtain rfl:=ty.non
 refine qdR pins s σ H x .non v u Q I rx ry ⟨rfl,?_⟩
 cases dx with
 | non=>obtain rfl:=tx.non; exact po _ F H sb .refl (.bl _)
 | raw _=>exact po.elim
 | _=>rw [decide_eq_false (tx.notN (by intro z; cases z) (by intro _ z; cases z))]; exact po _ F H sb .refl (.bl _)
end
inductive Fl where
 | nx | rt (d:D) | bk | ct
structure Nx (C:Ct) (own own':List Nat) (σ:St) (F H:Hp) (ρ':Sl) (σ':St) (F' H':Hp):Prop where
 rep:Rep C.K own' F' H' σ' ρ'
 chg:Chg (OA own σ) F H F' H'
 oa:∀ b,OA own' σ' b->OA own σ b\/H b=g7
 io:∀ i∈C.io,σ'[i]?=σ[i]?
def PoS (C:Ct) (own own':List Nat) (σ:St) (F H:Hp) (r:Out (Fl×Sl)) (D:Ends):Prop:=match r with
 | .ok (.nx,ρ')=>∀ σ' F' H',Nx C own own' σ F H ρ' σ' F' H'->D.nx σ' H'
 | .ok (.rt d,ρ')=>∀ v σ' F' H',Same F' H'->Zv C.K C.io F' H' σ' ρ'->Chg (OA own σ) F H F' H'->(∀ i∈C.io,σ'[i]?=σ[i]?)->MoIs C.K C.mr H F' H' v d->D.rt v H'
 | .ok (.bk,ρ')=>∀ σ' F' H',Nx C own C.ol σ F H ρ' σ' F' H'->D.bk σ' H'
 | .ok (.ct,ρ')=>∀ σ' F' H',Nx C own C.ol σ F H ρ' σ' F' H'->D.ct σ' H'
 | .exc c ρ'=>∀ F' H',Same F' H'->Zv C.K C.ox F' H' σ ρ'->Chg (OA own σ) F H F' H'->C.E (C.cv c) g7 H'
 | .bad=>False
def tSt (C:Ct) (own own':List Nat) (f:Sl->Out (Fl×Sl)):TS:=λD σ H=>∃ F ρ,Rep C.K own F H σ ρ/\PoS C own own' σ F H (f ρ) D
variable {o1 o2 o3:List Nat} {σ1:St} {ρ1:Sl}
theorem Nx.then {σ2:St} {F2 H2:Hp} {ρ2:Sl} (a:Nx C o1 o2 σ F H ρ1 σ1 F1 H1) (b:Nx C o2 o3 σ1 F1 H1 ρ2 σ2 F2 H2):Nx C o1 o3 σ F H ρ2 σ2 F2 H2 where
 rep:=b.rep
 chg:=a.chg.trans b.chg a.oa
 oa:=λx h=>by
  rcases b.oa x h with z | z
  ·exact a.oa x z
  ·refine .inr ?_
   cases q:H x with
   | none=>rfl
   | some o=>exact absurd z (a.chg.stay x (by rw [q]; simp))
 io:=λi hi=>(b.io i hi).trans (a.io i hi)
theorem PoS.shift {r:Out (Fl×Sl)} {D:Ends} (h:PoS C o1 o3 σ F H r D) (a:Nx C o1 o2 σ F H ρ1 σ1 F1 H1):PoS C o2 o3 σ1 F1 H1 r D:=by
 cases r with
 | ok p=>
  obtain ⟨fl,ρ'⟩:=p
  cases fl with
  | nx=>exact λσ' F' H' n=>h σ' F' H' (a.then n)
  | rt d=>exact λv σ' F' H' s io c e mo=>h v σ' F' H' s io (a.chg.trans c a.oa) (λi hi=>(e i hi).trans (a.io i hi)) (MoIs.back (Ha:=H1) a.chg mo)
  | bk=>exact λσ' F' H' n=>h σ' F' H' (a.then n)
  | ct=>exact λσ' F' H' n=>h σ' F' H' (a.then n)
 | exc c=>exact λF' H' s io c'=>h F' H' s (λi hi=>by
   obtain ⟨d,b,e1,e2,e3⟩:=io i hi
   exact ⟨d,b,e1,by rw [<-a.io i (C.oxs i hi)]; exact e2,e3⟩) (a.chg.trans c' a.oa)
 | bad=>exact h.elim
theorem Nx.ofE (r:Rep C.K own F1 H1 σ ρ1) (c:Chg (OA own σ) F H F1 H1):Nx C own own σ F H ρ1 σ F1 H1:=⟨r,c,λ_ h=>.inl h,λ_ _=>rfl⟩
variable {own':List Nat}
theorem PoS.bindE {m:Mo} {k:D×Sl->Out (Fl×Sl)} {D:Ends} {R:VK} (hp:PoS C own own' σ F H (o.bind k) D)
  (h:∀ v F1 H1 d ρ1,Rep C.K own F1 H1 σ ρ1->Chg (OA own σ) F H F1 H1->MoIs C.K m H F1 H1 v d->PoS C own own' σ F1 H1 (k (d,ρ1)) D->R v H1):Po C own m σ F H o R:=by
 cases o with
 | ok p=>
  obtain ⟨d,ρ1⟩:=p
  exact λv F1 H1 rp c mo=>h v F1 H1 d ρ1 rp c mo (PoS.shift (show PoS C own own' σ F H (k (d,ρ1)) D from hp) (.ofE rp c))
 | exc x=>exact hp
 | bad=>exact hp.elim
theorem PoS.bindT {o:Out (Bool×Sl)} {k:Bool×Sl->Out (Fl×Sl)} {D:Ends} {R:Bool->Hp->Prop} (hp:PoS C own own' σ F H (o.bind k) D)
  (h:∀ F1 H1 b ρ1,Rep C.K own F1 H1 σ ρ1->Chg (OA own σ) F H F1 H1->PoS C own own' σ F1 H1 (k (b,ρ1)) D->R b H1):PoT C own σ F H o R:=by
 cases o with
 | ok p=>
  obtain ⟨d,ρ1⟩:=p
  exact λF1 H1 rp c=>h F1 H1 d ρ1 rp c (PoS.shift (show PoS C own own' σ F H (k (d,ρ1)) D from hp) (.ofE rp c))
 | exc x=>exact hp
 | bad=>exact hp.elim
variable {b a:Addr} {t':TS} {st:Stmt} {fe:Sl->Out (D×Sl)} {i:Nat} {x:Str} {pos':Pos}
section
variable {sts rest:List Stmt} {f g:Sl->Out (Fl×Sl)}
theorem JQ {t:TS} (h:PS X st t) (i:∀ D σ H,t' D σ H->t D σ H):PS X st t':=⟨λpins s σ H D I hw=>h pins s σ H D I (i D σ H hw)⟩
theorem Gb {t:TS} (h:PSs X sts t) (i:∀ D σ H,t' D σ H->t D σ H):PSs X sts t':=⟨λpins s σ H D I hw=>h pins s σ H D I (i D σ H hw)⟩
noncomputable def jV:Sl->Out (Fl×Sl):=λρ=>.ok (.nx,ρ)
noncomputable def qW (f g:Sl->Out (Fl×Sl)):Sl->Out (Fl×Sl):=λρ=>(f ρ).bind λp=>match p.1 with
 | .nx=>g p.2
 | fl=>.ok (fl,p.2)
theorem Nx.refl (r:Rep C.K own F H σ ρ):Nx C own own σ F H ρ σ F H:=.ofE r .refl
theorem qY:PSs X [] (tSt C own own jV):=Gb Zy λD σ H ⟨F,ρ,rp,h⟩=>h σ F H (.refl rp)
theorem qgl {D:Ends} (h:tSt C o1 o3 (qW f g) D σ H):tSt C o1 o2 f { D with nx:=tSt C o2 o3 g D } σ H:=by
 obtain ⟨F,ρ,rp,h⟩:=h
 refine ⟨F,ρ,rp,?_⟩
 unfold qW at h
 cases q:f ρ with
 | ok p=>
  rw [q] at h
  obtain ⟨fl,ρ1⟩:=p
  cases fl with
  | nx=>exact λσ' F' H' n=>⟨F',ρ1,n.rep,PoS.shift (show PoS C o1 o3 σ F H (g ρ1) D from h) n⟩
  | rt d=>exact h
  | bk=>exact h
  | ct=>exact h
 | exc c=>rw [q] at h; exact h
 | bad=>rw [q] at h; exact h.elim
theorem qg (h1:PS X st (tSt C o1 o2 f)) (h2:PSs X rest (tSt C o2 o3 g)):PSs X (st::rest) (tSt C o1 o3 (qW f g)):=Gb (qbm h1 h2) λD σ H h=>qgl h
theorem qm (h1:PS X st (tSt C o1 o2 f)):PSs X [st] (tSt C o1 o2 f):=qdM h1
theorem Rep.weak {K:Frag} {F H:Hp} {σ:St} {ρ:Sl}:∀ (drop:List Nat) {own own':List Nat},(∀ i,i∈own'↔i∈own/\i∉drop)->Rep K own F H σ ρ->∃ F',Rep K own' F' H σ ρ/\Chg (OA own σ) F H F' H
 | [],own,own',hs,rp=>⟨F,⟨rp.sub,rp.len,λi d hi=>rp.val i d λz=>hi ((hs i).mpr ⟨z,by simp⟩),λi d hi=>rp.ow i d ((hs i).mp hi).1,λi hi=>rp.opn i ((hs i).mp hi).1,λi j a hi hj=>rp.dis i j a ((hs i).mp hi).1 ((hs j).mp hj).1⟩,.refl⟩
 | k::r,own,own',hs,rp=>by
  obtain ⟨F1,rp1,c1⟩:=Rep.weak r (own:=own) (own':=own.filter λi=>decide (i∉r)) (λi=>by simp) rp
  by_cases hk:k∈own/\k∉r
  ·obtain ⟨d,hd⟩:=rp1.opn k (by simp [hk.1,hk.2])
   obtain ⟨a,h1,h2,h3⟩:=rp1.ow k d (by simp [hk.1,hk.2]) hd
   obtain ⟨u,hu⟩:∃ u,H a=g6 u:=by
    cases q:H a with
    | none=>exact absurd q h3.there
    | some u=>exact ⟨u,rfl⟩
   have gr:Same F1 (upd F1 a u):=λb w e=>by rw [qC (qJ e h2)]; exact e
   refine ⟨upd F1 a u,⟨λb w e=>?_,rp1.len,λi d' hi e=>?_,λi d' hi e=>?_,λi hi=>?_,λi j b hi hj=>?_⟩,?_⟩
   ·by_cases q:b=a
    ·subst q; rw [qp] at e; cases e; exact hu
    ·rw [qC q] at e; exact rp1.sub b w e
   ·by_cases q:i=k
    ·subst q
     rw [hd] at e; cases e
     refine ⟨_,h1,?_⟩
     cases d with
     | lst ds=>obtain ⟨xs,e,t⟩:=h3; rw [hu] at e; cases e; exact .lst (.inl (.inl qp)) (t.mono gr)
     | dct ds=>obtain ⟨xs,e,t⟩:=h3; rw [hu] at e; cases e; exact .dct qp (t.mono gr)
     | ins C fs=>obtain ⟨dx,xs,e,t⟩:=h3; rw [hu] at e; cases e; exact .ins qp (t.mono gr)
     | at_ b ds=>obtain ⟨eb,xs,e,t⟩:=h3; rw [hu] at e; cases e; subst eb; exact .at_ (.inl (.inl qp)) (t.mono gr)
     | _=>exact h3.elim
    ·obtain ⟨v,q1,q2⟩:=rp1.val i d' (λz=>by simp at z; exact hi ((hs i).mpr ⟨z.1,by simp [q,z.2]⟩)) e
     exact ⟨v,q1,q2.mono gr⟩
   ·have hi':=(hs i).mp hi
    have hik:i≠k:=λz=>hi'.2 (by simp [z])
    have hir:i∉r:=λz=>hi'.2 (by simp [z])
    obtain ⟨b,q1,q2,q3⟩:=rp1.ow i d' (by simp [hi'.1,hir]) e
    refine ⟨b,q1,?_,q3.grow gr λ_ z=>z⟩
    have nb:b≠a:=λz=>by subst z; exact hik (rp1.dis i k b (by simp [hi'.1,hir]) (by simp [hk.1,hk.2]) q1 h1)
    rw [qC nb]; exact q2
   ·have hi':=(hs i).mp hi
    exact rp1.opn i (by simp [hi'.1]; exact λz=>hi'.2 (by simp [z]))
   ·have hi':=(hs i).mp hi
    have hj':=(hs j).mp hj
    exact rp1.dis i j b (by simp [hi'.1]; exact λz=>hi'.2 (by simp [z])) (by simp [hj'.1]; exact λz=>hj'.2 (by simp [z]))
   ·refine ⟨c1.keep,c1.stay,c1.grow.trans gr,λb hb=>?_⟩
    by_cases q:b=a
    ·exact .inr (.inr ⟨k,hk.1,by rw [q]; exact h1⟩)
    ·rw [qC q] at hb; exact c1.new b hb
  ·refine ⟨F1,⟨rp1.sub,rp1.len,λi d hi=>rp1.val i d λz=>?_,λi d hi=>rp1.ow i d ?_,λi hi=>rp1.opn i ?_,λi j a hi hj=>rp1.dis i j a ?_ ?_⟩,c1⟩
   ·simp at z
    refine hi ((hs i).mpr ⟨z.1,?_⟩)
    simp only [ae,not_or]
    exact ⟨λq=>hk (by subst q; exact z),z.2⟩
   all_goals
    first
     | (have q:=(hs _).mp hi; simp only [aF,decide_eq_true_eq]; exact ⟨q.1,λz=>q.2 (by simp [z])⟩)
     | (have q:=(hs _).mp hj; simp only [aF,decide_eq_true_eq]; exact ⟨q.1,λz=>q.2 (by simp [z])⟩)
theorem OA.sub (h:∀ i∈own',i∈own) (q:OA own' σ b):OA own σ b:=let ⟨i,hi,e⟩:=q; ⟨i,h i hi,e⟩
theorem Nx.drop (drop:List Nat) (hs:∀ i,i∈own'↔i∈own/\i∉drop) (rp:Rep C.K own F H σ ρ):∃ F',Nx C own own' σ F H ρ σ F' H:=by
 obtain ⟨F',rp',c⟩:=Rep.weak drop hs rp
 exact ⟨F',rp',c,λb q=>.inl (OA.sub (λi hi=>((hs i).mp hi).1) q),λ_ _=>rfl⟩
noncomputable def uu (own drop:List Nat):List Nat:=own.filter λi=>decide (i∉drop)
theorem jr {own drop:List Nat} (i:Nat):i∈uu own drop↔i∈own/\i∉drop:=by simp [uu]
theorem kO (drop:List Nat) (h:PSs X sts (tSt C (uu own drop) o2 f)):PSs X sts (tSt C own o2 f):=Gb h λD σ H ⟨F,ρ,rp,h⟩=>by
 obtain ⟨F',n⟩:=Nx.drop (C:=C) drop (λi=>jr (own:=own) i) rp
 exact ⟨F',ρ,n.rep,h.shift n⟩
noncomputable def sIf (ft:Sl->Out (Bool×Sl)) (f g:Sl->Out (Fl×Sl)):Sl->Out (Fl×Sl):=λρ=>(ft ρ).bind λp=>if p.1=hZ then f p.2 else g p.2
theorem jG {a b:List Stmt} (hc:PT X c (tT C own ft)) (ha:PSs X a (tSt C own own' f)) (hb:PSs X b (tSt C own own' g)):PS X (.If c a b pos) (tSt C own own' (sIf ft f g)):=by
 refine JQ (qhS hc ha hb) λD σ H ⟨F,ρ,rp,h⟩=>⟨F,ρ,rp,PoS.bindT h λF1 H1 k ρ1 rp1 c1 h1=>?_⟩
 cases k with
 | true=>exact ⟨F1,ρ1,rp1,h1⟩
 | false=>exact ⟨F1,ρ1,rp1,h1⟩
noncomputable def vd (fe:Sl->Out (D×Sl)):Sl->Out (Fl×Sl):=λρ=>(fe ρ).bind λp=>.ok (.nx,p.2)
theorem jL (he:PE X e (tE C own m fe)) (hs:swapsWith e g7 pos.line X.env=pure false:=by rfl):PS X (.Expr e pos) (tSt C own own (vd fe)):=by
 refine JQ (qdN he hs) λD σ H ⟨F,ρ,rp,h⟩=>⟨F,ρ,rp,PoS.bindE h λv F1 H1 d ρ1 rp1 c1 mo1 h1=>h1 σ F1 H1 (.refl rp1)⟩
noncomputable def jR (fe:Sl->Out (D×Sl)):Sl->Out (Fl×Sl):=λρ=>(fe ρ).bind λp=>.ok (.rt p.1,p.2)
theorem qeg (he:PE X e (tE C own C.mr fe)) (hio:∀ i∈C.io,i∈own:=by exact zD rfl):PS X (.Return (g6 e) pos) (tSt C own own' (jR fe)):=by
 refine JQ (qfM he) λD σ H ⟨F,ρ,rp,h⟩=>⟨F,ρ,rp,?_⟩
 unfold jR at h
 cases q:fe ρ with
 | ok p=>
  rw [q] at h
  obtain ⟨d,ρ1⟩:=p
  exact λv F1 H1 rp1 c1 mo1=>h v σ F1 H1 rp1.sub (rp1.ioIs hio) c1 'f' mo1
 | exc c=>rw [q] at h; exact h
 | bad=>rw [q] at h; exact h.elim
theorem qo (he:PE X e (tE C own m fe)) (hm:m≠.any:=by decide) (hr:C.mr=.sh:=by rfl) (hio:∀ i∈C.io,i∈own:=by exact zD rfl):PS X (.Return (g6 e) pos) (tSt C own own' (jR fe)):=qeg (by rw [hr]; exact yT he hm) hio
theorem Rep.put (rp:Rep K own F H σ ρ) (hi:i < ρ.length) (is:Is K F v d):Rep K (uu own [i]) F H (σ.set i (g6 v)) (ρ.set i (g6 d)) where
 sub:=rp.sub
 len:=by simp [rp.len]
 val:=λj d' hj e=>by
  by_cases q:j=i
  ·subst q
   rw [aH hi] at e
   cases e
   exact ⟨v,aH (by rw [rp.len]; exact hi),is⟩
  ·rw [ay (bf q)] at e
   obtain ⟨w,h1,h2⟩:=rp.val j d' (λz=>hj ((jr j).mpr ⟨z,by simp [q]⟩)) e
   exact ⟨w,by rw [ay (bf q)]; exact h1,h2⟩
 ow:=λj d' hj e=>by
  have hj':=(jr j).mp hj
  have q:j≠i:=λz=>hj'.2 (by simp [z])
  rw [ay (bf q)] at e
  obtain ⟨a,h1,h2⟩:=rp.ow j d' hj'.1 e
  exact ⟨a,by rw [ay (bf q)]; exact h1,h2⟩
 opn:=λj hj=>by
  have hj':=(jr j).mp hj
  have q:j≠i:=λz=>hj'.2 (by simp [z])
  obtain ⟨d',e⟩:=rp.opn j hj'.1
  exact ⟨d',by rw [ay (bf q)]; exact e⟩
 dis:=λj k a hj hk e1 e2=>by
  have hj':=(jr j).mp hj
  have hk':=(jr k).mp hk
  rw [ay (λz=>hj'.2 (by simp [z]))] at e1
  rw [ay (λz=>hk'.2 (by simp [z]))] at e2
  exact rp.dis j k a hj'.1 hk'.1 e1 e2
theorem OA.put (h:OA (uu own [i]) (σ.set i (g6 v)) b):OA own σ b:=by
 obtain ⟨j,hj,e⟩:=h
 have hj':=(jr j).mp hj
 rw [ay (λz=>hj'.2 (by simp [z]))] at e
 exact ⟨j,hj'.1,e⟩
noncomputable def jQ (i:Nat) (fe:Sl->Out (D×Sl)):Sl->Out (Fl×Sl):=λρ=>(fe ρ).bind λp=>if i < p.2.length then .ok (.nx,p.2.set i (g6 p.1)) else .bad
theorem qF (hN:X.N.Nodup) (hi:X.N[i]?=g6 x) (hx:Loc X.env.scope x) (he:PE X e (tE C own m fe)) (hm:m≠.any:=by decide) (hio:i∉C.io:=by exact Yl rfl) (hs:swapsWith e (g6 (.Name x pos')) pos.line X.env=pure false:=by rfl)
  (hf:X.fn x=hZ\/X.env.scope.names.lookup x=g6 .local:=by first | exact .inl rfl | exact .inr rfl):PS X (.Assign [.Name x pos'] e pos) (tSt C own (uu own [i]) (jQ i fe)):=by
 refine JQ (qc0 hN hi hx (yT he hm) hs hf) λD σ H ⟨F,ρ,rp,h⟩=>⟨F,ρ,rp,PoS.bindE h λv F1 H1 d ρ1 rp1 c1 mo1 h1=>?_⟩
 by_cases q:i < ρ1.length
 ·have h1:PoS C own (uu own [i]) σ F1 H1 (if i < ρ1.length then .ok (.nx,ρ1.set i (g6 d)) else .bad) D:=h1
  rw [if_pos q] at h1
  exact h1 _ F1 H1 ⟨rp1.put q mo1,.refl,λb z=>.inl (OA.put z),λj hj=>ay λz=>hio (by rw [z]; exact hj)⟩
 ·have h1:PoS C own (uu own [i]) σ F1 H1 (if i < ρ1.length then .ok (.nx,ρ1.set i (g6 d)) else .bad) D:=h1
  rw [if_neg q] at h1
  exact h1.elim
theorem Rep.putO (rp:Rep K own F H σ ρ) (hi:i < ρ.length) (hF:F a=g7) (nA:¬OA own σ a) (o:OwnIs K F H a d):Rep K (i::uu own [i]) F H (σ.set i (g6 (.ref a))) (ρ.set i (g6 d)) where
 sub:=rp.sub
 len:=by simp [rp.len]
 val:=λj d' hj e=>by
  have q:j≠i:=λz=>hj (by simp [z])
  rw [ay (bf q)] at e
  obtain ⟨w,h1,h2⟩:=rp.val j d' (λz=>hj (aa _ ((jr j).mpr ⟨z,by simp [q]⟩))) e
  exact ⟨w,by rw [ay (bf q)]; exact h1,h2⟩
 ow:=λj d' hj e=>by
  by_cases q:j=i
  ·subst q
   rw [aH hi] at e
   cases e
   exact ⟨a,aH (by rw [rp.len]; exact hi),hF,o⟩
  ·have hj':=(jr j).mp ((ae.mp hj).resolve_left q)
   rw [ay (bf q)] at e
   obtain ⟨b,h1,h2⟩:=rp.ow j d' hj'.1 e
   exact ⟨b,by rw [ay (bf q)]; exact h1,h2⟩
 opn:=λj hj=>by
  by_cases q:j=i
  ·subst q; exact ⟨d,aH hi⟩
  ·have hj':=(jr j).mp ((ae.mp hj).resolve_left q)
   obtain ⟨d',e⟩:=rp.opn j hj'.1
   exact ⟨d',by rw [ay (bf q)]; exact e⟩
 dis:=λj k b hj hk e1 e2=>by
  have iσ:i < σ.length:=by rw [rp.len]; exact hi
  by_cases qj:j=i
  ·by_cases qk:k=i
   ·rw [qj,qk]
   ·subst qj
    have hk':=(jr k).mp ((ae.mp hk).resolve_left qk)
    rw [aH iσ] at e1
    cases e1
    rw [ay (bf qk)] at e2
    exact absurd ⟨k,hk'.1,e2⟩ nA
  ·have hj':=(jr j).mp ((ae.mp hj).resolve_left qj)
   by_cases qk:k=i
   ·subst qk
    rw [aH iσ] at e2
    cases e2
    rw [ay (bf qj)] at e1
    exact absurd ⟨j,hj'.1,e1⟩ nA
   ·have hk':=(jr k).mp ((ae.mp hk).resolve_left qk)
    rw [ay (bf qj)] at e1
    rw [ay (bf qk)] at e2
    exact rp.dis j k b hj'.1 hk'.1 e1 e2
theorem kq (hN:X.N.Nodup) (hi:X.N[i]?=g6 x) (hx:Loc X.env.scope x) (he:PE X e (tE C own .fr fe)) (hio:i∉C.io:=by exact Yl rfl) (hs:swapsWith e (g6 (.Name x pos')) pos.line X.env=pure false:=by rfl)
  (hf:X.fn x=hZ\/X.env.scope.names.lookup x=g6 .local:=by first | exact .inl rfl | exact .inr rfl):PS X (.Assign [.Name x pos'] e pos) (tSt C own (i::uu own [i]) (jQ i fe)):=by
 refine JQ (qc0 hN hi hx he hs hf) λD σ H ⟨F,ρ,rp,h⟩=>⟨F,ρ,rp,?_⟩
 unfold jQ at h
 cases q:fe ρ with
 | ok p=>
  rw [q] at h
  obtain ⟨d,ρ1⟩:=p
  intro v F1 H1 rp1 c1 mo1
  obtain ⟨a,rfl,h0,hF,o⟩:=mo1
  by_cases z:i < ρ1.length
  ·have h1:PoS C own (i::uu own [i]) σ F H (if i < ρ1.length then .ok (.nx,ρ1.set i (g6 d)) else .bad) D:=h
   rw [if_pos z] at h1
   refine h1 _ F1 H1 ⟨rp1.putO z hF (λy=>(rp.OA_there y).1 h0) o,c1,λb y=>?_,λj hj=>ay λy=>hio (by rw [y]; exact hj)⟩
   obtain ⟨j,hj,e⟩:=y
   by_cases qj:j=i
   ·subst qj
    rw [aH (by rw [rp1.len]; exact z)] at e
    cases e
    exact .inr h0
   ·have hj':=(jr j).mp ((ae.mp hj).resolve_left qj)
    rw [ay (bf qj)] at e
    exact .inl ⟨j,hj'.1,e⟩
  ·have h1:PoS C own (i::uu own [i]) σ F H (if i < ρ1.length then .ok (.nx,ρ1.set i (g6 d)) else .bad) D:=h
   rw [if_neg z] at h1
   exact h1.elim
 | exc c=>rw [q] at h; exact h
 | bad=>rw [q] at h; exact h.elim
end
inductive AK where
 | vl | sl (i:Nat) | fr
 deriving DecidableEq
def ArgV (K:Frag) (H0 F H:Hp) (σ:St):List AK->List V->List D->Prop
 | [],[],[]=>True
 | .vl::as,v::vs,d::ds=>Is K F v d/\ArgV K H0 F H σ as vs ds
 | .sl i::as,v::vs,d::ds=>σ[i]?=g6 (g6 v)/\d=.non/\ArgV K H0 F H σ as vs ds
 | .fr::as,v::vs,d::ds=>MoIs K .fr H0 F H v d/\ArgV K H0 F H σ as vs ds
 | _,_,_=>False
variable {H0 F' H':Hp}
theorem ArgV.grow {A:Addr->Prop} (c:Chg A F H F' H') (hA:∀ x,A x->H0 x≠g7):∀ {as:List AK} {vs:List V} {ds:List D},ArgV K H0 F H σ as vs ds->ArgV K H0 F' H' σ as vs ds
 | [],[],[],h=>trivial
 | .vl::as,v::vs,d::ds,h=>⟨h.1.mono c.grow,ArgV.grow c hA h.2⟩
 | .sl i::as,v::vs,d::ds,h=>⟨h.1,h.2.1,ArgV.grow c hA h.2.2⟩
 | .fr::as,v::vs,d::ds,h=>⟨h.1.grow 'c' c hA,ArgV.grow c hA h.2⟩
 | [],_::_,_,h=>h.elim
 | [],[],_::_,h=>h.elim
 | .vl::_,[],_,h=>h.elim
 | .vl::_,_::_,[],h=>h.elim
 | .sl _::_,[],_,h=>h.elim
 | .sl _::_,_::_,[],h=>h.elim
 | .fr::_,[],_,h=>h.elim
 | .fr::_,_::_,[],h=>h.elim
theorem ArgV.back {A:Addr->Prop} {F0:Hp} (c:Chg A F0 H0 F1 H1):∀ {as:List AK} {vs:List V} {ds:List D},ArgV K H1 F H σ as vs ds->ArgV K H0 F H σ as vs ds
 | [],[],[],h=>trivial
 | .vl::as,v::vs,d::ds,h=>⟨h.1,ArgV.back c h.2⟩
 | .sl i::as,v::vs,d::ds,h=>⟨h.1,h.2.1,ArgV.back c h.2.2⟩
 | .fr::as,v::vs,d::ds,h=>⟨MoIs.back (Ha:=H1) c h.1,ArgV.back c h.2⟩
 | [],_::_,_,h=>h.elim
 | [],[],_::_,h=>h.elim
 | .vl::_,[],_,h=>h.elim
 | .vl::_,_::_,[],h=>h.elim
 | .sl _::_,[],_,h=>h.elim
 | .sl _::_,_::_,[],h=>h.elim
 | .fr::_,[],_,h=>h.elim
 | .fr::_,_::_,[],h=>h.elim
def PoA (C:Ct) (own:List Nat) (as:List AK) (σ:St) (F H:Hp) (r:Out (List D×Sl)) (Q:List V->Hp->Prop):Prop:=match r with
 | .ok (ds,ρ')=>∀ vs F' H',Rep C.K own F' H' σ ρ'->Chg (OA own σ) F H F' H'->ArgV C.K H F' H' σ as vs ds->Q vs H'
 | .exc c ρ'=>∀ F' H',Same F' H'->Zv C.K C.ox F' H' σ ρ'->Chg (OA own σ) F H F' H'->C.E (C.cv c) g7 H'
 | .bad=>False
def tAr (C:Ct) (own:List Nat) (as:List AK) (f:Sl->Out (List D×Sl)):TA:=λσ H Q=>∃ F ρ,Rep C.K own F H σ ρ/\PoA C own as σ F H (f ρ) Q
variable {as:List AK}
theorem PoA.bindV {ma:Mo} {k:D×Sl->Out (List D×Sl)} {Q:List V->Hp->Prop} {R:VK} (hp:PoA C own as σ F H (o.bind k) Q)
  (h:∀ v F1 H1 d ρ1,Rep C.K own F1 H1 σ ρ1->Chg (OA own σ) F H F1 H1->MoIs C.K ma H F1 H1 v d->PoA C own as σ F H (k (d,ρ1)) Q->R v H1):Po C own ma σ F H o R:=by
 cases o with
 | ok p=>
  obtain ⟨d,ρ1⟩:=p
  exact λv F1 H1 rp c mo=>h v F1 H1 d ρ1 rp c mo hp
 | exc x=>exact hp
 | bad=>exact hp.elim
theorem Po.bindA {as:List AK} {o:Out (List D×Sl)} {k:List D×Sl->Out (D×Sl)} {Q:VK} {R:List V->Hp->Prop} (hp:Po C own m σ F H (o.bind k) Q)
  (h:∀ vs F1 H1 ds ρ1,Rep C.K own F1 H1 σ ρ1->Chg (OA own σ) F H F1 H1->ArgV C.K H F1 H1 σ as vs ds->Po C own m σ F1 H1 (k (ds,ρ1)) Q->R vs H1):PoA C own as σ F H o R:=by
 cases o with
 | ok p=>
  obtain ⟨d,ρ1⟩:=p
  exact λvs F1 H1 rp c av=>h vs F1 H1 d ρ1 rp c av (Po.shift (show Po C own m σ F H (k (d,ρ1)) Q from hp) c)
 | exc x=>exact hp
 | bad=>exact hp.elim
noncomputable def qD:Sl->Out (List D×Sl):=λρ=>.ok ([],ρ)
noncomputable def qc (fe:Sl->Out (D×Sl)) (fr:Sl->Out (List D×Sl)):Sl->Out (List D×Sl):=λρ=>(fe ρ).bind λp=>(fr p.2).bind λq=>.ok (p.1::q.1,q.2)
noncomputable def kG (fr:Sl->Out (List D×Sl)):Sl->Out (List D×Sl):=λρ=>(fr ρ).bind λq=>.ok (D.non::q.1,q.2)
variable {es:List Expr} {p:Addr} {u:HO}
section
variable {fr:Sl->Out (List D×Sl)}
theorem qeh {t t':TA} (h:PA X es t) (i:∀ σ H Q,t' σ H Q->t σ H Q):PA X es t':=⟨λpos pins s σ H Q I hw=>h pos pins s σ H Q I (i σ H Q hw)⟩
theorem qf:PA X [] (tAr C own [] qD):=qeh ke λσ H Q ⟨F,ρ,rp,h⟩=>h [] F H rp .refl trivial
theorem VD {a:AK} {Q:List V->Hp->Prop} {v:V} (rp:∀ x,OA own σ x->H x≠g7) (rp1:Rep C.K own F1 H1 σ ρ1) (c1:Chg (OA own σ) F H F1 H1) (hp:PoA C own (a::as) σ F H ((fr ρ1).bind λq=>.ok (d::q.1,q.2)) Q)
  (ha:∀ F2 H2 vs ds,Chg (OA own σ) F1 H1 F2 H2->ArgV C.K H F2 H2 σ as vs ds->ArgV C.K H F2 H2 σ (a::as) (v::vs) (d::ds)):tAr C own as fr σ H1 λxs H2=>Q (v::xs) H2:=by
 refine ⟨F1,ρ1,rp1,?_⟩
 cases q:fr ρ1 with
 | ok p=>
  rw [q] at hp
  obtain ⟨ds,ρ2⟩:=p
  exact λvs F2 H2 rp2 c2 av=>hp (v::vs) F2 H2 rp2 (c1.trans' c2) (ha F2 H2 vs ds c2 (ArgV.back c1 av))
 | exc c=>rw [q] at hp; exact λF' H' s io c'=>hp F' H' s io (c1.trans' c')
 | bad=>rw [q] at hp; exact hp.elim
theorem qb (ha:PE X e (tE C own m fe)) (hr:PA X es (tAr C own as fr)) (hm:m≠.any:=by decide) (hs:starEach (e::es) X.env=(hJ,eval e X.env)::starEach es X.env:=by exact kS rfl):PA X (e::es) (tAr C own (.vl::as) (qc fe fr)):=by
 refine qeh (jk (yT ha hm) hr hs) λσ H Q ⟨F,ρ,rp,h⟩=>⟨F,ρ,rp,PoA.bindV h λv F1 H1 d ρ1 rp1 c1 mo1 h1=>?_⟩
 exact VD (λx z=>(rp.OA_there z).1) rp1 c1 h1 λF2 H2 vs ds c2 av=>⟨Is.mono c2.grow mo1,av⟩
theorem jx {px:Pos} (hN:X.N[i]?=g6 x) (hv:Vis X.env.scope x) (ho:i∈own) (hr:PA X es (tAr C own as fr)) (hs:starEach (.Name x px::es) X.env=(hJ,eval (.Name x px) X.env)::starEach es X.env:=by rfl)
  (hd:'m'=false:=by decide) (hcd:(x == ("__classdict__":Str))=false:=by decide):PA X (.Name x px::es) (tAr C own (.sl i::as) (kG fr)):=by
 refine qeh (jk (yG hN hv hd hcd) hr hs) λσ H Q ⟨F,ρ,rp,h⟩=>?_
 obtain ⟨d,hd⟩:=rp.opn i ho
 obtain ⟨a,h1,h2,h3⟩:=rp.ow i d ho hd
 exact ⟨_,h1,VD (λx z=>(rp.OA_there z).1) rp .refl h λF2 H2 vs ds c2 av=>⟨h1,rfl,av⟩⟩
theorem ArgV.isL:∀ {as:List AK} {vs:List V} {ds:List D},(as.all λa=>decide (a=.vl))=hZ->ArgV K H0 F H σ as vs ds->IsL K F vs ds
 | [],[],[],_,_=>.nil
 | .vl::as,v::vs,d::ds,h,a=>.cons a.1 (ArgV.isL (by simpa using h) a.2)
 | .sl i::as,_,_,h,a=>by simp at h
 | .fr::as,_,_,h,a=>by simp at h
 | [],_::_,_,_,h=>h.elim
 | [],[],_::_,_,h=>h.elim
 | .vl::_,[],_,_,h=>h.elim
 | .vl::_,_::_,[],_,h=>h.elim
noncomputable def yJ (fr:Sl->Out (List D×Sl)):Sl->Out (D×Sl):=λρ=>(fr ρ).bind λp=>if p.1.length<=sizeLine then .ok (.tup p.1,p.2) else .bad
noncomputable def zE (fr:Sl->Out (List D×Sl)):Sl->Out (D×Sl):=λρ=>(fr ρ).bind λp=>if p.1.length<=sizeLine then .ok (.lst p.1,p.2) else .bad
theorem qgm (rp:Rep C.K own F H σ ρ) (hp:H p=g7):Rep C.K own (upd F p u) (upd H p u) σ ρ/\Chg No F H (upd F p u) (upd H p u):=by
 have hF:F p=none:=by
  cases q:F p with
  | none=>rfl
  | some o=>rw [rp.sub p o q] at hp; cases hp
 have c:Chg No F H (upd F p u) (upd H p u):=⟨λb o e _=>by rw [qC (qJ e hp)]; exact e,λb e=>by
  by_cases q:b=p
  ·rw [q,qp]; simp
  ·rw [qC q]; exact e,λb o e=>by rw [qC (qJ e hF)]; exact e,λb e=>by
  by_cases q:b=p
  ·exact .inr (.inl (by rw [q]; exact hp))
  ·rw [qC q] at e; exact .inl e⟩
 refine ⟨rp.grow c λb o e=>?_,c⟩
 by_cases q:b=p
 ·subst q; rw [qp] at e ⊢; exact e
 ·rw [qC q] at e ⊢; exact rp.sub b o e
theorem Gc (rp:Rep C.K own F H σ ρ) (hp:H p=g7):Rep C.K own F (upd H p u) σ ρ/\Chg No F H F (upd H p u)/\F p=none:=by
 have hF:F p=none:=by
  cases q:F p with
  | none=>rfl
  | some o=>rw [rp.sub p o q] at hp; cases hp
 have c:Chg No F H F (upd H p u):=⟨λb o e _=>by rw [qC (qJ e hp)]; exact e,λb e=>by
  by_cases q:b=p
  ·rw [q,qp]; simp
  ·rw [qC q]; exact e,Same.refl _,λb e=>.inl e⟩
 exact ⟨rp.grow c λb o e=>by rw [qC (qJ e hF)]; exact rp.sub b o e,c,hF⟩
theorem vy {x1} (h:PA X es (tAr C own as fr)) (ha:(as.all λa=>decide (a=.vl))=true:=by decide):PE X (.Tuple es x1 pos) (tE C own .sh (yJ fr)):=by
 refine kn (qf2 h) λσ H Q ⟨F,ρ,rp,h⟩=>⟨F,ρ,rp,Po.bindA h λvs F1 H1 ds ρ1 rp1 c1 av h1=>?_⟩
 have il:=av.isL ha
 have h1:Po C own .sh σ F1 H1 (if ds.length<=sizeLine then .ok (.tup ds,ρ1) else .bad) Q:=h1
 by_cases z:ds.length<=sizeLine
 ·rw [if_pos z] at h1
  refine ⟨by rw [il.length]; exact z,λp hp=>?_⟩
  obtain ⟨rp2,c2⟩:=qgm (u:=.tup vs) rp1 hp
  exact h1 _ _ _ rp2 c2.ofNo (.tup (.inl (.inl qp)) (il.mono c2.grow))
 ·rw [if_neg z] at h1; exact h1.elim
theorem kD (h:PA X es (tAr C own as fr)) (ha:(as.all λa=>decide (a=.vl))=true:=by decide):PE X (.List es pos) (tE C own .fr (zE fr)):=by
 refine kn (qf3 h) λσ H Q ⟨F,ρ,rp,h⟩=>⟨F,ρ,rp,Po.bindA h λvs F1 H1 ds ρ1 rp1 c1 av h1=>?_⟩
 have il:=av.isL ha
 have h1:Po C own .fr σ F1 H1 (if ds.length<=sizeLine then .ok (.lst ds,ρ1) else .bad) Q:=h1
 by_cases z:ds.length<=sizeLine
 ·rw [if_pos z] at h1
  refine ⟨by rw [il.length]; exact z,λp hp=>?_⟩
  obtain ⟨rp2,c2,hF⟩:=Gc (u:=.lst vs) rp1 hp
  exact h1 _ _ _ rp2 c2.ofNo ⟨p,rfl,hp,hF,vs,qp,il⟩
 ·rw [if_neg z] at h1; exact h1.elim
theorem Yw:PE X (.Dict [] [] pos) (tE C own .fr (dC (.dct []))):=by
 refine kn qbA λσ H Q ⟨F,ρ,rp,h⟩ p hp=>?_
 obtain ⟨rp2,c2,hF⟩:=Gc (u:=.dK []) rp hp
 exact h _ _ _ rp2 c2.ofNo ⟨p,rfl,hp,hF,[],qp,.nil⟩
noncomputable def ixD:D->D->Out D
 | .lst xs,.int i=>match atI xs i with
  | some d=>.ok d
  | none=>.bad
 | .tup xs,.int i=>match atI xs i with
  | some d=>.ok d
  | none=>.bad
 | .str x,.int i=>match atI x.cps.toList i with
  | some c=>.ok (.str ⟨#[c]⟩)
  | none=>.bad
 | .dct kvs,.str x=>match (kvs.find? λkv=>decide (kv.1=bA x)) with
  | some kv=>.ok kv.2
  | none=>.bad
 | .dct kvs,.int x=>match (kvs.find? λkv=>decide (kv.1=eI x)) with
  | some kv=>.ok kv.2
  | none=>.bad
 | _,_=>.bad
theorem IsL.atI {i:Int} (h:IsL K F vs ds) (e:L2.atI ds i=g6 d):∃ v,L2.atI vs i=g6 v/\Is K F v d:=by
 unfold L2.atI at e ⊢
 rw [h.length]
 cases q:ixN ds.length i with
 | none=>rw [q] at e; cases e
 | some j=>
  rw [q] at e
  exact h.getD e
theorem IsK.find {k:Key}:∀ {vs:List (Key×V)} {ds:List (Key×D)} {d:Key×D},IsK K F vs ds->(ds.find? λkv=>decide (kv.1=k))=g6 d->∃ v,WN vs k=g6 v/\Is K F v d.2
 | _,_,_,.nil,e=>by simp at e
 | _,_,d,.cons (k:=k') (vs:=vs) h t,e=>by
  by_cases q:k'=k
  ·rw [bI (by simp [q])] at e
   cases e
   exact ⟨_,ga q,h⟩
  ·rw [bB (by simp [q])] at e
   obtain ⟨v,h1,h2⟩:=IsK.find t e
   exact ⟨v,by rw [xo q]; exact h1,h2⟩
theorem Yx (c:Nat):(⟨#[c]⟩:Str).length<=sizeLine:=by
 show 1<=sizeLine
 rw [ij]; decide
def qi0 (K:Frag):R2:=λx y H Q=>rIx K x y H Q\/∃ a v,x=.ref a/\DGet H a y (g6 v)/\Q v H
theorem qc4 (hu:X.A.units+1 < cLine):IxR X (qi0 X.K):=by
 refine IxR.or qf7 ?_
 intro value slice pins s σ H x y v u Q I rx ry h hs
 obtain ⟨a,w,rfl,g,q⟩:=h
 cases rx
 obtain ⟨T,ht⟩:∃ T,s.TypeIs (.ref a) T/\T = "dict":=⟨_,WV I g,rfl⟩
 obtain ⟨ht,rfl⟩:=ht
 exact tail_any ht PySem.slot_dict_getitem.lookup (ZO hu I g ry λw' s' I' r=>⟨w,H,I',r,q⟩) hs
end
variable {T:String}
section
variable {a b:Expr} {fb:Sl->Out (D×Sl)}
theorem qc5 {σ:St} {x y:V} {dx dy:D} {Q:VK} (hK:C.K=X.K) (sb:Same F H) (tx:TopIs C.K F H x dx) (ty:TopIs C.K F H y dy) (po:PoV C .sh F H (ixD dx dy) Q):qi0 X.K x y H Q:=by
 rw [hK] at tx ty
 cases dx with
 | lst xs=>
  cases dy <;> try exact po.elim
  rename_i i
  obtain rfl:=ty.int
  obtain ⟨a,vs,rfl,p,t⟩:=tx.lst sb
  unfold ixD at po
  cases e:L2.atI xs i with
  | none=>simp only [e] at po; exact po.elim
  | some d=>
   simp only [e] at po
   obtain ⟨v,h1,h2⟩:=t.atI e
   exact .inl (.inl ⟨a,vs,i,v,rfl,rfl,p,h1,po v F H sb .refl (by rw [hK]; exact h2)⟩)
 | tup xs=>
  cases dy <;> try exact po.elim
  rename_i i
  obtain rfl:=ty.int
  obtain ⟨a,vs,rfl,p,t⟩:=tx.tup sb
  unfold ixD at po
  cases e:L2.atI xs i with
  | none=>simp only [e] at po; exact po.elim
  | some d=>
   simp only [e] at po
   obtain ⟨v,h1,h2⟩:=t.atI e
   exact .inl (.inr (.inl ⟨a,vs,i,v,rfl,rfl,p,h1,po v F H sb .refl (by rw [hK]; exact h2)⟩))
 | str z=>
  cases dy <;> try exact po.elim
  rename_i i
  obtain rfl:=ty.int
  obtain ⟨rfl,hz⟩:=tx.str
  unfold ixD at po
  cases e:L2.atI z.cps.toList i with
  | none=>simp only [e] at po; exact po.elim
  | some c=>
   simp only [e] at po
   exact .inl (.inr (.inr ⟨z,i,c,rfl,rfl,hz,e,po _ F H sb .refl (.str (Yx c))⟩))
 | dct kvs=>
  obtain ⟨a,kv,rfl,p,t⟩:=tx.dct sb
  cases dy with
  | int i=>
   obtain rfl:=ty.int
   unfold ixD at po
   cases e:(kvs.find? λkv=>decide (kv.1=eI i)) with
   | none=>simp only [e] at po; exact po.elim
   | some d=>
    simp only [e] at po
    obtain ⟨v,h1,h2⟩:=t.find e
    exact .inr ⟨a,v,rfl,by rw [<-h1]; exact DGet.k (k:=eI i) p,po v F H sb .refl (by rw [hK]; exact h2)⟩
  | str z=>
   obtain ⟨rfl,_⟩:=ty.str
   unfold ixD at po
   cases e:(kvs.find? λkv=>decide (kv.1=bA z)) with
   | none=>simp only [e] at po; exact po.elim
   | some d=>
    simp only [e] at po
    obtain ⟨v,h1,h2⟩:=t.find e
    exact .inr ⟨a,v,rfl,by rw [<-h1]; exact DGet.k (k:=bA z) p,po v F H sb .refl (by rw [hK]; exact h2)⟩
  | _=>exact po.elim
 | _=>exact po.elim
theorem qZ (hK:C.K=X.K) (hu:X.A.units+64 < cLine) (ha:PE X a (tE C own ma fa)) (hb:PE X b (tE C own mb fb)) (hs:WS b) (hma:ma≠.any:=by decide):PE X (.Subscript a b pos) (tE C own .sh (d2 ixD fa fb)):=by
 refine kn (qf5 (qc4 'a') ha hb hs) λσ H Q h=>?_
 obtain ⟨F,ρ,rp,h⟩:=Vw (mb:=mb) hma h
 refine ⟨F,ρ,rp,?_⟩
 cases q:fa ρ with
 | ok p=>
  rw [q] at h
  obtain ⟨d,ρ1⟩:=p
  intro v F1 H1 rp1 c1 mo1
  obtain ⟨F2,ρ2,rp2,h2⟩:=h v F1 H1 rp1 c1 mo1
  refine ⟨F2,ρ2,rp2,?_⟩
  cases q2:fb ρ2 with
  | ok p=>
   rw [q2] at h2
   obtain ⟨d',ρ3⟩:=p
   intro w F3 H3 rp3 c3 mo3
   obtain ⟨F4,dx,dy,sb,tx,ty,po⟩:=h2 w F3 H3 rp3 c3 mo3
   exact qc5 (σ:=σ) hK sb tx ty po
  | exc c=>rw [q2] at h2; exact h2
  | bad=>rw [q2] at h2; exact h2.elim
 | exc c=>rw [q] at h; exact h
 | bad=>rw [q] at h; exact h.elim
def QW (X:Cx) (C:Ct) (m:Mo) (f:g9) (g:D->Out D):Prop:=yC X f (λxs H Q=>∃ x F dx,xs=[x]/\Same F H/\TopIs C.K F H x dx/\PoV C m F H (g dx) Q)
theorem zf {Q:VK} {g:D->Out D} (h:tE C own m (d1 g fa) σ H Q):qbt (tE C own ma fa) qh5 σ H λxs H1=>∃ x F dx,xs=[x]/\Same F H1/\TopIs C.K F H1 x dx/\PoV C m F H1 (g dx) Q:=by
 obtain ⟨F,ρ,rp,h⟩:=qbD (ma:=ma) h
 refine ⟨F,ρ,rp,?_⟩
 cases q:fa ρ with
 | ok p=>
  rw [q] at h
  obtain ⟨d,ρ1⟩:=p
  intro v F1 H1 rp1 c1 mo1
  obtain ⟨F2,dx,sb,tx,po⟩:=h v F1 H1 rp1 c1 mo1
  exact ⟨v,F2,dx,rfl,sb,tx,po⟩
 | exc c=>rw [q] at h; exact h
 | bad=>rw [q] at h; exact h.elim
theorem qB {id:String} {p:Pos} {g:D->Out D} (hc:QW X C m (.builtin id) g) (hg:Gl X x) (hm:X.mg x=g7) (hv:bootBuiltins x=g6 (.builtin id)) (ha:PE X e (tE C own ma fa)) (hn:x ≠ "__name__":=by decide) (hdb:'m'=false:=by decide)
  (he:starEach [e] X.env=[(hJ,eval e X.env)]:=by exact ja rfl):PE X (.Call (.Name x p) [e] [] pos) (tE C own m (d1 g fa)):=
 kn (xm hc hg hm hv (jk ha ke he) hn hdb (by rw [he]; rfl) rfl) λ_ _ _ h=>zf h
theorem jN {p:Pos} {g:D->Out D} (hc:QW X C m (.type T) g) (hg:Gl X x) (hm:X.mg x=g7) (hv:bootBuiltins x=g6 (.type T)) (ha:PE X e (tE C own ma fa)) (hn:x ≠ "__name__":=by decide) (hdb:'m'=false:=by decide)
  (he:starEach [e] X.env=[(hJ,eval e X.env)]:=by exact ja rfl):PE X (.Call (.Name x p) [e] [] pos) (tE C own m (d1 g fa)):=
 kn (ux hc hg hm hv (jk ha ke he) hn hdb (by rw [he]; rfl) rfl) λ_ _ _ h=>zf h
noncomputable def jy:D->Out D
 | .str x=>.ok (.int x.length)
 | .lst xs=>.ok (.int xs.length)
 | .tup xs=>.ok (.int xs.length)
 | .dct xs=>.ok (.int xs.length)
 | _=>.bad
theorem IsK.length:∀ {vs:List (Key×V)} {ds:List (Key×D)},IsK K F vs ds->vs.length=ds.length
 | _,_,.nil=>rfl
 | _,_,.cons _ t=>congrArg (·+1) (IsK.length t)
theorem js (hK:C.K=X.K):QW X C .sh (.builtin "len") jy:=by
 intro pins s σ H xs us Q I r h
 obtain ⟨x,F,dx,rfl,sb,tx,po⟩:=h
 cases dx with
 | str z=>
  obtain ⟨rfl,hz⟩:=tx.str
  exact JK pins s σ H _ us Q I r ⟨_,_,rfl,⟨hz,rfl⟩,po _ F H sb .refl (.int _)⟩
 | lst ds=>
  obtain ⟨a,vs,rfl,p,t⟩:=tx.lst sb
  exact JK pins s σ H _ us Q I r ⟨_,ds.length,rfl,.inl ⟨vs,by rw [<-hK]; exact p,t.length.symm⟩,po _ F H sb .refl (.int _)⟩
 | tup ds=>
  obtain ⟨a,vs,rfl,p,t⟩:=tx.tup sb
  exact JK pins s σ H _ us Q I r ⟨_,ds.length,rfl,.inr ⟨vs,by rw [<-hK]; exact p,t.length.symm⟩,po _ F H sb .refl (.int _)⟩
 | dct ds=>
  obtain ⟨a,vs,rfl,p,t⟩:=tx.dct sb
  refine ZS pins s σ H _ us Q I r ⟨a,vs,rfl,p,?_⟩
  rw [t.length]
  exact po _ F H sb .refl (.int _)
 | _=>exact po.elim
noncomputable def kE:D->D->Out D
 | .int i,.int j=>.ok (.int (i+j))
 | .str x,.str y=>if x.length+y.length<=sizeLine then .ok (.str (x++y)) else .bad
 | .lst xs,.lst ys=>if xs.length+ys.length<=sizeLine then .ok (.lst (xs++ys)) else .bad
 | .tup xs,.tup ys=>if xs.length+ys.length<=sizeLine then .ok (.tup (xs++ys)) else .bad
 | _,_=>.bad
theorem uB (sb:Same F H) (hp:H p=g7):Same (upd F p u) (upd H p u)/\Chg No F H (upd F p u) (upd H p u):=by
 have hF:F p=none:=by
  cases q:F p with
  | none=>rfl
  | some o=>rw [sb p o q] at hp; cases hp
 refine ⟨λb o e=>?_,⟨λb o e _=>by rw [qC (qJ e hp)]; exact e,λb e=>?_,λb o e=>by rw [qC (qJ e hF)]; exact e,λb e=>?_⟩⟩
 ·by_cases q:b=p
  ·subst q; rw [qp] at e ⊢; exact e
  ·rw [qC q] at e ⊢; exact sb b o e
 ·by_cases q:b=p
  ·rw [q,qp]; simp
  ·rw [qC q]; exact e
 ·by_cases q:b=p
  ·exact .inr (.inl (by rw [q]; exact hp))
  ·rw [qC q] at e; exact .inl e
theorem vz (sb:Same F H) (hp:H p=g7):Same F (upd H p u)/\Chg No F H F (upd H p u)/\F p=none:=by
 have hF:F p=none:=by
  cases q:F p with
  | none=>rfl
  | some o=>rw [sb p o q] at hp; cases hp
 refine ⟨λb o e=>by rw [qC (qJ e hF)]; exact sb b o e,⟨λb o e _=>by rw [qC (qJ e hp)]; exact e,λb e=>?_,Same.refl _,λb e=>.inl e⟩,hF⟩
 by_cases q:b=p
 ·rw [q,qp]; simp
 ·rw [qC q]; exact e
theorem Ua (x y:Str):(x++y).length=x.length+y.length:=by
 show (x.cps++y.cps).size=_
 simp [fS]
theorem qei:OpR X (binaryOp .Add) (λx y H Q=>∃ l b xs zs,x=.ref l/\y=.ref b/\SqL X.K H l xs/\SqL X.K H b zs/\xs.length+zs.length<=sizeLine/\∀ p,H p=g7->Q (.ref p) (upd H p (.lst (xs++zs)))):=by
 sleep 2
 obtain ⟨l,b,xs,zs,rfl,rfl,h1,h2,hz,q⟩:=h
 cases rx
 cases ry
 obtain ⟨its,r1,p1,_⟩:=I.list h1
 obtain ⟨its2,r2,p2,_⟩:=I.list h2
 obtain ⟨⟨cls,dd,data,sl⟩,ho,hc,n,hd⟩:=id p1.isList
 obtain ⟨⟨cls2,dd2,data2,sl2⟩,ho2,hc2,n2,hd2⟩:=id p2.isList
 simp only at hc hd hc2 hd2
 subst hc hd hc2 hd2
 have hl1:=r1.length
 have hl2:=r2.length
 refine j9 ⟨_,ho,rfl⟩ ⟨_,ho2,rfl⟩ noFill_list_add seq_list_add PySem.F.slot_list_add PySem.F.entry_list_add (PySem.F.args_list_add_2 _ _)
  (list_addW l b its.toArray its2.toArray n n2 dd dd2 sl sl2 (by simp only [au]; omega)) ⟨ho,ho2,?_⟩
 have ea:its.toArray++its2.toArray=(its++its2).toArray:=by simp
 rw [ea]
 exact ⟨.ref _,_,I.lnew (t':=s.toks) (r1.append r2) (by rw [aj]; exact hz),rfl,q _ I.fresh⟩
theorem qej:OpR X (binaryOp .Add) (λx y H Q=>∃ a b ys,x=.ref a/\y=.ref b/\SqT X.K H a []/\SqT X.K H b ys/\Q (.ref b) H):=by
 sleep 2
 obtain ⟨a,b,ys,rfl,rfl,h1,h2,q⟩:=h
 cases rx
 cases ry
 obtain ⟨its,r1,p1,_⟩:=I.tuple h1
 obtain ⟨its2,r2,p2,_⟩:=I.tuple h2
 cases r1
 obtain ⟨⟨cls,dd,data,sl⟩,ho,hc,n,hd⟩:=id p1
 obtain ⟨⟨cls2,dd2,data2,sl2⟩,ho2,hc2,n2,hd2⟩:=id p2
 simp only at hc hd hc2 hd2
 subst hc hd hc2 hd2
 exact j9 ⟨_,ho,rfl⟩ ⟨_,ho2,rfl⟩ noFill_tuple_add seq_tuple_add d8 dS (dI _ _)
  (tuple_addW0 a b _ _ n n2 dd dd2 sl sl2 rfl) ⟨ho,ho2,⟨.ref b,H,I,rfl,q⟩⟩
theorem jX (hK:C.K=X.K):OpD X C .sh (binaryOp .Add) kE:=by
 sleep 2
 obtain ⟨F,dx,dy,sb,tx,ty,po⟩:=h
 cases dx with
 | int i=>
  cases dy <;> try exact po.elim
  obtain rfl:=tx.int
  obtain rfl:=ty.int
  exact qfU pins s σ H _ _ v u Q I rx ry ⟨_,_,rfl,rfl,po _ F H sb .refl (.int _)⟩
 | str a=>
  cases dy <;> try exact po.elim
  rename_i b
  obtain ⟨rfl,_⟩:=tx.str
  obtain ⟨rfl,_⟩:=ty.str
  have po:PoV C .sh F H (if a.length+b.length<=sizeLine then .ok (.str (a++b)) else .bad) Q:=po
  by_cases z:a.length+b.length<=sizeLine
  ·rw [if_pos z] at po
   exact XD pins s σ H _ _ v u Q I rx ry ⟨_,_,rfl,rfl,z,po _ F H sb .refl (.str (by rw [Ua]; exact z))⟩
  ·rw [if_neg z] at po; exact po.elim
 | lst xs=>
  cases dy <;> try exact po.elim
  rename_i ys
  obtain ⟨a,vs,rfl,p1,t1⟩:=tx.lst sb
  obtain ⟨b,ws,rfl,p2,t2⟩:=ty.lst sb
  have po:PoV C .sh F H (if xs.length+ys.length<=sizeLine then .ok (.lst (xs++ys)) else .bad) Q:=po
  by_cases z:xs.length+ys.length<=sizeLine
  ·rw [if_pos z] at po
   refine qei pins s σ H _ _ v u Q I rx ry ⟨a,b,vs,ws,rfl,rfl,by rw [<-hK]; exact p1,by rw [<-hK]; exact p2,by rw [t1.length,t2.length]; exact z,λp hp=>?_⟩
   obtain ⟨s2,c2⟩:=uB (u:=.lst (vs++ws)) sb hp
   exact po _ _ _ s2 c2 (.lst (.inl (.inl qp)) ((t1.append t2).mono c2.grow))
  ·rw [if_neg z] at po; exact po.elim
 | tup xs=>
  cases dy <;> try exact po.elim
  rename_i ys
  obtain ⟨a,vs,rfl,p1,t1⟩:=tx.tup sb
  obtain ⟨b,ws,rfl,p2,t2⟩:=ty.tup sb
  have po:PoV C .sh F H (if xs.length+ys.length<=sizeLine then .ok (.tup (xs++ys)) else .bad) Q:=po
  by_cases z:xs.length+ys.length<=sizeLine
  ·rw [if_pos z] at po
   cases vs with
   | nil=>
    cases t1
    rcases ty with ty | ⟨_,_,ty⟩
    ·exact qej pins s σ H _ _ v u Q I rx ry ⟨a,b,ws,rfl,rfl,by rw [<-hK]; exact p1,by rw [<-hK]; exact p2,po _ F H sb .refl ty⟩
    ·exact ty.elim
   | cons v0 vs=>
    refine qd0 pins s σ H _ _ v u Q I rx ry ⟨a,b,v0::vs,ws,rfl,rfl,by rw [<-hK]; exact p1,by rw [<-hK]; exact p2,by simp,by rw [t1.length,t2.length]; exact z,λe=>?_,λe p hp=>?_⟩
    ·subst e
     cases t2
     rcases tx with tx | ⟨_,_,tx⟩
     ·refine po _ F H sb .refl ?_
      rw [bg]
      exact tx
     ·exact tx.elim
    ·obtain ⟨s2,c2⟩:=uB (u:=.tup (v0::vs++ws)) sb hp
     exact po _ _ _ s2 c2 (.tup (.inl (.inl qp)) ((t1.append t2).mono c2.grow))
  ·rw [if_neg z] at po; exact po.elim
 | _=>exact po.elim
end
inductive PM where
 | val | io | tk
 deriving DecidableEq
noncomputable def zT:List PM->List V->List Addr
 | .val::ms,_::vs=>zT ms vs
 | .io::ms,.ref a::vs=>a::zT ms vs
 | .tk::ms,.ref a::vs=>a::zT ms vs
 | _::ms,_::vs=>zT ms vs
 | _,_=>[]
def ArgsIs (K:Frag) (F H:Hp):List PM->List V->List D->Prop
 | [],[],[]=>True
 | .val::ms,v::vs,d::ds=>Is K F v d/\ArgsIs K F H ms vs ds
 | .io::ms,v::vs,d::ds=>(∃ a,v=.ref a/\F a=g7/\OwnIs K F H a d)/\ArgsIs K F H ms vs ds
 | .tk::ms,v::vs,d::ds=>(∃ a,v=.ref a/\F a=g7/\OwnIs K F H a d)/\ArgsIs K F H ms vs ds
 | _,_,_=>False
def xw (K:Frag) (F H:Hp):List PM->List V->List D->Prop
 | [],_,_=>True
 | .io::ms,v::vs,d::ds=>(∃ a,v=.ref a/\F a=g7/\OwnIs K F H a d)/\xw K F H ms vs ds
 | _::ms,_::vs,_::ds=>xw K F H ms vs ds
 | _,_,_=>False
abbrev LA (ms:List PM) (vs:List V):Addr->Prop:=λb=>b∈zT ms vs
def PoG (K:Frag) (cv:Str->g9) (ms:List PM) (mr:Mo) (vs:List V) (F H:Hp) (Q:VK) (E:XK) (o:Out 'i'):Prop:=match o with
 | .ok (d,outs)=>∀ v F' H',Same F' H'->Chg (LA ms vs) F H F' H'->xw K F' H' ms vs outs->MoIs K mr H F' H' v d->Q v H'
 | .exc c o=>∀ F' H',Same F' H'->Chg (LA ms vs) F H F' H'->xw K F' H' ms vs (o.map (·.getD .non))->E (cv c) g7 H'
 | .bad=>False
def spD (K:Frag) (cv:Str->g9) (ms:List PM) (mr:Mo) (G:List D->Out 'i'):Sp:=λvs H Q E=>∃ F ds,Same F H/\ArgsIs K F H ms vs ds/\(zT ms vs).Nodup/\PoG K cv ms mr vs F H Q E (G ds)
theorem ArgsIs.length:∀ {ms:List PM} {vs:List V} {ds:List D},ArgsIs K F H ms vs ds->vs.length=ms.length/\ds.length=ms.length
 | [],[],[],_=>⟨rfl,rfl⟩
 | .val::ms,v::vs,d::ds,h=>by have:=ArgsIs.length h.2; simp [this]
 | .io::ms,v::vs,d::ds,h=>by have:=ArgsIs.length h.2; simp [this]
 | .tk::ms,v::vs,d::ds,h=>by have:=ArgsIs.length h.2; simp [this]
 | [],_::_,_,h=>h.elim
 | [],[],_::_,h=>h.elim
 | .val::_,[],_,h=>h.elim
 | .val::_,_::_,[],h=>h.elim
 | .io::_,[],_,h=>h.elim
 | .io::_,_::_,[],h=>h.elim
 | .tk::_,[],_,h=>h.elim
 | .tk::_,_::_,[],h=>h.elim
noncomputable def kH (n:Nat):List PM->List Nat
 | []=>[]
 | .val::ms=>kH (n+1) ms
 | _::ms=>n::kH (n+1) ms
noncomputable def XJ (n:Nat):List PM->List Nat
 | []=>[]
 | .io::ms=>n::XJ (n+1) ms
 | _::ms=>XJ (n+1) ms
variable {n:Nat}
theorem xx:∀ {ms:List PM} {i:Nat},i∈kH n ms->n<=i/\i < n+ms.length:=by
 intro ms
 induction ms generalizing n with
 | nil=>intro i h; simp [kH] at h
 | cons m ms ih=>
  intro i h
  cases m with
  | val=>have:=ih (n:=n+1) h; simp only [ap]; omega
  | io=>
   rcases ae.mp h with e | h
   ·simp only [ap]; omega
   ·have:=ih (n:=n+1) h; simp only [ap]; omega
  | tk=>
   rcases ae.mp h with e | h
   ·simp only [ap]; omega
   ·have:=ih (n:=n+1) h; simp only [ap]; omega
theorem qbJ:∀ {ms:List PM} {i:Nat},i∈XJ n ms->i∈kH n ms:=by
 intro ms
 induction ms generalizing n with
 | nil=>intro i h; simp [XJ] at h
 | cons m ms ih=>
  intro i h
  cases m with
  | val=>exact ih (n:=n+1) h
  | io=>
   rcases ae.mp h with e | h
   ·exact ae.mpr (.inl e)
   ·exact aa _ (ih (n:=n+1) h)
  | tk=>exact aa _ (ih (n:=n+1) h)
theorem XM:∀ {ms:List PM} {vs:List V} {ds:List D} {n:Nat},ArgsIs K F H ms vs ds ->
  (∀ j d,ds[j]?=g6 d->n+j∉kH n ms->∃ v,vs[j]?=g6 v/\Is K F v d) /\
  (∀ j d,ds[j]?=g6 d->n+j∈kH n ms->∃ a,vs[j]?=g6 (.ref a)/\F a=g7/\OwnIs K F H a d):=by
 intro ms
 induction ms with
 | nil=>intro vs ds n h; cases vs <;> cases ds <;> first | exact h.elim | (refine ⟨λj d e=>?_,λj d e=>?_⟩ <;> simp at e)
 | cons m ms ih=>
  intro vs ds n h
  cases vs with
  | nil=>cases m <;> exact h.elim
  | cons v vs=>
   cases ds with
   | nil=>cases m <;> exact h.elim
   | cons d ds=>
    cases m with
    | val=>
     obtain ⟨h1,h2⟩:=h
     obtain ⟨i1,i2⟩:=ih (n:=n+1) h2
     refine ⟨λj e hj hn=>?_,λj e hj hn=>?_⟩
     ·cases j with
      | zero=>simp at hj; subst hj; exact ⟨v,rfl,h1⟩
      | succ j=>simpa using i1 j e (by simpa using hj) (by rw [show n+1+j=n+(j+1) by omega]; exact hn)
     ·cases j with
      | zero=>have:=xx (n:=n+1) hn; omega
      | succ j=>simpa using i2 j e (by simpa using hj) (by rw [show n+1+j=n+(j+1) by omega]; exact hn)
    | io=>
     obtain ⟨⟨a,rfl,h1⟩,h2⟩:=h
     obtain ⟨i1,i2⟩:=ih (n:=n+1) h2
     refine ⟨λj e hj hn=>?_,λj e hj hn=>?_⟩
     ·cases j with
      | zero=>exact absurd (ae.mpr (.inl rfl)) hn
      | succ j=>simpa using i1 j e (by simpa using hj) (λz=>hn (aa _ (by rw [show n+(j+1)=n+1+j by omega]; exact z)))
     ·cases j with
      | zero=>simp at hj; subst hj; exact ⟨a,rfl,h1⟩
      | succ j=>
       have hm:n+1+j∈kH (n+1) ms:=by
        rcases ae.mp hn with z | z
        ·omega
        ·rw [show n+1+j=n+(j+1) by omega]; exact z
       simpa using i2 j e (by simpa using hj) hm
    | tk=>
     obtain ⟨⟨a,rfl,h1⟩,h2⟩:=h
     obtain ⟨i1,i2⟩:=ih (n:=n+1) h2
     refine ⟨λj e hj hn=>?_,λj e hj hn=>?_⟩
     ·cases j with
      | zero=>exact absurd (ae.mpr (.inl rfl)) hn
      | succ j=>simpa using i1 j e (by simpa using hj) (λz=>hn (aa _ (by rw [show n+(j+1)=n+1+j by omega]; exact z)))
     ·cases j with
      | zero=>simp at hj; subst hj; exact ⟨a,rfl,h1⟩
      | succ j=>
       have hm:n+1+j∈kH (n+1) ms:=by
        rcases ae.mp hn with z | z
        ·omega
        ·rw [show n+1+j=n+(j+1) by omega]; exact z
       simpa using i2 j e (by simpa using hj) hm
theorem Gd:∀ {ms:List PM} {vs:List V} {j:Nat} {a:Addr},n+j∈kH n ms->vs[j]?=g6 (.ref a)->a∈zT ms vs:=by
 intro ms
 induction ms generalizing n with
 | nil=>intro vs j a h; simp [kH] at h
 | cons m ms ih=>
  intro vs j a h e
  cases vs with
  | nil=>simp at e
  | cons v vs=>
   cases j with
   | zero=>
    simp at e; subst e
    cases m with
    | val=>have:=xx (n:=n+1) h; omega
    | io=>exact ae.mpr (.inl rfl)
    | tk=>exact ae.mpr (.inl rfl)
   | succ j=>
    have e':vs[j]?=g6 (.ref a):=by simpa using e
    have sub:n+1+j∈kH (n+1) ms:=by
     rw [show n+1+j=n+(j+1) by omega]
     cases m with
     | val=>exact h
     | io=>exact (ae.mp h).resolve_left 'a'
     | tk=>exact (ae.mp h).resolve_left 'a'
    have q:=ih (n:=n+1) sub e'
    cases m <;> cases v <;> first | exact q | exact aa _ q
theorem Ge:∀ {ms:List PM} {vs:List V} {a:Addr},a∈zT ms vs->∃ j,n+j∈kH n ms/\vs[j]?=g6 (.ref a):=by
 intro ms
 induction ms generalizing n with
 | nil=>intro vs a h; cases vs <;> simp [zT] at h
 | cons m ms ih=>
  intro vs a h
  cases vs with
  | nil=>cases m <;> simp [zT] at h
  | cons v vs=>
   have up:∀ {b},b∈zT ms vs->∃ j,n+j∈kH n (m::ms)/\(v::vs)[j]?=g6 (.ref b):=λhb=>by
    obtain ⟨j,h1,h2⟩:=ih (n:=n+1) hb
    refine ⟨j+1,?_,by simpa using h2⟩
    rw [show n+(j+1)=n+1+j by omega]
    cases m with
    | val=>exact h1
    | io=>exact aa _ h1
    | tk=>exact aa _ h1
   cases m with
   | val=>exact up (by cases v <;> exact h)
   | io=>
    cases v with
    | ref c=>
     rcases ae.mp h with e | h
     ·subst e; exact ⟨0,ae.mpr (.inl rfl),rfl⟩
     ·exact up h
    | _=>exact up h
   | tk=>
    cases v with
    | ref c=>
     rcases ae.mp h with e | h
     ·subst e; exact ⟨0,ae.mpr (.inl rfl),rfl⟩
     ·exact up h
    | _=>exact up h
theorem qbK:∀ {ms:List PM} {vs:List V} {i j:Nat} {a:Addr},(zT ms vs).Nodup->n+i∈kH n ms->n+j∈kH n ms->vs[i]?=g6 (.ref a)->vs[j]?=g6 (.ref a)->i=j:=by
 intro ms
 induction ms generalizing n with
 | nil=>intro vs i j a _ h; simp [kH] at h
 | cons m ms ih=>
  intro vs i j a nd hi hj e1 e2
  cases vs with
  | nil=>simp at e1
  | cons v vs=>
   have sub:∀ {k},n+(k+1)∈kH n (m::ms)->n+1+k∈kH (n+1) ms:=λ{k} h=>by
    rw [show n+1+k=n+(k+1) by omega]
    cases m with
    | val=>exact h
    | io=>exact (ae.mp h).resolve_left 'a'
    | tk=>exact (ae.mp h).resolve_left 'a'
   have nd':(zT ms vs).Nodup:=by
    cases m <;> cases v <;> first | exact nd | exact (aM.mp nd).2
   have no0:∀ {k b},n+0∈kH n (m::ms)->v=.ref b->n+(k+1)∈kH n (m::ms)->vs[k]?=g6 (.ref b)->False:=λ{k b} h0 hv hk ek=>by
    subst hv
    have q:=Gd (n:=n+1) (sub hk) ek
    cases m with
    | val=>have:=xx (n:=n+1) h0; omega
    | io=>exact (aM.mp nd).1 q
    | tk=>exact (aM.mp nd).1 q
   cases i with
   | zero=>
    cases j with
    | zero=>rfl
    | succ j=>exact (no0 hi (by simpa using e1) hj (by simpa using e2)).elim
   | succ i=>
    cases j with
    | zero=>exact (no0 hj (by simpa using e2) hi (by simpa using e1)).elim
    | succ j=>exact congrArg (·+1) (ih (n:=n+1) nd' (sub hi) (sub hj) (by simpa using e1) (by simpa using e2))
noncomputable def qw (N:List Str) (ds:List D):Sl:=ds.map g6++bD (N.length - ds.length) g7
variable {α:Type} {N:List Str}
theorem get_start {xs:List α} {x:α}:(xs.map g6++bD (N.length - xs.length) g7)[i]?=g6 (g6 x)↔xs[i]?=g6 x:=by
 by_cases h:i < xs.length
 ·rw [cO (by simpa using h),aG]
  cases e:xs[i]? with
  | none=>simp
  | some y=>simp
 ·rw [cK (by simpa using h),cz]
  have e:xs[i]?=none:=bJ.mpr 'a'
  rw [e]
  split <;> simp
variable {ms:List PM}
theorem Gf (sb:Same F H) (ar:ArgsIs K F H ms vs ds) (nd:(zT ms vs).Nodup):Rep K (kH 0 ms) F H (xl N vs) (qw N ds):=by
 obtain ⟨h1,h2⟩:=XM (n:=0) ar
 obtain ⟨l1,l2⟩:=ar.length
 refine ⟨sb,by simp [xl,qw,l1,l2],λi d hi e=>?_,λi d hi e=>?_,λi hi=>?_,λi j a hi hj e1 e2=>?_⟩
 ·obtain ⟨v,a,b⟩:=h1 i d (get_start.mp e) (by simpa using hi)
  exact ⟨v,get_start.mpr a,b⟩
 ·obtain ⟨v,a,b⟩:=h2 i d (get_start.mp e) (by simpa using hi)
  exact ⟨v,get_start.mpr a,b⟩
 ·have q:=xx hi
  have hl:i < ds.length:=by omega
  exact ⟨ds[i],get_start.mpr (by simp [hl])⟩
 ·exact qbK (n:=0) nd (by simpa using hi) (by simpa using hj) (get_start.mp e1) (get_start.mp e2)
theorem oa_start:OA (kH 0 ms) (xl N vs) b↔LA ms vs b:=by
 constructor
 ·rintro ⟨i,hi,e⟩
  exact Gd (n:=0) (by simpa using hi) (get_start.mp e)
 ·intro h
  obtain ⟨j,h1,h2⟩:=Ge (n:=0) h
  exact ⟨j,by simpa using h1,get_start.mpr h2⟩
noncomputable def qv (ρ:Sl):Nat->List PM->List D
 | _,[]=>[]
 | n,.io::ms=>((ρ[n]?).getD g7).getD .non::qv ρ (n+1) ms
 | n,_::ms=>.non::qv ρ (n+1) ms
theorem qek {σ:St} {N:List Str}:∀ {ms:List PM} {vs:List V} {n:Nat},vs.length=ms.length->(∀ i∈XJ n ms,∃ d a,ρ[i]?=g6 (g6 d)/\vs[i - n]?=g6 (V.ref a)/\F a=g7/\OwnIs K F H a d)->xw K F H ms vs (qv ρ n ms):=by
 intro ms
 induction ms with
 | nil=>intro vs n _ _; trivial
 | cons m ms ih=>
  intro vs n hl h
  cases vs with
  | nil=>simp at hl
  | cons v vs=>
   have rest:(∀ i∈XJ (n+1) ms,i∈XJ n (m::ms))->xw K F H ms vs (qv ρ (n+1) ms):=λhs=>by
    refine ih (by simpa using hl) λi hi=>?_
    obtain ⟨d,a,e1,e2,e3⟩:=h i (hs i hi)
    have q:=xx (qbJ hi)
    refine ⟨d,a,e1,?_,e3⟩
    rw [show i - n=(i - (n+1))+1 by omega] at e2
    simpa using e2
   cases m with
   | val=>exact rest λi hi=>hi
   | io=>
    obtain ⟨d,a,e1,e2,e3⟩:=h n (ae.mpr (.inl rfl))
    refine ⟨⟨a,by simpa using e2,e3.1,?_⟩,rest λi hi=>aa _ hi⟩
    rw [e1]
    exact e3.2
   | tk=>exact rest λi hi=>hi
noncomputable def Fl.val:Fl->Option D
 | .nx=>g6 .non
 | .rt d=>g6 d
 | _=>g7
noncomputable def ko (N:List Str) (ms:List PM) (f:Sl->Out (Fl×Sl)) (ds:List D):Out 'i':=match f (qw N ds) with
 | .ok (.nx,ρ)=>.ok (.non,qv ρ 0 ms)
 | .ok (.rt d,ρ)=>.ok (d,qv ρ 0 ms)
 | .ok _=>.bad
 | .exc c ρ=>.exc c ((qv ρ 0 ms).map g6)
 | .bad=>.bad
theorem Yy:∀ (l:List D),(l.map g6).map (λx:Option D=>x.getD .non)=l
 | []=>rfl
 | a::l=>congrArg (a::·) (Yy l)
def Out.le {α:Type} (a b:Out α):Prop:=a=.bad\/a=b
theorem qel {f:Sl->Out (Fl×Sl)} {Q:VK} {o:Out 'i'} (hio:C.io=XJ 0 ms) (hox:C.ox=C.io) (hmr:C.mr=.sh\/∀ ρ,(f (qw N ds))≠.ok (.nx,ρ)) (hsub:∀ i∈XJ 0 ms,i∈own') (sb:Same F H) (ar:ArgsIs C.K F H ms vs ds) (nd:(zT ms vs).Nodup)
  (hG:Out.le o (ko N ms f ds)) (h:PoG C.K C.cv ms C.mr vs F H Q C.E o):tSt C (kH 0 ms) own' f { nx:=λ_ H'=>Q .non H',rt:=Q } (xl N vs) H:=by
 refine ⟨F,qw N ds,Gf sb ar nd,?_⟩
 have hl:=ar.length.1
 have ch:∀ {F' H'},Chg (OA (kH 0 ms) (xl N vs)) F H F' H'->Chg (LA ms vs) F H F' H':=λc=>c.mono λx z=>oa_start.mp z
 have outs:∀ {σ':St} {ρ':Sl} {F' H':Hp},Zv C.K C.io F' H' σ' ρ'->(∀ i∈C.io,σ'[i]?=(xl N vs)[i]?)->xw C.K F' H' ms vs (qv ρ' 0 ms):=λ{σ' ρ' F' H'} io e=>by
  refine qek (N:=N) (σ:=σ') hl λi hi=>?_
  have hi':i∈C.io:=by rw [hio]; exact hi
  obtain ⟨d,a,e1,e2,e3⟩:=io i hi'
  refine ⟨d,a,e1,?_,e3⟩
  rw [e i hi'] at e2
  exact get_start.mp e2
 rcases hG with e | e
 ·subst e; exact h.elim
 ·subst e
  unfold ko at h
  cases q:f (qw N ds) with
  | ok p=>
   rw [q] at h
   obtain ⟨fl,ρ'⟩:=p
   cases fl with
   | nx=>
    have hm:C.mr=.sh:=hmr.resolve_right λz=>z ρ' q
    exact λσ' F' H' n=>h .non F' H' n.rep.sub (ch n.chg) (outs (n.rep.ioIs (by rw [hio]; exact hsub)) n.io) (by rw [hm]; exact .non)
   | rt d=>exact λv σ' F' H' s io c e mo=>h v F' H' s (ch c) (outs io e) mo
   | bk=>exact h.elim
   | ct=>exact h.elim
  | exc c ρ'=>
   rw [q] at h
   exact λF' H' s io c'=>h F' H' s (ch c') (by rw [Yy]; exact outs (σ':=xl N vs) (by rw [<-hox]; exact io) λ_ _=>rfl)
  | bad=>rw [q] at h; exact h.elim
def qii (K:Frag) (cv:Str->g9) (E:XK) (ms:List PM) (mr:Mo):Ct:=⟨K,cv,E,XJ 0 ms,mr,[],XJ 0 ms,λ_ h=>h⟩
theorem qi1 {P:h8} {w:ib} {K:Frag} {mg:Str->Option g9} {base:Heap} {CX:CXT} {x qual:Str} {st:Stmt} {f:Addr} {fd:iP} {N ps:List Str} {k:Nat} {cv:Str->g9} {ms:List PM} {mr:Mo} {own':List Nat} {fb:Sl->Out (Fl×Sl)} {G:List D->Out 'i'}
  (F:Fun K x qual st f fd) (S:FnScope N ps (qe st)) (hl:ms.length=ps.length) (hsub:∀ i∈XJ 0 ms,i∈own') (hmr:mr=.sh\/∀ ds ρ,(fb (qw N ds))≠.ok (.nx,ρ))
  (hbody:∀ (cdv:g9) (A:ii) (outer:List Env) (s:hV) (H:Hp) (E:XK),Room k (A.deeper (envOfC qual (qe st) s.heap.objs.size f cdv)) ->
   PSs (qdW CX P w K mg base N qual (qe st) f cdv A outer s H E) (wq st) (tSt (qii K cv E ms mr) (kH 0 ms) own' fb))
  (hG:∀ ds,Out.le (G ds) (ko N ms fb ds)):FnOk P w K mg base CX (k+1) f fd ps (spD K cv ms mr G):=by
 obtain ⟨oc,od,kV,doc,pm,an,cdv,ct,osl,rfl,lk,hcd⟩:=F.ex
 refine qh7 lk hcd S (λvs H Q E h=>?_) λA outer s H vs Q E hr hsp=>?_
 ·obtain ⟨F,ds,_,ar,_⟩:=h
  rw [ar.length.1,hl]
 ·obtain ⟨F1,ds,sb,ar,nd,h⟩:=hsp
  refine ⟨_,hbody cdv A outer s H E hr,?_⟩
  exact qel (C:=qii K cv E ms mr) rfl rfl (hmr.imp id λz ρ=>z ds ρ) hsub sb ar nd (hG ds) h
noncomputable def VE:AK->PM
 | .vl=>.val
 | .sl _=>.io
 | .fr=>.tk
noncomputable def qA:List AK->List D->Sl->Option (List D)
 | [],[],_=>g6 []
 | .sl i::as,_::ds,ρ=>match ρ[i]? with
  | some (g6 d)=>(qA as ds ρ).map (d::·)
  | _=>g7
 | .vl::as,d::ds,ρ=>(qA as ds ρ).map (d::·)
 | .fr::as,d::ds,ρ=>(qA as ds ρ).map (d::·)
 | _,_,_=>g7
noncomputable def ji:List AK->List D->Sl->Sl
 | .sl i::as,d::outs,ρ=>ji as outs (ρ.set i (g6 d))
 | _::as,_::outs,ρ=>ji as outs ρ
 | _,_,ρ=>ρ
noncomputable def jO:List AK->List Nat
 | []=>[]
 | .sl i::as=>i::jO as
 | _::as=>jO as
noncomputable def frA:List AK->Nat
 | []=>0
 | .fr::as=>frA as+1
 | _::as=>frA as
section
theorem xy:∀ {as:List AK} {vs:List V} {ds ds':List D},Rep K own F H σ ρ->(∀ i∈jO as,i∈own)->ArgV K H0 F H σ as vs ds->qA as ds ρ=g6 ds'->ArgsIs K F H (as.map VE) vs ds'
 | [],vs,ds,ds',rp,hs,av,e=>by
  cases vs <;> cases ds <;> first | exact av.elim | (simp [qA] at e; subst e; trivial)
 | a::as,[],ds,ds',rp,hs,av,e=>by cases a <;> exact av.elim
 | a::as,v::vs,[],ds',rp,hs,av,e=>by cases a <;> exact av.elim
 | .vl::as,v::vs,d::ds,ds',rp,hs,av,e=>by
  cases q:qA as ds ρ with
  | none=>simp [qA,q] at e
  | some l=>
   have e:d::l=ds':=by simpa [qA,q] using e
   subst e
   exact ⟨av.1,xy rp hs av.2 q⟩
 | .fr::as,v::vs,d::ds,ds',rp,hs,av,e=>by
  cases q:qA as ds ρ with
  | none=>simp [qA,q] at e
  | some l=>
   have e:d::l=ds':=by simpa [qA,q] using e
   subst e
   obtain ⟨a,h1,_,h2,h3⟩:=av.1
   exact ⟨⟨a,h1,h2,h3⟩,xy rp hs av.2 q⟩
 | .sl i::as,v::vs,d::ds,ds',rp,hs,av,e=>by
  obtain ⟨h1,_,av2⟩:=av
  have hi:i∈own:=hs i (ae.mpr (.inl rfl))
  obtain ⟨d',hd⟩:=rp.opn i hi
  obtain ⟨a,e1,e2,e3⟩:=rp.ow i d' hi hd
  rw [h1] at e1
  cases e1
  cases q:qA as ds ρ with
  | none=>simp [qA,q,hd] at e
  | some l=>
   have e:d'::l=ds':=by simpa [qA,q,hd] using e
   subst e
   exact ⟨⟨a,rfl,e2,e3⟩,xy rp (λj hj=>hs j (aa _ hj)) av2 q⟩
theorem vA:∀ {as:List AK} {vs:List V} {ds:List D} {b:Addr},ArgV K H0 F H σ as vs ds->b∈zT (as.map VE) vs->(∃ i∈jO as,σ[i]?=g6 (g6 (V.ref b)))\/(H0 b=g7/\frA as≠0/\H b≠g7/\F b=g7)
 | [],vs,ds,b,av,h=>by cases vs <;> simp [zT] at h
 | a::as,[],ds,b,av,h=>by cases a <;> exact av.elim
 | a::as,v::vs,[],b,av,h=>by cases a <;> exact av.elim
 | .vl::as,v::vs,d::ds,b,av,h=>by
  have h:b∈zT (as.map VE) vs:=by cases v <;> exact h
  exact vA (as:=as) av.2 h
 | .fr::as,v::vs,d::ds,b,av,h=>by
  obtain ⟨⟨a,rfl,h0,hF,o⟩,av2⟩:=av
  have h:b∈a::zT (as.map VE) vs:=h
  rcases ae.mp h with e | h
  ·subst e; exact .inr ⟨h0,by simp [frA],o.there,hF⟩
  ·rcases vA av2 h with z | ⟨z,_,z2⟩
   ·exact .inl z
   ·exact .inr ⟨z,by simp [frA],z2⟩
 | .sl i::as,v::vs,d::ds,b,av,h=>by
  obtain ⟨h1,_,av2⟩:=av
  have up:b∈zT (as.map VE) vs->(∃ j∈jO (.sl i::as),σ[j]?=g6 (g6 (V.ref b)))\/(H0 b=g7/\frA (.sl i::as)≠0/\H b≠g7/\F b=g7):=λh=>by
   rcases vA av2 h with ⟨j,hj,e⟩ | z
   ·exact .inl ⟨j,aa _ hj,e⟩
   ·exact .inr z
  cases v with
  | ref a=>
   have h:b∈a::zT (as.map VE) vs:=h
   rcases ae.mp h with e | h
   ·subst e; exact .inl ⟨i,ae.mpr (.inl rfl),h1⟩
   ·exact up h
  | _=>exact up h
theorem yh:∀ {as:List AK} {vs:List V} {ds:List D},Rep K own F H σ ρ->(∀ x,OA own σ x->H0 x≠g7)->(∀ i∈jO as,i∈own)->(jO as).Nodup->frA as<=1->ArgV K H0 F H σ as vs ds->(zT (as.map VE) vs).Nodup
 | [],vs,ds,rp,h0,hs,nd,hf,av=>by cases vs <;> simp [zT]
 | a::as,[],ds,rp,h0,hs,nd,hf,av=>by cases a <;> exact av.elim
 | a::as,v::vs,[],rp,h0,hs,nd,hf,av=>by cases a <;> exact av.elim
 | .vl::as,v::vs,d::ds,rp,h0,hs,nd,hf,av=>by
  have q:=yh (as:=as) rp h0 hs nd hf av.2
  cases v <;> exact q
 | .fr::as,v::vs,d::ds,rp,h0,hs,nd,hf,av=>by
  have hf':frA as=0:=by simp only [frA] at hf; omega
  obtain ⟨⟨a,rfl,hz,hF,o⟩,av2⟩:=av
  show (a::zT (as.map VE) vs).Nodup
  refine aM.mpr ⟨λz=>?_,yh rp h0 hs nd 'a' av2⟩
  rcases vA av2 z with ⟨i,hi,e⟩ | ⟨_,n,_⟩
  ·exact h0 a ⟨i,hs i hi,e⟩ hz
  ·exact n hf'
 | .sl i::as,v::vs,d::ds,rp,h0,hs,nd,hf,av=>by
  obtain ⟨h1,_,av2⟩:=av
  have hs':∀ j∈jO as,j∈own:=λj hj=>hs j (aa _ hj)
  have hi:i∈own:=hs i (ae.mpr (.inl rfl))
  obtain ⟨ni,nd'⟩:=aM.mp nd
  have q:=yh rp h0 hs' nd' hf av2
  cases v with
  | ref a=>
   show (a::zT (as.map VE) vs).Nodup
   refine aM.mpr ⟨λz=>?_,q⟩
   rcases vA av2 z with ⟨j,hj,e⟩ | ⟨n,_⟩
   ·exact ni (by rw [rp.dis i j a hi (hs' j hj) h1 e]; exact hj)
   ·exact h0 a ⟨i,hi,h1⟩ n
  | _=>exact q
theorem wR:∀ {as:List AK} {outs:List D} {ρ:Sl} {i:Nat},i∉jO as->(ji as outs ρ)[i]?=ρ[i]?
 | [],outs,ρ,i,h=>by cases outs <;> rfl
 | a::as,[],ρ,i,h=>by cases a <;> rfl
 | .vl::as,d::outs,ρ,i,h=>wR (as:=as) h
 | .fr::as,d::outs,ρ,i,h=>wR (as:=as) h
 | .sl j::as,d::outs,ρ,i,h=>by
  have h':i≠j/\i∉jO as:=by simpa [jO] using h
  show (ji as outs (ρ.set j (g6 d)))[i]?=_
  rw [wR h'.2,ay (bf h'.1)]
theorem gb:∀ {as:List AK} {outs:List D} {ρ:Sl},(ji as outs ρ).length=ρ.length
 | [],outs,ρ=>by cases outs <;> rfl
 | a::as,[],ρ=>by cases a <;> rfl
 | .vl::as,d::outs,ρ=>gb (as:=as)
 | .fr::as,d::outs,ρ=>gb (as:=as)
 | .sl j::as,d::outs,ρ=>by
  show (ji as outs (ρ.set j (g6 d))).length=_
  rw [gb,cA]
theorem JR {F' H':Hp}:∀ {as:List AK} {vs:List V} {ds outs:List D} {ρ:Sl},(jO as).Nodup->(∀ i∈jO as,i < ρ.length)->ArgV K H0 F H σ as vs ds->xw K F' H' (as.map VE) vs outs->∀ i∈jO as,∃ d a,(ji as outs ρ)[i]?=g6 (g6 d)/\σ[i]?=g6 (g6 (V.ref a))/\F' a=g7/\OwnIs K F' H' a d
 | [],vs,ds,outs,ρ,nd,hl,av,o,i,hi=>by simp [jO] at hi
 | a::as,[],ds,outs,ρ,nd,hl,av,o,i,hi=>by cases a <;> exact av.elim
 | a::as,v::vs,[],outs,ρ,nd,hl,av,o,i,hi=>by cases a <;> exact av.elim
 | a::as,v::vs,d::ds,[],ρ,nd,hl,av,o,i,hi=>by cases a <;> exact o.elim
 | .vl::as,v::vs,d::ds,u::outs,ρ,nd,hl,av,o,i,hi=>JR (as:=as) nd hl av.2 o i hi
 | .fr::as,v::vs,d::ds,u::outs,ρ,nd,hl,av,o,i,hi=>JR (as:=as) nd hl av.2 o i hi
 | .sl j::as,v::vs,d::ds,u::outs,ρ,nd,hl,av,o,i,hi=>by
  obtain ⟨ni,nd'⟩:=aM.mp nd
  obtain ⟨h1,_,av2⟩:=av
  obtain ⟨⟨a,e,hF,ow⟩,o2⟩:=o
  subst e
  rcases ae.mp hi with e | hi
  ·subst e
   refine ⟨u,a,?_,h1,hF,ow⟩
   show (ji as outs (ρ.set i (g6 u)))[i]?=_
   rw [wR ni,aH (hl i (ae.mpr (.inl rfl)))]
  ·exact JR (as:=as) (ρ:=ρ.set j (g6 u)) nd' (λk hk=>by rw [cA]; exact hl k (aa _ hk)) av2 o2 i hi
end
noncomputable def qt (as:List AK) (G:List D->Out 'i') (fr:Sl->Out (List D×Sl)):Sl->Out (D×Sl):=λρ=>(fr ρ).bind λp=>match qA as p.1 p.2 with
 | some ds=>match G ds with
  | .ok q=>.ok (q.1,ji as q.2 p.2)
  | .exc c o=>.exc c (ji as (o.map (·.getD .non)) p.2)
  | .bad=>.bad
 | none=>.bad
variable {G:List D->Out 'i'} {mr:Mo} {ps:List Str}
section
variable {fr:Sl->Out (List D×Sl)}
theorem Yz {F' H':Hp} {outs:List D} (rp:Rep C.K own F H σ ρ) (h0:∀ x,OA own σ x->H0 x≠g7) (hs:∀ i∈jO as,i∈own) (nd:(jO as).Nodup) (av:ArgV C.K H0 F H σ as vs ds)
  (sb:Same F' H') (c:Chg (LA (as.map VE) vs) F H F' H') (o:xw C.K F' H' (as.map VE) vs outs):Rep C.K own F' H' σ (ji as outs ρ):=by
 have pin:=JR (ρ:=ρ) nd (λi hi=>by
  obtain ⟨d,e⟩:=rp.opn i (hs i hi)
  exact (aC.mp e).1) av o
 refine ⟨sb,by rw [gb]; exact rp.len,λi d hi e=>?_,λi d hi e=>?_,λi hi=>?_,rp.dis⟩
 ·rw [wR (λz=>hi (hs i z))] at e
  obtain ⟨v,h1,h2⟩:=rp.val i d hi e
  exact ⟨v,h1,h2.mono c.grow⟩
 ·by_cases q:i∈jO as
  ·obtain ⟨d',a,e1,e2,e3,e4⟩:=pin i q
   rw [e1] at e
   cases e
   exact ⟨a,e2,e3,e4⟩
  ·rw [wR q] at e
   obtain ⟨a,h1,h2,h3⟩:=rp.ow i d hi e
   have nl:¬LA (as.map VE) vs a:=λz=>by
    rcases vA av z with ⟨j,hj,e'⟩ | ⟨n,_⟩
    ·exact q (by rw [rp.dis i j a hi (hs j hj) h1 e']; exact hj)
    ·exact h0 a ⟨i,hi,h1⟩ n
   refine ⟨a,h1,?_,h3.grow c.grow λo' q'=>c.keep a o' q' nl⟩
   cases q':F' a with
   | none=>rfl
   | some u=>
    rcases c.new a (by rw [q']; simp) with z | z | z
    ·exact absurd h2 z
    ·exact absurd z h3.there
    ·exact absurd z nl
 ·by_cases q:i∈jO as
  ·obtain ⟨d',a,e1,_⟩:=pin i q
   exact ⟨d',e1⟩
  ·rw [wR q]
   exact rp.opn i hi
theorem qem {Q:VK} (hio:∀ i∈C.ox,i∈own) (hs:∀ i∈jO as,i∈own) (nd:(jO as).Nodup) (hf:frA as<=1) (h:tE C own mr (qt as G fr) σ H Q) :
  tAr C own as fr σ H λvs H1=>spD C.K C.cv (as.map VE) mr G (vs++[]) H1 Q C.E:=by
 obtain ⟨F,ρ,rp,h⟩:=h
 have h0:∀ x,OA own σ x->H x≠none:=λx z=>(rp.OA_there z).1
 refine ⟨F,ρ,rp,?_⟩
 unfold qt at h
 cases q0:fr ρ with
 | ok p=>
  rw [q0] at h
  obtain ⟨ds,ρ1⟩:=p
  intro vs F1 H1 rp1 c1 av
  rw [bg]
  have h1:Po C own mr σ F H (match qA as ds ρ1 with | some ds=>(match G ds with | .ok q=>.ok (q.1,ji as q.2 ρ1) | .exc c o=>.exc c (ji as (o.map (·.getD .non)) ρ1) | .bad=>.bad) | none=>.bad) Q:=h
  cases q:qA as ds ρ1 with
  | none=>simp only [q] at h1; exact h1.elim
  | some ds'=>
   simp only [q] at h1
   have lo:∀ x,LA (as.map VE) vs x->OA own σ x\/H x=none:=λx z=>by
    rcases vA av z with ⟨i,hi,e⟩ | ⟨n,_⟩
    ·exact .inl ⟨i,hs i hi,e⟩
    ·exact .inr n
   refine ⟨F1,ds',rp1.sub,xy rp1 hs av q,yh rp1 h0 hs nd hf av,?_⟩
   cases q2:G ds' with
   | ok p=>
    rw [q2] at h1
    obtain ⟨d,outs⟩:=p
    exact λv F' H' sb c o mo=>h1 v F' H' (Yz rp1 h0 hs nd av sb c o) (c1.trans c lo) (MoIs.back (Ha:=H1) c1 mo)
   | exc x o=>rw [q2] at h1; exact λF' H' sb c outs=>h1 F' H' sb ((Yz rp1 h0 hs nd av sb c outs).ioIs hio) (c1.trans c lo)
   | bad=>rw [q2] at h1; exact h1.elim
 | exc c=>rw [q0] at h; exact h
 | bad=>rw [q0] at h; exact h.elim
theorem qen {CX:CXT} {k:Nat} {f:Addr} {fd:iP} {p pos:Pos} (F:FnOk X.prog X.w X.K X.mg X.base CX k f fd ps (spD C.K C.cv ms mr G)) (hr:Room k X.A) (hg:Gl X x) (hm:X.mg x=g6 (.ref f)) (hk:keepIn X.K (.ref f)=hZ) (hb:Binds X.K fd ps []) (hx:zA CX X C.E)
  (ha:PA X (e::es) (tAr C own as fr)) (hms:ms=as.map VE:=by rfl) (hs:∀ i∈jO as,i∈own:=by decide) (nd:(jO as).Nodup:=by decide) (hf:frA as<=1:=by decide) (hio:∀ i∈C.ox,i∈own:=by exact zD rfl) (hdb:'m'=false:=by decide) (he:starEach (e::es) X.env=(hJ,eval e X.env)::starEach es X.env:=by exact kS rfl)
  (hpl:(backTo pos (starEach es X.env)).any (·.1)=false:=by exact JO rfl):PE X (.Call (.Name x p) (e::es) [] pos) (tE C own mr (qt as G fr)):=by
 subst hms
 exact kn (qdV F hr hg hm hk hb .nil hx ha hdb he hpl) λσ H Q h=>qem hio hs nd hf h
end
structure ItIs (K:Frag) (F:Hp) (J:It) (ds:List D):Prop where
 go:∀ i H,i < ds.length->Same F H->J.go i H
 yld:∀ i Fi H x H' d,ds[i]?=g6 d->Same F Fi->Same Fi H->J.yld i H x H'->∃ F',Chg No Fi H F' H'/\Same F' H'/\Is K F' x d
 stop:∀ i H,ds.length<=i->Same F H->J.stop i H
def PoI (C:Ct) (own:List Nat) (σ:St) (F H:Hp) (r:Out (List D×Sl)) (R:It->Hp->Prop):Prop:=match r with
 | .ok (ds,ρ')=>∀ J F' H',Rep C.K own F' H' σ ρ'->Chg (OA own σ) F H F' H'->ItIs C.K F' J ds->R J H'
 | .exc c ρ'=>∀ F' H',Same F' H'->Zv C.K C.ox F' H' σ ρ'->Chg (OA own σ) F H F' H'->C.E (C.cv c) g7 H'
 | .bad=>False
def tIt (C:Ct) (own:List Nat) (f:Sl->Out (List D×Sl)):TI:=λσ H R=>∃ F ρ,Rep C.K own F H σ ρ/\PoI C own σ F H (f ρ) R
noncomputable def qgn:D->Out (List D)
 | .lst xs=>.ok xs
 | .tup xs=>.ok xs
 | _=>.bad
noncomputable def qjE (f:Sl->Out (D×Sl)):Sl->Out (List D×Sl):=λρ=>(f ρ).bind λp=>(qgn p.1).bind λds=>.ok (ds,p.2)
theorem PoI.bindV {m:Mo} {k:D×Sl->Out (List D×Sl)} {Q:It->Hp->Prop} {R:VK} (hp:PoI C own σ F H (o.bind k) Q)
  (h:∀ v F1 H1 d ρ1,Rep C.K own F1 H1 σ ρ1->Chg (OA own σ) F H F1 H1->MoIs C.K m H F1 H1 v d->PoI C own σ F H (k (d,ρ1)) Q->R v H1):Po C own m σ F H o R:=by
 cases o with
 | ok p=>exact λv F1 H1 rp c mo=>h v F1 H1 p.1 p.2 rp c mo hp
 | exc x=>exact hp
 | bad=>exact hp.elim
variable {fb:Sl->Out (Fl×Sl)} {tg iter:Expr} {xs:List V} {gs:List D->Sl->Out Sl} {fi:Sl->Out (List D×Sl)}
section
theorem Gg {t t':TI} (h:PI X tg e t) (i:∀ σ H Q,t' σ H Q->t σ H Q):PI X tg e t':=⟨λpins s σ H R I hw=>h pins s σ H R I (i σ H R hw)⟩
theorem qgo (p:SqL K F a xs) (t:IsL K F xs ds):ItIs K F (Itl K a) ds where
 go:=λi H hi s=>by
  have hx:i < xs.length:=by rw [t.length]; exact hi
  exact ⟨xs,xs[i],s.seq p,by simp [hx]⟩
 yld:=λi Fi H x H' d e s1 s2 y=>by
  obtain ⟨rfl,y⟩:=y
  obtain ⟨v,h1,h2⟩:=t.getD e
  have q:=y xs ((s1.trans s2).seq p)
  rw [h1] at q
  cases q
  exact ⟨Fi,.refl,s2,h2.mono s1⟩
 stop:=λi H hi s=>⟨xs,s.seq p,by rw [t.length]; exact hi⟩
theorem qgp (p:SqT K F a xs) (t:IsL K F xs ds):ItIs K F (Itt K a) ds where
 go:=λi H hi s=>by
  have hx:i < xs.length:=by rw [t.length]; exact hi
  exact ⟨xs,xs[i],qN s p,by simp [hx]⟩
 yld:=λi Fi H x H' d e s1 s2 y=>by
  obtain ⟨rfl,y⟩:=y
  obtain ⟨v,h1,h2⟩:=t.getD e
  have q:=y xs (qN (s1.trans s2) p)
  rw [h1] at q
  cases q
  exact ⟨Fi,.refl,s2,h2.mono s1⟩
 stop:=λi H hi s=>⟨xs,qN s p,by rw [t.length]; exact hi⟩
noncomputable def yU (lo:Int) (n:Nat):List D:=(aE n).map λk=>.int (lo+(k:Nat))
theorem qc6 {lo:Int}:ItIs K F (Itr lo n) (yU lo n) where
 go:=λi H hi _=>by
  have:i < n:=by simpa [yU] using hi
  exact this
 yld:=λi Fi H x H' d e s1 s2 y=>by
  obtain ⟨rfl,rfl⟩:=y
  have e:d=.int (lo+i):=by
   unfold yU at e
   rw [aG] at e
   cases q:(aE n)[i]? with
   | none=>rw [q] at e; cases e
   | some k=>
    rw [q] at e
    have hk:k=i:=by
     have:=aC.mp q
     obtain ⟨_,z⟩:=this
     simpa using z.symm
    subst hk
    exact (aU.inj e).symm
  subst e
  exact ⟨Fi,.refl,s2,.int _⟩
 stop:=λi H hi _=>by
  have:n<=i:=by simpa [yU] using hi
  exact this
noncomputable def jD (f:Sl->Out (D×Sl)):Sl->Out (List D×Sl):=λρ=>(f ρ).bind λp=>match p.1 with
 | .int j=>if -(2 ^ 62)<=j/\j < 2 ^ 62 then .ok (yU 0 j.toNat,p.2) else .bad
 | _=>.bad
theorem kf {p:Pos} (hg:Gl X "range") (hm:X.mg "range"=g7) (h:PE X e (tE C own m f)) (hs:starEach [e] X.env=[(hJ,eval e X.env)]:=by exact ja rfl):PI X tg (.Call (.Name "range" p) [e] [] pos) (tIt C own (jD f)):=by
 refine Gg (ZA hg hm (jk h ke hs) hs) λσ H R ⟨F,ρ,rp,h⟩=>⟨F,ρ,rp,PoI.bindV h λv F1 H1 d ρ1 rp1 c1 mo1 h1=>?_⟩
 cases d with
 | int j=>
  obtain rfl:=mo1.top.int
  have h1:PoI C own σ F H (if -(2 ^ 62)<=j/\j < 2 ^ 62 then .ok (yU 0 j.toNat,ρ1) else .bad) R:=h1
  by_cases z:-(2 ^ 62)<=j/\j < 2 ^ 62
  ·rw [if_pos z] at h1
   exact ⟨j,rfl,z.1,z.2,h1 _ F1 H1 rp1 c1 qc6⟩
  ·rw [if_neg z] at h1; exact h1.elim
 | _=>exact h1.elim
def tGd (C:Ct) (own:List Nat) (g:D->Sl->Out Sl):TG:=λv σ H Q=>∃ F ρ d,Rep C.K own F H σ ρ/\Is C.K F v d/\∃ ρ',g d ρ=.ok ρ'/\∀ σ',Rep C.K own F H σ' ρ'->(∀ b,OA own σ' b->OA own σ b)->(∀ i∈C.io,σ'[i]?=σ[i]?)->Q σ' H
def qhv (C:Ct) (own:List Nat) (g:List D->Sl->Out Sl):TGs:=λvs σ H Q=>∃ F ρ ds,Rep C.K own F H σ ρ/\IsL C.K F vs ds/\∃ ρ',g ds ρ=.ok ρ'/\∀ σ',Rep C.K own F H σ' ρ'->(∀ b,OA own σ' b->OA own σ b)->(∀ i∈C.io,σ'[i]?=σ[i]?)->Q σ' H
theorem qgq {t t':TG} (h:PG X e t) (i:∀ v σ H Q,t' v σ H Q->t v σ H Q):PG X e t':=⟨λpins s σ H v u Q I r hw=>h pins s σ H v u Q I r (i v σ H Q hw)⟩
theorem qc7 {t t':TGs} (h:PGs X es t) (i:∀ v σ H Q,t' v σ H Q->t v σ H Q):PGs X es t':=⟨λpins s σ H v u Q I r hw=>h pins s σ H v u Q I r (i v σ H Q hw)⟩
noncomputable def gNm (i:Nat):D->Sl->Out Sl:=λd ρ=>if i < ρ.length then .ok (ρ.set i (g6 d)) else .bad
theorem Jl {own:List Nat} (h:i∉own):uu own [i]=own:=by
 unfold uu
 rw [dH]
 intro j hj
 simp only [am,decide_eq_true_eq]
 exact λz=>h (by rw [<-z]; exact hj)
theorem qu (hN:X.N.Nodup) (hi:X.N[i]?=g6 x) (hx:Loc X.env.scope x) (ho:i∉own:=by decide) (hio:i∉C.io:=by exact Yl rfl) (hf:X.fn x=hZ\/X.env.scope.names.lookup x=g6 .local:=by first | exact .inl rfl | exact .inr rfl):PG X (.Name x pos) (tGd C own (gNm i)):=by
 refine qgq (qdO hN hi hx hf) λv σ H Q ⟨F,ρ,d,rp,is,ρ',e,k⟩=>?_
 unfold gNm at e
 by_cases z:i < ρ.length
 ·rw [if_pos z] at e
  cases e
  have r2:=rp.put z is
  rw [Jl ho] at r2
  refine k _ r2 (λb q=>?_) λj hj=>ay λq=>hio (by rw [q]; exact hj)
  have q':OA (uu own [i]) (σ.set i (g6 v)) b:=by rw [Jl ho]; exact q
  exact q'.put
 ·rw [if_neg z] at e; cases e
noncomputable def kT:List D->Sl->Out Sl
 | [],ρ=>.ok ρ
 | _::_,_=>.bad
noncomputable def qL (g:D->Sl->Out Sl) (gs:List D->Sl->Out Sl):List D->Sl->Out Sl
 | d::ds,ρ=>(g d ρ).bind λρ1=>gs ds ρ1
 | [],_=>.bad
theorem vR:PGs X [] (qhv C own kT):=by
 refine qc7 qdP λvs σ H Q ⟨F,ρ,ds,rp,is,ρ',e,k⟩=>?_
 cases is with
 | nil=>cases e; exact ⟨rfl,k σ rp (λ_ z=>z) λ_ _=>rfl⟩
 | cons _ _=>cases e
theorem jj {g:D->Sl->Out Sl} (h1:PG X e (tGd C own g)) (h2:PGs X es (qhv C own gs)) (hs:(assignEach (e::es) X.env).map (·.2)=assign e X.env::(assignEach es X.env).map (·.2):=by rfl):PGs X (e::es) (qhv C own (qL g gs)):=by
 refine qc7 (qbn h1 h2 hs) λvs σ H Q ⟨F,ρ,ds,rp,is,ρ',e,k⟩=>?_
 cases is with
 | nil=>cases e
 | @cons v d vs ds a t=>
  have e:(g d ρ).bind (λρ1=>gs ds ρ1)=.ok ρ':=e
  cases q:g d ρ with
  | ok ρ1=>
   rw [q] at e
   exact ⟨v,vs,rfl,F,ρ,d,rp,a,ρ1,q,λσ1 rp1 oa1 io1=>⟨F,ρ1,ds,rp1,t,ρ',e,λσ2 rp2 oa2 io2=>k σ2 rp2 (λb z=>oa1 b (oa2 b z)) λi hi=>(io2 i hi).trans (io1 i hi)⟩⟩
  | exc c=>rw [q] at e; cases e
  | bad=>rw [q] at e; cases e
noncomputable def kU (n:Nat) (gs:List D->Sl->Out Sl):D->Sl->Out Sl
 | .tup ds,ρ=>if ds.length=n then gs ds ρ else .bad
 | _,_=>.bad
theorem uC {k:Nat} (hK:C.K=X.K) (hc:X.calm=hZ) (h:PGs X es (qhv C own gs)) (hn:(assignEach es X.env).length=n:=by rfl) (hst:(assignEach es X.env).findIdx? (·.1)=none:=by rfl):PG X (.Tuple es k pos) (tGd C own (kU n gs)):=by
 refine qgq (qfO hc h hn hst) λv σ H Q ⟨F,ρ,d,rp,is,ρ',e,k⟩=>?_
 cases is with
 | @tup a xs ds p t=>
  have e:(if ds.length=n then gs ds ρ else .bad)=.ok ρ':=e
  by_cases z:ds.length=n
  ·rw [if_pos z] at e
   exact ⟨a,xs,rfl,by rw [<-hK]; exact qN rp.sub p,by rw [t.length]; exact z,F,ρ,ds,rp,t,ρ',e,k⟩
  ·rw [if_neg z] at e; cases e
 | _=>cases e
noncomputable def qjF (fe:Sl->Out (D×Sl)) (g:D->Sl->Out Sl):Sl->Out (Fl×Sl):=λρ=>(fe ρ).bind λp=>match g p.1 p.2 with
 | .ok ρ'=>.ok (.nx,ρ')
 | _=>.bad
noncomputable def wA (g:D->Sl->Out Sl) (fb:Sl->Out (Fl×Sl)):List D->Sl->Out (Fl×Sl)
 | [],ρ=>.ok (.nx,ρ)
 | d::ds,ρ=>(g d ρ).plain.bind λρ1=>(fb ρ1).bind λp=>match p.1 with
  | .nx=>wA g fb ds p.2
  | .ct=>wA g fb ds p.2
  | .bk=>.ok (.nx,p.2)
  | .rt v=>.ok (.rt v,p.2)
noncomputable def VF (fi:Sl->Out (List D×Sl)) (g:D->Sl->Out Sl) (fb:Sl->Out (Fl×Sl)):Sl->Out (Fl×Sl):=λρ=>(fi ρ).bind λp=>wA g fb p.1 p.2
theorem vc {body:List Stmt} {g:D->Sl->Out Sl} {fb:Sl->Out (Fl×Sl)} (hp:PassesOwn 'd' X.A X.env X.xe) (hc:X.calm=hZ) (hi:PI X tg iter (tIt C own fi)) (hg:PG X tg (tGd C own g))
  (hb:PSs X body (tSt { C with ol:=own } own own fb)) (hs:∀ x,foldedSetIterable iter X.env x=pure x:=by intro _; rfl):PS X (.For tg iter body [] pos) (tSt C own own (VF fi g fb)):=by
 refine JQ (qfS hp hc hi hg hb hs) λD σ H ⟨F,ρ,rp,h⟩=>⟨F,ρ,rp,?_⟩
 unfold VF at h
 cases q0:fi ρ with
 | exc c=>rw [q0] at h; exact h
 | bad=>rw [q0] at h; exact h.elim
 | ok p=>
  rw [q0] at h
  obtain ⟨ds,ρ1⟩:=p
  intro J F1 H1 rp1 c1 it
  have h:PoS C own own σ F H (wA g fb ds ρ1) D:=h
  refine ⟨λi m σ' H'=>m=ds.length - i/\i<=ds.length/\∃ F' ρ',Nx C own own σ F H ρ' σ' F' H'/\Same F1 F'/\PoS C own own σ' F' H' (wA g fb (ds.drop i) ρ') D,⟨ds.length,by simp,bp _,F1,ρ1,.ofE rp1 c1,Same.refl _,h.shift (.ofE rp1 c1)⟩,?_⟩
  rintro i m σ' H' ⟨rfl,hle,F',ρ',nx,gr,po⟩
  by_cases hlt:i < ds.length
  ·have hd:ds.drop i=ds[i]::ds.drop (i+1):=List.drop_eq_getElem_cons hlt
   rw [hd] at po
   have po:PoS C own own σ' F' H' ((g ds[i] ρ').plain.bind λρ1=>(fb ρ1).bind λp=>match p.1 with | .nx=>wA g fb (ds.drop (i+1)) p.2 | .ct=>wA g fb (ds.drop (i+1)) p.2 | .bk=>.ok (.nx,p.2) | .rt v=>.ok (.rt v,p.2)) D:=po
   refine .inr ⟨it.go i H' hlt (gr.trans nx.rep.sub),λσ2 H2=>ds.length - (i+1)=ds.length - (i+1)/\i+1<=ds.length/\∃ F' ρ',Nx C own own σ F H ρ' σ2 F' H2/\Same F1 F'/\PoS C own own σ2 F' H2 (wA g fb (ds.drop (i+1)) ρ') D,λσ2 H2 q=>⟨ds.length - (i+1),by omega,q⟩,λx H2 y=>?_⟩
   obtain ⟨F2,c2,s2,is2⟩:=it.yld i F' H' x H2 ds[i] (by simp [hlt]) gr nx.rep.sub y
   cases q1:g ds[i] ρ' with
   | exc c=>rw [q1] at po; exact po.elim
   | bad=>rw [q1] at po; exact po.elim
   | ok ρ2=>
    rw [q1] at po
    refine ⟨F2,ρ',ds[i],nx.rep.grow c2 s2,is2,ρ2,q1,λσ3 rp3 oa3 io3=>⟨F2,ρ2,rp3,?_⟩⟩
    have n3:Nx C own own σ' F' H' ρ2 σ3 F2 H2:=⟨rp3,c2.ofNo,λb z=>.inl (oa3 b z),io3⟩
    have po3:=PoS.shift (show PoS C own own σ' F' H' ((fb ρ2).bind λp=>match p.1 with | .nx=>wA g fb (ds.drop (i+1)) p.2 | .ct=>wA g fb (ds.drop (i+1)) p.2 | .bk=>.ok (.nx,p.2) | .rt v=>.ok (.rt v,p.2)) D from po) n3
    have up:∀ {ρ4 σ4 F4 H4},Nx { C with ol:=own } own own σ3 F2 H2 ρ4 σ4 F4 H4->Nx C own own σ3 F2 H2 ρ4 σ4 F4 H4:=λz=>⟨z.rep,z.chg,z.oa,z.io⟩
    cases q2:fb ρ2 with
    | exc c=>rw [q2] at po3; exact po3
    | bad=>rw [q2] at po3; exact po3.elim
    | ok p=>
     rw [q2] at po3
     obtain ⟨fl,ρ4⟩:=p
     cases fl with
     | nx=>exact λσ4 F4 H4 n4=>⟨rfl,hlt,F4,ρ4,(nx.then n3).then (up n4),(gr.trans c2.grow).trans n4.chg.grow,PoS.shift (show PoS C own own σ3 F2 H2 (wA g fb (ds.drop (i+1)) ρ4) D from po3) (up n4)⟩
     | ct=>exact λσ4 F4 H4 n4=>⟨rfl,hlt,F4,ρ4,(nx.then n3).then (up n4),(gr.trans c2.grow).trans n4.chg.grow,PoS.shift (show PoS C own own σ3 F2 H2 (wA g fb (ds.drop (i+1)) ρ4) D from po3) (up n4)⟩
     | bk=>exact λσ4 F4 H4 n4=>po3 σ4 F4 H4 (up n4)
     | rt d=>exact λv σ4 F4 H4 s io c e mo=>po3 v σ4 F4 H4 s io c e mo
  ·have e:i=ds.length:=by omega
   subst e
   rw [List.drop_length] at po
   exact .inl ⟨it.stop _ H' (ax _) (gr.trans nx.rep.sub),po σ' F' H' (.refl nx.rep)⟩
noncomputable def jz (ft:Sl->Out (Bool×Sl)) (fb:Sl->Out (Fl×Sl)):Nat->Sl->Out (Fl×Sl)
 | 0,_=>.bad
 | n+1,ρ=>(ft ρ).bind λq=>if q.1=hZ then (fb q.2).bind λp=>match p.1 with
  | .nx=>jz ft fb n p.2
  | .ct=>jz ft fb n p.2
  | .bk=>.ok (.nx,p.2)
  | .rt v=>.ok (.rt v,p.2)
  else .ok (.nx,q.2)
theorem gI {t:Expr} {body:List Stmt} (n:Nat) (hp:PassesOwn 'd' X.A X.env X.xe) (ht:PT X t (tT C own ft)) (hb:PSs X body (tSt { C with ol:=own } own own fb)) :
  PS X (.While t body [] pos) (tSt C own own (jz ft fb n)):=by
 refine JQ (qbo hp ht hb) λD σ H ⟨F,ρ,rp,h⟩=>?_
 refine ⟨λm σ' H'=>∃ F' ρ',Rep C.K own F' H' σ' ρ'/\PoS C own own σ' F' H' (jz ft fb m ρ') D,⟨n,F,ρ,rp,h⟩,?_⟩
 rintro m σ1 H1 ⟨F1,ρ1,rp1,po⟩
 refine ⟨F1,ρ1,rp1,?_⟩
 cases m with
 | zero=>exact po.elim
 | succ m=>
  have po:PoS C own own σ1 F1 H1 ((ft ρ1).bind λq=>if q.1=hZ then (fb q.2).bind λp=>match p.1 with | .nx=>jz ft fb m p.2 | .ct=>jz ft fb m p.2 | .bk=>.ok (.nx,p.2) | .rt v=>.ok (.rt v,p.2) else .ok (.nx,q.2)) D:=po
  refine PoS.bindT po λF2 H2 k ρ2 rp2 c2 h2=>?_
  cases k with
  | false=>exact h2 σ1 F2 H2 (.refl rp2)
  | true=>
   refine ⟨λσ3 H3=>∃ F' ρ',Rep C.K own F' H3 σ3 ρ'/\PoS C own own σ3 F' H3 (jz ft fb m ρ') D,λσ3 H3 q=>⟨m,by omega,q⟩,F2,ρ2,rp2,?_⟩
   have h2:PoS C own own σ1 F2 H2 ((fb ρ2).bind λp=>match p.1 with | .nx=>jz ft fb m p.2 | .ct=>jz ft fb m p.2 | .bk=>.ok (.nx,p.2) | .rt v=>.ok (.rt v,p.2)) D:=h2
   have up:∀ {ρ4 σ4 F4 H4},Nx { C with ol:=own } own own σ1 F2 H2 ρ4 σ4 F4 H4->Nx C own own σ1 F2 H2 ρ4 σ4 F4 H4:=λz=>⟨z.rep,z.chg,z.oa,z.io⟩
   cases q2:fb ρ2 with
   | exc c=>rw [q2] at h2; exact h2
   | bad=>rw [q2] at h2; exact h2.elim
   | ok p=>
    rw [q2] at h2
    obtain ⟨fl,ρ4⟩:=p
    cases fl with
    | nx=>exact λσ4 F4 H4 n4=>⟨F4,ρ4,n4.rep,PoS.shift (show PoS C own own σ1 F2 H2 (jz ft fb m ρ4) D from h2) (up n4)⟩
    | ct=>exact λσ4 F4 H4 n4=>⟨F4,ρ4,n4.rep,PoS.shift (show PoS C own own σ1 F2 H2 (jz ft fb m ρ4) D from h2) (up n4)⟩
    | bk=>exact λσ4 F4 H4 n4=>h2 σ4 F4 H4 (up n4)
    | rt d=>exact λv σ4 F4 H4 s io c e mo=>h2 v σ4 F4 H4 s io c e mo
end
noncomputable def Vh (cells:List (Str×Addr)):List (Str×iM)->List (Str×Addr)->List (Str×Addr)
 | [],acc=>acc
 | (n,k)::r,acc=>if (k == .free)=hZ then Vh cells r ((n,(cells.lookup n).getD 0)::acc) else Vh cells r acc
variable {env:Env}
theorem uD:∀ (names:List (Str×iM)) (acc:List (Str×Addr)),(∀ x∈names,x.2=.free->∃ c,env.cells.lookup x.1=g6 c) ->
  (forIn names acc λ(x:Str×iM) (cs:List (Str×Addr))=>if (x.2 == bF)=hZ then (do let a <-cellOf env x.1; pure (cC ((x.1,a)::cs))) else pure (cC cs):Sem (List (Str×Addr)))=pure (Vh env.cells names acc)
 | [],acc,_=>rfl
 | (n,k)::r,acc,h=>by
  rw [List.forIn_cons]
  by_cases q:(k == bF)=hZ
  ·obtain ⟨c,hc⟩:=h (n,k) af (by simpa using q)
   have e:cellOf env n=pure c:=by unfold cellOf; rw [hc]
   simp only [q,if_true,e]
   have ih:=uD r ((n,c)::acc) (λx hx=>h x (aa _ hx))
   simp only [Vh,q,if_true,hc,Option.getD_some]
   exact ih
  ·simp only [q,if_false,Vh]
   exact uD r acc (λx hx=>h x (aa _ hx))
variable {scope:i7}
theorem Jm (h:∀ x∈scope.names,x.2=.free->∃ c,env.cells.lookup x.1=g6 c):closureFor scope env=pure (Vh env.cells scope.names []):=by
 have:=uD scope.names [] h
 unfold closureFor
 simp only [bind_pure]
 exact this
variable {cells:List (Str×Addr)}
theorem yV:∀ {names:List (Str×iM)} {acc:List (Str×Addr)} {x:Str} {c:Addr},(∀ y∈names,y.2=.free->∃ c,cells.lookup y.1=g6 c)->(Vh cells names acc).lookup x=g6 c->cells.lookup x=g6 c\/acc.lookup x=g6 c
 | [],acc,x,c,_,h=>.inr h
 | (n,k)::r,acc,x,c,hf,h=>by
  unfold Vh at h
  by_cases q:(k == bF)=hZ
  ·rw [if_pos q] at h
   obtain ⟨c',hc⟩:=hf (n,k) af (by simpa using q)
   rcases yV (λy hy=>hf y (aa _ hy)) h with z | z
   ·exact .inl z
   ·rw [eE] at z
    have hc:cells.lookup n=g6 c':=hc
    by_cases e:(x == n)=hZ
    ·rw [e] at z
     simp only [hc,Option.getD_some] at z
     have:x=n:=by simpa using e
     subst this
     rw [hc]; exact .inl z
    ·have e:(x == n)=false:=by simpa using e
     rw [e] at z
     exact .inr z
  ·rw [if_neg q] at h
   exact yV (λy hy=>hf y (aa _ hy)) h
theorem JS:∀ {names:List (Str×iM)} {acc:List (Str×Addr)} {x:Str},(∃ c,acc.lookup x=g6 c)->∃ c,(Vh cells names acc).lookup x=g6 c
 | [],_,_,h=>h
 | (n,k)::r,acc,x,h=>by
  unfold Vh
  by_cases q:(k == bF)=hZ
  ·rw [if_pos q]
   refine JS ?_
   obtain ⟨c,hc⟩:=h
   rw [eE]
   by_cases e:(x == n)=hZ
   ·rw [e]; exact ⟨_,rfl⟩
   ·have e:(x == n)=false:=by simpa using e
    rw [e]; exact ⟨c,hc⟩
  ·rw [if_neg q]; exact JS h
theorem gc:∀ {names:List (Str×iM)} {acc:List (Str×Addr)} {x:Str},(x,bF)∈names->∃ c,(Vh cells names acc).lookup x=g6 c
 | (n,k)::r,acc,x,h=>by
  unfold Vh
  rcases ae.mp h with e | h
  ·cases e
   rw [if_pos (by rfl)]
   refine JS ?_
   rw [eE,beq_self_eq_true]
   exact ⟨_,rfl⟩
  ·by_cases q:(k == bF)=hZ
   ·rw [if_pos q]; exact gc h
   ·rw [if_neg q]; exact gc h
noncomputable def kg (X:Cx) (scope:i7) (N:List Str) (fp:List Addr) (L:Addr) (s:hV) (H:Hp):Cx:=
 { X with N:=N,s₀:=s,H₀:=H,env:=compEnvC scope (Vh X.env.cells scope.names []) L X.env,outer:=X.stack,stack:=X.stack,ex:=fp,fn:=λ_=>hJ,pn:=[],xe:=λ_ _=>False }
structure ScOk (X:Cx) (scope:i7):Prop where
 kind:scope.kind=.function
 nocell:∀ y∈scope.names,y.2≠.cell
 names:∀ y∈scope.names,y.2=.local->scope.names.lookup y.1=g6 .local
 free:∀ y∈scope.names,y.2=.free->X.env.kindOf y.1=g6 .cell\/X.env.kindOf y.1=g6 .free
 frl:∀ y∈scope.names,y.2=.free->scope.names.lookup y.1=g6 .free
theorem yi {a:α}:∀ {l:List (Str×α)},l.lookup x=g6 a->(x,a)∈l
 | [],h=>by simp at h
 | (n,k)::r,h=>by
  rw [eE] at h
  by_cases e:(x == n)=hZ
  ·rw [e] at h
   have h:g6 k=g6 a:=h
   cases h
   have:x=n:=by simpa using e
   subst this
   exact af
  ·have e:(x == n)=false:=by simpa using e
   rw [e] at h
   exact aa _ (yi h)
theorem zF {k:iM} (h:(relabel scope env).names.lookup x=g6 k) (hk:k=.cell\/k=.free) (hn:∀ y∈scope.names,y.2≠.cell):(x,bF)∈scope.names:=by
 have m:=yi h
 obtain ⟨⟨n,k'⟩,hm,e⟩:=ai.mp m
 dsimp only at e
 by_cases q:(k' == bF&&env.scope.kind == .function&&env.kindOf n == g6 .cell)=hZ
 ·rw [if_pos q] at e
  cases e
  have:k'=.free:=by
   rw [aT,aT] at q
   simpa using q.1.1
  subst this
  exact hm
 ·rw [if_neg q] at e
  cases e
  rcases hk with rfl | rfl
  ·exact absurd rfl (hn _ hm)
  ·exact hm
theorem VG (h:Vis (relabel scope env) x):∃ k,(x,k)∈scope.names:=by
 have go:∀ {k:iM},(relabel scope env).names.lookup x=g6 k->∃ k,(x,k)∈scope.names:=λ{k} h=>by
  obtain ⟨⟨n,k'⟩,hm,e⟩:=ai.mp (yi h)
  dsimp only at e
  by_cases q:(k' == bF&&env.scope.kind == .function&&env.kindOf n == g6 .cell)=hZ
  ·rw [if_pos q] at e
   cases e
   exact ⟨_,hm⟩
  ·rw [if_neg q] at e
   cases e
   exact ⟨_,hm⟩
 rcases h with h | h | h <;> exact go h
variable {pins:List (Addr×Obj)} {σc:St} {s s':hV} {fp:List Addr} {h':Heap}
section
theorem gJ (I:Inv X pins σ H s) (S:ScOk X scope):∀ y∈scope.names,y.2=.free->∃ c,X.env.cells.lookup y.1=g6 c:=λy hy e=>I.ok.has y.1 (S.free y hy e)
theorem qbL (I:Inv X pins σ H s) (S:ScOk X scope) (hf:∀ b∈fp,WM X pins H b) (ho:∀ b∈fp,b < s.heap.objs.size) (hns:h'.Ns s.heap.objs.size (λ_=>g7))
  (hk:∀ b o,s.heap.get? b=g6 o->h'.get? b=g6 o) (hl:σc.length=N.length)
  (hσ:∀ (j:Nat) (x:Str) (v:V),N[j]?=g6 x->σc[j]?=g6 (g6 v)->(∃ k,(x,k)∈scope.names)->∃ i:Nat,X.N[i]?=g6 x/\σ[i]?=g6 (g6 v)/\Vis X.env.scope x/\(x,bF)∈scope.names) {t:Nat} :
  Inv (kg X scope N fp s.heap.objs.size s H) [] σc H { s with heap:=h',toks:=t }:=by
 have hfc:=gJ I S
 have cl:∀ x c,(Vh X.env.cells scope.names []).lookup x=g6 c->X.env.cells.lookup x=g6 c:=λx c e=>(yV hfc e).resolve_right 'h'
 have nfs:∀ b∈fp,b∉frs X.stack:=λb hb z=>by
  obtain ⟨f0,f1,f2,_⟩:=hf b hb
  rcases ae.mp (I.stkSub b z) with e | e
  ·exact f1 e
  ·exact f2 e
 refine ⟨⟨I.ok.mod,?_,I.ok.glob,I.ok.blt,ax _,λx y c h1 h2=>I.ok.inj x y c (cl x c h1) (cl y c h2),λx hx=>?_,λx c h=>absurd h (by show ¬(hJ=hZ); exact be),I.ok.hd,I.ok.frames,.inl rfl,λb hb=>⟨aB (ho b hb),λx c e z=>?_⟩,I.bs,br I.ok.bsz I.sz,λb o e hb=>?_,nfs,I.stack,I.stkFree⟩,
  rfl,I.bare,Un.kept hk,⟨_,hns,λj x v e1 e2 e3=>?_⟩,λx c e=>?_,I.hok.fresh (ax _),λx c e=>I.freeC x c (cl x c e),λp hp=>absurd (show p∈([]:List (Addr×Obj)) from hp) 'h',I.hok.kept hk,hl⟩
 ·exact S.kind
 ·refine gc ?_
  rcases hx with hx | hx
  ·exact zF hx (.inl rfl) S.nocell
  ·exact zF hx (.inr rfl) S.nocell
 ·exact (hf b hb).2.2.2.2.1 x c (cl x c e) z
 ·rcases (hf b hb).2.2.2.1 with z | z
  ·exact I.ok.noex b o e z
  ·have hlt:=aq e
   exact absurd (aI hlt (br I.ok.bsz z)) (bQ _)
 ·obtain ⟨i,g1,g2,g3,g4⟩:=hσ j x v e1 e2 (VG e3)
  obtain ⟨m,hn,hl'⟩:=I.loc
  obtain ⟨u,r,look⟩:=hl' i x v g1 g2 g3
  refine ⟨u,r,?_⟩
  obtain ⟨c0,hc0⟩:=gc (cells:=X.env.cells) (acc:=[]) g4
  have hce:=cl x c0 hc0
  have kd:(kg X scope N fp s.heap.objs.size s H).env.kindOf x=g6 .cell\/(kg X scope N fp s.heap.objs.size s H).env.kindOf x=g6 .free\/(kg X scope N fp s.heap.objs.size s H).env.kindOf x=g6 .local:=by
   rcases e3 with z | z | z
   ·exact .inr (.inr z)
   ·exact .inl z
   ·exact .inr (.inl z)
  rcases look with ⟨k,_⟩ | ⟨k,c,hc,z⟩
  ·rcases S.free _ g4 rfl with q | q
   ·have q:X.env.kindOf x=g6 .cell:=q
    rw [k] at q; cases q
   ·have q:X.env.kindOf x=g6 .free:=q
    rw [k] at q; cases q
  ·rw [hce] at hc
   cases hc
   obtain ⟨oc,ho1,ho2⟩:=z
   rcases kd with q | q | q
   ·exact .inr ⟨.inl q,c0,hc0,⟨oc,hk _ _ ho1,ho2⟩⟩
   ·exact .inr ⟨.inr q,c0,hc0,⟨oc,hk _ _ ho1,ho2⟩⟩
   ·refine absurd q ?_
    intro q
    have m2:=yi (show (relabel scope X.env).names.lookup x=g6 .local from q)
    obtain ⟨⟨n,k'⟩,hm,e⟩:=ai.mp m2
    dsimp only at e
    by_cases qq:(k' == bF&&X.env.scope.kind == .function&&X.env.kindOf n == g6 .cell)=hZ
    ·rw [if_pos qq] at e; cases e
    ·rw [if_neg qq] at e
     cases e
     have e1:=S.names _ hm rfl
     have e2:=S.frl _ g4 rfl
     have e1:scope.names.lookup x=g6 .local:=e1
     have e2:scope.names.lookup x=g6 .free:=e2
     rw [e1] at e2
     cases e2
 ·obtain ⟨v,oc,ho1,ho2⟩:=I.cell x c (cl x c e)
  exact ⟨v,oc,hk _ _ ho1,ho2⟩
theorem qbM {H1:Hp} {s1:hV} {L:Addr} (I:Inv X pins σ H s) (hf:∀ b∈fp,WM X pins H b) (J:Inv (kg X scope N fp s.heap.objs.size s H) [] σc H' s') (sb:bT s.heap.objs.size s'.heap h'):Inv X pins σ H' { s' with heap:=h' }:=by
 have hL:H' s.heap.objs.size=none:=J.free
 have ne:∀ b o,s.heap.get? b=g6 o->b≠s.heap.objs.size:=λb o e=>aB (aq e)
 have U:Un (frs X.stack) fp H H' s.heap s'.heap:=J.base
 refine I.call' (s':={ s' with heap:=h' }) (ch:=fp) J.os ⟨λb o e n h1 h2=>(sb.2 b (ne b o e)).trans (U.keep b o e n h1 h2),λb o e n h1 h2=>?_,U.free,λb o e h2=>?_,U.tups,U.frzs,U.tbls⟩ (λb u e=>?_) J.bare λb hb=>?_
 ·obtain ⟨sl,q⟩:=U.slot b o e n h1 h2
  exact ⟨sl,(sb.2 b (ne b o e)).trans q⟩
 ·obtain ⟨o',q⟩:=U.there b o e h2
  exact ⟨o',(sb.2 b (ne b o e)).trans q⟩
 ·refine (J.hok b u e).stay (λc w hc q=>(sb.2 c ?_).trans q) (λ_ q=>q) λ_ _ q=>q
  rintro rfl
  rcases hc with z | z
  ·rw [<-z,hL] at e; cases e
  ·rw [hL] at z; cases z
 ·obtain ⟨f0,f1,f2,f3,f4,f5⟩:=hf b hb
  exact ⟨f3,f1,f4,f5⟩
end
theorem JT {prog:h8} {w:ib} {A:ii} {R:k8->hV->Prop} {s:hV} {elt target iter:Expr} {ifs:List Expr} {scope:i7} {pos:Pos} {it acc:g9} {env:Env} (I:Nat->hV->Prop)
  (turn:∀ n s,I n s->wpAny 'g' A (pyNext it) (λr s₁=>match r with
   | none=>R (.ok .next) s₁
   | some v=>wpAny 'g' A (letOwnedTupleGo target it v) (λ_ t₁=>wpAny 'g' A (assign target env v) (λ_ s₂=>
     wpAny 'g' A (forIn ifs hZ λc r=>if r=hZ then do let ok <-isTrue c env (eval c env); pure (cC ok) else pure (cC r)) (λok s₃=>
      if ok=hZ then wpAny 'g' A (eval elt env) (λx s₄=>
       wpAny 'g' A (call (.builtin "list.append") [acc,x]) (λ_ s₅=>∃ m,m < n/\I m s₅) (λ_ _=>False) s₄) (λ_ _=>False) s₃
      else ∃ m,m < n/\I m s₃) (λ_ _=>False) s₂) (λ_ _=>False) t₁) (λ_ _=>False) s₁) (λ_ _=>False) s)
  (n:Nat) (h:I n s):codeAny 'g' A (.compLoop (.ListComp elt [⟨target,iter,ifs,0⟩] scope pos) 0 it acc env) R s:=by
 have no:∀ {α:Type} {t:Sem α} {Q Q':α->hV->Prop} {E':g9->hV->Prop} {s:hV},wpAny 'g' A t Q (λ_ _=>False) s->(∀ a s,Q a s->Q' a s)->wpAny 'g' A t Q' E' s:=λh k=>iU h k λ_ _ z=>z.elim
 refine codeAny_loop rfl I (λn s hI=>?_) n h
 show wpAny _ A ((compTurn (.ListComp elt [⟨target,iter,ifs,0⟩] scope pos) 0 it acc env).onRaise (λx=>do noteFrame x env; theTreesLotGoes x)) _ _ s
 refine wpAny_noted ?_
 rw [compTurn_list]
 refine g8 (wpAny_standAt (g8 (no (turn n s hI) λr s₁ h₁=>?_)))
 cases r with
 | none=>exact h7 h₁
 | some v=>
  refine g8 (no h₁ λ_ t₁ k₁=>g8 (no k₁ λ_ s₂ h₂=>g8 (no h₂ λok s₃ h₃=>?_)))
  cases ok with
  | false=>exact h7 ⟨rfl,h₃⟩
  | true=>exact g8 (g8 (no h₃ λx s₄ h₄=>g8 (no h₄ λ_ s₅ h₅=>h7 (h7 ⟨rfl,h₅⟩))))
structure PTs (Y:Cx) (ifs:List Expr) (t:TT):Prop where
 run:∀ (pins:List (Addr×Obj)) (s:hV) (σ:St) (H:Hp) (Q:Bool->Hp->Prop),Inv Y pins σ H s->t σ H Q ->
  wpAny (model Y.prog Y.w) Y.A (forIn ifs hZ λc r=>if r=hZ then do let ok <-isTrue c Y.env (eval c Y.env); pure (cC ok) else pure (cC r)) (TP Y pins σ Q) Y.xe s
instance {Y:Cx} {ifs:List Expr} {t:TT}:CoeFun (PTs Y ifs t) (λ_=>∀ (pins:List (Addr×Obj)) (s:hV) (σ:St) (H:Hp) (Q:Bool->Hp->Prop),Inv Y pins σ H s->t σ H Q ->
  wpAny (model Y.prog Y.w) Y.A (forIn ifs hZ λc r=>if r=hZ then do let ok <-isTrue c Y.env (eval c Y.env); pure (cC ok) else pure (cC r)) (TP Y pins σ Q) Y.xe s):=⟨λh=>h.run⟩
variable {Y:Cx}
theorem qeo:PTs Y [] (λ_ H Q=>Q hZ H):=⟨λ_ _ _ H _ I h=>wpAny_tests_nil ⟨H,I,h⟩⟩
theorem uE {t:TT} (h:PT Y c t):PTs Y [c] t:=⟨λpins s σ H Q I q=>wpAny_tests_one (h pins s σ H Q I q)⟩
variable {ifs:List Expr} {te:TE} {E:g9->hV->Prop}
section
variable {it:Addr} {tn:Nat->Heap->Prop} {J:It} {elt:Expr} {g:TG} {tt:TT}
theorem qbN (I:Inv X pins σ H s) (hcalm:X.calm=hZ) (S:ScOk X scope) (T:Turn X.prog X.w X.K tg J fp it tn) (st0:tn 0 s.heap) (hf:∀ b∈fp,WM X pins H b)
  (hg:∀ fp L s' H',PG (kg X scope N fp L s' H') tg g) (ht:∀ fp L s' H',PTs (kg X scope N fp L s' H') ifs tt) (he:∀ fp L s' H',PE (kg X scope N fp L s' H') elt te) (hl:σc.length=N.length)
  (hσ:∀ (j:Nat) (x:Str) (v:V),N[j]?=g6 x->σc[j]?=g6 (g6 v)->(∃ k,(x,k)∈scope.names)->∃ i:Nat,X.N[i]?=g6 x/\σ[i]?=g6 (g6 v)/\Vis X.env.scope x/\(x,bF)∈scope.names)
  (W:Addr->Nat->Nat->St->Hp->Prop) (Fin:Addr->Hp->Prop) (w0:∀ p,H p=g7->∃ m,W p 0 m σc (upd H p (.lst [])))
  (turn:∀ p i m σ1 H1,W p i m σ1 H1->(J.stop i H1/\Fin p H1)\/(J.go i H1/\∀ x H2,J.yld i H1 x H2->g x σ1 H2 λσ2 H3=>tt σ2 H3 λb H4=>if b=hZ then te σ2 H4 λy H5=>∃ xs,H5 p=g6 (.lst xs)/\xs.length < sizeLine/\∃ m',m' < m/\W p (i+1) m' σ2 (upd H5 p (.lst (xs++[y]))) else ∃ m',m' < m/\W p (i+1) m' σ2 H4))
  (RR:g9->Addr->k8->hV->Prop)
  (hRR:∀ p L H' s',Fin p H'->(∃ m,s'.heap.Ns L m)->WM X pins H' L->(∀ h',bT L s'.heap h'->Inv X pins σ H' { s' with heap:=h' })->RR (.ref p) L (.ok .next) s') :
  wpAny 'd' X.A (newList []) (λacc s₃=>wpAny 'd' X.A (newFunctionEnv scope X.env.globals (Vh X.env.cells scope.names []) [] X.env.qual g7 .none (g6 X.env)) (λcenv s₄=>
   codeAny 'd' X.A (.compStart (.ListComp elt [⟨tg,iter,ifs,0⟩] scope pos) 0 (.ref it) acc { cenv with scope:=relabel scope X.env }) (RR acc cenv.locals) s₄) E s₃) E s:=by
 have hfo:∀ b∈fp,b < s.heap.objs.size:=λb hb=>let ⟨o,e,_⟩:=T.obj 0 _ st0 b hb; aq e
 have hfresh:=I.fresh
 have I3:Inv X pins σ (upd H s.heap.objs.size (.lst [])) { s with heap:=s.heap.push { cls:=.type "list",data:=.seq ([]:List g9).toArray } }:=I.lnew (t':=s.toks) (ys:=[]) (its:=[]) .nil (bp _)
 have hf3:∀ b∈fp,WM X pins (upd H s.heap.objs.size (.lst [])) b:=λb hb=>⟨by rw [qC (aB (hfo b hb))]; exact (hf b hb).1,(hf b hb).2⟩
 have st3:tn 0 (s.heap.push { cls:=.type "list",data:=.seq ([]:List g9).toArray }):=T.keep 0 _ _ st0 λb hb o e=>ac _ e
 refine ia (wpAny_newFunctionEnv S.nocell (λy hy=>by simp at hy) (λh₁ hns₁ hsb₁=>?_) S.kind)
 dsimp only at hns₁ hsb₁ ⊢
 generalize hs3:({ s with heap:=s.heap.push { cls:=.type "list",data:=.seq ([]:List g9).toArray } }:hV)=s3 at I3
 have e3:s3.heap=s.heap.push { cls:=.type "list",data:=.seq ([]:List g9).toArray }:=by rw [<-hs3]
 rw [<-e3] at hns₁ hsb₁ st3 ⊢
 have keep:∀ b o,s3.heap.get? b=g6 o->h₁.get? b=g6 o:=λb o e=>(hsb₁.2 b (aB (aq e))).trans (ac _ e)
 have ho3:∀ b∈fp,b < s3.heap.objs.size:=λb hb=>by rw [e3,bR]; exact fg (hfo b hb)
 have J1:Inv (kg X scope N fp s3.heap.objs.size s3 (upd H s.heap.objs.size (.lst []))) [] σc (upd H s.heap.objs.size (.lst [])) { s3 with heap:=h₁,toks:=s.toks+0 }:=
  qbL I3 S hf3 ho3 (by simpa using hns₁) keep hl hσ
 have st4:tn 0 h₁:=T.keep 0 _ _ st3 λb hb o e=>keep b o e
 have loop:∀ s4:hV,s4={ s3 with heap:=h₁,toks:=s.toks+0 }->codeAny 'd' X.A (.compLoop (.ListComp elt [⟨tg,iter,ifs,0⟩] scope pos) 0 (.ref it) 'o' (compEnvC scope (Vh X.env.cells scope.names []) s3.heap.objs.size X.env)) (RR 'o' s3.heap.objs.size) s4:=by
  rintro s4 rfl
  generalize hY:kg X scope N fp s3.heap.objs.size s3 (upd H s.heap.objs.size (.lst []))=Y at J1
  have eP:Y.prog=X.prog:=by rw [<-hY]; rfl
  have ew:Y.w=X.w:=by rw [<-hY]; rfl
  have eA:Y.A=X.A:=by rw [<-hY]; rfl
  have ee:Y.env=compEnvC scope (Vh X.env.cells scope.names []) s3.heap.objs.size X.env:=by rw [<-hY]; rfl
  have eK:Y.K=X.K:=by rw [<-hY]; rfl
  have ec:Y.calm=true:=by rw [<-hY]; exact hcalm
  have ex:Y.xe=λ_ _=>False:=by rw [<-hY]; rfl
  have hgY:PG Y tg g:=by rw [<-hY]; exact hg fp _ _ _
  have htY:PTs Y ifs tt:=by rw [<-hY]; exact ht fp _ _ _
  have heY:PE Y elt te:=by rw [<-hY]; exact he fp _ _ _
  have stat:∀ {H1:Hp},(∀ b∈fp,H1 b=g7)->∀ b∈fp,WM Y [] H1 b:=λhn b hb=>by
   have q:=J1.ok.exf b (by rw [<-hY]; exact hb)
   refine ⟨hn b hb,q.1,J1.ok.exfs b (by rw [<-hY]; exact hb),.inl (by rw [<-hY]; exact hb),q.2,λp hp=>?_⟩
   rw [<-hY] at hp
   exact absurd (show p∈([]:List (Addr×Obj)) from hp) 'h'
  obtain ⟨m0,hm0⟩:=w0 s.heap.objs.size hfresh
  refine JT (λn s'=>∃ i σ1 H1,Inv Y [] σ1 H1 s'/\tn i s'.heap/\(∀ b∈fp,H1 b=g7)/\W s.heap.objs.size i n σ1 H1) ?_ m0 ⟨0,σc,_,J1,st4,λb hb=>(hf3 b hb).1,hm0⟩
  rintro n s5 ⟨i,σ1,H1,J5,st5,fr5,w5⟩
  rw [<-eP,<-ew,<-eA,<-ee]
  have TY:Turn Y.prog Y.w Y.K tg J fp it tn:=by rw [eP,ew,eK]; exact T
  rcases turn _ i n σ1 H1 w5 with ⟨stop,fin⟩ | ⟨go,step⟩
  ·refine thn (TY.done Y rfl rfl rfl ec i [] s5 σ1 H1 _ J5 (stat fr5) st5 stop) λr s6 ⟨hr,J6⟩=>?_
   subst hr
   have J6':Inv (kg X scope N fp s3.heap.objs.size s3 (upd H s.heap.objs.size (.lst []))) [] σ1 H1 s6:=by rw [hY]; exact J6
   exact hRR _ _ H1 s6 fin (let ⟨m,hn,_⟩:=J6'.loc; ⟨m,hn⟩) (I3.fpOk (ax _) J6'.free) λh' sb=>qbM (s1:=s6) (H1:=H1) (L:=0) I3 hf3 J6' sb
  ·refine thn (TY.item Y rfl rfl rfl ec i [] s5 σ1 H1 _ J5 (stat fr5) st5 go) λr s6 ⟨u,hr,h6⟩=>?_
   subst hr
   refine thn h6 λ_ s7 ⟨x,H7,J7,r7,y7,st7,fr7⟩=>?_
   have J7':=J7.pinned (stat fr7) (TY.obj _ _ st7)
   have back:∀ {σ9:St} {H9:Hp} {s9:hV},Inv Y ([]++Vm fp s7.heap) σ9 H9 s9->(∃ m',m' < n/\W s.heap.objs.size (i+1) m' σ9 H9)->∃ m,m < n/\∃ i σ1 H1,Inv Y [] σ1 H1 s9/\tn i s9.heap/\(∀ b∈fp,H1 b=g7)/\W s.heap.objs.size i m σ1 H1:=λ{σ9 H9 s9} J9 ⟨m',hm,w9⟩=>by
    refine ⟨m',hm,i+1,σ9,H9,J9.unpinned,TY.keep _ _ _ st7 λb hb o e=>(J9.pin (b,o) (aO _ (aO _ (yf hb e)))).1,λb hb=>?_,w9⟩
    obtain ⟨o,e,d⟩:=TY.obj _ _ st7 b hb
    exact (J9.pin (b,o) (aO _ (aO _ (yf hb e)))).2.1
   rw [<-ex]
   refine thn (hgY _ s7 σ1 H7 x u _ J7' r7 (step x H7 y7)) λ_ s8 ⟨σ8,H8,J8,q8⟩=>?_
   refine thn (htY _ s8 σ8 H8 _ J8 q8) λok s9 ⟨H9,J9,q9⟩=>?_
   cases ok with
   | false=>exact back J9 q9
   | true=>
    refine thn (heY _ s9 σ8 H9 _ J9 q9) λv s10 ⟨y,H10,J10,r10,xs,hx,hlen,q10⟩=>?_
    exact thn (Vs _ s10 σ8 H10 'o' [y] 'o' [v] (λ_ H11=>∃ m',m' < n/\W s.heap.objs.size (i+1) m' σ8 H11) J10 rfl (.cons r10 .nil) ⟨_,xs,y,rfl,rfl,hx,hlen,q10⟩) λ_ s11 ⟨_,H11,J11,_,q11⟩=>back J11 q11
 have e4:({ heap:=h₁,gens:=s.gens,drawn:=s.drawn,toks:=s.toks+([]:List (Str×g9)).length,os:=s.os }:hV)={ s3 with heap:=h₁,toks:=s.toks+0 }:=by rw [<-hs3]; rfl
 exact codeAny_compStart_list (loop _ e4) (T.self _ 0 _ _ _ st4 (loop _ e4))
end
noncomputable def vf (nt:Nat) (cap:List Nat) (ρ:List (Option α)):List (Option α):=bD nt g7++cap.map λk=>(ρ[k]?).getD g7
noncomputable def yW (own:List Nat):Nat->List Nat->List Nat
 | _,[]=>[]
 | n,k::cap=>if k∈own then n::yW own (n+1) cap else yW own (n+1) cap
noncomputable def ioC (nt len:Nat):List Nat:=(aE len).map (nt + ·)
noncomputable def jS (own:List Nat) (ρc:Sl):Nat->List Nat->Sl->Sl
 | _,[],ρ=>ρ
 | n,k::cap,ρ=>if k∈own then jS own ρc (n+1) cap (ρ.set k ((ρc[n]?).getD g7)) else jS own ρc (n+1) cap ρ
variable {nt:Nat} {cap:List Nat}
theorem get_cap {ρ:List (Option α)} {d:α}:(vf nt cap ρ)[i]?=g6 (g6 d)↔∃ j k,i=nt+j/\cap[j]?=g6 k/\ρ[k]?=g6 (g6 d):=by
 unfold vf
 constructor
 ·intro h
  by_cases hi:i < nt
  ·rw [cO (by simpa using hi),cz] at h
   split at h <;> cases h
  ·rw [cK (by simpa using hi),eB,aG] at h
   cases q:cap[i - nt]? with
   | none=>rw [q] at h; cases h
   | some k=>
    rw [q] at h
    have h:(ρ[k]?).getD g7=g6 d:=aU.inj h
    refine ⟨i - nt,k,by omega,q,?_⟩
    cases q2:ρ[k]? with
    | none=>rw [q2] at h; cases h
    | some o=>rw [q2] at h; exact congrArg g6 h
 ·rintro ⟨j,k,rfl,h1,h2⟩
  rw [cK 'h',eB,aG,show nt+j - nt=j by omega,h1]
  simp [h2]
theorem mem_ownC {own:List Nat}:∀ {n:Nat} {cap:List Nat} {i:Nat},i∈yW own n cap↔∃ j k,i=n+j/\cap[j]?=g6 k/\k∈own
 | n,[],i=>by simp [yW]
 | n,k::cap,i=>by
  have ih:=@mem_ownC own (n+1) cap i
  unfold yW
  by_cases hk:k∈own
  ·rw [if_pos hk,ae,ih]
   constructor
   ·rintro (rfl | ⟨j,k',e,h1,h2⟩)
    ·exact ⟨0,k,rfl,rfl,hk⟩
    ·exact ⟨j+1,k',by omega,by simpa using h1,h2⟩
   ·rintro ⟨j,k',e,h1,h2⟩
    cases j with
    | zero=>exact .inl 'a'
    | succ j=>exact .inr ⟨j,k',by omega,by simpa using h1,h2⟩
  ·rw [if_neg hk,ih]
   constructor
   ·rintro ⟨j,k',e,h1,h2⟩
    exact ⟨j+1,k',by omega,by simpa using h1,h2⟩
   ·rintro ⟨j,k',e,h1,h2⟩
    cases j with
    | zero=>simp at h1; subst h1; exact absurd h2 hk
    | succ j=>exact ⟨j,k',by omega,by simpa using h1,h2⟩
theorem mem_ioC {len:Nat}:i∈ioC nt len↔∃ j,j < len/\i=nt+j:=by
 unfold ioC
 rw [ai]
 constructor
 ·rintro ⟨j,h1,h2⟩; exact ⟨j,aL.mp h1,h2.symm⟩
 ·rintro ⟨j,h1,h2⟩; exact ⟨j,aL.mpr h1,h2.symm⟩
variable {ρc:Sl}
theorem zg:∀ {n:Nat} {cap:List Nat} {ρ:Sl},(jS own ρc n cap ρ).length=ρ.length
 | _,[],_=>rfl
 | n,k::cap,ρ=>by
  unfold jS
  by_cases hk:k∈own
  ·rw [if_pos hk,zg,cA]
  ·rw [if_neg hk,zg]
theorem vt:∀ {n:Nat} {cap:List Nat} {ρ:Sl} {i:Nat},¬(i∈cap/\i∈own)->(jS own ρc n cap ρ)[i]?=ρ[i]?
 | _,[],_,_,_=>rfl
 | n,k::cap,ρ,i,h=>by
  unfold jS
  have h':¬(i∈cap/\i∈own):=λz=>h ⟨aa _ z.1,z.2⟩
  by_cases hk:k∈own
  ·rw [if_pos hk,vt h',ay (λe=>h ⟨ae.mpr (.inl e.symm),by rw [<-e]; exact hk⟩)]
  ·rw [if_neg hk,vt h']
theorem xz:∀ {n:Nat} {cap:List Nat} {ρ:Sl} {j k:Nat} {d:D},cap.Nodup->cap[j]?=g6 k->k∈own->k < ρ.length->ρc[n+j]?=g6 (g6 d)->(jS own ρc n cap ρ)[k]?=g6 (g6 d)
 | _,[],_,_,_,_,_,h,_,_,_=>by simp at h
 | n,k0::cap,ρ,0,k,d,nd,h,hk,hl,e=>by
  simp at h; subst h
  obtain ⟨n1,n2⟩:=aM.mp nd
  unfold jS
  rw [if_pos hk,vt (λz=>n1 z.1),aH hl]
  have e:ρc[n]?=g6 (g6 d):=e
  rw [e]; rfl
 | n,k0::cap,ρ,j+1,k,d,nd,h,hk,hl,e=>by
  obtain ⟨n1,n2⟩:=aM.mp nd
  have h:cap[j]?=g6 k:=by simpa using h
  have e:ρc[n+1+j]?=g6 (g6 d):=by rw [show n+1+j=n+(j+1) by omega]; exact e
  unfold jS
  by_cases hk0:k0∈own
  ·rw [if_pos hk0]; exact xz n2 h hk (by rw [cA]; exact hl) e
  ·rw [if_neg hk0]; exact xz n2 h hk hl e
section
theorem Ub {ρ:List (Option α)}:(vf nt cap ρ).length=nt+cap.length:=by simp [vf]
theorem Gh {l:List Nat} (h:l.Nodup) {j k:Nat} (a:l[i]?=g6 k) (b:l[j]?=g6 k):i=j:=by
 obtain ⟨h1,e1⟩:=aC.mp a
 obtain ⟨h2,e2⟩:=aC.mp b
 exact (fz h).mp (e1.trans e2.symm)
theorem qep (rp:Rep K own F H σ ρ) (nd:cap.Nodup):Rep K (yW own nt cap) F H (vf nt cap σ) (vf nt cap ρ) where
 sub:=rp.sub
 len:=by rw [Ub,Ub]
 val:=λi d hi e=>by
  obtain ⟨j,k,rfl,h1,h2⟩:=get_cap.mp e
  obtain ⟨v,g1,g2⟩:=rp.val k d (λz=>hi (mem_ownC.mpr ⟨j,k,rfl,h1,z⟩)) h2
  exact ⟨v,get_cap.mpr ⟨j,k,rfl,h1,g1⟩,g2⟩
 ow:=λi d hi e=>by
  obtain ⟨j,k,rfl,h1,h2⟩:=get_cap.mp e
  obtain ⟨j',k',e',h1',h2'⟩:=mem_ownC.mp hi
  have:j=j':=by omega
  subst this
  rw [h1] at h1'; cases h1'
  obtain ⟨a,g1,g2⟩:=rp.ow k d h2' h2
  exact ⟨a,get_cap.mpr ⟨j,k,rfl,h1,g1⟩,g2⟩
 opn:=λi hi=>by
  obtain ⟨j,k,rfl,h1,h2⟩:=mem_ownC.mp hi
  obtain ⟨d,e⟩:=rp.opn k h2
  exact ⟨d,get_cap.mpr ⟨j,k,rfl,h1,e⟩⟩
 dis:=λi i' a hi hi' e e'=>by
  obtain ⟨j,k,rfl,h1,h2⟩:=mem_ownC.mp hi
  obtain ⟨j',k',rfl,h1',h2'⟩:=mem_ownC.mp hi'
  obtain ⟨x,y,q1,q2,q3⟩:=get_cap.mp e
  obtain ⟨x',y',q1',q2',q3'⟩:=get_cap.mp e'
  have:x=j:=by omega
  subst this
  have:x'=j':=by omega
  subst this
  rw [h1] at q2; cases q2
  rw [h1'] at q2'; cases q2'
  have e:=rp.dis k k' a h2 h2' q3 q3'
  subst e
  rw [Gh nd h1 h1']
theorem Gi (hio:∀ i∈ioC nt cap.length,σ1[i]?=(vf nt cap σ)[i]?) (h:OA (yW own nt cap) σ1 b):OA own σ b:=by
 obtain ⟨i,hi,e⟩:=h
 obtain ⟨j,k,rfl,h1,h2⟩:=mem_ownC.mp hi
 rw [hio _ (mem_ioC.mpr ⟨j,(aC.mp h1).1,rfl⟩)] at e
 obtain ⟨x,y,q1,q2,q3⟩:=get_cap.mp e
 have:x=j:=by omega
 subst this
 rw [h1] at q2; cases q2
 exact ⟨k,h2,q3⟩
theorem Gj (rp:Rep K own F H σ ρ) (nd:cap.Nodup) (rp1:Rep K (yW own nt cap) F' H' σ1 ρ1) (hio:∀ i∈ioC nt cap.length,σ1[i]?=(vf nt cap σ)[i]?) (c:Chg (OA (yW own nt cap) σ1) F H F' H'):Rep K own F' H' σ (jS own ρ1 nt cap ρ) where
 sub:=rp1.sub
 len:=by rw [zg]; exact rp.len
 val:=λi d hi e=>by
  rw [vt (λz=>hi z.2)] at e
  obtain ⟨v,h1,h2⟩:=rp.val i d hi e
  exact ⟨v,h1,h2.mono c.grow⟩
 ow:=λi d hi e=>by
  by_cases q:i∈cap
  ·obtain ⟨j,hj⟩:=List.getElem?_of_mem q
   have hm:nt+j∈yW own nt cap:=mem_ownC.mpr ⟨j,i,rfl,hj,hi⟩
   obtain ⟨d',hd'⟩:=rp1.opn _ hm
   obtain ⟨d0,hd0⟩:=rp.opn i hi
   rw [xz nd hj hi (aC.mp hd0).1 hd'] at e
   cases e
   obtain ⟨a,h1,h2⟩:=rp1.ow _ _ hm hd'
   rw [hio _ (mem_ioC.mpr ⟨j,(aC.mp hj).1,rfl⟩)] at h1
   obtain ⟨x,y,q1,q2,q3⟩:=get_cap.mp h1
   have:x=j:=by omega
   subst this
   rw [hj] at q2; cases q2
   exact ⟨a,q3,h2⟩
  ·rw [vt (λz=>q z.1)] at e
   obtain ⟨a,h1,h2,h3⟩:=rp.ow i d hi e
   have na:¬OA (yW own nt cap) σ1 a:=λz=>by
    obtain ⟨i',hi',e'⟩:=z
    obtain ⟨j,k,rfl,g1,g2⟩:=mem_ownC.mp hi'
    rw [hio _ (mem_ioC.mpr ⟨j,(aC.mp g1).1,rfl⟩)] at e'
    obtain ⟨x,y,q1,q2,q3⟩:=get_cap.mp e'
    have:x=j:=by omega
    subst this
    rw [g1] at q2; cases q2
    have e:=rp.dis i k a hi g2 h1 q3
    subst e
    exact q (aV g1)
   refine ⟨a,h1,?_,h3.grow c.grow λo z=>c.keep a o z na⟩
   cases qq:F' a with
   | none=>rfl
   | some u=>
    rcases c.new a (by rw [qq]; simp) with z | z | z
    ·exact absurd h2 z
    ·exact absurd z h3.there
    ·exact absurd z na
 opn:=λi hi=>by
  by_cases q:i∈cap
  ·obtain ⟨j,hj⟩:=List.getElem?_of_mem q
   have hm:nt+j∈yW own nt cap:=mem_ownC.mpr ⟨j,i,rfl,hj,hi⟩
   obtain ⟨d',hd'⟩:=rp1.opn _ hm
   obtain ⟨d0,hd0⟩:=rp.opn i hi
   exact ⟨d',xz nd hj hi (aC.mp hd0).1 hd'⟩
  ·rw [vt (λz=>q z.1)]
   exact rp.opn i hi
 dis:=rp.dis
end
noncomputable def yX (g:D->Sl->Out Sl) (ft:Sl->Out (Bool×Sl)) (fe:Sl->Out (D×Sl)) (d:D) (ρ:Sl):Out (Option D×Sl):=
 (g d ρ).plain.bind λρ1=>(ft ρ1).plain.bind λq=>if q.1=hZ then (fe q.2).plain.bind λr=>.ok (g6 r.1,r.2) else .ok (g7,q.2)
noncomputable def jH (g:D->Sl->Out Sl) (ft:Sl->Out (Bool×Sl)) (fe:Sl->Out (D×Sl)):List D->Sl->Out (List D×Sl)
 | [],ρ=>.ok ([],ρ)
 | d::ds,ρ=>(yX g ft fe d ρ).bind λp=>(jH g ft fe ds p.2).bind λq=>.ok (p.1.toList++q.1,q.2)
noncomputable def jg (own:List Nat) (nt:Nat) (cap:List Nat) (fi:Sl->Out (List D×Sl)) (g:D->Sl->Out Sl) (ft:Sl->Out (Bool×Sl)) (fe:Sl->Out (D×Sl)):Sl->Out (D×Sl):=λρ=>(fi ρ).bind λp=>
 if p.1.length<=sizeLine then (jH g ft fe p.1 (vf nt cap p.2)).bind λq=>.ok (.lst q.1,jS own q.2 nt cap p.2) else .bad
noncomputable def ctC (C:Ct) (nt len:Nat):Ct:=⟨C.K,C.cv,λ_ _ _=>False,ioC nt len,.sh,[],[],λ_ h=>absurd h 'h'⟩
noncomputable def ftT:Sl->Out (Bool×Sl):=λρ=>.ok (hZ,ρ)
theorem qU:PTs Y [] (tT C own ftT):=⟨λpins s σ H Q I ⟨F,ρ,rp,h⟩=>qeo pins s σ H Q I (h F H rp .refl)⟩
structure CW (C:Ct) (own:List Nat) (nt:Nat) (cap:List Nat) (σ:St) (F H F0:Hp) (g:D->Sl->Out Sl) (ft:Sl->Out (Bool×Sl)) (fe:Sl->Out (D×Sl)) (ds ys:List D) (ρe:Sl) (p:Addr) (i:Nat) (σ1:St) (H1:Hp) (F1:Hp) (ρi:Sl) (accD:List D) (xs:List V) (rest:List D):Prop where
 rep:Rep C.K (yW own nt cap) F1 H1 σ1 ρi
 io:∀ i∈ioC nt cap.length,σ1[i]?=(vf nt cap σ)[i]?
 chg:Chg (OA (yW own nt cap) σ1) F H F1 H1
 gr:Same F0 F1
 at_:H1 p=g6 (.lst xs)
 nF:F1 p=g7
 is:IsL C.K F1 xs accD
 le:accD.length<=i
 run:jH g ft fe (ds.drop i) ρi=.ok (rest,ρe)
 all:accD++rest=ys
variable {ρe:Sl}
theorem XN {g:D->Sl->Out Sl} {rest:List D} (h:jH g ft fe (d::ds) ρ=.ok (rest,ρe)) :
  ∃ ρ1,g d ρ=.ok ρ1/\∃ b ρ2,ft ρ1=.ok (b,ρ2)/\((b=hZ/\∃ y ρ3 r,fe ρ2=.ok (y,ρ3)/\jH g ft fe ds ρ3=.ok (r,ρe)/\rest=y::r)\/(b=hJ/\jH g ft fe ds ρ2=.ok (rest,ρe))):=by
 unfold jH yX at h
 cases q1:g d ρ with
 | exc c=>rw [q1] at h; cases h
 | bad=>rw [q1] at h; cases h
 | ok ρ1=>
  rw [q1] at h
  refine ⟨ρ1,rfl,?_⟩
  simp only [Out.plain,Out.ok_bind] at h
  cases q2:ft ρ1 with
  | exc c=>rw [q2] at h; cases h
  | bad=>rw [q2] at h; cases h
  | ok p=>
   obtain ⟨b,ρ2⟩:=p
   rw [q2] at h
   refine ⟨b,ρ2,rfl,?_⟩
   simp only [Out.plain,Out.ok_bind] at h
   cases b with
   | true=>
    refine .inl ⟨rfl,?_⟩
    simp only [if_true] at h
    cases q3:fe ρ2 with
    | exc c=>rw [q3] at h; cases h
    | bad=>rw [q3] at h; cases h
    | ok p=>
     obtain ⟨y,ρ3⟩:=p
     rw [q3] at h
     simp only [Out.plain,Out.ok_bind] at h
     cases q4:jH g ft fe ds ρ3 with
     | exc c=>rw [q4] at h; cases h
     | bad=>rw [q4] at h; cases h
     | ok p=>
      obtain ⟨r,ρ4⟩:=p
      rw [q4] at h
      simp only [Out.ok_bind] at h
      cases h
      exact ⟨y,ρ3,r,rfl,q4,rfl⟩
   | false=>
    refine .inr ⟨rfl,?_⟩
    simp only [eX,if_false,Out.ok_bind] at h
    cases q4:jH g ft fe ds ρ2 with
    | exc c=>rw [q4] at h; cases h
    | bad=>rw [q4] at h; cases h
    | ok p=>
     obtain ⟨r,ρ4⟩:=p
     rw [q4] at h
     simp only [Out.ok_bind] at h
     cases h
     rfl
section
variable {elt:Expr} {g:D->Sl->Out Sl} {me:Mo}
structure CapOk (X:Cx) (scope:i7) (N:List Str) (nt:Nat) (cap:List Nat):Prop where
 nd:cap.Nodup
 len:N.length=nt+cap.length
 at_:∀ (j k:Nat),cap[j]?=g6 k->∃ x,N[nt+j]?=g6 x/\X.N[k]?=g6 x/\((Vis X.env.scope x/\(x,bF)∈scope.names)\/∀ k',(x,k')∉scope.names)
theorem VH {F:Hp} {ρ1:Sl} {it:Addr} {fp:List Addr} {tn:Nat->Heap->Prop} {J:It} {E:g9->hV->Prop} {ds ys:List D} {ρe:Sl} (I:Inv X pins σ H s) (hcalm:X.calm=hZ) (S:ScOk X scope) (CO:CapOk X scope N nt cap)
  (T:Turn X.prog X.w X.K tg J fp it tn) (st0:tn 0 s.heap) (hf:∀ b∈fp,WM X pins H b) (rp:Rep C.K own F H σ ρ1) (itI:ItIs C.K F J ds) (hz:ds.length<=sizeLine)
  (hg:∀ fp L s' H',PG (kg X scope N fp L s' H') tg (tGd (ctC C nt cap.length) (yW own nt cap) g)) (ht:∀ fp L s' H',PTs (kg X scope N fp L s' H') ifs (tT (ctC C nt cap.length) (yW own nt cap) ft))
  (he:∀ fp L s' H',PE (kg X scope N fp L s' H') elt (tE (ctC C nt cap.length) (yW own nt cap) me fe)) (hme:me≠.any)
  (hrun:jH g ft fe ds (vf nt cap ρ1)=.ok (ys,ρe)) (RR:g9->Addr->k8->hV->Prop)
  (hRR:∀ p L s' F' H',H p=g7->Rep C.K own F' H' σ (jS own ρe nt cap ρ1)->Chg (OA own σ) F H F' H'->F' p=g7->OwnIs C.K F' H' p (.lst ys)->(∃ m,s'.heap.Ns L m)->WM X pins H' L->(∀ h',bT L s'.heap h'->Inv X pins σ H' { s' with heap:=h' })->RR (.ref p) L (.ok .next) s') :
  wpAny 'd' X.A (newList []) (λacc s₃=>wpAny 'd' X.A (newFunctionEnv scope X.env.globals (Vh X.env.cells scope.names []) [] X.env.qual g7 .none (g6 X.env)) (λcenv s₄=>
   codeAny 'd' X.A (.compStart (.ListComp elt [⟨tg,iter,ifs,0⟩] scope pos) 0 (.ref it) acc { cenv with scope:=relabel scope X.env }) (RR acc cenv.locals) s₄) E s₃) E s:=by
 have oaH:∀ {σ1:St} {b:Addr},(∀ i∈ioC nt cap.length,σ1[i]?=(vf nt cap σ)[i]?)->OA (yW own nt cap) σ1 b->H b≠none:=λhio z=>(rp.OA_there (Gi hio z)).1
 refine qbN (σc:=vf nt cap σ) I hcalm S T st0 hf hg ht (λfp L s' H'=>yT (he fp L s' H') hme) (by rw [Ub,CO.len]) (λj x v e1 e2 e3=>?_)
  (λp i m σ1 H1=>H p=g7/\m=ds.length - i/\i<=ds.length/\∃ F1 ρi accD xs rest,CW C own nt cap σ F H F g ft fe ds ys ρe p i σ1 H1 F1 ρi accD xs rest)
  (λp H1=>H p=g7/\∃ σ1 F1 xs,Rep C.K (yW own nt cap) F1 H1 σ1 ρe/\(∀ i∈ioC nt cap.length,σ1[i]?=(vf nt cap σ)[i]?)/\Chg (OA (yW own nt cap) σ1) F H F1 H1/\H1 p=g6 (.lst xs)/\F1 p=g7/\IsL C.K F1 xs ys) (λp hp=>?_) ?_ RR ?_
 ·obtain ⟨j',k,rfl,h1,h2⟩:=get_cap.mp e2
  obtain ⟨y,g1,g2,g3⟩:=CO.at_ j' k h1
  rw [g1] at e1; cases e1
  obtain ⟨k',hk'⟩:=e3
  rcases g3 with ⟨g3,g4⟩ | g3
  ·exact ⟨k,g2,h2,g3,g4⟩
  ·exact absurd hk' (g3 k')
 ·obtain ⟨r1,c1,hF⟩:=Gc (C:=C) (u:=.lst []) (qep (nt:=nt) rp CO.nd) hp
  exact ⟨ds.length,hp,by simp,bp _,F,vf nt cap ρ1,[],[],ys,r1,λ_ _=>rfl,c1.ofNo,Same.refl _,qp,hF,.nil,ax _,by simpa using hrun,rfl⟩
 ·rintro p i m σ1 H1 ⟨hp,rfl,hle,F1,ρi,accD,xs,rest,w⟩
  by_cases hlt:i < ds.length
  ·have hd:ds.drop i=ds[i]::ds.drop (i+1):=List.drop_eq_getElem_cons hlt
   have run:=w.run
   rw [hd] at run
   obtain ⟨ρa,ea,b,ρb,eb,hrest⟩:=XN run
   have sub1:Same F H1:=w.gr.trans w.rep.sub
   refine .inr ⟨itI.go i H1 hlt sub1,λx H2 y=>?_⟩
   obtain ⟨F2,c2,s2,is2⟩:=itI.yld i F1 H1 x H2 ds[i] (by simp [hlt]) w.gr w.rep.sub y
   have rp2:=w.rep.grow c2 s2
   have nop:∀ {σ9:St},(∀ i∈ioC nt cap.length,σ9[i]?=(vf nt cap σ)[i]?)->¬OA (yW own nt cap) σ9 p:=λhio z=>oaH hio z hp
   have keepP:∀ {A:Addr->Prop} {Fa Ha Fb Hb:Hp} {zs:List V},Chg A Fa Ha Fb Hb->¬A p->Ha p=g6 (.lst zs)->Fa p=g7->Hb p=g6 (.lst zs)/\Fb p=none:=λ{A Fa Ha Fb Hb zs} c na e1 e2=>by
    refine ⟨c.keep p _ e1 na,?_⟩
    cases q:Fb p with
    | none=>rfl
    | some u=>
     rcases c.new p (by rw [q]; simp) with z | z | z
     ·exact absurd e2 z
     ·rw [e1] at z; cases z
     ·exact absurd z na
   obtain ⟨at2,nF2⟩:=keepP c2 (λz=>z) w.at_ w.nF
   refine ⟨F2,ρi,ds[i],rp2,is2,ρa,ea,λσ3 rp3 oa3 io3=>?_⟩
   have io3':∀ i∈ioC nt cap.length,σ3[i]?=(vf nt cap σ)[i]?:=λi hi=>(io3 i hi).trans (w.io i hi)
   refine ⟨F2,ρa,rp3,?_⟩
   rw [eb]
   intro F4 H4 rp4 c4
   obtain ⟨at4,nF4⟩:=keepP c4 (nop io3') at2 nF2
   have chg4:Chg (OA (yW own nt cap) σ3) F H F4 H4:=by
    have q1:Chg (OA own σ) F H F1 H1:=w.chg.mono λb z=>Gi w.io z
    have mv:∀ {b},OA (yW own nt cap) σ1 b->OA (yW own nt cap) σ3 b:=λ{b} z=>by
     obtain ⟨i',hi',e'⟩:=z
     obtain ⟨j,k,rfl,g1,g2⟩:=mem_ownC.mp hi'
     have hm:nt+j∈ioC nt cap.length:=mem_ioC.mpr ⟨j,(aC.mp g1).1,rfl⟩
     exact ⟨nt+j,hi',by rw [io3' _ hm,<-w.io _ hm]; exact e'⟩
    exact ((w.chg.mono λb z=>mv z).trans' c2.ofNo).trans' c4
   have gr4:Same F F4:=(w.gr.trans c2.grow).trans c4.grow
   have is4:IsL C.K F4 xs accD:=(w.is.mono c2.grow).mono c4.grow
   rcases hrest with ⟨rfl,y',ρc,r,ec,er,hr⟩ | ⟨rfl,er⟩
   ·rw [if_pos rfl]
    refine ⟨F4,ρb,rp4,?_⟩
    rw [ec]
    intro v F5 H5 rp5 c5 mo5
    obtain ⟨at5,nF5⟩:=keepP c5 (nop io3') at4 nF4
    have hlen:xs.length=accD.length:=is4.length
    refine ⟨xs,at5,by have:=w.le; omega,ds.length - (i+1),by omega,hp,rfl,hlt,F5,ρc,accD++[y'],xs++[v],r,?_⟩
    have cp:Chg (λb=>b=p) F5 H5 F5 (upd H5 p (.lst (xs++[v]))):=⟨λb o e n=>by rw [qC n]; exact e,λb e=>by
     by_cases q:b=p
     ·rw [q,qp]; simp
     ·rw [qC q]; exact e,Same.refl _,λb e=>.inl e⟩
    have sb5:Same F5 (upd H5 p (.lst (xs++[v]))):=λb o e=>by rw [qC (qJ e nF5)]; exact rp5.sub b o e
    have rp6:Rep C.K (yW own nt cap) F5 (upd H5 p (.lst (xs++[v]))) σ3 ρc:=by
     refine ⟨sb5,rp5.len,rp5.val,λi d hi e=>?_,rp5.opn,rp5.dis⟩
     obtain ⟨a,h1,h2,h3⟩:=rp5.ow i d hi e
     have na:a≠p:=λz=>by subst z; exact nop io3' ⟨i,hi,h1⟩
     exact ⟨a,h1,h2,h3.grow (Same.refl _) λo z=>by rw [qC na]; exact z⟩
    refine ⟨rp6,io3',?_,(gr4.trans c5.grow),qp,nF5,(is4.mono c5.grow).append (.cons mo5 .nil),by simp only [aj,ap,bc]; have:=w.le; omega,er,?_⟩
    ·exact (chg4.trans' c5).trans cp λb z=>.inr (by rw [z]; exact hp)
    ·rw [aP,<-w.all,hr]; rfl
   ·rw [if_neg be]
    exact ⟨ds.length - (i+1),by omega,hp,rfl,hlt,F4,ρb,accD,xs,rest,rp4,io3',chg4,gr4,at4,nF4,is4,by have:=w.le; omega,er,w.all⟩
  ·have e:i=ds.length:=by omega
   subst e
   have run:=w.run
   rw [List.drop_length] at run
   unfold jH at run
   cases run
   have ha:=w.all
   rw [bg] at ha
   subst ha
   exact .inl ⟨itI.stop _ H1 (ax _) (w.gr.trans w.rep.sub),hp,σ1,F1,xs,w.rep,w.io,w.chg,w.at_,w.nF,w.is⟩
 ·rintro p L H' s' ⟨hp,σ1,F1,xs,r1,io1,c1,e1,n1,is1⟩ hns hfp hinv
  exact hRR p L s' F1 H' hp (Gj rp CO.nd r1 io1 c1) (c1.mono λb z=>Gi io1 z) n1 ⟨xs,e1,is1⟩ hns hfp hinv
theorem Uc:∀ (ds:List D) (ρ:Sl) (c:Str) (o:Sl),jH g ft fe ds ρ≠.exc c o:=by
 intro ds
 induction ds with
 | nil=>intro ρ c o z; cases z
 | cons d ds ih=>
  intro ρ c o z
  unfold jH yX at z
  cases q1:g d ρ with
  | exc c=>rw [q1] at z; cases z
  | bad=>rw [q1] at z; cases z
  | ok ρ1=>
   rw [q1] at z
   simp only [Out.plain,Out.ok_bind] at z
   cases q2:ft ρ1 with
   | exc c=>rw [q2] at z; cases z
   | bad=>rw [q2] at z; cases z
   | ok p=>
    rw [q2] at z
    simp only [Out.plain,Out.ok_bind] at z
    by_cases hb:p.1=hZ
    ·rw [if_pos hb] at z
     cases q3:fe p.2 with
     | exc c=>rw [q3] at z; cases z
     | bad=>rw [q3] at z; cases z
     | ok r=>
      rw [q3] at z
      simp only [Out.plain,Out.ok_bind] at z
      cases q4:jH g ft fe ds r.2 with
      | exc c=>exact ih _ _ _ q4
      | bad=>rw [q4] at z; cases z
      | ok t=>rw [q4] at z; cases z
    ·rw [if_neg hb] at z
     simp only [Out.ok_bind] at z
     cases q4:jH g ft fe ds p.2 with
     | exc c=>exact ih _ _ _ q4
     | bad=>rw [q4] at z; cases z
     | ok t=>rw [q4] at z; cases z
theorem VI {α:Type} {Z:Out (D×Sl)->Prop} (rp:Rep C.K own F H σ ρ) (hb:¬Z .bad) (hx:∀ c ρ',Z (.exc c ρ')->∀ F' H',Same F' H'->Zv C.K C.ox F' H' σ ρ'->Chg (OA own σ) F H F' H'->C.E (C.cv c) g7 H') (h:Z (jg own nt cap fi g ft fe ρ)) :
  tIt C own fi σ H λJ H1=>∃ ds ρ1 ys ρe F1,ds.length<=sizeLine/\jH g ft fe ds (vf nt cap ρ1)=.ok (ys,ρe)/\Rep C.K own F1 H1 σ ρ1/\Chg (OA own σ) F H F1 H1/\ItIs C.K F1 J ds/\Z (.ok (.lst ys,jS own ρe nt cap ρ1)):=by
 refine ⟨F,ρ,rp,?_⟩
 unfold jg at h
 cases q:fi ρ with
 | exc c=>rw [q] at h; exact hx c _ h
 | bad=>rw [q] at h; exact (hb h).elim
 | ok p=>
  obtain ⟨ds,ρ1⟩:=p
  rw [q] at h
  have h:Z (if ds.length<=sizeLine then (jH g ft fe ds (vf nt cap ρ1)).bind λq=>.ok (.lst q.1,jS own q.2 nt cap ρ1) else .bad):=h
  by_cases z:ds.length<=sizeLine
  ·rw [if_pos z] at h
   cases q2:jH g ft fe ds (vf nt cap ρ1) with
   | exc c=>exact absurd q2 (Uc _ _ _ _)
   | bad=>rw [q2] at h; exact (hb h).elim
   | ok p=>
    obtain ⟨ys,ρe⟩:=p
    rw [q2] at h
    exact λJ F1 H1 rp1 c1 it=>⟨ds,ρ1,ys,ρe,F1,z,q2,rp1,c1,it,h⟩
  ·rw [if_neg z] at h; exact (hb h).elim
theorem jw (hcalm:X.calm=hZ) (S:ScOk X scope) (CO:CapOk X scope N nt cap) (hi:PI X tg iter (tIt C own fi))
  (hg:∀ fp L s' H',PG (kg X scope N fp L s' H') tg (tGd (ctC C nt cap.length) (yW own nt cap) g)) (ht:∀ fp L s' H',PTs (kg X scope N fp L s' H') ifs (tT (ctC C nt cap.length) (yW own nt cap) ft))
  (he:∀ fp L s' H',PE (kg X scope N fp L s' H') elt (tE (ctC C nt cap.length) (yW own nt cap) me fe)) (hme:me≠.any:=by decide) (hs:∀ x,foldedSetIterable iter X.env x=pure x:=by intro _; rfl) :
  PE X (.ListComp elt [⟨tg,iter,ifs,0⟩] scope pos) (tE C own .fr (jg own nt cap fi g ft fe)):=by
 refine ⟨?_⟩
 intro pins s σ H Q I ⟨F,ρ,rp,h⟩
 rw [eval_ListComp]
 have main:=VI (α:=Unit) (Z:=λr=>Po C own .fr σ F H r Q) rp (λz=>z) (λc _ z=>z) h
 refine wpAny_comprehension_free (use:=g7) rfl hs (Jm (gJ I S)) S.kind S.names (thn (hi pins s σ H _ I main) λxv s1 h1=>thn h1 λitv s2 h2=>?_)
 obtain ⟨it,fp,tn,J,H2,e,I2,T,st2,f2,ds,ρ1,ys,ρe,F1,hz,hrun,rp1,c1,itI,po⟩:=h2
 subst e
 refine VH (RR:=λacc C'=>compPost 'd' X.A X.xe g7 (EP X pins σ Q) acc C') I2 hcalm S CO T st2 f2 rp1 itI hz hg ht he hme hrun λp L s' F' H' hp rp' c' nF o hns hfp hinv=>?_
 obtain ⟨m,hn⟩:=hns
 refine ⟨m,hn,λh' sb=>⟨.ref p,H',hinv h' sb,rfl,?_⟩⟩
 refine po (.ref p) F' H' rp' (c1.trans' c') ⟨p,rfl,?_,nF,o⟩
 cases q:H p with
 | none=>rfl
 | some u=>exact absurd hp (c1.stay p (by rw [q]; simp))
theorem vg {pos' spos:Pos} (hN:X.N.Nodup) (hix:X.N[i]?=g6 x) (hx:Loc X.env.scope x) (hcalm:X.calm=hZ) (S:ScOk X scope) (CO:CapOk X scope N nt cap) (hi:PI X tg iter (tIt C own fi))
  (hg:∀ fp L s' H',PG (kg X scope N fp L s' H') tg (tGd (ctC C nt cap.length) (yW own nt cap) g)) (ht:∀ fp L s' H',PTs (kg X scope N fp L s' H') ifs (tT (ctC C nt cap.length) (yW own nt cap) ft))
  (he:∀ fp L s' H',PE (kg X scope N fp L s' H') elt (tE (ctC C nt cap.length) (yW own nt cap) me fe)) (hme:me≠.any:=by decide) (hio:i∉C.io:=by exact Yl rfl)
  (hsw:swapsWith (.ListComp elt [⟨tg,iter,ifs,0⟩] scope pos) (g6 (.Name x pos')) spos.line X.env=pure true:=by rfl) (hs:∀ x,foldedSetIterable iter X.env x=pure x:=by intro _; rfl)
  (hfx:X.fn x=hZ\/X.env.scope.names.lookup x=g6 .local:=by first | exact .inl rfl | exact .inr rfl) :
  PS X (.Assign [.Name x pos'] (.ListComp elt [⟨tg,iter,ifs,0⟩] scope pos) spos) (tSt C own (i::uu own [i]) (jQ i (jg own nt cap fi g ft fe))):=by
 refine ⟨?_⟩
 intro pins s σ H D I ⟨F,ρ,rp,h⟩
 rw [exec_Assign_Name_used _ _ _ _ hsw]
 refine g8 (wpAny_standAt (g8 ?_))
 show wpAny _ X.A (do let _ <-comprehension (.ListComp elt [⟨tg,iter,ifs,0⟩] scope pos) scope X.env _ (newList []) hJ (eval iter X.env) (g6 (assign (.Name x pos') X.env))) _ _ s
 have main:=VI (α:=Unit) (Z:=λr=>PoS C own (i::uu own [i]) σ F H (r.bind λp=>if i < p.2.length then .ok (.nx,p.2.set i (g6 p.1)) else .bad) D) rp (λz=>z) (λc _ z=>z) h
 refine g8 (iU (wpAny_comprehension_free (use:=g6 (assign (.Name x pos') X.env)) (Q:=λ_ s'=>SP X pins D .next s') rfl hs (Jm (gJ I S)) S.kind S.names (thn (hi pins s σ H _ I main) λxv s1 h1=>thn h1 λitv s2 h2=>?_)) (λ_ s' hq=>h7 (h7 hq)) λ_ _ e=>e)
 obtain ⟨it,fp,tn,J,H2,e,I2,T,st2,f2,ds,ρ1,ys,ρe,F1,hz,hrun,rp1,c1,itI,po⟩:=h2
 subst e
 refine VH (RR:=λacc C'=>compPost 'd' X.A X.xe (g6 (assign (.Name x pos') X.env)) (λ_ s'=>SP X pins D .next s') acc C') I2 hcalm S CO T st2 f2 rp1 itI hz hg ht he hme hrun λp L s' F' H' hp rp' c' nF o hns hfp hinv=>?_
 obtain ⟨m,hn⟩:=hns
 have I3:Inv X pins σ H' s':=by simpa using hinv s'.heap (.refl ..)
 have hH:H p=none:=by
  cases q:H p with
  | none=>rfl
  | some u=>exact absurd hp (c1.stay p (by rw [q]; simp))
 show wpAny _ X.A (assign (.Name x pos') X.env (.ref p)) _ _ s'
 refine wpAny_assign_Name (Vl I3 hN hix hx (v:=.ref p) rfl (λs4 I4 ⟨a,sba,ha⟩=>?_) hfx)
 obtain ⟨f0,f1,f2',f3,f4,f5⟩:=hfp
 have nL:L≠a:=by
  rcases ha with z | z
  ·rw [z]; exact f1
  ·exact λq=>f4 x a z q.symm
 refine ⟨m,hn.sameBut sba nL,λh' sb=>?_⟩
 have I5:Inv X pins (σ.set i (g6 (.ref p))) H' { s4 with heap:=h' }:=by
  have:=I4.turned (h':=h') (t':=s4.toks) (it:=L) (λb o hb e=>(sb.2 b hb).trans e) f0 f1 f3 f4 f5
  exact this
 refine ⟨_,H',I5,?_⟩
 have po:PoS C own (i::uu own [i]) σ F H (if i < (jS own ρe nt cap ρ1).length then .ok (.nx,(jS own ρe nt cap ρ1).set i (g6 (.lst ys))) else .bad) D:=po
 by_cases z:i < (jS own ρe nt cap ρ1).length
 ·rw [if_pos z] at po
  refine po _ F' H' ⟨rp'.putO z nF (λy=>(rp.OA_there y).1 hH) o,c1.trans' c',λb y=>?_,λj hj=>ay λy=>hio (by rw [y]; exact hj)⟩
  obtain ⟨j,hj,e⟩:=y
  by_cases qj:j=i
  ·subst qj
   rw [aH (by rw [rp'.len]; exact z)] at e
   cases e
   exact .inr hH
  ·have hj':=(jr j).mp ((ae.mp hj).resolve_left qj)
   rw [ay (bf qj)] at e
   exact .inl ⟨j,hj'.1,e⟩
 ·rw [if_neg z] at po; exact po.elim
end
def Fly (h:Heap) (ex T:Addr) (cls:g9):Prop:=∃ oe vs oT ts,h.get? ex=g6 oe/\oe.cls=cls/\oe.data=.fields vs/\vs[1]?=g6 (.ref T)/\T≠ex/\h.get? T=g6 oT/\oT.data=.fields ts/\ts[3]?=g6 .none
def CXk (P:h8) (w:ib):CXT:=λouter H s E e s'=>∃ ex T C H',e=.ref ex/\s'.os=s.os/\i9 s'.gens/\Un (frs outer) [] H H' s.heap s'.heap/\HOk P w H' s'.heap/\Fly s'.heap ex T (.ref C)/\H' ex=g7/\H' T=g7/\s.heap.get? ex=g7/\s.heap.get? T=g7/\E (.ref C) g7 H'
def InB (X:Cx) (H:Hp) (s:hV) (ex:Addr) (cls:g9):Prop:=H ex=g7/\X.s₀.heap.get? ex=g7 /\
 ((∃ oe vs,s.heap.get? ex=g6 oe/\oe.cls=cls/\oe.data=.fields vs/\vs[1]?=g6 .none)\/∃ T,Fly s.heap ex T cls/\H T=g7/\X.s₀.heap.get? T=g7)
variable {ex:Addr} {T0:Option Addr} {h2:Heap}
section
variable {cls:g9}
theorem InB.dat (h:InB X H s ex cls):∃ oe vs,s.heap.get? ex=g6 oe/\oe.cls=cls/\oe.data=.fields vs:=by
 rcases h.2.2 with ⟨oe,vs,a,b,c,_⟩ | ⟨T,⟨oe,vs,oT,ts,a,b,c,_⟩,_⟩
 ·exact ⟨oe,vs,a,b,c⟩
 ·exact ⟨oe,vs,a,b,c⟩
noncomputable def xA (ex:Addr) (T:Option Addr) (X:Cx):List Addr:=ex::(T.toList++frs X.stack)
theorem xB (I:Inv X pins σ H s) (hb:b∈frs X.stack):∃ o,s.heap.get? b=g6 o/\∀ vs,o.data≠.fields vs:=(I.stack.mem hb).2
theorem VJ (hs:X.stack=X.env::X.outer):∀ env∈X.stack,∀ b,env.frame=g6 b->b∈frs X.stack:=λenv he b hb=>dO.mpr ⟨env,he,hb⟩
structure Gone (X:Cx) (H:Hp) (s:hV) (ex:Addr) (cls:g9) (h2:Heap):Prop where
 keep:∀ b o,s.heap.get? b=g6 o->H b≠g7\/(X.s₀.heap.get? b≠g7/\b∉frs X.stack)->h2.get? b=g6 o
 slot:∀ b o,s.heap.get? b=g6 o->b∈frs X.stack->∃ sl,h2.get? b=g6 { o with slots:=sl }
 ok:HOk X.prog X.w H h2
 un:Un (frs X.stack) [] H H s.heap h2\/True
theorem Gk {h2:Heap} (I:Inv X pins σ H s) (hex:H ex=g7) (hT:∀ T,T0=g6 T->H T=g7) (n1:X.s₀.heap.get? ex=g7) (n2:∀ T,T0=g6 T->X.s₀.heap.get? T=g7)
  (st:(bh s.heap (xA ex T0 X)).StaysIn h2) (sl:∀ b o,s.heap.get? b=g6 o->(∀ vs,o.data≠.fields vs)->∃ sl,h2.get? b=g6 { o with slots:=sl }):Gone X H s ex cls h2:=by
 have keep:∀ b o,s.heap.get? b=g6 o->b≠ex->(∀ T,T0=g6 T->b≠T)->b∉frs X.stack->h2.get? b=g6 o:=λb o e h1 h2 h3=>st b o (cY _ e λhm=>by
  rcases ae.mp hm with q | hm
  ·exact h1 q
  ·rcases ao.mp hm with q | q
   ·exact h2 b (Option.mem_toList.mp q) rfl
   ·exact h3 q)
 have k1:∀ b o,s.heap.get? b=g6 o->H b≠g7->h2.get? b=g6 o:=λb o e hn=>keep b o e (λq=>hn (by rw [q]; exact hex)) (λT hT' q=>hn (by rw [q]; exact hT T hT')) λq=>hn (I.stkFree b q)
 refine ⟨λb o e hb=>?_,λb o e hb=>?_,λb u e=>?_,.inr trivial⟩
 ·rcases hb with hb | ⟨hb,hf⟩
  ·exact k1 b o e hb
  ·exact keep b o e (λq=>hb (by rw [q]; exact n1)) (λT hT' q=>hb (by rw [q]; exact n2 T hT')) hf
 ·obtain ⟨o',e',nf⟩:=xB I hb
  rw [e] at e'; cases e'
  exact sl b o e nf
 ·refine (I.hok b u e).stay (λc v hc q=>k1 c v q ?_) (λ_ q=>q) λ_ _ q=>q
  rcases hc with z | z
  ·rw [z,e]; simp
  ·rw [z]; simp
theorem VL (I:Inv X pins σ H s) (hT:∀ T,T0=g6 T->H T=g7) (n2:∀ T,T0=g6 T->X.s₀.heap.get? T=g7) (g:Gone X H s ex cls h2) (hex0:X.ex=[])
  (tr:h2.Traced (bh s.heap (xA ex T0 X)) ex cls):∃ T,Fly h2 ex T cls/\H T=g7/\X.s₀.heap.get? T=none:=by
 obtain ⟨oe,vs,T,oT,ts,a1,a2,a3,a4,a5,a6,a7,a8,a9⟩:=tr
 have noS:∀ o,s.heap.get? T=g6 o->(∃ q,T0=g6 q/\T=q):=λo e=>by
  have hm:T∈xA ex T0 X:=by
   refine bK λhn=>?_
   rw [cY _ e hn] at a5
   cases a5
  rcases ae.mp hm with q | hm
  ·exact absurd q a6
  ·rcases ao.mp hm with q | q
   ·exact ⟨T,Option.mem_toList.mp q,rfl⟩
   ·obtain ⟨o',e',nf⟩:=xB I q
    obtain ⟨sl,e2⟩:=g.slot T o' e' q
    rw [a7] at e2
    cases e2
    exact absurd a8 (nf ts)
 refine ⟨T,⟨oe,vs,oT,ts,a1,a2,a3,a4,a6,a7,a8,a9⟩,?_,?_⟩
 ·cases q:H T with
  | none=>rfl
  | some u=>
   have hlt:=I.hok.lt q
   obtain ⟨o,e⟩:∃ o,s.heap.get? T=g6 o:=by
    have:=(I.hok T u q)
    have st:=this.stay (H':=H) (h':=s.heap) (λb v _ z=>z) (λ_ z=>z) λ_ _ z=>z
    cases z:s.heap.get? T with
    | some o=>exact ⟨o,rfl⟩
    | none=>
     exfalso
     cases u with
     | lst xs=>obtain ⟨_,_,_,_,e⟩:=st; rw [z] at e; cases e
     | tup xs=>obtain ⟨_,_,_,_,e,_⟩:=st; rw [z] at e; cases e
     | dK kvs=>obtain ⟨_,_,_,_,o,_,_,e,_⟩:=st; rw [z] at e; cases e
     | dT kvs=>obtain ⟨_,_,_,_,o,_,_,e,_⟩:=st; rw [z] at e; cases e
     | set S n=>obtain ⟨o,_,_,_,e,_⟩:=st; rw [z] at e; cases e
     | ins C dx fs=>obtain ⟨_,_,_,e,_⟩:=st; rw [z] at e; cases e
     | own y=>obtain ⟨_,e⟩:=st; rw [z] at e; cases e
     | xd fs=>obtain ⟨_,⟨_,_,_,e,_⟩,_⟩:=st; rw [z] at e; cases e
     | rng lo hi=>obtain ⟨_,_,_,e⟩:=st; rw [z] at e; cases e
     | frz ob u=>obtain ⟨e,_⟩:=st; rw [z] at e; cases e
     | tbl ps=>have e:s.heap.get? T=g6 _:=st; rw [z] at e; cases e
     | met f y=>have e:s.heap.get? T=g6 _:=st; rw [z] at e; cases e
     | ext φ=>obtain ⟨_,⟨_,e⟩,_⟩:=st; rw [z] at e; cases e
   obtain ⟨q',hq',rfl⟩:=noS o e
   rw [hT _ hq'] at q; cases q
 ·cases q:X.s₀.heap.get? T with
  | none=>rfl
  | some o=>
   obtain ⟨o',e'⟩:=I.base.there T o q (by rw [hex0]; simp)
   obtain ⟨q',hq',rfl⟩:=noS o' e'
   rw [n2 _ hq'] at q; cases q
theorem XO {E:g9->hV->Prop} {Q:Unit->hV->Prop} (I:Inv X pins σ H s) (hstk:X.stack=X.env::X.outer) (hfr:X.env.frame=g6 X.env.locals) (hex0:X.ex=[]) (x:InB X H s ex cls)
  (k:∀ h2 T,Gone X H s ex cls h2->Fly h2 ex T cls->H T=g7->X.s₀.heap.get? T=g7->Q () { s with heap:=h2 }):wpAny 'd' X.A (leaving X.env (.ref ex)) Q E s:=by
 obtain ⟨hex,n1,hx⟩:=x
 have hF:X.A.frames=g6 (X.env::X.outer):=by rw [I.ok.frames,hstk]
 have hB:∀ as,(bh s.heap as).StaysIn s.heap:=λas b o e=>dN as e
 have hl:∀ T0,s.heap.FunFrames (bh s.heap (xA ex T0 X)) (X.env::X.outer):=λT0=>by
  rw [<-hstk]
  exact PySem.W.funFrames_hide I.stack λenv he b hb=>aa _ (aO _ (VJ hstk env he b hb))
 have hn:∀ T0,(bh s.heap (xA ex T0 X)).get? ex=none:=λT0=>cS _ (ae.mpr (.inl rfl))
 rcases hx with ⟨oe,vs,a1,a2,a3,a4⟩ | ⟨T,⟨oe,vs,oT,ts,a1,a2,a3,a4,a5,a6,a7,a8⟩,hT,n2⟩
 ·refine wpAny_leaving_first (base:=bh s.heap (xA ex g7 X)) hF (hl g7) hfr a1 (hB _) (hn g7) a3 a4 λh2 ⟨st,_,tr,sl⟩=>?_
  have g:Gone X H s ex cls h2:=Gk I hex (T0:=g7) (λ_ z=>nomatch z) n1 (λ_ z=>nomatch z) st sl
  rw [a2] at tr
  obtain ⟨T',f1,f2,f3⟩:=VL I (T0:=g7) (λ_ z=>nomatch z) (λ_ z=>nomatch z) g hex0 tr
  exact k h2 T' g f1 f2 f3
 ·have hT':∀ T1,g6 T=g6 T1->H T1=none:=λT1 z=>by cases z; exact hT
  have n2':∀ T1,g6 T=g6 T1->X.s₀.heap.get? T1=none:=λT1 z=>by cases z; exact n2
  have tr0:s.heap.Traced (bh s.heap (xA ex (g6 T) X)) ex cls:=⟨oe,vs,T,oT,ts,a1,a2,a3,a4,cS _ (aa _ (cu _ 'h')),a5,a6,a7,a8⟩
  refine wpAny_leaving_next (base:=bh s.heap (xA ex (g6 T) X)) hF (hl (g6 T)) hfr tr0 (hB _) (hn _) λh2 ⟨st,_,tr,sl⟩=>?_
  have g:Gone X H s ex cls h2:=Gk I hex hT' n1 n2' st sl
  obtain ⟨T',f1,f2,f3⟩:=VL I hT' n2' g hex0 tr
  exact k h2 T' g f1 f2 f3
end
variable {A:ii} {P:h8} {w:ib} {mg:Str->Option g9} {base h:Heap} {qual:Str} {outer:List Env} {s0:hV}
section
variable {f:Addr} {cd:g9} {E:XK}
abbrev cxk (P:h8) (w:ib) (K:Frag) (mg:Str->Option g9) (base:Heap) (N:List Str) (qual:Str) (scope:i7) (f:Addr) (cd:g9) (A:ii) (outer:List Env) (s0:hV) (H0:Hp) (E:XK):Cx:=qdW (CXk P w) P w K mg base N qual scope f cd A outer s0 H0 E
theorem qgr {C:Addr} (I:Inv (cxk P w K mg base N qual scope f cd A outer s0 H0 E) pins σ H s) (x:InB (cxk P w K mg base N qual scope f cd A outer s0 H0 E) H s ex (.ref C)) (hE:E (.ref C) g7 H) :
  (cxk P w K mg base N qual scope f cd A outer s0 H0 E).xe (.ref ex) s:=by
 refine XO I rfl rfl rfl x λh2 T g fl hT nT=>?_
 have bs0:=I.base
 have neL:∀ b o,s0.heap.get? b=g6 o->b≠(cxk P w K mg base N qual scope f cd A outer s0 H0 E).env.locals:=λb o e=>aB (aI (aq e) I.ok.above)
 have nst:∀ b o,s0.heap.get? b=g6 o->b∉frs outer->b∉frs (cxk P w K mg base N qual scope f cd A outer s0 H0 E).stack:=λb o e hb z=>by
  rcases ae.mp (I.stkSub b z) with q | q
  ·exact neL b o e q
  ·exact hb q
 have ist:∀ b,b∈frs outer->b∈frs (cxk P w K mg base N qual scope f cd A outer s0 H0 E).stack:=λb hb=>by
  show b∈frs (_::outer)
  unfold frs
  rw [bu]
  exact aa _ hb
 refine ⟨ex,T,C,H,rfl,I.os,I.bare,⟨λb o e n hb hx=>?_,λb o e n hb hx=>?_,bs0.free,λb o e hx=>?_,bs0.tups,bs0.frzs,bs0.tbls⟩,g.ok,fl,x.1,hT,x.2.1,nT,hE⟩
 ·exact g.keep b o (bs0.keep b o e n hb hx) (.inr ⟨by show s0.heap.get? b≠g7; rw [e]; simp,nst b o e hb⟩)
 ·obtain ⟨sl,q⟩:=bs0.slot b o e n hb hx
  obtain ⟨sl2,q2⟩:=g.slot b _ q (ist b hb)
  exact ⟨sl2,q2⟩
 ·obtain ⟨o',q⟩:=bs0.there b o e hx
  by_cases hb:b∈frs (cxk P w K mg base N qual scope f cd A outer s0 H0 E).stack
  ·obtain ⟨sl,q2⟩:=g.slot b o' q hb
   exact ⟨_,q2⟩
  ·exact ⟨o',g.keep b o' q (.inr ⟨by show s0.heap.get? b≠g7; rw [e]; simp,hb⟩)⟩
theorem qeq {e:g9} (hex0:X.ex=[]) (I:Inv X pins σ H s) (h:CXk X.prog X.w X.stack H s E e s'):∃ ex C H',e=.ref ex/\Inv X pins σ H' s'/\InB X H' s' ex (.ref C)/\E (.ref C) g7 H':=by
 obtain ⟨ex,T,C,H',rfl,os,bare,un,hok,fl,e1,e2,n1,n2,hE⟩:=h
 have old:∀ b,s.heap.get? b=g7->X.s₀.heap.get? b=none:=λb hb=>by
  cases q:X.s₀.heap.get? b with
  | none=>rfl
  | some o=>
   obtain ⟨o',e'⟩:=I.base.there b o q (by rw [hex0]; simp)
   rw [hb] at e'; cases e'
 exact ⟨ex,C,H',rfl,I.call' (ch:=[]) os un hok bare (λb z=>absurd z 'h'),⟨e1,old ex n1,.inr ⟨T,fl,e2,old T n2⟩⟩,hE⟩
theorem qH:zA (CXk P w) (cxk P w K mg base N qual scope f cd A outer s0 H0 E) E:=λpins σ H s e s' I h=>by
 obtain ⟨ex,C,H',rfl,I',x,hE⟩:=qeq rfl I h
 exact qgr I' x hE
theorem qer {C:Addr} {bmB:List g9} {newId:String} (kin:K.In h) (hm:mg x=g6 (.ref C)) (q:dL K C bmB newId=hZ):OwnCls x C bmB newId mg h:=by
 refine ⟨hm,?_⟩
 unfold dL at q
 split at q
 case h_2=>cases q
 case h_1 dd cd sl lk=>
  split at q
  case h_2=>cases q
  case h_1 C' bm a0 a1 a2 a3 n a5 em es=>
   have q':=q
   simp only [aT,beq_iff_eq,Bool.not_eq_true'] at q'
   obtain ⟨⟨⟨⟨⟨e1,e2⟩,nodel⟩,tl⟩,nsok⟩,noinit⟩:=q'
   obtain ⟨nm,bs,mro,ns,qn,hd,sn,sub,ab,col,del⟩:=cd
   dsimp only at em nodel nsok noinit
   obtain ⟨sll⟩:=sl
   dsimp only at es
   subst em nodel es e1 e2
   exact ⟨bm,ns,nm,qn,bs,hd,sn,sub,ab,col,dd,a0,a1,a2,a3,a5,_,kin _ _ lk,.of_isNs (PySem.W.isNs_of_in kin nsok),PySem.W.nsMap_none_of_in kin nsok noinit,PySem.W.tail_of_in kin tl⟩
end
theorem qc8 {T:Addr} (hok:HOk P w H h) (q:H T=g6 u):∃ o,h.get? T=g6 o:=by
 have st:=hok T u q
 cases z:h.get? T with
 | some o=>exact ⟨o,rfl⟩
 | none=>
  exfalso
  cases u with
  | lst xs=>obtain ⟨_,_,_,_,e⟩:=st; rw [z] at e; cases e
  | tup xs=>obtain ⟨_,_,_,_,e,_⟩:=st; rw [z] at e; cases e
  | dK kvs=>obtain ⟨_,_,_,_,o,_,_,e,_⟩:=st; rw [z] at e; cases e
  | dT kvs=>obtain ⟨_,_,_,_,o,_,_,e,_⟩:=st; rw [z] at e; cases e
  | set S n=>obtain ⟨o,_,_,_,e,_⟩:=st; rw [z] at e; cases e
  | ins C dx fs=>obtain ⟨_,_,_,e,_⟩:=st; rw [z] at e; cases e
  | own y=>obtain ⟨_,e⟩:=st; rw [z] at e; cases e
  | xd fs=>obtain ⟨_,⟨_,_,_,e,_⟩,_⟩:=st; rw [z] at e; cases e
  | rng lo hi=>obtain ⟨_,_,_,e⟩:=st; rw [z] at e; cases e
  | frz ob u=>obtain ⟨e,_⟩:=st; rw [z] at e; cases e
  | tbl ps=>have e:h.get? T=g6 _:=st; rw [z] at e; cases e
  | met f y=>have e:h.get? T=g6 _:=st; rw [z] at e; cases e
  | ext φ=>obtain ⟨_,⟨_,e⟩,_⟩:=st; rw [z] at e; cases e
abbrev bmV:List g9:=[.type "ValueError",.type "Exception",.type "BaseException",.type "object"]
noncomputable def vB (x:Str) (fr:Sl->Out (List D×Sl)):Sl->Out (Fl×Sl):=λρ=>(fr ρ).bind λp=>.exc x p.2
theorem PoS.bindA {as:List AK} {o:Out (List D×Sl)} {k:List D×Sl->Out (Fl×Sl)} {D:Ends} {R:List V->Hp->Prop} (hp:PoS C own own' σ F H (o.bind k) D)
  (h:∀ vs F1 H1 ds ρ1,Rep C.K own F1 H1 σ ρ1->Chg (OA own σ) F H F1 H1->ArgV C.K H F1 H1 σ as vs ds->PoS C own own' σ F1 H1 (k (ds,ρ1)) D->R vs H1):PoA C own as σ F H o R:=by
 cases o with
 | ok p=>
  obtain ⟨ds,ρ1⟩:=p
  exact λvs F1 H1 rp c av=>h vs F1 H1 ds ρ1 rp c av (PoS.shift (show PoS C own own' σ F H (k (ds,ρ1)) D from hp) (.ofE rp c))
 | exc x=>exact hp
 | bad=>exact hp.elim
def Gm (X:Cx) (C:Ct):Prop:=∀ (pins:List (Addr×Obj)) (σ:St) (H:Hp) (s:hV) (ex A:Addr),Inv X pins σ H s->InB X H s ex (.ref A)->C.E (.ref A) g7 H->X.xe (.ref ex) s
theorem qgs {f:Addr} {cd:g9}:Gm (cxk P w K mg base N qual scope f cd A outer s0 H0 C.E) C:=λpins σ H s ex A I x hE=>qgr I x hE
variable {Cc:Addr}
section
variable {fr:Sl->Out (List D×Sl)} {np cpos:Pos}
theorem ArgV.len:∀ {as:List AK} {vs:List V} {ds:List D},ArgV K H0 F H σ as vs ds->vs.length=as.length
 | [],[],[],_=>rfl
 | .vl::as,v::vs,d::ds,h=>congrArg (·+1) (ArgV.len h.2)
 | .sl i::as,v::vs,d::ds,h=>congrArg (·+1) (ArgV.len h.2.2)
 | .fr::as,v::vs,d::ds,h=>congrArg (·+1) (ArgV.len h.2)
 | [],_::_,_,h=>h.elim
 | [],[],_::_,h=>h.elim
 | .vl::_,[],_,h=>h.elim
 | .vl::_,_::_,[],h=>h.elim
 | .sl _::_,[],_,h=>h.elim
 | .sl _::_,_::_,[],h=>h.elim
 | .fr::_,[],_,h=>h.elim
 | .fr::_,_::_,[],h=>h.elim
theorem vC (hx0:X.ex=[]) (ht:Gm X C) (hcalm:X.calm=hZ) (hg:Gl X x) (hm:X.mg x=g6 (.ref Cc)) (hcv:C.cv x=.ref Cc) (q:dL X.K Cc bmV "ValueError.__new__"=hZ) (ha:PA X (e::es) (tAr C own as fr)) (hsz:as.length<=1000:=by decide) (hio:∀ i∈C.ox,i∈own:=by exact zD rfl) (hd:'m'=false:=by decide)
  (he:starEach (e::es) X.env=(hJ,eval e X.env)::starEach es X.env:=by exact kS rfl) (hpl:(backTo cpos (starEach es X.env)).any (·.1)=false:=by rfl) :
  PS X (.Raise (g6 (.Call (.Name x np) (e::es) [] cpos)) g7 pos) (tSt C own own' (vB x fr)):=by
 refine ⟨?_⟩
 intro pins s σ H D I ⟨F,ρ,rp,h⟩
 obtain ⟨tl,N,nm,qn,bs,hdct,sn,sub,ab,col,dd,k0,k1,k2,k3,k5,mN,hC,hN,hni,T⟩:=(qer I.ok.mod.kin hm q).obj
 refine wpAny_Raise_call_subT (C:=Cc) (nm:=nm) (q:=qn) (N:=N) (bs:=bs) (bm:=tl) (hdct:=hdct) (sn:=sn) (sub:=sub) (ab:=ab) (col:=col) (dd:=dd) (k0:=k0) (k1:=k1) (k2:=k2) (k3:=k3) (k5:=k5)
  PySem.F.excBase_ValueError (mN:=mN) (T.hasType PySem.F.excBase_ValueError.hasBase) (I.ok.hd hcalm) (by rw [he]; show (hJ||(backTo cpos (starEach es X.env)).any (·.1))=hJ; rw [hpl]; rfl) hni (JJ I hg hm ⟨rfl,?_⟩ hd)
 have main:tAr C own as fr σ H λvs H1=>vs.length<=sizeLine/\C.E (.ref Cc) g7 H1:=by
  refine ⟨F,ρ,rp,PoS.bindA h λvs F1 H1 ds ρ1 rp1 c1 av h1=>⟨?_,?_⟩⟩
  ·rw [av.len]; exact br hsz (by rw [ij]; decide)
  ·rw [<-hcv]; exact h1 F1 H1 rp1.sub (rp1.ioIs hio) .refl
 have run:=ha cpos pins s σ H _ I main
 rw [he] at run ⊢
 refine eL (iU run (λus s2 ⟨vs,H2,I2,r2,z2,hE⟩=>?_) λ_ _ y=>y)
 refine ⟨rfl,by rw [<-r2.length]; exact z2,I2.bk _ _ hC,hN.keeps I2.bk,T.keeps I2.bk,λh' ex mk=>?_⟩
 have I3:Inv X pins σ H2 { s2 with heap:=h' }:=I2.kept (t':=s2.toks) mk.keeps
 obtain ⟨t,h1,h2,h3⟩:=mk.there
 refine ht pins σ H2 _ ex Cc I3 ⟨?_,?_,.inl ⟨_,_,h1,rfl,rfl,rfl⟩⟩ hE
 ·cases q2:H2 ex with
  | none=>rfl
  | some u=>
   have hlt:=I2.hok.lt q2
   refine absurd mk.new ?_
   obtain ⟨o,e⟩:=qc8 I2.hok q2
   rw [e]; simp
 ·cases q2:X.s₀.heap.get? ex with
  | none=>rfl
  | some o=>
   obtain ⟨o',e'⟩:=I2.base.there ex o q2 (by rw [hx0]; simp)
   rw [mk.new] at e'; cases e'
end
structure Caught (X:Cx) (pins:List (Addr×Obj)) (H:Hp) (s:hV) (ex T Cc:Addr):Prop where
 fly:Fly s.heap ex T (.ref Cc)
 hex:H ex=g7
 hT:H T=g7
 n1:X.s₀.heap.get? ex=g7
 n2:X.s₀.heap.get? T=g7
 pp:∀ p∈X.pn++pins,p.1≠ex/\p.1≠T
variable {xe:g9->hV->Prop}
section
variable {T:Addr}
theorem Caught.dex (c:Caught X pins H s ex T Cc):∃ oe vs,s.heap.get? ex=g6 oe/\oe.data=.fields vs:=let ⟨oe,vs,oT,ts,a1,a2,a3,_⟩:=c.fly; ⟨oe,vs,a1,a3⟩
theorem Caught.dT (c:Caught X pins H s ex T Cc):∃ oe vs,s.heap.get? T=g6 oe/\oe.data=.fields vs:=let ⟨oe,vs,oT,ts,a1,a2,a3,a4,a5,a6,a7,_⟩:=c.fly; ⟨oT,ts,a6,a7⟩
theorem YA {h2:Heap} (I:Inv X pins σ H s) (hstk:X.stack=X.env::X.outer) (hfr:X.env.frame=g6 X.env.locals) (hx0:X.ex=[]) (c:Caught X pins H s ex T Cc)
  (keep:∀ b o,s.heap.get? b=g6 o->b≠ex->b≠T->b∉frs X.stack->h2.get? b=g6 o)
  (slot:∀ b o,s.heap.get? b=g6 o->b∈frs X.stack->∃ sl,h2.get? b=g6 { o with slots:=sl }):Inv X pins σ H { s with heap:=h2 }:=by
 obtain ⟨oe,ve,he,de⟩:=c.dex
 obtain ⟨oT,vT,hT,dT⟩:=c.dT
 have nf:∀ b o,s.heap.get? b=g6 o->(∀ vs,o.data≠.fields vs)->b≠ex/\b≠T:=λb o e n=>by
  constructor
  ·rintro rfl; rw [he] at e; cases e; exact n _ de
  ·rintro rfl; rw [hT] at e; cases e; exact n _ dT
 have Lm:X.env.locals∈frs X.stack:=by
  rw [hstk]; unfold frs; rw [bu,hfr]; exact af
 have neL:∀ b o,X.s₀.heap.get? b=g6 o->b≠X.env.locals:=λb o e=>aB (aI (aq e) I.ok.above)
 have nst:∀ b o,X.s₀.heap.get? b=g6 o->b∉X.fs->b∉frs X.stack:=λb o e hb z=>by
  rcases ae.mp (I.stkSub b z) with q | q
  ·exact neL b o e q
  ·exact hb q
 have ist:∀ b,b∈X.fs->b∈frs X.stack:=λb hb=>by
  rw [hstk]; unfold frs; rw [bu,hfr]; exact aa _ hb
 have ne0:∀ b o,X.s₀.heap.get? b=g6 o->b≠ex/\b≠T:=λb o e=>⟨(by rintro rfl; rw [c.n1] at e; cases e),(by rintro rfl; rw [c.n2] at e; cases e)⟩
 have kc:∀ {a:Addr} {v:Option g9},s.heap.IsCell a v->h2.IsCell a v:=λ{a v} ⟨oc,e1,e2⟩=>by
  have q:=nf a oc e1 λvs z=>by rw [e2] at z; cases z
  by_cases hb:a∈frs X.stack
  ·obtain ⟨sl,z⟩:=slot a oc e1 hb
   exact ⟨_,z,e2⟩
  ·exact ⟨oc,keep a oc e1 q.1 q.2 hb,e2⟩
 refine ⟨I.ok,I.os,I.bare,⟨λb o e n hb hx=>?_,λb o e n hb hx=>?_,I.base.free,λb o e hx=>?_,I.base.tups,I.base.frzs,I.base.tbls⟩,?_,λx a e=>?_,I.free,I.freeC,λp hp=>?_,λb u e=>?_,I.len⟩
 ·exact keep b o (I.base.keep b o e n hb hx) (ne0 b o e).1 (ne0 b o e).2 (nst b o e hb)
 ·obtain ⟨sl,q⟩:=I.base.slot b o e n hb hx
  obtain ⟨sl2,q2⟩:=slot b _ q (ist b hb)
  exact ⟨sl2,q2⟩
 ·obtain ⟨o',q⟩:=I.base.there b o e hx
  by_cases hb:b∈frs X.stack
  ·obtain ⟨sl,z⟩:=slot b o' q hb
   exact ⟨_,z⟩
  ·exact ⟨o',keep b o' q (ne0 b o e).1 (ne0 b o e).2 hb⟩
 ·obtain ⟨m,⟨o,es,ep,ho,r⟩,hl⟩:=I.loc
  obtain ⟨sl,hL⟩:=slot _ o ho Lm
  refine ⟨m,⟨_,es,ep,hL,r⟩,λi x v e1 e2 e3=>?_⟩
  obtain ⟨u,rv,lk⟩:=hl i x v e1 e2 e3
  refine ⟨u,rv,?_⟩
  rcases lk with z | ⟨k,a,e,z⟩
  ·exact .inl z
  ·exact .inr ⟨k,a,e,kc z⟩
 ·obtain ⟨v,z⟩:=I.cell x a e
  exact ⟨v,kc z⟩
 ·obtain ⟨a1,a2,a3,a4,a5⟩:=I.pin p hp
  refine ⟨keep p.1 p.2 a1 (c.pp p hp).1 (c.pp p hp).2 λz=>?_,a2,a3,a4,a5⟩
  rcases ae.mp (I.stkSub p.1 z) with q | q
  ·exact a3 q
  ·exact a4 q
 ·refine (I.hok b u e).stay (λd v hc q=>?_) (λ_ q=>q) λ_ _ q=>q
  have hd:H d≠none:=by
   rcases hc with z | z
   ·rw [z,e]; simp
   ·rw [z]; simp
  exact keep d v q (λz=>hd (by rw [z]; exact c.hex)) (λz=>hd (by rw [z]; exact c.hT)) λz=>hd (I.stkFree d z)
theorem Jn {a0:g9} (I:Inv X pins σ H s) (hx0:X.ex=[]) (c:Caught X pins H s ex T Cc) (slot:∀ b o,s.heap.get? b=g6 o->b∈frs X.stack->∃ sl,h2.get? b=g6 { o with slots:=sl })
  (tr:h2.TracedW (bh s.heap (xA ex (g6 T) X)) ex (.ref Cc) a0):∃ T',Caught X pins H { s with heap:=h2 } ex T' Cc:=by
 obtain ⟨oe,vs,T',oT,ts,b1,⟨b2,_⟩,b3,b4,b5,b6,b7,b8,b9⟩:=tr
 have noS:∀ o,s.heap.get? T'=g6 o->T'=T:=λo e=>by
  have hm:T'∈xA ex (g6 T) X:=by
   refine bK λhn=>?_
   rw [cY _ e hn] at b5
   cases b5
  rcases ae.mp hm with q | hm
  ·exact absurd q b6
  ·rcases ao.mp hm with q | q
   ·simpa using q
   ·obtain ⟨o',e',nf⟩:=xB I q
    obtain ⟨sl,e2⟩:=slot T' o' e' q
    rw [b7] at e2
    cases e2
    exact absurd b8 (nf ts)
 refine ⟨T',⟨oe,vs,oT,ts,b1,b2,b3,b4,b6,b7,b8,b9⟩,c.hex,?_,c.n1,?_,λp hp=>⟨(c.pp p hp).1,?_⟩⟩
 ·cases q:H T' with
  | none=>rfl
  | some u=>
   obtain ⟨o,e⟩:=qc8 I.hok q
   rw [noS o e,c.hT] at q; cases q
 ·cases q:X.s₀.heap.get? T' with
  | none=>rfl
  | some o=>
   obtain ⟨o',e'⟩:=I.base.there T' o q (by rw [hx0]; simp)
   rw [noS o' e',c.n2] at q; cases q
 ·rintro rfl
  exact (c.pp p hp).2 (noS _ (I.pin p hp).1)
theorem Jo (st:(bh s.heap (xA ex (g6 T) X)).StaysIn h2):∀ b o,s.heap.get? b=g6 o->b≠ex->b≠T->b∉frs X.stack->h2.get? b=g6 o:=λb o e h1 h2 h3=>st b o (cY _ e λhm=>by
  rcases ae.mp hm with q | hm
  ·exact h1 q
  ·rcases ao.mp hm with q | q
   ·exact h2 (by simpa using q)
   ·exact h3 q)
theorem VM (c:Caught X pins H s ex T Cc):∃ a0,s.heap.TracedW (bh s.heap (xA ex (g6 T) X)) ex (.ref Cc) a0:=by
 obtain ⟨oe,vs,oT,ts,a1,a2,a3,a4,a5,a6,a7,a8⟩:=c.fly
 have hz:0 < vs.size:=Nat.lt_of_succ_lt (Array.getElem?_eq_some_iff.mp a4).1
 exact ⟨vs[0],oe,vs,T,oT,ts,a1,⟨a2,by simp [hz]⟩,a3,a4,cS _ (aa _ (cu _ 'h')),a5,a6,a7,a8⟩
theorem Jp (I:Inv X pins σ H s) (hstk:X.stack=X.env::X.outer):s.heap.FunFrames (bh s.heap (xA ex (g6 T) X)) (X.env::X.outer):=by
 rw [<-hstk]
 exact PySem.W.funFrames_hide I.stack λenv he b hb=>aa _ (aO _ (VJ hstk env he b hb))
theorem Gn {E:g9->hV->Prop} {Q:Unit->hV->Prop} (hA:A.frames=g6 X.stack) (I:Inv X pins σ H s) (hstk:X.stack=X.env::X.outer) (hfr:X.env.frame=g6 X.env.locals) (hx0:X.ex=[]) (c:Caught X pins H s ex T Cc)
  (k:∀ s' T',Inv X pins σ H s'->Caught X pins H s' ex T' Cc->Q () s'):wpAny 'd' A (noteFrame (.ref ex) X.env) (λ_ s1=>wpAny 'd' A (setFlight (.ref ex) g7) Q E s1) E s:=by
 obtain ⟨a0,tr⟩:=VM c
 refine wpAny_looks_onW (by rw [hA,hstk]) hfr ⟨λb o e=>dN _ e,cS _ (ae.mpr (.inl rfl)),Jp I hstk,tr⟩ λh1 held u1=>?_
 refine wpAny_landsW held λh2 fl u2=>?_
 have slot:∀ b o,s.heap.get? b=g6 o->b∈frs X.stack->∃ sl,h2.get? b=g6 { o with slots:=sl }:=λb o e hb=>by
  obtain ⟨o',e',nf⟩:=xB I hb
  rw [e] at e'; cases e'
  obtain ⟨sl,q⟩:=u1 b o e nf
  obtain ⟨sl2,q2⟩:=u2 b _ q nf
  exact ⟨sl2,q2⟩
 obtain ⟨T',c'⟩:=Jn I hx0 c slot fl.2.2.2
 have I2:Inv X pins σ H { s with heap:=h2 }:=YA I hstk hfr hx0 c (Jo fl.1) slot
 exact k { s with heap:=h2 } T' I2 c'
theorem Ud {A:ii} {E:g9->hV->Prop} {Q:Unit->hV->Prop} (I:Inv X pins σ H s) (hstk:X.stack=X.env::X.outer) (hfr:X.env.frame=g6 X.env.locals) (hx0:X.ex=[]) (c:Caught X pins H s ex T Cc)
  (k:∀ s' T',Inv X pins σ H s'->Caught X pins H s' ex T' Cc->Q () s'):wpAny 'd' A (setFlight (.ref ex) g7) Q E s:=by
 obtain ⟨a0,tr⟩:=VM c
 refine wpAny_setFlight_noneW (base:=bh s.heap (xA ex (g6 T) X)) (λb o e=>dN _ e) (Jp I hstk) tr λh2 st _ tr2 kp=>?_
 have slot:∀ b o,s.heap.get? b=g6 o->b∈frs X.stack->∃ sl,h2.get? b=g6 { o with slots:=sl }:=λb o e hb=>by
  obtain ⟨o',e',nf⟩:=xB I hb
  rw [e] at e'; cases e'
  exact ⟨o.slots,kp b o e nf⟩
 obtain ⟨T',c'⟩:=Jn I hx0 c slot tr2
 exact k _ T' (YA I hstk hfr hx0 c (Jo st) slot) c'
theorem qij (I:Inv X pins σ H s) (c:Caught X pins H s ex T Cc):Inv X pins σ (upd H ex (Ym ex Cc)) s:=by
 obtain ⟨oe,vs,oT,ts,a1,a2,a3,_⟩:=c.fly
 have nf:∀ b o,s.heap.get? b=g6 o->(∀ vs,o.data≠.fields vs)->b≠ex:=λb o e n=>by
  rintro rfl; rw [a1] at e; cases e; exact n _ a3
 have up:∀ {b:Addr} {u:HO},H b=g6 u->upd H ex (Ym ex Cc) b=g6 u:=λ{b u} e=>by rw [qC (qJ e c.hex)]; exact e
 refine ⟨I.ok,I.os,I.bare,⟨I.base.keep,I.base.slot,λb o e n hx=>?_,I.base.there,λb xs e=>up (I.base.tups b xs e),λb o u e=>up (I.base.frzs b o u e),λb ps e=>?_⟩,I.loc,I.cell,?_,λx a e=>?_,λp hp=>?_,λb u e=>?_,I.len⟩
 ·rw [qC (by rintro rfl; rw [c.n1] at e; cases e)]; exact I.base.free b o e n hx
 ·obtain ⟨more,z⟩:=I.base.tbls b ps e
  exact ⟨more,up z⟩
 ·obtain ⟨m,⟨o,es,ep,ho,hd,_⟩,_⟩:=I.loc
  rw [qC (nf _ o ho λvs z=>by rw [hd] at z; cases z)]; exact I.free
 ·obtain ⟨v,oc,e1,e2⟩:=I.cell x a e
  rw [qC (nf _ oc e1 λvs z=>by rw [e2] at z; cases z)]; exact I.freeC x a e
 ·obtain ⟨b1,b2,b3⟩:=I.pin p hp
  refine ⟨b1,?_,b3⟩
  rw [qC (c.pp p hp).1]; exact b2
 ·by_cases q:b=ex
  ·subst q
   rw [qp] at e; cases e
   refine ⟨⟨oe,vs,a1,a2,a3⟩,⟨oe,a1⟩,λh1 h2 ⟨o1,v1,e1,e2,e3⟩ kk=>⟨o1,v1,kk _ e1,e2,e3⟩⟩
  ·rw [qC q] at e
   exact (I.hok b u e).stay (λ_ _ _ z=>z) (λd z=>up z) λd xs z=>up z
def Ue (X:Cx) (pn:List (Addr×Obj)) (xe:g9->hV->Prop):Cx:={ X with pn:=pn,xe:=xe }
theorem qes (I:Inv X pins σ H s):Inv (Ue X (X.pn++pins) xe) [] σ H s:=
 ⟨⟨I.ok.mod,I.ok.kind,I.ok.glob,I.ok.blt,I.ok.above,I.ok.inj,I.ok.has,I.ok.cab,I.ok.hd,I.ok.frames,I.ok.stk,I.ok.exf,I.ok.bs,I.ok.bsz,I.ok.noex,I.ok.exfs,I.ok.funs,I.ok.frf⟩,I.os,I.bare,I.base,I.loc,I.cell,I.free,I.freeC,λp hp=>I.pin p (by simpa [Ue] using hp),I.hok,I.len⟩
theorem uF {pins':List (Addr×Obj)} (I:Inv (Ue X (X.pn++pins) xe) pins' σ H s):Inv X pins σ H s:=
 ⟨⟨I.ok.mod,I.ok.kind,I.ok.glob,I.ok.blt,I.ok.above,I.ok.inj,I.ok.has,I.ok.cab,I.ok.hd,I.ok.frames,I.ok.stk,I.ok.exf,I.ok.bs,I.ok.bsz,I.ok.noex,I.ok.exfs,I.ok.funs,I.ok.frf⟩,I.os,I.bare,I.base,I.loc,I.cell,I.free,I.freeC,λp hp=>I.pin p (cu _ hp),I.hok,I.len⟩
noncomputable def qhw (X:Cx) (e:g9):Cx:={ X with A:=X.A.mark (g6 e),calm:=hJ,xe:=λ_ _=>False }
theorem qc9 {e:g9} (I:Inv X pins σ H s):Inv (qhw X e) pins σ H s:=
 ⟨⟨I.ok.mod,I.ok.kind,I.ok.glob,I.ok.blt,I.ok.above,I.ok.inj,I.ok.has,I.ok.cab,λz=>absurd z (by show ¬(hJ=hZ); exact be),I.ok.frames,I.ok.stk,I.ok.exf,I.ok.bs,I.ok.bsz,I.ok.noex,I.ok.exfs,I.ok.funs,I.ok.frf⟩,I.os,I.bare,I.base,I.loc,I.cell,I.free,I.freeC,I.pin,I.hok,I.len⟩
theorem qet {e:g9} (hok:X.Ok) (I:Inv (qhw X e) pins σ H s):Inv X pins σ H s:=
 ⟨hok,I.os,I.bare,I.base,I.loc,I.cell,I.free,I.freeC,I.pin,I.hok,I.len⟩
end
def qik (C:Ct) (own:List Nat) (E:XK):Ct:=⟨C.K,C.cv,E,own,C.mr,C.ol,own,λ_ h=>h⟩
noncomputable def exC (C:Ct):Ct:=⟨C.K,C.cv,λ_ _ _=>False,[],C.mr,[],[],λ_ h=>h⟩
noncomputable def qfx (n:Nat) (j:Option Nat) (hit:Str->Option Addr) (fb fs:Sl->Out (Fl×Sl)):Sl->Out (Fl×Sl):=λρ=>match fb ρ with
 | .exc c ρe=>match hit c with
  | some Cc=>match fs (match j with | some j=>(bD n g7).set j (g6 (.xcp Cc)) | none=>bD n g7) with
   | .ok (.rt d,_)=>.ok (.rt d,ρe)
   | _=>.bad
  | none=>.bad
 | o=>o
def qil (C:Ct) (own:List Nat) (σ:St) (F H:Hp) (r:Out (Fl×Sl)):XK:=λcls _ H'=>∃ c ρe F',r=.exc c ρe/\cls=C.cv c/\Same F' H'/\Zv C.K own F' H' σ ρe/\Chg (OA own σ) F H F' H'
def qim (X:Cx) (pins:List (Addr×Obj)) (E:XK):g9->hV->Prop:=λe s'=>∃ σ ex T Cc H',e=.ref ex/\Inv X pins σ H' s'/\Caught X pins H' s' ex T Cc/\E (.ref Cc) g7 H'
section
variable {fs:Sl->Out (Fl×Sl)}
theorem XQ {E:XK} (hx0:X.ex=[]):zA (CXk X.prog X.w) (Ue X (X.pn++pins) (qim X pins E)) E:=λpins' σ H s e s' I h=>by
 obtain ⟨ex,T,Cc,H',rfl,os,bare,un,hok,fl,e1,e2,n1,n2,hE⟩:=h
 have old:∀ b,s.heap.get? b=g7->X.s₀.heap.get? b=none:=λb hb=>by
  cases q:X.s₀.heap.get? b with
  | none=>rfl
  | some o=>
   obtain ⟨o',e'⟩:=I.base.there b o q (by show b∉X.ex; rw [hx0]; simp)
   rw [hb] at e'; cases e'
 have I2:Inv (Ue X (X.pn++pins) (qim X pins E)) pins' σ H' s':=I.call' (ch:=[]) os un hok bare (λb z=>absurd z 'h')
 refine ⟨σ,ex,T,Cc,H',rfl,uF I2,⟨fl,e1,e2,old ex n1,old T n2,λp hp=>?_⟩,hE⟩
 have q:=(I.pin p (cu _ hp)).1
 exact ⟨λz=>(by rw [z,n1] at q; cases q),λz=>(by rw [z,n2] at q; cases q)⟩
theorem Nx.untry {E:XK} {σ':St} {ρ':Sl} (hsub:∀ i∈C.io,i∈own) (n:Nx (qik C own E) o1 o2 σ F H ρ' σ' F' H'):Nx C o1 o2 σ F H ρ' σ' F' H':=⟨n.rep,n.chg,n.oa,λi hi=>n.io i (hsub i hi)⟩
theorem qbO {D:Ends} {j:Option Nat} {hit:Str->Option Addr} (hsub:∀ i∈C.io,i∈own) (rp:Rep C.K own F H σ ρ) (h:PoS C own own' σ F H (qfx n j hit fb fs ρ) D):tSt (qik C own (qil C own σ F H (fb ρ))) own own' fb D σ H:=by
 refine ⟨F,ρ,rp,?_⟩
 unfold qfx at h
 cases q:fb ρ with
 | ok p=>
  rw [q] at h
  obtain ⟨fl,ρ'⟩:=p
  cases fl with
  | nx=>exact λσ' F' H' nn=>h σ' F' H' (nn.untry hsub)
  | rt d=>exact λv σ' F' H' s io c e mo=>h v σ' F' H' s (λi hi=>io i (hsub i hi)) c (λi hi=>e i (hsub i hi)) mo
  | bk=>exact λσ' F' H' nn=>h σ' F' H' (nn.untry hsub)
  | ct=>exact λσ' F' H' nn=>h σ' F' H' (nn.untry hsub)
 | exc c ρe=>exact λF' H' s io ch=>⟨c,ρe,F',rfl,rfl,s,io,ch⟩
 | bad=>rw [q] at h; exact h.elim
theorem Go {F3 H3:Hp} {Cc:Addr} {D:Ends} {d:D2.D} {v:V} {σw:St} (hsub:∀ i∈C.io,i∈own) (h:PoS C own own' σ F H (.ok (.rt d,ρe)) D) (hn:H1 ex=g7) (sb:Same F1 H1) (io:Zv C.K own F1 H1 σ ρe) (ch:Chg (OA own σ) F H F1 H1)
  (s3:Same F3 H3) (c3:Chg (OA [] σw) (upd F1 ex (Ym ex Cc)) (upd H1 ex (Ym ex Cc)) F3 H3) (mo:MoIs C.K C.mr (upd H1 ex (Ym ex Cc)) F3 H3 v d):D.rt v H3:=by
 obtain ⟨sb2,c2⟩:=uB (u:=Ym ex Cc) sb hn
 have no:∀ {b},OA [] σw b->False:=λ⟨i,hi,_⟩=>by simp at hi
 have c3':Chg No (upd F1 ex (Ym ex Cc)) (upd H1 ex (Ym ex Cc)) F3 H3:=c3.mono λx z=>no z
 have c12:Chg No F1 H1 F3 H3:=c2.trans c3' λ_ z=>z.elim
 refine h v σ F3 H3 s3 (λi hi=>?_) (ch.trans c12 λ_ z=>z.elim) 'f' (MoIs.back (Ha:=H3) (ch.trans c2 λ_ z=>z.elim) mo)
 obtain ⟨d',a,e1,e2,e3,e4⟩:=io i (hsub i hi)
 refine ⟨d',a,e1,e2,?_,e4.grow c12.grow λo q=>c12.keep a o q λz=>z⟩
 cases q:F3 a with
 | none=>rfl
 | some u=>
  rcases c12.new a (by rw [q]; simp) with z | z | z
  ·exact absurd e3 z
  ·exact absurd z e4.there
  ·exact z.elim
theorem qbP {cn:Str} {np hpos pos:Pos} {body suite:List Stmt} {b0:Stmt} {cls:g9} {n:Nat} {hit:Str->Option Addr} {own2:List Nat} (hx0:X.ex=[]) (hstk:X.stack=X.env::X.outer) (hfr:X.env.frame=g6 X.env.locals)
  (hg:Gl X cn) (hm:X.mg cn=g6 cls) (hhit:∀ c Cc,hit c=g6 Cc->C.cv c=.ref Cc/\bS X.K (.ref Cc) cls=g6 hZ) (hn:X.N.length=n)
  (hb:∀ pn xe E,zA (CXk X.prog X.w) (Ue X pn xe) E->PSs (Ue X pn xe) body (tSt (qik C own E) own own' fb)) (hs:∀ e,PSs (qhw X e) (b0::suite) (tSt (exC C) [] own2 fs)) (hsub:∀ i∈C.io,i∈own:=by exact zD rfl) (hd:(cn == ("__debug__":Str))=false:=by decide) :
  PS X (.Try body [.ExceptHandler (g6 (.Name cn np)) g7 (b0::suite) hpos] [] [] pos) (tSt C own own' (qfx n g7 hit fb fs)):=by
 refine ⟨?_⟩
 intro pins s σ H D I ⟨F,ρ,rp,h⟩
 have run:=hb (X.pn++pins) (qim X pins (qil C own σ F H (fb ρ))) (qil C own σ F H (fb ρ)) (XQ hx0) [] s σ H D (qes I) (qbO hsub rp h)
 refine wpAny_Try_except (iU run (λf s1 hf=>?_) λe s1 he=>?_)
 ·cases f with
  | next=>
   obtain ⟨σ',H',I',q⟩:=hf
   exact Zy pins s1 σ' H' D (uF I') q
  | brk=>obtain ⟨σ',H',I',q⟩:=hf; exact ⟨σ',H',uF I',q⟩
  | cont=>obtain ⟨σ',H',I',q⟩:=hf; exact ⟨σ',H',uF I',q⟩
  | ret u=>obtain ⟨v,σ',H',I',r,q⟩:=hf; exact ⟨v,σ',H',uF I',r,q⟩
 ·obtain ⟨σ1,ex,T,Cc,H1,rfl,I1,c1,c,ρe,F1,hr,hcls,sb1,io1,ch1⟩:=he
  refine Gn I1.ok.frames I1 hstk hfr hx0 c1 λs2 T2 I2 c2=>?_
  unfold qfx at h
  rw [hr] at h
  cases qh:hit c with
  | none=>simp only [qh] at h; exact h.elim
  | some Ch=>
   simp only [qh] at h
   obtain ⟨hc1,hc2⟩:=hhit c Ch qh
   rw [hc1] at hcls
   obtain rfl:Cc=Ch:=by injection hcls
   refine wpAny_handleBy_cons (codeAny_handlers_test (JJ (X:=qhw X (.ref ex)) (qc9 I2) hg hm ?_ hd)) (by intro q; cases q)
   obtain ⟨oe,vs,oT,ts,a1,a2,a3,_⟩:=id c2.fly
   have LT:PySem.W.Looks 'd' s2.heap (typeOf (.ref ex)) (.ref Cc):=by rw [<-a2]; exact (PySem.W.Looks.ld a1).andThen .now
   refine (PySem.W.exm_one I2.kIn LT hc2) _ _ _ _ (λ_ _ z=>z) ?_
   refine codeAny_handlers_suite (Ud I2 hstk hfr hx0 c2 λs3 T3 I3 c3=>?_)
   have I4:=qij I3 c3
   have I6:Inv X pins (bD n g7) (upd H1 ex (Ym ex Cc)) s3:=I4.weak (by simp [I3.len,hn]) λi v e=>by
    rw [cz] at e
    split at e <;> cases e
   obtain ⟨sb2,cc2⟩:=uB (u:=Ym ex Cc) sb1 c1.hex
   have rp6:Rep C.K [] (upd F1 ex (Ym ex Cc)) (upd H1 ex (Ym ex Cc)) (bD n g7) (bD n g7):=by
    refine ⟨sb2,by simp,λi d hi e=>?_,λi d hi=>by simp at hi,λi hi=>by simp at hi,λi j a hi=>by simp at hi⟩
    rw [cz] at e
    split at e <;> cases e
   have main:tSt (exC C) [] own2 fs { nx:=λ_ _=>False,rt:=D.rt } (bD n g7) (upd H1 ex (Ym ex Cc)):=by
    refine ⟨_,_,rp6,?_⟩
    cases qs:fs (bD n g7) with
    | ok p=>
     obtain ⟨fl,ρ5⟩:=p
     rw [qs] at h
     cases fl with
     | rt d=>exact λv σ' F3 H3 s3 io c3 e mo=>Go (own':=own') (D:=D) (ex:=ex) (Cc:=Cc) hsub h c1.hex sb1 io1 ch1 s3 c3 mo
     | nx=>exact h.elim
     | bk=>exact h.elim
     | ct=>exact h.elim
    | exc _ _=>rw [qs] at h; exact h.elim
    | bad=>rw [qs] at h; exact h.elim
   refine iU (hs (.ref ex) pins s3 _ _ _ (qc9 I6) main) (λf s7 hf=>?_) λ_ _ z=>z.elim
   cases f with
   | next=>obtain ⟨_,_,_,q⟩:=hf; exact q.elim
   | brk=>obtain ⟨_,_,_,q⟩:=hf; exact q.elim
   | cont=>obtain ⟨_,_,_,q⟩:=hf; exact q.elim
   | ret u=>
    obtain ⟨v,σ7,H7,I7,r7,q7⟩:=hf
    exact ⟨v,σ7,H7,qet I.ok I7,r7,q7⟩
end
structure RoomQ (k:Nat) (A:ii):Prop where
 dp:A.depth+3 * k+5 < recursionLimit
 un:A.units+16 * k+200 < cLine
theorem RoomQ.mark {k:Nat} (r:RoomQ k A) (e:Option g9):RoomQ k (A.mark e):=⟨r.dp,r.un⟩
def DefOk (P:h8) (w:ib) (K:Frag) (mg:Str->Option g9) (base:Heap) (cv:Str->g9) (k:Nat) (x:Str) (ps:List Str) (ms:List PM) (mr:Mo) (G:List D->Out 'i'):Prop:=
 ∃ f fd,FnOk P w K mg base (CXk P w) k f fd ps (spD K cv ms mr G)/\mg x=g6 (.ref f)/\keepIn K (.ref f)=hZ/\Binds K fd ps []
def jb (K:Frag) (mg:Str->Option g9) (x:Str) (st:Stmt) (ps:List Str):Prop:=∃ f fd,Fun K x x st f fd/\mg x=g6 (.ref f)/\Binds K fd ps []
theorem qE {P:h8} {w:ib} {base:Heap} {cv:Str->g9} {k:Nat} {ms:List PM} {mr:Mo} {own':List Nat} {fb:Sl->Out (Fl×Sl)} (T:jb K mg x st ps) (S:FnScope N ps (qe st))
  (hbody:∀ (cdv:g9) (f:Addr) (A:ii) (outer:List Env) (s:hV) (H:Hp) (E:XK),Room k (A.deeper (envOfC x (qe st) s.heap.objs.size f cdv)) ->
   PSs (cxk P w K mg base N x (qe st) f cdv A outer s H E) (wq st) (tSt (qii K cv E ms mr) (kH 0 ms) own' fb))
  (hl:ms.length=ps.length:=by rfl) (hsub:∀ i∈XJ 0 ms,i∈own':=by exact zD rfl) (hmr:mr=.sh\/∀ ds ρ,(fb (qw N ds))≠.ok (.nx,ρ):=by exact .inl rfl):DefOk P w K mg base cv (k+1) x ps ms mr (ko N ms fb):=by
 obtain ⟨f,fd,F,hm,hb⟩:=T
 exact ⟨f,fd,qi1 F S hl hsub hmr (λcdv A outer s H E hr=>hbody cdv f A outer s H E hr) λ_=>.inr rfl,hm,F.kp,hb⟩
variable {cv:Str->g9}
theorem DefOk.by {k:Nat} {G':List D->Out 'i'} (h:DefOk P w K mg base cv k x ps ms mr G) (e:∀ ds,Out.le (G' ds) (G ds)):DefOk P w K mg base cv k x ps ms mr G':=by
 obtain ⟨f,fd,F,r⟩:=h
 refine ⟨f,fd,F.imp λvs H Q E ⟨F1,ds,sb,ar,nd,po⟩=>⟨F1,ds,sb,ar,nd,?_⟩,r⟩
 rcases e ds with z | z
 ·rw [z] at po; exact po.elim
 ·rw [<-z]; exact po
section
variable {fr:Sl->Out (List D×Sl)} {p:Pos} {k j:Nat}
theorem ql (F:DefOk X.prog X.w X.K X.mg X.base cv j x ps ms mr G) (hr:Room k X.A) (hj:j<=k) (hx:zA (CXk X.prog X.w) X C.E) (hg:Gl X x) (ha:PA X (e::es) (tAr C own as fr)) (hcv:C.cv=cv:=by rfl) (hK:C.K=X.K:=by rfl) (hms:ms=as.map VE:=by rfl) (hs:∀ i∈jO as,i∈own:=by decide) (nd:(jO as).Nodup:=by decide) (hf:frA as<=1:=by decide) (hio:∀ i∈C.ox,i∈own:=by exact zD rfl)
  (hdb:'m'=false:=by decide) (he:starEach (e::es) X.env=(hJ,eval e X.env)::starEach es X.env:=by exact kS rfl) (hpl:(backTo pos (starEach es X.env)).any (·.1)=false:=by exact JO rfl):PE X (.Call (.Name x p) (e::es) [] pos) (tE C own mr (qt as G fr)):=by
 subst hcv
 obtain ⟨f,fd,F,hm,hk,hb⟩:=F
 rw [<-hK] at F
 exact qen (by rw [<-hK]; exact F) (hr.mono hj) hg hm hk hb hx ha hms hs nd hf hio hdb he hpl
noncomputable def qfy:D->Out D
 | .int i=>.ok (.int (-i))
 | _=>.bad
theorem Gp:UnD X C .sh (unaryOp .USub) qfy:=by
 intro pins s σ H x v Q I rx h
 obtain ⟨F,dx,sb,tx,po⟩:=h
 cases dx <;> try exact po.elim
 obtain rfl:=tx.int
 exact qfY pins s σ H _ v Q I rx ⟨_,rfl,po _ F H sb .refl (.int _)⟩
end
noncomputable def yY:Option (Option D)->Bool
 | some (g6 (.lst _))=>hZ
 | _=>hJ
noncomputable def JU (i:Nat) (g:List D->D->Out (List D)) (fe:Sl->Out (D×Sl)):Sl->Out (D×Sl):=λρ=>if yY ρ[i]?=hZ then (fe ρ).bind λp=>match p.2[i]? with
 | some (g6 (.lst xs))=>match g xs p.1 with
  | .ok ys=>.ok (.non,p.2.set i (g6 (.lst ys)))
  | _=>.bad
 | _=>.bad
 else .bad
noncomputable def VN (xs:List D) (d:D):Out (List D):=if xs.length < sizeLine then .ok (xs++[d]) else .bad
noncomputable def qeu (xs:List D):D->Out (List D)
 | .lst ys=>if xs.length+ys.length<=sizeLine then .ok (xs++ys) else .bad
 | .tup ys=>if xs.length+ys.length<=sizeLine then .ok (xs++ys) else .bad
 | _=>.bad
section
theorem Rep.write (rp:Rep K own F H σ ρ) (hi:i∈own) (ha:σ[i]?=g6 (g6 (V.ref a))) (ow:OwnIs K F (upd H a u) a d) :
  Rep K own F (upd H a u) σ (ρ.set i (g6 d))/\Chg (OA own σ) F H F (upd H a u):=by
 obtain ⟨d0,hd0⟩:=rp.opn i hi
 obtain ⟨a',e1,hF,o0⟩:=rp.ow i d0 hi hd0
 rw [ha] at e1; cases e1
 have hl:i < ρ.length:=(aC.mp hd0).1
 refine ⟨⟨λb o e=>by rw [qC (qJ e hF)]; exact rp.sub b o e,by simp [rp.len],λj d' hj e=>?_,λj d' hj e=>?_,λj hj=>?_,rp.dis⟩,⟨λb o e n=>?_,λb e=>?_,Same.refl _,λb e=>.inl e⟩⟩
 ·rw [ay (λz=>hj (by rw [<-z]; exact hi))] at e
  exact rp.val j d' hj e
 ·by_cases q:j=i
  ·subst q
   rw [aH hl] at e
   cases e
   exact ⟨a,ha,hF,ow⟩
  ·rw [ay (bf q)] at e
   obtain ⟨b,h1,h2,h3⟩:=rp.ow j d' hj e
   have nb:b≠a:=λz=>by subst z; exact q (rp.dis j i b hj hi h1 ha)
   exact ⟨b,h1,h2,h3.grow (Same.refl _) λo z=>by rw [qC nb]; exact z⟩
 ·by_cases q:j=i
  ·subst q; exact ⟨d,aH hl⟩
  ·rw [ay (bf q)]; exact rp.opn j hj
 ·have nb:b≠a:=λz=>n (by rw [z]; exact ⟨i,hi,ha⟩)
  rw [qC nb]; exact e
 ·by_cases q:b=a
  ·rw [q,qp]; simp
  ·rw [qC q]; exact e
theorem YB {o:Option (Option D)} (h:yY o=hZ):∃ xs,o=g6 (g6 (.lst xs)):=by
 unfold yY at h
 split at h
 ·exact ⟨_,rfl⟩
 ·cases h
theorem qbQ {g:List D->D->Out (List D)} {R:V->V->Hp->VK->Prop} {σ:St} {H:Hp} {Q:VK} (ho:i∈own) (hm:m≠.any)
  (hR:∀ (a:Addr) (xs:List V) (ds ys:List D) (v:V) (d:D) (F H:Hp),Same F H->H a=g6 (.lst xs)->F a=g7->IsL C.K F xs ds->Is C.K F v d->g ds d=.ok ys->(∀ zs,IsL C.K F zs ys->Q .non (upd H a (.lst zs)))->R (.ref a) v H Q)
  (h:tE C own .sh (JU i g fe) σ H Q):∃ a xs,σ[i]?=g6 (g6 (V.ref a))/\H a=g6 (.lst xs)/\tE C own .sh fe σ H λv H1=>R (.ref a) v H1 Q:=by
 obtain ⟨F,ρ,rp,h⟩:=h
 unfold JU at h
 by_cases q:yY ρ[i]?=hZ
 ·rw [if_pos q] at h
  obtain ⟨ds,hd⟩:=YB q
  obtain ⟨a,h1,h2,xs,h3,h4⟩:=rp.ow i _ ho hd
  refine ⟨a,xs,h1,h3,F,ρ,rp,Po.bind h λv F1 H1 d ρ1 rp1 c1 mo1 po=>?_⟩
  cases q1:ρ1[i]? with
  | none=>simp only [q1] at po; exact po.elim
  | some o=>
   cases o with
   | none=>simp only [q1] at po; exact po.elim
   | some dd=>
    simp only [q1] at po
    cases dd with
    | lst es=>
     simp only at po
     cases q2:g es d with
     | ok ys=>
      simp only [q2] at po
      obtain ⟨a',e1,e2,vs,e3,e4⟩:=rp1.ow i _ ho q1
      rw [h1] at e1; cases e1
      refine hR a vs es ys v d F1 H1 rp1.sub e3 e2 e4 mo1 q2 λzs iz=>?_
      obtain ⟨r2,c2⟩:=rp1.write (u:=.lst zs) (d:=.lst ys) ho h1 ⟨zs,qp,iz⟩
      exact po .non F1 _ r2 c2 .non
     | exc c o=>simp only [q2] at po; exact po.elim
     | bad=>simp only [q2] at po; exact po.elim
    | _=>exact po.elim
 ·rw [if_neg q] at h; exact h.elim
theorem uG {px apos cpos:Pos} (hK:C.K=X.K) (hN:X.N[i]?=g6 x) (hv:Vis X.env.scope x) (ho:i∈own) (he:PE X e (tE C own m fe)) (hm:m≠.any:=by decide)
  (hd:'m'=false:=by decide) (hcd:(x == ("__classdict__":Str))=false:=by decide)
  (hbase:attributeBase (.Name x px) "append" X.env (eval (.Name x px) X.env)=eval (.Name x px) X.env:=by rfl)
  (hfew:((backTo cpos (starEach [e] X.env)).all (λx=>!x.1)&&(backToKw cpos (keywordEach [] X.env)).all (λx=>x.1.isSome)
   && decide ([e].length+([]:List iI).length+(if ([]:List iI).isEmpty then 0 else 1) < 30))=true:=by exact xp rfl)
  (hline:(apos.endLine == cpos.line)=true:=by rfl) (hs:starEach [e] X.env=[(hJ,eval e X.env)]:=by exact ja rfl) :
  PE X (.Call (.Attribute (.Name x px) "append" apos) [e] [] cpos) (tE C own .sh (JU i VN fe)):=by
 refine kn (qbv dU PySem.F.slot_list_append PySem.F.type_list_append Vs (yG hN hv hd hcd) (jk (yT he hm) ke hs) hbase hfew hline hs rfl) λσ H Q h=>?_
 have hR:∀ (a:Addr) (xs:List V) (ds ys:List D) (v:V) (d:D) (F H:Hp),Same F H->H a=g6 (.lst xs)->F a=g7->IsL C.K F xs ds->Is C.K F v d->VN ds d=.ok ys->(∀ zs,IsL C.K F zs ys->Q .non (upd H a (.lst zs)))->WT (.ref a) [v] H Q:=λa xs ds ys v d F H sb ea ef ix iv eg k=>by
  unfold VN at eg
  split at eg
  ·cases eg
   exact ⟨a,xs,v,rfl,rfl,ea,by rw [ix.length]; assumption,k _ (ix.append (.cons iv .nil))⟩
  ·cases eg
 obtain ⟨a,xs,h1,h2,k⟩:=qbQ (R:=λx v H Q=>WT x [v] H Q) ho hm hR h
 exact ⟨.ref a,h1,.inl ⟨rfl,xs,.inl (.inl h2)⟩,k⟩
theorem VO {px apos cpos:Pos} (hN:X.N[i]?=g6 x) (hv:Vis X.env.scope x) (ho:i∈own) (he:PE X e (tE C own .fr fe))
  (hd:'m'=false:=by decide) (hcd:(x == ("__classdict__":Str))=false:=by decide)
  (hbase:attributeBase (.Name x px) "extend" X.env (eval (.Name x px) X.env)=eval (.Name x px) X.env:=by rfl)
  (hfew:((backTo cpos (starEach [e] X.env)).all (λx=>!x.1)&&(backToKw cpos (keywordEach [] X.env)).all (λx=>x.1.isSome)
   && decide ([e].length+([]:List iI).length+(if ([]:List iI).isEmpty then 0 else 1) < 30))=true:=by exact xp rfl)
  (hline:(apos.endLine == cpos.line)=true:=by rfl) (hs:starEach [e] X.env=[(hJ,eval e X.env)]:=by exact ja rfl) :
  PE X (.Call (.Attribute (.Name x px) "extend" apos) [e] [] cpos) (tE C own .sh (JU i qeu fe)):=by
 refine kn (qbv dU PySem.F.slot_list_extend PySem.F.type_list_extend ZK (yG hN hv hd hcd) (jk he ke hs) hbase hfew hline hs rfl) λσ H Q ⟨F,ρ,rp,h⟩=>?_
 unfold JU at h
 by_cases q:yY ρ[i]?=hZ
 ·rw [if_pos q] at h
  obtain ⟨ds,hd⟩:=YB q
  obtain ⟨a,h1,h2,xs,h3,h4⟩:=rp.ow i _ ho hd
  refine ⟨.ref a,h1,.inl ⟨rfl,xs,.inl (.inl h3)⟩,F,ρ,rp,Po.bind h λv F1 H1 d ρ1 rp1 c1 mo1 po=>?_⟩
  obtain ⟨b,rfl,hb0,hbF,ob⟩:=mo1
  cases q1:ρ1[i]? with
  | none=>simp only [q1] at po; exact po.elim
  | some o=>
   cases o with
   | none=>simp only [q1] at po; exact po.elim
   | some dd=>
    simp only [q1] at po
    cases dd with
    | lst es=>
     simp only at po
     obtain ⟨a',e1,e2,vs,e3,e4⟩:=rp1.ow i _ ho q1
     rw [h1] at e1; cases e1
     cases d with
     | lst ys=>
      obtain ⟨zs,hz,iz⟩:=ob
      have po:Po C own .sh σ F1 H1 (match (if es.length+ys.length<=sizeLine then .ok (es++ys) else .bad:Out (List D)) with | .ok ys=>.ok (.non,ρ1.set i (g6 (.lst ys))) | _=>.bad) Q:=po
      by_cases qz:es.length+ys.length<=sizeLine
      ·rw [if_pos qz] at po
       refine ⟨a,b,vs,zs,rfl,rfl,e3,hz,by rw [e4.length,iz.length]; exact qz,?_⟩
       obtain ⟨r2,c2⟩:=rp1.write (u:=.lst (vs++zs)) (d:=.lst (es++ys)) ho h1 ⟨_,qp,e4.append iz⟩
       exact po .non F1 _ r2 c2 .non
      ·rw [if_neg qz] at po; exact po.elim
     | dct ys=>
      exact po.elim
     | ins _ _=>exact po.elim
     | at_ _ _=>exact po.elim
     | _=>exact ob.elim
    | _=>exact po.elim
 ·rw [if_neg q] at h; exact h.elim
end
noncomputable def scB (names:List (Str×iM)) (scope:i7):Bool:=decide (scope.kind=.function)&&scope.names.all λy=>decide (y.2≠.cell)&&(!decide (y.2=.local)||decide (scope.names.lookup y.1=g6 .local)) &&
 (!decide (y.2=.free)||((decide (names.lookup y.1=g6 .cell)||decide (names.lookup y.1=g6 .free))&&decide (scope.names.lookup y.1=g6 .free)))
variable {names:List (Str×iM)}
theorem kb (hX:X.env.scope.names=names) (b:scB names scope=hZ):ScOk X scope:=by
 subst hX
 unfold scB at b
 rw [aT,aS] at b
 obtain ⟨b0,b1⟩:=b
 refine ⟨of_decide_eq_true b0,λy hy=>?_,λy hy e=>?_,λy hy e=>?_,λy hy e=>?_⟩
 all_goals
  have q:=b1 y hy
  simp only [aT,Bool.or_eq_true,Bool.not_eq_true',decide_eq_true_eq,decide_eq_false_iff_not] at q
 ·exact q.1.1
 ·exact q.1.2.resolve_left λz=>z e
 ·exact (q.2.resolve_left λz=>z e).1
 ·exact (q.2.resolve_left λz=>z e).2
noncomputable def qi2 (names:List (Str×iM)) (N:List Str) (scope:i7) (Nc:List Str) (nt:Nat) (cap:List Nat):Bool:=decide cap.Nodup&&decide (Nc.length=nt+cap.length)&&(aE cap.length).all λj=>match cap[j]? with
 | some k=>match Nc[nt+j]? with
  | some x=>decide (N[k]?=g6 x)&&(((decide (names.lookup x=g6 .local)||decide (names.lookup x=g6 .cell)||decide (names.lookup x=g6 .free))&&decide ((x,bF)∈scope.names))||scope.names.all λy=>decide (y.1≠x))
  | none=>hJ
 | none=>hJ
theorem jt {Nc:List Str} (hX:X.env.scope.names=names) (hN:X.N=N) (b:qi2 names N scope Nc nt cap=hZ):CapOk X scope Nc nt cap:=by
 subst hX hN
 unfold qi2 at b
 rw [aT,aT,aS] at b
 obtain ⟨⟨b0,b1⟩,b2⟩:=b
 refine ⟨of_decide_eq_true b0,of_decide_eq_true b1,λj k hj=>?_⟩
 have q:=b2 j (aL.mpr (aC.mp hj).1)
 rw [hj] at q
 cases e:Nc[nt+j]? with
 | none=>simp only [e] at q; cases q
 | some x=>
  simp only [e,aT,Bool.or_eq_true,decide_eq_true_eq] at q
  refine ⟨x,rfl,q.1,?_⟩
  rcases q.2 with ⟨z,q2⟩ | z
  ·refine .inl ⟨?_,q2⟩
   rcases z with (z | z) | z
   ·exact .inl z
   ·exact .inr (.inl z)
   ·exact .inr (.inr z)
  ·refine .inr λk' hk'=>?_
   rw [aS] at z
   exact of_decide_eq_true (z (x,k') hk') rfl
theorem yD:zA (CXk P w) X (λ_ _ _=>False):=λ_ _ _ _ _ _ _ h=>by
 obtain ⟨_,_,_,_,_,_,_,_,_,_,_,_,_,_,hE⟩:=h
 exact hE.elim
noncomputable def qin (f:Sl->Out (D×Sl)):Sl->Out (D×Sl):=λρ=>(qV f ρ).bind λp=>.ok (.bl (!p.1),p.2)
section
variable {i:Int}
theorem xC (h:∃ t,X.mg x=g6 (.int i t)) (hg:Gl X x) (hd:'m'=false:=by decide):PE X (.Name x pos) (tE C own .sh (dC (.int i))):=by
 obtain ⟨t,h⟩:=h
 exact qd6 (v:=.int i) hg h ⟨t,rfl⟩ (λ_=>.int i) hd
end
section
variable {a b:Expr} {fb:Sl->Out (D×Sl)}
noncomputable def wC:D->Out D
 | .lst xs=>.ok (.tup xs)
 | .tup xs=>.ok (.tup xs)
 | _=>.bad
noncomputable def VP:D->Out D
 | .lst xs=>.ok (.lst xs)
 | .tup xs=>.ok (.lst xs)
 | _=>.bad
theorem yj (hK:C.K=X.K):QW X C .sh (.type "tuple") wC:=by
 intro pins s σ H xs us Q I r h
 obtain ⟨x,F,dx,rfl,sb,tx,po⟩:=h
 cases dx with
 | lst ds=>
  obtain ⟨p,vs,rfl,hq,t⟩:=tx.lst sb
  refine xn pins s σ H _ us Q I r ⟨p,vs,rfl,.inl ⟨by rw [<-hK]; exact hq,λl hl=>?_⟩⟩
  obtain ⟨s2,c2⟩:=uB (u:=.tup vs) sb hl
  exact po _ _ _ s2 c2 (.tup (.inl (.inl qp)) (t.mono c2.grow))
 | tup ds=>
  rcases tx with tx | ⟨_,_,tx⟩
  ·have tx0:=tx
   cases tx with
   | tup hq t=>exact xn pins s σ H _ us Q I r ⟨_,_,rfl,.inr ⟨by rw [<-hK]; exact qN sb hq,po _ F H sb .refl tx0⟩⟩
  ·exact tx.elim
 | _=>exact po.elim
theorem Uf (hK:C.K=X.K):QW X C .fr (.type "list") VP:=by
 intro pins s σ H xs us Q I r h
 obtain ⟨x,F,dx,rfl,sb,tx,po⟩:=h
 cases dx with
 | lst ds=>
  obtain ⟨p,vs,rfl,hq,t⟩:=tx.lst sb
  refine zB pins s σ H _ us Q I r ⟨p,vs,rfl,.inl (by rw [<-hK]; exact hq),λl hl=>?_⟩
  obtain ⟨s2,c2,hF⟩:=vz (u:=.lst vs) sb hl
  exact po _ _ _ s2 c2 ⟨l,rfl,hl,hF,vs,qp,t⟩
 | tup ds=>
  obtain ⟨p,vs,rfl,hq,t⟩:=tx.tup sb
  refine zB pins s σ H _ us Q I r ⟨p,vs,rfl,.inr (by rw [<-hK]; exact hq),λl hl=>?_⟩
  obtain ⟨s2,c2,hF⟩:=vz (u:=.lst vs) sb hl
  exact po _ _ _ s2 c2 ⟨l,rfl,hl,hF,vs,qp,t⟩
 | _=>exact po.elim
def Gq (X:Cx) (C:Ct) (m:Mo) (f:g9) (g:D->D->Out D):Prop:=yC X f (λxs H Q=>∃ x y F dx dy,xs=[x,y]/\Same F H/\TopIs C.K F H x dx/\TopIs C.K F H y dy/\PoV C m F H (g dx dy) Q)
theorem qbR {Q:VK} (hma:ma≠.any) (h:tE C own m (d2 g fa fb) σ H Q):qbt (tE C own ma fa) (qbt (tE C own mb fb) qh5) σ H λxs H1=>∃ x y F dx dy,xs=[x,y]/\Same F H1/\TopIs C.K F H1 x dx/\TopIs C.K F H1 y dy/\PoV C m F H1 (g dx dy) Q:=by
 obtain ⟨F,ρ,rp,h⟩:=Vw (mb:=mb) hma h
 refine ⟨F,ρ,rp,?_⟩
 cases q:fa ρ with
 | ok p=>
  rw [q] at h
  obtain ⟨d,ρ1⟩:=p
  intro v F1 H1 rp1 c1 mo1
  obtain ⟨F2,ρ2,rp2,h2⟩:=h v F1 H1 rp1 c1 mo1
  refine ⟨F2,ρ2,rp2,?_⟩
  cases q2:fb ρ2 with
  | ok p=>
   rw [q2] at h2
   obtain ⟨d',ρ3⟩:=p
   intro w F3 H3 rp3 c3 mo3
   obtain ⟨F4,dx,dy,z⟩:=h2 w F3 H3 rp3 c3 mo3
   exact ⟨v,w,F4,dx,dy,rfl,z⟩
  | exc c=>rw [q2] at h2; exact h2
  | bad=>rw [q2] at h2; exact h2.elim
 | exc c=>rw [q] at h; exact h
 | bad=>rw [q] at h; exact h.elim
theorem VQ {id:String} {p:Pos} (hc:Gq X C m (.builtin id) g) (hg:Gl X x) (hm:X.mg x=g7) (hv:bootBuiltins x=g6 (.builtin id)) (ha:PE X a (tE C own ma fa)) (hb:PE X b (tE C own mb fb)) (hma:ma≠.any:=by decide) (hn:x ≠ "__name__":=by decide) (hdb:'m'=false:=by decide)
  (h1:starEach [a,b] X.env=(hJ,eval a X.env)::starEach [b] X.env:=by rfl) (h2:starEach [b] X.env=[(hJ,eval b X.env)]:=by exact ja rfl):PE X (.Call (.Name x p) [a,b] [] pos) (tE C own m (d2 g fa fb)):=
 kn (xm hc hg hm hv (jk ha (jk hb ke h2) h1) hn hdb (by rw [h1]) (by rw [h2]; rfl)) λ_ _ _ h=>qbR hma h
noncomputable def qhx:D->D->Out D:=uz λi j=>.ok (.int (if j > i then j else i))
noncomputable def qhy:D->D->Out D:=uz λi j=>.ok (.int (if j < i then j else i))
theorem qgt (hc:X.calm=hZ):Gq X C .sh (.builtin "max") qhx:=by
 intro pins s σ H xs us Q I r h
 obtain ⟨x,y,F,dx,dy,rfl,sb,tx,ty,po⟩:=h
 cases dx <;> try exact po.elim
 cases dy <;> try exact po.elim
 obtain rfl:=tx.int
 obtain rfl:=ty.int
 exact ZF hc pins s σ H _ us Q I r ⟨_,_,rfl,po _ F H sb .refl (.int _)⟩
theorem qgu (hc:X.calm=hZ):Gq X C .sh (.builtin "min") qhy:=by
 intro pins s σ H xs us Q I r h
 obtain ⟨x,y,F,dx,dy,rfl,sb,tx,ty,po⟩:=h
 cases dx <;> try exact po.elim
 cases dy <;> try exact po.elim
 obtain rfl:=tx.int
 obtain rfl:=ty.int
 exact ZG hc pins s σ H _ us Q I r ⟨_,_,rfl,po _ F H sb .refl (.int _)⟩
noncomputable def kI (a T:String):Option Bool:=if (fR a == fR T)=hZ then g6 hZ else if PySem.W.kitMeta T=hZ then (fastBuiltinMro a).map (·.contains (.type T)) else g7
theorem qbS (K:Frag) (a T:String):cw K (.type a) (.type T)=kI a T:=rfl
noncomputable def tyN:D->Option String
 | .non=>g6 "NoneType"
 | .bl _=>g6 "bool"
 | .int _=>g6 "int"
 | .str _=>g6 "str"
 | .tup _=>g6 "tuple"
 | .lst _=>g6 "list"
 | .dct _=>g6 "dict"
 | _=>g7
noncomputable def ge (T:String) (d:D):Out D:=match tyN d with
 | some a=>match kI a T with
  | some b=>.ok (.bl b)
  | none=>.bad
 | none=>.bad
theorem qbT (hK:C.K=X.K):yC X (.builtin "isinstance") (λxs H Q=>∃ x F d,xs=[x,.ty T]/\Same F H/\TopIs C.K F H x d/\PoV C .sh F H (ge T d) Q):=by
 intro pins s σ H xs us Q I r h
 obtain ⟨x,F,d,rfl,sb,tx,po⟩:=h
 obtain ⟨u,c,rfl,ru,rc⟩:=qdU r
 cases rc
 cases q:tyN d with
 | none=>unfold ge at po; rw [q] at po; exact po.elim
 | some a=>
  cases q2:kI a T with
  | none=>unfold ge at po; rw [q] at po; simp only [q2] at po; exact po.elim
  | some b=>
   have po:PoV C .sh F H (.ok (.bl b)) Q:=by unfold ge at po; rw [q] at po; simp only [q2] at po; exact po
   have fin:∀ tk,EP X pins σ Q (.bool b) { s with toks:=tk }:=λtk=>⟨.bl b,H,I.tok tk,rfl,po _ F H sb .refl (.bl b)⟩
   have e:cw X.K (.type a) (.type T)=g6 b:=(qbS X.K a T).trans q2
   cases d with
   | non=>obtain rfl:=tx.non; cases ru; cases q; exact cR PySem.W.kitx_none I.kIn dB e (λz=>nomatch z) fin
   | bl y=>obtain rfl:=tx.bl; cases ru; cases q; exact cR PySem.W.kitx_bool I.kIn dB e (λz=>nomatch z) fin
   | int y=>obtain rfl:=tx.int; obtain ⟨t,rfl⟩:=ru; cases q; exact cR PySem.W.kitx_int I.kIn dB e (λz=>nomatch z) fin
   | str y=>obtain ⟨rfl,_⟩:=tx.str; obtain ⟨t,rfl⟩:=ru; cases q; exact cR PySem.W.kitx_str I.kIn dB e (λz=>nomatch z) fin
   | tup y=>
    obtain ⟨p,vs,rfl,hq,t⟩:=tx.tup sb
    cases ru; cases q
    obtain ⟨its,_,⟨o,h1,h2,_⟩,_⟩:=I.tuple (show SqT X.K H p vs by rw [<-hK]; exact hq)
    exact cR PySem.W.kitx_tuple I.kIn ⟨o,h1,h2⟩ e (λz=>nomatch z) fin
   | lst y=>
    obtain ⟨p,vs,rfl,hq,t⟩:=tx.lst sb
    cases ru; cases q
    obtain ⟨its,_,⟨o,n,h1,h2,_⟩,_⟩:=I.list (show SqL X.K H p vs by rw [<-hK]; exact hq)
    exact cR PySem.W.kitx_list I.kIn ⟨o,h1,h2⟩ e (λz=>nomatch z) fin
   | dct y=>
    obtain ⟨p,vs,rfl,hq,t⟩:=tx.dct sb
    cases ru; cases q
    obtain ⟨_,_,ws,_,o,es,ep,h1,h2,_⟩:=(show ObjOk X.prog X.w H s.heap p (.dK vs) from I.hok p _ hq)
    exact cR PySem.W.kitx_dict I.kIn ⟨o,h1,h2.1⟩ e (λz=>nomatch z) fin
   | _=>cases q
theorem xD {tn:Str} {p tp:Pos} (hK:C.K=X.K) (hg:Gl X "isinstance") (hm:X.mg "isinstance"=g7) (hv:bootBuiltins "isinstance"=g6 (.builtin "isinstance")) (ht:Gl X tn) (htm:X.mg tn=g7) (htv:bootBuiltins tn=g6 (.type T)) (ha:PE X a (tE C own ma fa)) (hn:tn ≠ "__name__":=by decide) (hdb:(tn == ("__debug__":Str))=false:=by decide)
  (h1:starEach [a,.Name tn tp] X.env=(hJ,eval a X.env)::starEach [.Name tn tp] X.env:=by rfl) (h2:starEach [.Name tn tp] X.env=[(hJ,eval (.Name tn tp) X.env)]:=by rfl):PE X (.Call (.Name "isinstance" p) [a,.Name tn tp] [] pos) (tE C own .sh (d1 (ge T) fa)):=by
 refine kn (xm (qbT (T:=T) hK) hg hm hv (jk ha (jk (qdK (v:=.ty T) ht htm htv rfl hn hdb) ke h2) h1) 'c' 'c' (by rw [h1]) (by rw [h2]; rfl)) λσ H Q h=>?_
 obtain ⟨F,ρ,rp,h⟩:=qbD (ma:=ma) h
 refine ⟨F,ρ,rp,?_⟩
 cases q:fa ρ with
 | ok p=>
  rw [q] at h
  obtain ⟨d,ρ1⟩:=p
  intro v F1 H1 rp1 c1 mo1
  obtain ⟨F2,dx,z⟩:=h v F1 H1 rp1 c1 mo1
  exact ⟨v,F2,dx,rfl,z⟩
 | exc c=>rw [q] at h; exact h
 | bad=>rw [q] at h; exact h.elim
noncomputable def zG:List D->Option (List Bool)
 | []=>g6 []
 | .bl b::ds=>(zG ds).map (b::·)
 | _::_=>g7
noncomputable def Gr:D->Out D
 | .lst ds=>match zG ds with
  | some bs=>.ok (.bl (bs.all id))
  | none=>.bad
 | _=>.bad
theorem YC:∀ {vs:List V} {us:List g9} {ds:List D} {bs:List Bool},IsL K F vs ds->Vals vs us->zG ds=g6 bs->us=bs.map dg
 | _,_,_,_,.nil,.nil,e=>by cases e; rfl
 | _,_,_,_,.cons (d:=d) h t,.cons r rs,e=>by
  cases d with
  | bl b=>
   unfold zG at e
   obtain ⟨bs',e1,e2⟩:=aZ.mp e
   subst e2
   cases h
   cases r
   rw [YC t rs e1]; rfl
  | _=>cases e
theorem Jq (hK:C.K=X.K) (hc:X.calm=hZ):QW X C .sh (.builtin "all") Gr:=by
 intro pins s σ H xs us Q I r h
 obtain ⟨x,F,dx,rfl,sb,tx,po⟩:=h
 cases dx <;> try exact po.elim
 rename_i ds
 obtain ⟨p,vs,rfl,hq,t⟩:=tx.lst sb
 obtain ⟨u,rfl,ru⟩:=uw r
 cases ru
 unfold Gr at po
 cases q:zG ds with
 | none=>simp only [q] at po; exact po.elim
 | some bs=>
  simp only [q] at po
  obtain ⟨its,rv,pl,hz⟩:=I.list (show SqL X.K H p vs by rw [<-hK]; exact hq)
  have eb:=YC t rv q
  subst eb
  have hp:p < s.heap.objs.size:=let ⟨o,h1,_⟩:=pl.isList; aq h1
  refine call_all_walk (iT pl.isList ?_)
  have W:Walks X.prog X.w X.A.in1 s.heap.objs.size [s.heap.objs.size,p] [s.heap.objs.size] (bs.map dg).toArray.size (λi v=>(bs.map dg).toArray[i]?=g6 v) (λi h=>h.IsListIter s.heap.objs.size p i/\h.IsList p (bs.map dg).toArray):=g5 (A:=X.A.in1) (show X.A.in1.handled=g7 from I.ok.hd hc) s.heap.objs.size p (aB hp) _
  have st:(s.heap.push { cls:=.type "list_iterator",data:=.fields #[.ref p,.int 0 0] }).IsListIter s.heap.objs.size p 0/\(s.heap.push { cls:=.type "list_iterator",data:=.fields #[.ref p,.int 0 0] }).IsList p (bs.map dg).toArray:=⟨⟨_,ak _ rfl,rfl,rfl⟩,let ⟨o,h1,h2⟩:=pl.isList; ⟨o,ac _ h1,h2⟩⟩
  refine ⟨_,_,_,_,_,_,λi=>(bs[i]?).getD hJ,rfl,W,st,λi v s' Q' E' hP hQ'=>?_,λh' tk kp=>?_⟩
  ·have hP:(bs.map dg).toArray[i]?=g6 v:=hP
   rw [eD,aG] at hP
   cases qi:bs[i]? with
   | none=>rw [qi] at hP; cases hP
   | some b=>
    have hQ2:Q' ((bs[i]?).getD hJ) s':=hQ'
    rw [qi] at hP hQ2
    cases hP
    exact iy hQ2
  ·have e:(aE (bs.map dg).toArray.size).all (λi=>(bs[i]?).getD hJ)=bs.all id:=by
    rw [au,aA,Bool.eq_iff_iff,aS,aS]
    constructor
    ·intro h b hb
     obtain ⟨i,hi,e⟩:=eM.mp hb
     have:=h i (aL.mpr hi)
     rw [ah hi,e] at this
     exact this
    ·intro h i hi
     have hi:=aL.mp hi
     rw [ah hi]
     exact h _ (bG hi)
   rw [e]
   refine ⟨.bl (bs.all id),H,?_,rfl,po _ F H sb .refl (.bl _)⟩
   have k2:∀ b o,s.heap.get? b=g6 o->h'.get? b=g6 o:=λb o eb=>kp b o (by simp; exact aB (aq eb)) (ac _ eb)
   exact I.kept (t':=tk) k2
end
noncomputable def wE (idx:List Nat) (xs:List α):List α:=idx.filterMap λk=>xs[k]?
theorem IsL.pick (h:IsL K F vs ds):∀ (idx:List Nat),IsL K F (wE idx vs) (wE idx ds)
 | []=>.nil
 | k::idx=>by
  unfold wE
  rw [bu,bu]
  cases e:vs[k]? with
  | none=>
   have e2:ds[k]?=none:=bJ.mpr (by rw [<-h.length]; exact bJ.mp e)
   rw [e2]
   exact IsL.pick h idx
  | some v=>
   obtain ⟨d,e2,i⟩:=h.get e
   rw [e2]
   exact .cons i (IsL.pick h idx)
theorem gK {us:List g9} (h:Vals vs us):∀ (idx:List Nat),Vals (wE idx vs) (wE idx us)
 | []=>.nil
 | k::idx=>by
  unfold wE
  rw [bu,bu]
  cases e:vs[k]? with
  | none=>rw [h.none_of e]; exact gK h idx
  | some v=>
   obtain ⟨u,e2,r⟩:=h.get e
   rw [e2]
   exact .cons r (gK h idx)
theorem qbU (xs:List α):wE (aE xs.length) xs=xs:=by
 unfold wE
 have:=PySem.W.krv_all xs.toArray
 simpa using this
noncomputable def VR (n:Nat) (lo hi:Option Int) (st:Int):List Nat:=(aE (dF (bx lo hi st n).1 (bx lo hi st n).2 st)).map λ(k:Nat)=>((bx lo hi st n).1+(k:Int) * st).toNat
noncomputable def Jr (x:Str) (lo hi:Option Int) (st:Int):Str:=if (st == 1&&(dw lo hi st x.length).length == x.length)=hZ then x else ⟨((dw lo hi st x.length).filterMap (x.cps[·]?)).toArray⟩
noncomputable def slD (lo hi st:Option Int):D->Out D
 | .tup xs=>if st.getD 1≠0/\(wE (VR xs.length lo hi (st.getD 1)) xs).length<=sizeLine then .ok (.tup (wE (VR xs.length lo hi (st.getD 1)) xs)) else .bad
 | .str x=>if st.getD 1≠0/\(Jr x lo hi (st.getD 1)).length<=sizeLine then .ok (.str (Jr x lo hi (st.getD 1))) else .bad
 | _=>.bad
def qi3 (X:Cx) (r:V->Option Int->Option Int->Option Int->Hp->VK->Prop):Prop:=
 ∀ (pins:List (Addr×Obj)) (s:hV) (σ:St) (H:Hp) (x:V) (v vl vu vk:g9) (lo hi st:Option Int) (sl:Addr) (Q:VK),Inv X pins σ H s->RelV x v->s.heap.IsSliceOf sl vl vu vk->j3 vl lo->j3 vu hi->j3 vk st->r x lo hi st H Q ->
  ∃ T id,typeLookup (.type T) "__getitem__"=pure (g6 (.builtin id))/\s.TypeIs v T/\wpAny 'd' X.A (getItem v (.ref sl)) (EP X pins σ Q) X.xe s
variable {sl:Addr}
section
variable {prog:h8}
theorem QX {vl vu vk:g9} {lo hi st:Option Int} {n:Nat} {Q:Int×Int×Nat->hV->Prop} (hs:s.heap.IsSliceOf sl vl vu vk) (pl:j3 vl lo) (pu:j3 vu hi) (pk:j3 vk st) (h0:st.getD 1≠0)
  (h:Q ((bx lo hi (st.getD 1) n).1,st.getD 1,dF (bx lo hi (st.getD 1) n).1 (bx lo hi (st.getD 1) n).2 (st.getD 1)) s):wpAny 'g' A (Builtin.Slice.sliceApplied (.ref sl) (pure (n:Int))) Q E s:=by
 obtain ⟨os,hos,hcs,hds⟩:=id hs
 unfold Builtin.Slice.sliceApplied Builtin.Slice.sliceFields
 refine g8 (g8 (iZ hos hds (x:=vl) rfl (g8 (iZ hos hds (x:=vu) rfl (g8 (iZ hos hds (x:=vk) rfl (h7 ?_)))))))
 refine g8 (HT.slicePart_ pk ?_)
 show wpAny _ _ (if (st.getD 1 == 0)=hZ then _ else _) _ _ s
 rw [if_neg (by simpa using h0)]
 refine g8 (HT.slicePart_ pl (g8 (HT.slicePart_ pu (g8 (h7 ?_)))))
 exact h7 h
theorem gL {t:Addr} {items:Array g9} {vl vu vk:g9} {lo hi st:Option Int} {Q:g9->hV->Prop} (ht:IsTup s.heap t items) (hs:s.heap.IsSliceOf sl vl vu vk) (pl:j3 vl lo) (pu:j3 vu hi) (pk:j3 vk st) (h0:st.getD 1≠0)
  (hw:VR items.size lo hi (st.getD 1)=aE items.size->Q (.ref t) s)
  (h:Q 'o' { s with heap:=s.heap.push { cls:=.type "tuple",data:=.seq (wE (VR items.size lo hi (st.getD 1)) items.toList).toArray } })
  (hsz:(wE (VR items.size lo hi (st.getD 1)) items.toList).length<=sizeLine):wpAny 'g' A (getItem (.ref t) (.ref sl)) Q E s:=by
 obtain ⟨os,hos,hcs,hds⟩:=id hs
 have hTs:s.TypeIs (.ref sl) "slice":=⟨os,hos,hcs⟩
 unfold getItem
 try with_reducible refine ig ?_
 first | refine g8 (h7 ?_) | skip
 refine g8 (wpAny_sequenceKey ht.typeIs 'c' ?_)
 refine g8 (iq (name:=aX "__getitem__") ht.typeIs cX
  (im cX ht.typeIs entry_tuple_getitem ?_ (args_tuple_getitem _ _)))
 show wpAny _ _ (Builtin.Tuple.tupleItemsOf (.ref t) >>= _) _ _ s
 refine g8 (tupleItemsOf_ ht ?_)
 refine g8 (iF hTs ?_)
 rw [if_pos 'c']
 refine g8 (QX hs pl pu pk h0 ?_)
 generalize hA:bx lo hi (st.getD 1) items.size=A0
 generalize hN:dF A0.1 A0.2 (st.getD 1)=N0
 have ep:wE (VR items.size lo hi (st.getD 1)) items.toList=(aE N0).filterMap λ(k:Nat)=>items[(A0.1+(k:Int) * st.getD 1).toNat]?:=by
  unfold wE VR
  rw [hA,hN,List.filterMap_map]
  congr 1
  funext k
  simp
 rw [ep] at h hsz
 by_cases hc:(A0.1 == 0&&st.getD 1 == 1&&N0 == items.size)=hZ
 ·have hc':=hc
  rw [aT,aT] at hc'
  have q1:A0.1=0:=eq_of_beq hc'.1.1
  have q2:st.getD 1=1:=eq_of_beq hc'.1.2
  have q3:N0=items.size:=eq_of_beq hc'.2
  have whole:VR items.size lo hi (st.getD 1)=aE items.size:=by
   unfold VR
   rw [hA,hN,q1,q2,q3]
   have e:(λ(k:Nat)=>((0:Int)+(k:Int) * 1).toNat)=id:=by
    funext k
    show ((0:Int)+(k:Int) * 1).toNat=k
    omega
   rw [e,List.map_id]
  have hQ:=hw whole
  show wpAny _ _ (if (A0.1 == 0&&st.getD 1 == 1&&N0 == items.size)=hZ then _ else _) _ _ s
  rw [if_pos hc]
  unfold Builtin.Tuple.tupleIsExact
  refine g8 (g8 (iF ht.typeIs (h7 ?_)))
  rw [if_pos 'c']
  exact g8 (iV (h7 ⟨_,rfl,h7 hQ⟩))
 ·show wpAny _ _ (if (A0.1 == 0&&st.getD 1 == 1&&N0 == items.size)=hZ then _ else _) _ _ s
  rw [if_neg hc]
  have htake:sizeOk (.seq ((aE N0).filterMap λ(k:Nat)=>items[(A0.1+(k:Int) * st.getD 1).toNat]?).toArray):=by
   show (((aE N0).filterMap λ(k:Nat)=>items[(A0.1+(k:Int) * st.getD 1).toNat]?).toArray).size<=sizeLine
   rw [au]; exact hsz
  first
   | exact g8 (m:=cU _) (ia (h7 ⟨_,rfl,h7 h⟩) htake)
   | exact g8 (m:=cU _) (ia (g8 (h7 (h7 ⟨_,rfl,h7 h⟩))) htake)
   | exact g8 (g8 (m:=cU _) (ia (h7 (h7 ⟨_,rfl,h7 h⟩)) htake))
   | exact g8 (g8 (m:=cU _) (ia (h7 ⟨_,rfl,h7 h⟩) htake))
end
def PoO (C:Ct) (own:List Nat) (σ:St) (F H:Hp) (r:Out (Option Int×Sl)) (Q:Option Int->Hp->Prop):Prop:=match r with
 | .ok (b,ρ')=>∀ F' H',Rep C.K own F' H' σ ρ'->Chg (OA own σ) F H F' H'->Q b H'
 | .exc c ρ'=>∀ F' H',Same F' H'->Zv C.K C.ox F' H' σ ρ'->Chg (OA own σ) F H F' H'->C.E (C.cv c) g7 H'
 | .bad=>False
def tO (C:Ct) (own:List Nat) (f:Sl->Out (Option Int×Sl)):TO:=λσ H Q=>∃ F ρ,Rep C.K own F H σ ρ/\PoO C own σ F H (f ρ) Q
noncomputable def JV:Option (Sl->Out (D×Sl))->Sl->Out (Option Int×Sl)
 | none,ρ=>.ok (g7,ρ)
 | some f,ρ=>(f ρ).bind λp=>match p.1 with
  | .int i=>.ok (g6 i,p.2)
  | _=>.bad
theorem Po.bindO {o:Out (Option Int×Sl)} {k:Option Int×Sl->Out (D×Sl)} {Q:VK} {R:Option Int->Hp->Prop} (hp:Po C own m σ F H (o.bind k) Q)
  (h:∀ F1 H1 b ρ1,Rep C.K own F1 H1 σ ρ1->Chg (OA own σ) F H F1 H1->Po C own m σ F1 H1 (k (b,ρ1)) Q->R b H1):PoO C own σ F H o R:=by
 cases o with
 | ok p=>
  obtain ⟨d,ρ1⟩:=p
  exact λF1 H1 rp c=>h F1 H1 d ρ1 rp c (Po.shift (show Po C own m σ F H (k (d,ρ1)) Q from hp) c)
 | exc x=>exact hp
 | bad=>exact hp.elim
noncomputable def YD (fa:Sl->Out (D×Sl)) (l u k:Option (Sl->Out (D×Sl))):Sl->Out (D×Sl):=λρ=>(fa ρ).bind λp=>(JV l p.2).bind λa=>(JV u a.2).bind λb=>(JV k b.2).bind λc=>(slD a.1 b.1 c.1 p.1).plain.bind λd=>.ok (d,c.2)
section
variable {a:Expr} {p2:Pos}
theorem YE:PO X g7 (tO C own (JV g7)):=by
 intro pins s σ H Q I ⟨F,ρ,rp,h⟩
 exact qdY pins s σ H Q I (h F H rp .refl)
theorem qbV (h:PE X e (tE C own m f)):PO X (g6 e) (tO C own (JV (g6 f))):=by
 intro pins s σ H Q I ⟨F,ρ,rp,hp⟩
 refine qdZ h pins s σ H Q I ⟨F,ρ,rp,?_⟩
 have hp:PoO C own σ F H ((f ρ).bind λp=>match p.1 with | .int i=>.ok (g6 i,p.2) | _=>.bad) Q:=hp
 cases q:f ρ with
 | ok p=>
  rw [q] at hp
  obtain ⟨d,ρ1⟩:=p
  cases d with
  | int i=>exact λv F1 H1 rp1 c1 mo1=>⟨i,mo1.top.int,hp F1 H1 rp1 c1⟩
  | _=>exact hp.elim
 | exc c=>rw [q] at hp; exact hp
 | bad=>rw [q] at hp; exact hp.elim
theorem Gu {r:V->Option Int->Option Int->Option Int->Hp->VK->Prop} {tl th tk:TO} {lo hi st:Option Expr} (hr:qi3 X r) (he:PE X e te) (hl:PO X lo tl) (hu:PO X hi th) (hk:PO X st tk) :
  PE X (.Subscript e (.Slice lo hi st p2) pos) (λσ H Q=>te σ H λx H1=>tl σ H1 λl H2=>th σ H2 λu H3=>tk σ H3 λk H4=>r x l u k H4 Q):=by
 refine ⟨?_⟩
 intro pins s σ H Q I h
 refine Subscript_ (thn (he pins s σ H _ I h) λv s1 ⟨x,H1,I1,r1,q1⟩=>?_)
 refine wpAny_Slice (thn (hl pins s1 σ H1 _ I1 q1) λvl s2 ⟨l,H2,I2,pl,q2⟩=>thn (hu pins s2 σ H2 _ I2 q2) λvu s3 ⟨u,H3,I3,pu,q3⟩=>thn (hk pins s3 σ H3 _ I3 q3) λvk s4 ⟨k,H4,I4,pk,q4⟩=>?_)
 have I5:Inv X pins σ H4 { s4 with heap:=s4.heap.push { cls:=.type "slice",data:=.fields #[vl,vu,vk] } }:=I4.kept (t':=s4.toks) λb ob q=>ac _ q
 obtain ⟨T,id,hT,ht,hg⟩:=hr pins { s4 with heap:=s4.heap.push { cls:=.type "slice",data:=.fields #[vl,vu,vk] } } σ H4 x v vl vu vk l u k s4.heap.objs.size Q I5 r1 (Heap.IsSliceOf.new ..) pl pu pk q4
 show wpAny 'd' X.A (subscriptTail e (.Slice lo hi st p2) v (.ref s4.heap.objs.size)) (EP X pins σ Q) X.xe { s4 with heap:=s4.heap.push { cls:=.type "slice",data:=.fields #[vl,vu,vk] } }
 cases st with
 | none=>exact tail_any (ops:=[.ref s4.heap.objs.size,v]) ht hT hg (by with_unfolding_all rfl)
 | some st=>exact tail_any (ops:=[v,.ref s4.heap.objs.size]) ht hT hg (by with_unfolding_all rfl)
theorem JW {v:g9} {o:Option Int} (h:j3 v o):∃ l:Option (Int×Tok),v=partValue l/\l.map (·.1)=o:=by
 cases h with
 | none=>exact ⟨g7,rfl,rfl⟩
 | int i t=>exact ⟨g6 (i,t),rfl,rfl⟩
theorem qjG (hK:C.K=X.K):qi3 X (λx lo hi st H Q=>∃ F d,Same F H/\Is C.K F x d/\PoV C .sh F H (slD lo hi st d) Q):=by
 intro pins s σ H x v vl vu vk lo hi st sl Q I rx hs pl pu pk h
 obtain ⟨F,d,sb,is,po⟩:=h
 cases d with
 | tup ds=>
  have is0:=is
  cases is with
  | @tup a xs _ hq t=>
   cases rx
   have hq':SqT X.K H a xs:=by rw [<-hK]; exact qN sb hq
   obtain ⟨its,r,ht,hz⟩:=I.tuple hq'
   have hlen:its.length=ds.length:=r.length.symm.trans t.length
   have po:PoV C .sh F H (if st.getD 1≠0/\(wE (VR ds.length lo hi (st.getD 1)) ds).length<=sizeLine then .ok (.tup (wE (VR ds.length lo hi (st.getD 1)) ds)) else .bad) Q:=po
   by_cases c:st.getD 1≠0/\(wE (VR ds.length lo hi (st.getD 1)) ds).length<=sizeLine
   ·rw [if_pos c] at po
    have iv:=t.pick (VR ds.length lo hi (st.getD 1))
    have rv:=gK r (VR ds.length lo hi (st.getD 1))
    refine ⟨"tuple",_,cX.lookup,ht.typeIs,gL ht hs pl pu pk c.1 (λe=>?_) ?_ ?_⟩
    ·rw [au,hlen] at e
     refine ⟨.ref a,H,I,rfl,po _ F H sb .refl ?_⟩
     rw [e,qbU]
     exact is0
    ·simp only [au,hlen]
     have hlv:(wE (VR ds.length lo hi (st.getD 1)) xs).length<=sizeLine:=by rw [iv.length]; exact c.2
     refine ⟨.ref s.heap.objs.size,_,I.laid (t':=s.toks) (o:=.tup (wE (VR ds.length lo hi (st.getD 1)) xs)) (λb ob q=>ac _ q) (ax _) ⟨⟨hlv,⟨_,ak _ rfl,rfl⟩⟩,_,rv,IsTup.new _ _⟩,rfl,?_⟩
     obtain ⟨s2,c2⟩:=uB (u:=.tup (wE (VR ds.length lo hi (st.getD 1)) xs)) sb (I.hok.fresh (ax _))
     exact po _ _ _ s2 c2 (.tup (.inl (.inl qp)) (iv.mono c2.grow))
    ·simp only [au,hlen]
     rw [<-rv.length,iv.length]
     exact c.2
   ·rw [if_neg c] at po; exact po.elim
 | str z=>
  cases is
  obtain ⟨t,rfl⟩:=rx
  have po:PoV C .sh F H (if st.getD 1≠0/\(Jr z lo hi (st.getD 1)).length<=sizeLine then .ok (.str (Jr z lo hi (st.getD 1))) else .bad) Q:=po
  by_cases c:st.getD 1≠0/\(Jr z lo hi (st.getD 1)).length<=sizeLine
  ·rw [if_pos c] at po
   obtain ⟨l,rfl,el⟩:=JW pl
   obtain ⟨u,rfl,eu⟩:=JW pu
   obtain ⟨k,rfl,ek⟩:=JW pk
   refine ⟨"str",_,PySem.F.slot_str_getitem.lookup,typeIs_str s z t,wpAny_getItem_str_slice (l:=l) (u:=u) (st:=k) hs (by rw [ek]; simpa using c.1) ?_⟩
   have c2:=c.2
   unfold sliceMade slicePicked
   rw [el,eu,ek]
   unfold Jr at c2 po
   by_cases q:(st.getD 1 == 1&&(dw lo hi (st.getD 1) z.length).length == z.length)=hZ
   ·rw [if_pos q] at c2 po ⊢
    exact ⟨.str z,H,I,⟨t,rfl⟩,po _ F H sb .refl (.str c2)⟩
   ·rw [if_neg q] at c2 po ⊢
    exact ⟨c2,.str _,H,I.tok _,⟨_,rfl⟩,po _ F H sb .refl (.str c2)⟩
  ·rw [if_neg c] at po; exact po.elim
 | _=>exact po.elim
theorem qbW {lo hi st:Option Expr} {l u k:Option (Sl->Out (D×Sl))} (hK:C.K=X.K) (he:PE X e (tE C own ma fa)) (hl:PO X lo (tO C own (JV l))) (hu:PO X hi (tO C own (JV u))) (hk:PO X st (tO C own (JV k))) (hma:ma≠.any:=by decide) :
  PE X (.Subscript e (.Slice lo hi st p2) pos) (tE C own .sh (YD fa l u k)):=by
 refine kn (Gu (qjG (C:=C) hK) (yT he hma) hl hu hk) λσ H Q ⟨F,ρ,rp,h⟩=>⟨F,ρ,rp,Po.bind h λv F1 H1 d ρ1 rp1 c1 mo1 h1=>?_⟩
 refine ⟨F1,ρ1,rp1,Po.bindO h1 λF2 H2 a ρ2 rp2 c2 h2=>⟨F2,ρ2,rp2,Po.bindO h2 λF3 H3 b ρ3 rp3 c3 h3=>⟨F3,ρ3,rp3,Po.bindO h3 λF4 H4 c ρ4 rp4 c4 h4=>?_⟩⟩⟩
 exact ⟨F4,d,rp4.sub,((mo1.mono c2.grow).mono c3.grow).mono c4.grow,PoV.of rp4 h4⟩
end
noncomputable def Its (x:Str):It:=⟨λi _=>i < x.cps.size,λi H v H'=>H'=H/\∃ c,x.cps[i]?=g6 c/\v=.str ⟨#[c]⟩,λi _=>x.cps.size<=i⟩
noncomputable def VS (x:Str):List D:=x.cps.toList.map λc=>.str ⟨#[c]⟩
theorem YF {P:h8} {w:ib} {K:Frag} {tg:Expr} (it:Addr) (x:Str) (t:Tok) (ty:String) (hn:["enumerate", "zip", "dict_itemiterator", "dict_reverseitemiterator", "odict_iterator", "itertools.zip_longest", "itertools.pairwise"].contains ty=hJ)
  (W:∀ A:ii,A.handled=g7->Walks P w A it [it] [it] x.cps.size (SignAt x) (λi h=>h.IsStrIter it ty x t i)) (sf:∀ (A:ii) (i:Nat) (s:hV) (Q:g9->hV->Prop) (E:g9->hV->Prop),s.heap.IsStrIter it ty x t i->Q (.ref it) s->wpAny (model P w) A (pyIter (.ref it)) Q E s) :
  Turn P w K tg (Its x) [it] it (λi h=>h.IsStrIter it ty x t i/\i<=x.cps.size) where
 mem:=by simp
 obj:=λi h st b hb=>by
  have e:b=it:=by simpa using hb
  subst e
  obtain ⟨o,e,c,d⟩:=st.1
  exact ⟨o,e,λv z=>by rw [d] at z; cases z⟩
 keep:=λi h h' st k=>by
  obtain ⟨⟨o,e,r⟩,hi⟩:=st
  exact ⟨⟨o,k it 'h' o e,r⟩,hi⟩
 item:=by
  intro X hP hw hK hc i pins s σ H E I hf st hg
  subst hP hw hK
  obtain ⟨f0,f1,f2,f3,f4,f5⟩:=hf it 'h'
  refine (W X.A (I.ok.hd hc)).item i s _ _ hg st.1 λv h' tk hP st' kp=>?_
  have I1:Inv X pins σ H { s with heap:=h',toks:=tk }:=I.turned (t':=tk) (λb o hb e=>kp b o (by simpa using hb) e) f0 f1 f3 f4 f5
  obtain ⟨o,e,c,d⟩:=id st'
  obtain ⟨c',u,h1,h2⟩:∃ c' u,x.cps[i]?=g6 c'/\v=fy ⟨#[c']⟩ u:=by
   unfold SignAt at hP
   first
    | exact hP
    | (obtain ⟨c',u,h1,h2⟩:=hP; exact ⟨c',u,h1,h2⟩)
    | (obtain ⟨c',h1,u,h2⟩:=hP; exact ⟨c',u,h1,h2⟩)
    | (obtain ⟨u,c',h1,h2⟩:=hP; exact ⟨c',u,h1,h2⟩)
  subst h2
  exact ⟨_,rfl,qbp (s:={ s with heap:=h',toks:=tk }) e c d hn ⟨.str ⟨#[c']⟩,H,I1,⟨u,rfl⟩,⟨rfl,c',h1,rfl⟩,⟨st',hg⟩,λb hb=>(hf b hb).1⟩⟩
 done:=by
  intro X hP hw hK hc i pins s σ H E I hf st hg
  subst hP hw hK
  obtain ⟨f0,f1,f2,f3,f4,f5⟩:=hf it 'h'
  have hi:i=x.cps.size:=fH st.2 hg
  subst hi
  exact (W X.A (I.ok.hd hc)).done s _ _ st.1 λh' tk kp=>⟨rfl,I.turned (t':=tk) (λb o hb e=>kp b o (by simpa using hb) e) f0 f1 f3 f4 f5⟩
 self:=λA i s Q E st h=>sf A i s Q E st.1 h
theorem qgv:ItIs K F (Its x) (VS x) where
 go:=λi H hi _=>by
  have:i < x.cps.size:=by simpa [VS] using hi
  exact this
 yld:=λi Fi H v H' d e s1 s2 y=>by
  obtain ⟨rfl,c,h1,rfl⟩:=y
  have e:d=.str ⟨#[c]⟩:=by
   unfold VS at e
   rw [aG] at e
   have h1:x.cps.toList[i]?=g6 c:=by simpa using h1
   rw [h1] at e
   exact (aU.inj e).symm
  subst e
  exact ⟨Fi,.refl,s2,.str (Yx c)⟩
 stop:=λi H hi _=>by
  have:x.cps.size<=i:=by simpa [VS] using hi
  exact this
noncomputable def jI:D->Out (List D)
 | .lst xs=>.ok xs
 | .tup xs=>.ok xs
 | .str x=>.ok (VS x)
 | _=>.bad
noncomputable def jY (f:Sl->Out (D×Sl)):Sl->Out (List D×Sl):=λρ=>(f ρ).bind λp=>(jI p.1).bind λds=>.ok (ds,p.2)
section
theorem qgw {l:Expr} {tl:TE} (hl:PE X l tl):PI X tg l (λσ H R=>tl σ H λx H1=>(∃ a,x=.ref a/\(((∃ xs,SqL X.K H1 a xs)/\R (Itl X.K a) H1)\/((∃ xs,SqT X.K H1 a xs)/\R (Itt X.K a) H1)))\/∃ z,x=.str z/\R (Its z) H1):=by
 refine ⟨?_⟩
 intro pins s σ H R I h
 refine thn (hl pins s σ H _ I h) λv s1 ⟨x,H1,I1,r1,q1⟩=>?_
 have fp:∀ b∈[s1.heap.objs.size],WM X pins H1 b:=λb hb=>by
  have e:b=s1.heap.objs.size:=by simpa using hb
  subst e
  exact I1.fpOk (ax _) (I1.hok.fresh (ax _))
 rcases q1 with ⟨a,rfl,q⟩ | ⟨z,rfl,q⟩
 ·cases r1
  rcases q with ⟨⟨xs,hq⟩,q⟩ | ⟨⟨xs,hq⟩,q⟩
  ·obtain ⟨its,rv,p,hz⟩:=I1.list hq
   refine iT p.isList ?_
   exact ⟨s1.heap.objs.size,[s1.heap.objs.size],_,_,H1,rfl,I1.kept (t':=s1.toks) λb o e=>ac _ e,Zz a _,⟨_,ak _ rfl,rfl,rfl⟩,fp,q⟩
  ·obtain ⟨its,rv,p,hz⟩:=I1.tuple hq
   refine iG (show s1.heap.IsTuple a its.toArray from p) ?_
   exact ⟨s1.heap.objs.size,[s1.heap.objs.size],_,_,H1,rfl,I1.kept (t':=s1.toks) λb o e=>ac _ e,XA a _,⟨_,ak _ rfl,rfl,rfl⟩,fp,q⟩
 ·obtain ⟨t,rfl⟩:=r1
  cases ha:z.cps.all (· < 128) with
  | true=>
   refine wpAny_pyIter_ascii ha ?_
   exact ⟨s1.heap.objs.size,[s1.heap.objs.size],_,_,H1,rfl,I1.kept (t':=s1.toks) λb o e=>ac _ e,YF _ z t "str_ascii_iterator" 'c' (λA hA=>Walks.strAscii hA _ z t) (λA i s Q E st h=>wpAny_pyIter_striter_ascii st h),⟨⟨_,ak _ rfl,rfl,rfl⟩,bp _⟩,fp,q⟩
  | false=>
   refine wpAny_pyIter_wide ha ?_
   exact ⟨s1.heap.objs.size,[s1.heap.objs.size],_,_,H1,rfl,I1.kept (t':=s1.toks) λb o e=>ac _ e,YF _ z t "str_iterator" 'c' (λA hA=>Walks.strWide hA _ z t) (λA i s Q E st h=>wpAny_pyIter_striter_wide st h),⟨⟨_,ak _ rfl,rfl,rfl⟩,bp _⟩,fp,q⟩
theorem qS (hK:C.K=X.K) (h:PE X e (tE C own m f)) (hm:m≠.any:=by decide):PI X tg e (tIt C own (jY f)):=by
 refine Gg (qgw (yT h hm)) λσ H R ⟨F,ρ,rp,h⟩=>⟨F,ρ,rp,PoI.bindV h λv F1 H1 d ρ1 rp1 c1 mo1 h1=>?_⟩
 have mo1:Is C.K F1 v d:=mo1
 cases mo1 with
 | lst p t=>exact .inl ⟨_,rfl,.inl ⟨⟨_,by rw [<-hK]; exact rp1.sub.seq p⟩,by rw [<-hK]; exact h1 _ F1 H1 rp1 c1 (qgo p t)⟩⟩
 | tup p t=>exact .inl ⟨_,rfl,.inr ⟨⟨_,by rw [<-hK]; exact qN rp1.sub p⟩,by rw [<-hK]; exact h1 _ F1 H1 rp1 c1 (qgp p t)⟩⟩
 | str hz=>exact .inr ⟨_,rfl,h1 _ F1 H1 rp1 c1 qgv⟩
 | _=>exact h1.elim
end
end L2.D2
namespace L2.D2
open PySem PySem.Spec PySem.Calls PyProof.Rows PySem.W Builtin Builtin.ObjectAttr Builtin.Getset_descriptor
noncomputable def xcB (K:Frag) (C:Addr):Bool:=decide (subIn K (.ref C) (.type "BaseException")=g6 hZ)&&decide (findIn K (.ref C) "__getattribute__"=g6 (g6 (.builtin "BaseException.__getattribute__")))&&decide (findIn K (.ref C) "__getattr__"=g6 g7) &&
 decide (findIn K (.ref C) "__class__"=g6 (g6 (.builtin "object.__class__")))&&decide (mroIn K C (.type "object")=g6 hZ)&&(clsIn K C).isSome
end L2.D2
namespace L2.D2
open PySem PySem.Spec PyProof.Rows
variable {P:h8} {w:ib} {K:Frag} {N:List Str} {A:ii} {C:Ct}
theorem gM {mg:Str->Option g9} {base:Heap} {qual:Str} {scope:i7} {f:Addr} {cd:g9} {outer:List Env} {s0:hV} {H0:Hp} {E:XK} (h:C.E=E):Gm (cxk P w K mg base N qual scope f cd A outer s0 H0 E) C:=by
 subst h
 exact qgs
noncomputable def qgx (ca:Str->Addr) (cs:List Str) (c:Str):Option Addr:=if c∈cs then g6 (ca c) else g7
noncomputable def qi4 (ca:Str->Addr) (cs:List Str) (x:Str) (C:Addr):Option Bool:=if C∈cs.map ca then g6 (decide (C=ca x)) else g7
structure Xs (K:Frag) (cv:Str->g9) (ca:Str->Addr) (cs:List Str) (top:Str):Prop where
 val:∀ c∈cs,cv c=.ref (ca c)
 own:∀ c∈cs,bS K (.ref (ca c)) (cv top)=g6 hZ
 cls:∀ c∈cs,xcB K (ca c)=hZ
 kit:∀ c∈cs,∀ d∈cs,cw K (.ref (ca c)) (.ref (ca d))=g6 (decide (ca c=ca d))
 ve:∀ c∈cs,cw K (.ref (ca c)) (.type "ValueError")=g6 hZ
variable {x:Str}
section
variable {cv:Str->g9} {ca:Str->Addr} {cs:List Str} {top:Str}
theorem Xs.hit (z:Xs K cv ca cs top):∀ c Cc,qgx ca cs c=g6 Cc->cv c=.ref Cc/\bS K (.ref Cc) (cv top)=g6 true:=λc Cc h=>by
 unfold qgx at h
 split at h
 ·cases h
  exact ⟨z.val c (by assumption),z.own c (by assumption)⟩
 ·cases h
theorem Xs.ans (z:Xs K cv ca cs top) (hx:x∈cs):∀ Cc b,qi4 ca cs x Cc=g6 b->xcB K Cc=hZ/\cw K (.ref Cc) (.ref (ca x))=g6 b:=λCc b h=>by
 unfold qi4 at h
 split at h
 ·rename_i hm
  obtain ⟨c,hc,rfl⟩:=ai.mp hm
  cases h
  exact ⟨z.cls c hc,z.kit c hc x hx⟩
 ·cases h
end
variable {E:g9->hV->Prop} {prog:h8} {s:hV} {a it:Addr} {o:Obj} {items:Array g9}
section
theorem XR:typeLookup (.type "tuple") "keys"=pure none:=by rw [iQ,iC]; kernel_rfl
theorem QY {xs:Array g9} {k:Nat} {Q:Option g9->hV->Prop} (hh:A.handled=g7) (hx:s.heap.get? a=g6 o) (hc:o.cls=.type "tuple") (hdat:o.data=.seq xs k) (hd:o.dict=g7)
  (h:∀ h' tk,(∀ b ob,s.heap.get? b=g6 ob->h'.get? b=g6 ob)->Q g7 { s with heap:=h',toks:=tk }):wpAny 'g' A (getAttr? (.ref a) "keys") Q E s:=by
 obtain ⟨c,dct,dat,sl⟩:=o
 simp only at hc hdat hd
 subst hc hdat hd
 obtain ⟨hp,g,d,tk,os⟩:=s
 have hT:∀ tk',(⟨hp,g,d,tk',os⟩:hV).TypeIs (.ref a) "tuple":=λ_=>⟨_,hx,rfl⟩
 have f1:=sub_AttributeError
 have f3:=dG.lookup
 have f4:=dG.bind (.ref a)
 have f5:=am_tuple_getattr_none
 have f6:=XR
 have hnm:(["__module__", "__name__", "__qualname__", "__doc__", "__annotations__"]:List Str).contains ("keys":Str)=false:=by decide +kernel
 have hsz:("keys":Str).length+100<=sizeLine:=by rw [ij]; decide +kernel
 unfold getAttr? getAttrBy?
 refine g8 (wpAny_mkText (g8 (iY ?_)))
 unfold getAttrBy
 repeat (any_goals (first | assumption | exact hT _ | ((with_reducible show wpAny _ _ (call (Value.builtin "tuple.__getattribute__") _ _) _ _ _); refine k6 dG (hT _) am_entry_tuple_getattribute (F.args_tuple_getattribute_2 _ _) (meets_getattribute_miss_tuple a xs k sl "keys" _ f6 hnm hsz) ⟨hx,hh,λh' tk' e hx'=>?_⟩) | wp_step))
 obtain ⟨t',u',he⟩:=hx'.there
 show wpAny _ _ (getattributeRaised _ _ _ _ _ _ _) _ _ _
 unfold getattributeRaised
 repeat (any_goals (first | assumption | wp_step))
 exact h h' tk' hx'.keeps
theorem vS:entryFor table "dict.update.loop"=g6 Builtin.«dict.update.loop»:=entryFor_of_tree (by kernel_rfl)
theorem jm:plainId "dict.update.loop"=true:=by decide +kernel
def VT (h:Heap) (v key val:g9):Prop:=∃ p o n,v=.ref p/\h.get? p=g6 o/\o.cls=.type "tuple"/\o.data=.seq #[key,val] n
theorem qbX {R:k8->hV->Prop} {d t:Addr} (hh:A.in1.handled=g7) (hdt:d≠t) (hdi:d≠it) (hti:t≠it):∀ (n i:Nat) (s:hV) (kvs:List (Key×g9)) (ps:List (Key×g9×g9)),items.size - i=n->i<=items.size ->
  s.heap.IsTupleIter it t i->s.heap.IsTuple t items->s.heap.DictOf (qT prog w) d kvs->ps.length=n->(∀ j p,ps[j]?=g6 p->∃ v,items[i+j]?=g6 v/\ze p.1 p.2.1=hZ/\VT s.heap v p.2.1 p.2.2)->kvs.length+n<=sizeLine ->
  (∀ h' tk,h'.DictOf (qT prog w) d (ps.foldl (λl p=>stored l p.1 p.2.2) kvs)->(∀ b o,b≠d->b≠it->s.heap.get? b=g6 o->h'.get? b=g6 o)->R (.ok (.ret .none)) { s with heap:=h',toks:=tk }) ->
  codeAny 'g' A (.builtin "dict.update.loop" ⟨[.ref d,.ref it,rawInt i,.none],[]⟩) R s:=by
 intro n
 induction n with
 | zero=>
  intro i s kvs ps hn hi st ht hd hl hp hz hR
  have e:ps=[]:=dW.mp hl
  subst e
  refine ic vS ?_
  rw [aN jm _]
  show wpAny _ A.in1 (pyNext (.ref it) >>= _) _ _ s
  refine g8 (wpAny_pyNext_tuple_end hh st ht (by simp; omega) λh' eb=>?_)
  show wpAny _ A.in1 (ret cq) _ _ _
  refine h7 (hR h' s.toks ?_ λb o _ h2 e=>eb b o h2 e)
  obtain ⟨o,es,ep,ho,r⟩:=hd
  exact ⟨o,es,ep,eb d o hdi ho,r⟩
 | succ n ih=>
  intro i s kvs ps hn hi st ht hd hl hp hz hR
  cases ps with
  | nil=>simp at hl
  | cons p ps=>
   obtain ⟨v,hv,hk,q,oq,nq,rfl,hq,hqc,hqd⟩:=hp 0 p rfl
   obtain ⟨od,es,ep,hod,hdx,hrest⟩:=id hd
   have nqd:q≠d:=λz=>by
    subst z
    rw [hq] at hod; cases hod
    rw [hrest.1] at hqd; cases hqd
   obtain ⟨oi,hoi,hic,hid⟩:=id st
   have nqi:q≠it:=λz=>by
    subst z
    rw [hq] at hoi; cases hoi
    rw [hid] at hqd; cases hqd
   refine ic vS ?_
   rw [aN jm _]
   show wpAny _ A.in1 (pyNext (.ref it) >>= _) _ _ s
   refine g8 (wpAny_pyNext_tuple_item st ht (x:=.ref q) (by simpa using hv) λh' st' sb=>?_)
   have hq':h'.get? q=g6 oq:=(sb.2 q nqi).trans hq
   have hTq:eJ { s with heap:=h' } (.ref q) "tuple":=⟨oq,hq',hqc⟩
   have hd':h'.DictOf (qT prog w) d kvs:=by
    obtain ⟨o,es,ep,ho,r⟩:=hd
    exact ⟨o,es,ep,(sb.2 d hdi).trans ho,r⟩
   have ht':h'.IsTuple t items:=by
    obtain ⟨o,ho,r⟩:=ht
    exact ⟨o,(sb.2 t hti).trans ho,r⟩
   dsimp only
   refine g8 (ig (g8 ?_))
   refine iW ?_
   unfold Builtin.Dict.pairItems
   refine g8 (iF hTq ?_)
   rw [if_pos 'c']
   refine g8 (iA hq' hqd (h7 ?_))
   show wpAny _ A.in1 (holding [p.2.1,p.2.2] (dictSet d p.2.1 p.2.2)) _ _ _
   refine ig (wpAny_dictSet_pairs (knd:=qT prog w) hk hd' (λh2 hd2 sb2=>?_) 'a')
   have keep:∀ b o,b≠d->b≠it->s.heap.get? b=g6 o->h2.get? b=g6 o:=λb o n1 n2 e=>(sb2.2 b n1).trans ((sb.2 b n2).trans e)
   have hlen:(stored kvs p.1 p.2.2).length<=kvs.length+1:=by
    unfold stored
    split <;> simp
   refine h7 ⟨ip jm _,?_⟩
   have ec:rawInt ((i:Int)+1)=rawInt ((i+1:Nat):Int):=by push_cast; rfl
   rw [ec]
   refine ih (i+1) _ (stored kvs p.1 p.2.2) ps 'a' 'a' ?_ ?_ hd2 (by simpa using hl) (λj p' e=>?_) 'a' λh3 tk hd3 k3=>?_
   ·obtain ⟨o,e,r⟩:=st'
    exact ⟨o,(sb2.2 it (bf hdi)).trans e,r⟩
   ·obtain ⟨o,e,r⟩:=ht'
    exact ⟨o,(sb2.2 t (bf hdt)).trans e,r⟩
   ·obtain ⟨v',hv',hk',q',oq',nq',rfl,hq2,hqc2,hqd2⟩:=hp (j+1) p' (by simpa using e)
    refine ⟨.ref q',by rw [show i+1+j=i+(j+1) by omega]; exact hv',hk',q',oq',nq',rfl,keep q' oq' (λz=>?_) (λz=>?_) hq2,hqc2,hqd2⟩
    ·subst z
     rw [hq2] at hod; cases hod
     rw [hrest.1] at hqd2; cases hqd2
    ·subst z
     rw [hq2] at hoi; cases hoi
     rw [hid] at hqd2; cases hqd2
   ·exact hR h3 tk hd3 λb o n1 n2 e=>k3 b o n1 n2 (keep b o n1 n2 e)
theorem gN {t:Addr} {ps:List (Key×g9×g9)} {Q:g9->hV->Prop} (hh:A.handled=g7) {ot:Obj} {nt:Nat} (hot:s.heap.get? t=g6 ot) (hotc:ot.cls=.type "tuple") (hotd:ot.dict=g7) (hots:ot.data=.seq items nt)
  (hl:ps.length=items.size) (hp:∀ (j:Nat) (p:Key×g9×g9),ps[j]?=g6 p->∃ v,items[j]?=g6 v/\ze p.1 p.2.1=hZ/\VT s.heap v p.2.1 p.2.2) (hz:items.size<=sizeLine)
  (h:∀ h' tk,h'.DictOf (qT prog w) s.heap.objs.size (ps.foldl (λl p=>stored l p.1 p.2.2) [])->(∀ b o,s.heap.get? b=g6 o->h'.get? b=g6 o)->Q 'o' { s with heap:=h',toks:=tk }) :
  wpAny 'g' A (call (.type "dict") [.ref t]) Q E s:=by
 refine callType_codes (Q₁:=λobj s₁=>obj=.ref s.heap.objs.size/\s₁={ s with heap:=s.heap.push { cls:=.type "dict",data:=.dict #[] } }) F.kt_called_dict (F.kt_typeCall_dict_1 _) F.entry_dict_init (kt_code_dict_new _ ⟨rfl,rfl⟩) ?_
 rintro obj s₁ ⟨rfl,rfl⟩
 have hnew:(s.heap.push { cls:=.type "dict",data:=.dict #[] }).DictOf (qT prog w) s.heap.objs.size []:=fG s.heap
 refine ⟨hnew.typeIs,F.args_dict_init_2 _ _,?_⟩
 unfold Builtin.«dict.__init__»
 refine g8 ?_
 unfold Builtin.Dict.selfAndRest
 refine g8 (wpAny_notOrdered_dict hnew.typeIs ?_)
 show wpAny _ _ (pure (s.heap.objs.size,[cf t])) _ _ _
 refine h7 ?_
 show wpAny _ _ (c7 "dict.__init__" s.heap.objs.size (.ref t) [] .none) _ _ _
 unfold c7
 have hot':(s.heap.push { cls:=.type "dict",data:=.dict #[] }).get? t=g6 ot:=ac _ hot
 have hlt:t < s.heap.objs.size:=aq hot
 refine g8 (iF (T := "tuple") ⟨ot,hot',hotc⟩ ?_)
 rw [if_pos 'c']
 refine g8 (QY (by exact hh) hot' hotc hots hotd λh1 tk1 k1=>?_)
 rw [if_pos (show (g7:Option g9).isNone=hZ from rfl)]
 refine g8 (iV ?_)
 have ht1:h1.get? t=g6 ot:=k1 _ _ hot'
 have hd1:h1.DictOf (qT prog w) s.heap.objs.size []:=by
  obtain ⟨o,es,ep,ho,r⟩:=hnew
  exact ⟨o,es,ep,k1 _ _ ho,r⟩
 have htup:h1.IsTuple t items:=⟨ot,ht1,hotc,nt,hots⟩
 refine g8 (iG (s:={ s with heap:=h1,toks:=tk1 }) htup ?_)
 have hs1:s.heap.objs.size < h1.objs.size:=let ⟨o,es,ep,ho,r⟩:=hd1; aq ho
 have up:∀ b o,s.heap.get? b=g6 o->(h1.push { cls:=.type "tuple_iterator",data:=.fields #[.ref t,.int 0 0] }).get? b=g6 o:=λb o e=>ac _ (k1 _ _ (ac _ e))
 refine h7 ⟨ip jm _,?_⟩
 refine qbX (items:=items) (t:=t) (A:=A.in1) (show A.in1.in1.handled=g7 from hh) (cr hlt) (aB hs1) (aB (dh hlt hs1)) items.size 0 _ [] ps 'a' (bp _) ⟨_,ak _ rfl,rfl,rfl⟩ ?_ ?_ hl (λj p e=>?_) (by simpa using hz) λh2 tk2 hd2 k2=>⟨rfl,h h2 tk2 hd2 λb o e=>?_⟩
 ·exact ⟨ot,ac _ ht1,hotc,nt,hots⟩
 ·obtain ⟨o,es,ep,ho,r⟩:=hd1
  exact ⟨o,es,ep,ac _ ho,r⟩
 ·obtain ⟨v,hv,hk,q,oq,nq,rfl,hq,r⟩:=hp j p e
  exact ⟨.ref q,by simpa using hv,hk,q,oq,nq,rfl,up q oq hq,r⟩
 ·have hb:=aq e
  exact k2 b o (aB hb) (aB (dh hb hs1)) (up b o e)
end
noncomputable def JX:D->Option Key
 | .int i=>g6 (.inl i)
 | .str x=>g6 (.inr x)
 | _=>g7
noncomputable def WO (kvs:List (Key×D)) (k:Key) (d:D):List (Key×D):=if kvs.any (λp=>decide (p.1=k)) then kvs.map λp=>if p.1=k then (p.1,d) else p else kvs++[(k,d)]
noncomputable def qbY:D->Option (Key×D)
 | .tup [k,v]=>(JX k).map λk=>(k,v)
 | _=>g7
noncomputable def yK:List D->Option (List (Key×D))
 | []=>g6 []
 | d::ds=>match qbY d,yK ds with
  | some p,g6 ps=>g6 (p::ps)
  | _,_=>g7
noncomputable def Gv:D->Out D
 | .tup ds=>match yK ds with
  | some ps=>.ok (.dct (ps.foldl (λl p=>WO l p.1 p.2) []))
  | none=>.bad
 | _=>.bad
variable {F:Hp}
theorem IsK.any {k:Key}:∀ {kv:List (Key×V)} {ks:List (Key×D)},IsK K F kv ks->(kv.any λp=>decide (p.1=k))=(ks.any λp=>decide (p.1=k))
 | _,_,.nil=>rfl
 | _,_,.cons h t=>by rw [cG,cG,IsK.any t]
variable {d:D} {v:V}
theorem IsK.repl {k:Key} (i:Is K F v d):∀ {kv:List (Key×V)} {ks:List (Key×D)},IsK K F kv ks->IsK K F (kv.map λp=>if p.1=k then (p.1,v) else p) (ks.map λp=>if p.1=k then (p.1,d) else p)
 | _,_,.nil=>.nil
 | _,_,.cons (k:=k') h t=>by
  rw [aD,aD]
  by_cases e:k'=k
  ·simp only [e,if_true]; exact .cons i (IsK.repl i t)
  ·simp only [e,if_false]; exact .cons h (IsK.repl i t)
theorem IsK.snoc {k:Key} (i:Is K F v d):∀ {kv:List (Key×V)} {ks:List (Key×D)},IsK K F kv ks->IsK K F (kv++[(k,v)]) (ks++[(k,d)])
 | _,_,.nil=>.cons i .nil
 | _,_,.cons h t=>.cons h (IsK.snoc i t)
variable {kv:List (Key×V)}
theorem IsK.put {k:Key} {ks:List (Key×D)} (h:IsK K F kv ks) (i:Is K F v d):IsK K F (zR kv k v) (WO ks k d):=by
 unfold zR WO
 rw [h.any]
 by_cases e:(ks.any λp=>decide (p.1=k))=hZ
 ·rw [if_pos e,if_pos e]; exact IsK.repl i h
 ·rw [if_neg e,if_neg e]; exact IsK.snoc i h
theorem JY:∀ {pv:List (Key×V)} {ps:List (Key×D)} {kv:List (Key×V)} {ks:List (Key×D)},IsK K F pv ps->IsK K F kv ks->IsK K F (pv.foldl (λl p=>zR l p.1 p.2) kv) (ps.foldl (λl p=>WO l p.1 p.2) ks)
 | _,_,_,_,.nil,h=>h
 | _,_,_,_,.cons i t,h=>by
  rw [cg,cg]
  exact JY t (h.put i)
def qi5 (p:Key×V) (q:Key×g9×g9):Prop:=p.1=q.1/\RelV p.2 q.2.2
theorem Ug:∀ {pv:List (Key×V)} {tr:List (Key×g9×g9)} {kv:List (Key×V)} {vs:List (Key×g9)},lb qi5 pv tr->KV kv vs->KV (pv.foldl (λl p=>zR l p.1 p.2) kv) (tr.foldl (λl p=>stored l p.1 p.2.2) vs)
 | _,_,_,_,.nil,h=>h
 | _,_,_,_,.cons r t,h=>by
  rw [cg,cg]
  refine Ug t ?_
  rw [r.1]
  exact h.put _ r.2
theorem JZ:∀ {pv:List (Key×V)} {kv:List (Key×V)},(pv.foldl (λl p=>zR l p.1 p.2) kv).length<=kv.length+pv.length
 | [],kv=>ax _
 | p::pv,kv=>by
  have h1:=@JZ pv (zR kv p.1 p.2)
  have h2:=yS kv p.1 p.2
  rw [cg,ap]
  omega
variable {X:Cx} {pins:List (Addr×Obj)} {σ:St} {H:Hp} {u:g9}
section
theorem zC {k:Key} (i:Is C.K F v d) (r:RelV v u) (e:JX d=g6 k):ze k u=true:=by
 cases d with
 | int z=>cases i; cases e; obtain ⟨t,rfl⟩:=r; exact Vi z t
 | str z=>cases i; cases e; obtain ⟨t,rfl⟩:=r; exact Vj z t
 | _=>cases e
theorem Ka (hK:C.K=X.K) (I:Inv X pins σ H s) (sb:Same F H):∀ {vs:List V} {us:List g9} {ds:List D} {ps:List (Key×D)},IsL C.K F vs ds->Vals vs us->yK ds=g6 ps ->
  ∃ (pv:List (Key×V)) (tr:List (Key×g9×g9)),IsK C.K F pv ps/\lb qi5 pv tr/\tr.length=us.length/\pv.length=us.length/\∀ (j:Nat) (p:Key×g9×g9),tr[j]?=g6 p->∃ v,us[j]?=g6 v/\ze p.1 p.2.1=hZ/\VT s.heap v p.2.1 p.2.2
 | _,_,_,_,.nil,.nil,e=>by cases e; exact ⟨[],[],.nil,.nil,rfl,rfl,λj p e=>by simp at e⟩
 | _,_,_,_,.cons (d:=d) (ds:=ds) i t,.cons (b:=u) r rs,e=>by
  unfold yK at e
  cases q1:qbY d with
  | none=>rw [q1] at e; cases e
  | some kd=>
   cases q2:yK ds with
   | none=>rw [q1,q2] at e; cases e
   | some rest=>
    rw [q1,q2] at e
    cases e
    obtain ⟨pv,tr,h1,h2,h3,h3',h4⟩:=Ka hK I sb t rs q2
    unfold qbY at q1
    split at q1
    ·rename_i dk dv
     obtain ⟨k,hk,rfl⟩:=aZ.mp q1
     cases i with
     | @tup a xs _ hq il=>
      cases il with
      | @cons xk _ xr _ ik il2=>
       cases il2 with
       | @cons xv _ xr2 _ iv il3=>
        cases il3
        cases r
        obtain ⟨its,rv,⟨o,ho,hc,n,hd⟩,_⟩:=I.tuple (show SqT X.K H a [xk,xv] by rw [<-hK]; exact qN sb hq)
        cases rv with
        | @cons _ uk _ _ rk rv2=>
         cases rv2 with
         | @cons _ uv _ _ rv3 rv4=>
          cases rv4
          refine ⟨(k,xv)::pv,(k,uk,uv)::tr,.cons iv h1,.cons ⟨rfl,rv3⟩ h2,by simp [h3],by simp [h3'],λj p e=>?_⟩
          cases j with
          | zero=>
           simp at e
           subst e
           exact ⟨_,rfl,zC ik rk hk,a,o,n,rfl,ho,hc,hd⟩
          | succ j=>simpa using h4 j p (by simpa using e)
    ·cases q1
theorem qev (hK:C.K=X.K) (hc:X.calm=hZ):QW X C .fr (.type "dict") Gv:=by
 intro pins s σ H xs us Q I r h
 obtain ⟨x,F,dx,rfl,sb,tx,po⟩:=h
 cases dx <;> try exact po.elim
 rename_i ds
 unfold Gv at po
 cases q:yK ds with
 | none=>simp only [q] at po; exact po.elim
 | some ps=>
  simp only [q] at po
  obtain ⟨a,vs,rfl,hq,t⟩:=tx.tup sb
  obtain ⟨u,rfl,ru⟩:=uw r
  cases ru
  have hq':SqT X.K H a vs:=by rw [<-hK]; exact hq
  obtain ⟨its,rv,⟨o,ho,hcl,n,hd⟩,hz⟩:=I.tuple hq'
  obtain ⟨o2,ho2,hdn⟩:=I.tupleN hq'
  rw [ho] at ho2; cases ho2
  obtain ⟨pv,tr,h1,h2,h3,h3',h4⟩:=Ka hK I sb t rv q
  have hlen:=rv.length
  refine gN (ps:=tr) (I.ok.hd hc) ho hcl hdn hd (by simp [h3]) (λj p e=>?_) (by simp; omega) λh' tk hd' kp=>?_
  ·obtain ⟨v,e1,e2⟩:=h4 j p e
   exact ⟨v,by simpa using e1,e2⟩
  ·have hp:H s.heap.objs.size=none:=I.hok.fresh (ax _)
   obtain ⟨s2,c2,hF⟩:=vz (u:=.dK (pv.foldl (λl p=>zR l p.1 p.2) [])) sb hp
   have hl:(pv.foldl (λl p=>zR l p.1 p.2) ([]:List (Key×V))).length<=sizeLine:=by
    have:=@JZ pv []
    simp at this
    omega
   have hsys:(s.heap.objs.size == sysModules)=false:=beq_eq_false_iff_ne.mpr (cr I.big)
   refine ⟨.ref s.heap.objs.size,_,I.laid (o:=.dK (pv.foldl (λl p=>zR l p.1 p.2) [])) (t':=tk) kp (ax _) (ZQ hl hsys (Ug h2 .nil) hd'),rfl,po _ F _ s2 c2 ⟨_,rfl,hp,hF,_,qp,JY h1 .nil⟩⟩
noncomputable def Gw (kvs:List (Key×D)) (k:Key):Bool:=kvs.any λp=>decide (p.1=k)
noncomputable def inA:D->D->Out D
 | x,.dct kvs=>match JX x with
  | some k=>.ok (.bl (Gw kvs k))
  | none=>.bad
 | x,y=>qhu x y
noncomputable def gf:D->D->Out D
 | x,.dct kvs=>match JX x with
  | some k=>.ok (.bl (!Gw kvs k))
  | none=>.bad
 | x,y=>XI x y
theorem YG {ks:List (Key×D)} {k:Key} (h:IsK K F kv ks):(WN kv k).isSome=Gw ks k:=by
 rw [<-JM,h.any]; rfl
theorem qhz {k:Key} (h:TopIs C.K F H v d) (e:JX d=g6 k):v=kV k:=by
 cases d with
 | int z=>cases e; exact h.int
 | str z=>cases e; exact h.str.1
 | _=>cases e
theorem qda (hK:C.K=X.K) (hu:X.A.units+64 < cLine):OpD X C .sh (compareOp .In) inA:=by
 sleep 2
 obtain ⟨F,dx,dy,sb,tx,ty,po⟩:=h
 by_cases hd:∃ kvs,dy=.dct kvs
 ·obtain ⟨kvs,rfl⟩:=hd
  cases q:JX dx with
  | none=>unfold inA at po; simp only [q] at po; exact po.elim
  | some k=>
   unfold inA at po
   simp only [q] at po
   obtain ⟨a,kv,rfl,hH,ik⟩:=ty.dct sb
   cases ry
   have ex:=qhz tx q
   subst ex
   refine qjD 'a' I (DGet.k (k:=k) hH) rx λs' I'=>⟨.bl _,H,I',rfl,?_⟩
   rw [YG ik]
   exact po _ F H sb .refl (.bl _)
 ·have e:inA dx dy=qhu dx dy:=by
   cases dy <;> first | rfl | exact absurd ⟨_,rfl⟩ hd
  rw [e] at po
  exact qih hK hu pins s σ H x y v u Q I rx ry ⟨F,dx,dy,sb,tx,ty,po⟩
theorem wF (hK:C.K=X.K) (hu:X.A.units+64 < cLine):OpD X C .sh (compareOp .NotIn) gf:=by
 sleep 2
 obtain ⟨F,dx,dy,sb,tx,ty,po⟩:=h
 by_cases hd:∃ kvs,dy=.dct kvs
 ·obtain ⟨kvs,rfl⟩:=hd
  cases q:JX dx with
  | none=>unfold gf at po; simp only [q] at po; exact po.elim
  | some k=>
   unfold gf at po
   simp only [q] at po
   obtain ⟨a,kv,rfl,hH,ik⟩:=ty.dct sb
   cases ry
   have ex:=qhz tx q
   subst ex
   refine qd3 'a' I (DGet.k (k:=k) hH) rx λs' I'=>⟨.bl _,H,I',rfl,?_⟩
   rw [YG ik]
   exact po _ F H sb .refl (.bl _)
 ·have e:gf dx dy=XI dx dy:=by
   cases dy <;> first | rfl | exact absurd ⟨_,rfl⟩ hd
  rw [e] at po
  exact qbI hK hu pins s σ H x y v u Q I rx ry ⟨F,dx,dy,sb,tx,ty,po⟩
end
theorem qew (t:ir) (es:Array (Int×g9)) (h:Int) (x:g9):(layNew t es h x).2.1.led=t.led:=by
 unfold layNew
 cases t.freeSlot h with
 | none=>rfl
 | some p=>
  obtain ⟨sl,wd⟩:=p
  show (dQ (t.put sl).1 _).led=t.led
  unfold dQ
  split <;> rfl
theorem Gx {t:ir} (es:Array (Int×g9)) (h:Int) (x:g9) (e:t.plain=hJ):(layNew t es h x).2.1.plain=false:=by
 unfold layNew
 cases t.freeSlot h with
 | none=>rfl
 | some p=>
  obtain ⟨sl,wd⟩:=p
  show (dQ (t.put sl).1 _).plain=hJ
  unfold dQ
  split
  ·exact e
  ·rfl
theorem qex {m f v:Nat} {l p:Bool} {hs:Array Int} {t:ir} {o:Array Nat} (h:fQ m f v l p hs=g6 (t,o)):t.led=l/\t.plain=p:=by
 unfold fQ at h
 cases e:SetTable.layClean m hs with
 | none=>
  rw [e] at h
  cases h
 | some ow=>
  rw [e] at h
  have h2:=congrArg Prod.fst (aU.inj h)
  subst h2
  exact ⟨rfl,rfl⟩
theorem Uh (t:ir) (es:Array (Int×g9)) (n:Nat):(relayAll t es n).2.1.led=t.led/\(t.plain=hJ->(relayAll t es n).2.1.plain=hJ):=by
 unfold relayAll
 cases e:t.relaid (es.map (·.1)) n with
 | none=>exact ⟨rfl,λ_=>rfl⟩
 | some q=>
  obtain ⟨t',o⟩:=q
  have hk:=qex (show fQ _ _ _ _ _ _=g6 (t',o) from e)
  dsimp only
  split
  ·exact ⟨hk.1,λz=>hk.2.trans z⟩
  ·exact ⟨rfl,λ_=>rfl⟩
noncomputable def kX (ks:List Str) (x:Str):List Str:=if x∈ks then ks else ks++[x]
noncomputable def kr (es:Array (Int×g9)) (ep:Nat) (t:ir):Obj:={ cls:=.type "set",dict:=g7,data:=.set es ep t,slots:=#[] }
structure SetD (prog:h8) (w:ib) (es:Array (Int×g9)) (t:ir) (ks:List Str):Prop where
 el:ElemsOf (bj prog w) es.toList
 perm:(es.toList.map λe=>strOf e.2).Perm ks
 nd:ks.Nodup
 bd:es.size < scanBound
 fits:t.fits es.size=hZ
 led:t.led=!(w.params.followText "set-order")
 plain:ks≠[]->t.plain=hJ
def SetS (prog:h8) (w:ib) (h:Heap) (a:Addr) (ks:List Str):Prop:=∃ es ep t,h.get? a=g6 (kr es ep t)/\SetD prog w es t ks
variable {ks:List Str} {y:Str} {es:Array (Int×g9)} {h:Heap} {ep:Nat}
section
theorem Gy {l:List (Int×g9)} (h:ElemsOf (bj prog w) l) {e:Int×g9} (he:e∈l):∃ x t,e.2=.str x t:=by
 obtain ⟨⟨k,hk,_⟩,_⟩:=h e he
 obtain ⟨t,ht⟩:=Value.isStrOf_shape hk
 exact ⟨k,t,ht⟩
theorem isS {t:Tok}:(bj prog w).is x (.str y t)=decide (x=y):=by
 have h:(bj prog w).is y (.str y t)=true:=by
  show fk y (.str y t)=hZ
  simp [fk]
 exact KeyKind.is_eq_decide h x
theorem SetD.mem {t:ir} (h:SetD prog w es t ks):x∈ks↔∃ e∈es.toList,(bj prog w).is x e.2=true:=by
 rw [<-h.perm.mem_iff,ai]
 constructor
 ·rintro ⟨e,he,z⟩
  obtain ⟨y,t,hy⟩:=Gy h.el he
  refine ⟨e,he,?_⟩
  rw [hy] at z ⊢
  rw [isS]
  exact decide_eq_true z.symm
 ·rintro ⟨e,he,z⟩
  obtain ⟨y,t,hy⟩:=Gy h.el he
  refine ⟨e,he,?_⟩
  rw [hy] at z ⊢
  rw [isS] at z
  exact (of_decide_eq_true z).symm
theorem SetD.size {t:ir} (h:SetD prog w es t ks):es.size=ks.length:=by
 have e:=h.perm.length_eq
 simpa using e
theorem qdb {es':Array (Int×g9)} {t t':ir} (ho:h.get? a=g6 (kr es ep t)):(h.update a (fU es' t')).get? a=g6 (kr es' (ep+1) t'):=by
 have e:=aQ (fU es' t') ho (by rw [putSet_of (o:=kr es ep t) es' t' rfl]; rfl)
 rw [putSet_of (o:=kr es ep t) es' t' rfl] at e
 exact e
theorem SetD.more {es1:Array (Int×g9)} {t t1:ir} {tk:Tok} (h:SetD prog w es t ks) (nx:x∉ks) (hr:ks.length+1 < scanBound)
  (hp:es1.toList.Perm (es.toList++[((bj prog w).hash x,.str x tk)])) (hf:t1.fits es1.size=hZ) (hl:t1.led=t.led) (hq:t1.plain=hJ):SetD prog w es1 t1 (kX ks x):=by
 have ex:kX ks x=ks++[x]:=if_neg nx
 have hz:es1.size=ks.length+1:=by
  rw [<-bN,hp.length_eq,aj,bN,h.size]
  rfl
 rw [ex]
 refine ⟨(h.el.push (by rw [isS]; exact decide_eq_true rfl) rfl).perm hp,?_,?_,?_,hf,hl.trans h.led,λ_=>hq⟩
 ·refine (hp.map _).trans ?_
  rw [eO]
  exact h.perm.append (cM _)
 ·exact dA.mpr ⟨h.nd,by simp,λa ha b hb=>by rw [am.mp hb]; exact λz=>nx (z ▸ ha)⟩
 ·rw [hz]
  exact hr
theorem qey {x:Str} {tk:Tok} {Q:Bool->hV->Prop} (hS:SetS prog w s.heap a ks) (hr:ks.length+1 < scanBound)
  (h:∀ h' b,bT a s.heap h'->SetS prog w h' a (kX ks x)->Q b { s with heap:=h' }):wpAny 'g' A (setAddHashed a (.str x tk) ((bj prog w).hash x)) Q E s:=by
 obtain ⟨es,ep,t,ho,d⟩:=hS
 have hk:(bj prog w).is x (.str x tk)=true:=by rw [isS]; exact decide_eq_true rfl
 unfold setAddHashed setAddHashedIn
 refine ig (g8 (iB ho rfl d.fits ?_))
 dsimp only
 rw [byScan_of rfl d.bd d.el,if_pos rfl]
 unfold setAddByScan
 refine g8 (g8 (iV (g8 (wpAny_setScan_of hk ho rfl d.fits d.el ?_))))
 cases hq:es.toList.findIdx? (λe=>(bj prog w).is x e.2) with
 | some j=>
  obtain ⟨hj,hp,_⟩:=List.findIdx?_eq_some_iff_getElem.mp hq
  have hx:x∈ks:=d.mem.mpr ⟨_,bG hj,hp⟩
  have q:=h s.heap hJ (Heap.SameBut.refl a s.heap) ⟨es,ep,t,ho,by rw [show kX ks x=ks from if_pos hx]; exact d⟩
  dsimp only
  exact h7 (h7 q)
 | none=>
  have hx:x∉ks:=λz=>by
   obtain ⟨e,he,q⟩:=d.mem.mp z
   have:=List.findIdx?_eq_none_iff.mp hq e he
   rw [q] at this
   cases this
  dsimp only
  have hp:=layNew_perm t es ((bj prog w).hash x) (.str x tk)
  have hf:=layNew_fits t es ((bj prog w).hash x) (.str x tk)
  have hl:=qew t es ((bj prog w).hash x) (.str x tk)
  have hn:=λe=>Gx (t:=t) es ((bj prog w).hash x) (.str x tk) e
  generalize layNew t es ((bj prog w).hash x) (.str x tk)=L at hp hf hl hn ⊢
  obtain ⟨es1,t1,wd,gv⟩:=L
  dsimp only at hp hf hl hn ⊢
  rw [Array.toList_push] at hp
  have tail:∀ t2:ir,t2.fits es1.size=hZ->t2.led=t.led->t2.plain=hJ->wpAny 'g' A (do
    storeSet a es1 t2
    if (!wd&&t2.tooFull)=hZ then do
      (match (relayAll t2 es1 (c8 es1.size)).2.2 with | true=>rule "set.scan.the-table-gave-way" | false=>pure ())
      storeSet a (relayAll t2 es1 (c8 es1.size)).1 (relayAll t2 es1 (c8 es1.size)).2.1
      pure (g6 hZ)
     else pure (g6 hZ)) (λr s'=>∃ h',s'={ s with heap:=h' }/\r=g6 hZ/\bT a s.heap h'/\SetS prog w h' a (kX ks x)) E s:=by
   intro t2 f2 l2 p2
   have d2:=d.more hx hr hp f2 l2 p2
   refine g8 (wpAny_storeSet_of ho rfl ?_ (i4 d2.bd))
   have ho1:=qdb (es':=es1) (t':=t2) ho
   have sb:=bv s.heap a (fU es1 t2)
   split
   ·have rp:=relayAll_perm t2 es1 (c8 es1.size)
    have rf:=relayAll_fits t2 es1 (c8 es1.size)
    have rk:=Uh t2 es1 (c8 es1.size)
    generalize relayAll t2 es1 (c8 es1.size)=R at rp rf rk ⊢
    obtain ⟨es2,t3,g2⟩:=R
    dsimp only at rp rf rk ⊢
    have d3:=d.more hx hr (rp.trans hp) rf (rk.1.trans l2) (rk.2 p2)
    refine g8 ?_
    have go:wpAny 'g' A (storeSet a es2 t3 >>= λ_=>pure (g6 hZ)) (λr s'=>∃ h',s'={ s with heap:=h' }/\r=g6 hZ/\bT a s.heap h'/\SetS prog w h' a (kX ks x)) E { s with heap:=s.heap.update a (fU es1 t2) }:=
     g8 (wpAny_storeSet_of ho1 rfl (h7 ⟨_,rfl,rfl,sb.trans (bv _ a _),es2,_,t3,qdb ho1,d3⟩) (i4 d3.bd))
    cases g2
    ·exact h7 go
    ·exact iV go
   ·exact h7 ⟨_,rfl,rfl,sb,es1,_,t2,ho1,d2⟩
  have fin:∀ (r:Option Bool) (s':hV),(∃ h',s'={ s with heap:=h' }/\r=g6 hZ/\bT a s.heap h'/\SetS prog w h' a (kX ks x)) ->
    wpAny 'g' A (match r with | some added=>pure added | none=>setAddHashedIn a (.str x tk) ((bj prog w).hash x) 99999) Q E s':=by
   rintro r s' ⟨h',rfl,rfl,sb,hS⟩
   exact h7 (h h' hZ sb hS)
  have gw:∀ (b:Bool) {s₁:hV} {Q':Unit->hV->Prop},Q' () s₁->wpAny 'g' A (match b with | true=>rule "set.scan.the-table-gave-way" | false=>pure ()) Q' E s₁:=λb s₁ Q' q=>by
   cases b
   ·exact h7 q
   ·exact iV q
  refine g8 (gw _ ?_)
  cases e1:t1.plain with
  | true=>
   rw [if_pos rfl,hashByValue_scannable 8 (x:=.str x tk) rfl]
   refine g8 (h7 ?_)
   show wpAny _ _ (storeSet a es1 { t1 with plain:=hJ } >>= _) _ _ _
   exact iU (tail { t1 with plain:=hJ } (SetTable.fits_plain_off hf) hl rfl) fin λ_ _ z=>z
  | false=>
   rw [if_neg 'h']
   refine g8 (h7 ?_)
   show wpAny _ _ (storeSet a es1 t1 >>= _) _ _ _
   exact iU (tail t1 hf hl e1) fin λ_ _ z=>z
end
theorem qbZ (ks:List Str) (x:Str):(kX ks x).length<=ks.length+1:=by
 unfold kX
 split
 ·omega
 ·rw [aj]
  exact ax _
theorem uH:∀ (l ks:List Str),(l.foldl kX ks).length<=ks.length+l.length
 | [],ks=>ax _
 | x::l,ks=>by
  have h1:=uH l (kX ks x)
  have h2:=qbZ ks x
  rw [cg,ap]
  omega
variable {h':Heap}
theorem SetS.at (hS:SetS prog w h a ks) (k:∀ o,h.get? a=g6 o->h'.get? a=g6 o):SetS prog w h' a ks:=
 let ⟨es,ep,t,ho,d⟩:=hS; ⟨es,ep,t,k _ ho,d⟩
variable {n:Nat}
section
variable {R:k8->hV->Prop} {I:Addr} {fp wr:List Addr} {P:Nat->g9->Prop} {St:Nat->hV->Prop}
theorem YH {G:Array j8->Array j8->Prop} (W:WalksS prog w A.in1 I fp wr G n P St) (S:Addr) (hSf:S∉fp) (ss:List Str) (hn:ss.length=n) (hv:∀ i v,P i v->∃ x t,ss[i]?=g6 x/\v=.str x t) (hb:n+1 < scanBound) :
  ∀ (k i:Nat) (s:hV),n - i=k->i<=n->St i s->SetS prog w s.heap S ((ss.take i).foldl kX []) ->
   (∀ s',Moved (S::wr) G s s'->SetS prog w s'.heap S (ss.foldl kX [])->R (.ok (.ret .none)) s')->codeAny 'g' A (.builtin "set.update.loop" ⟨[.ref S,.ref I],[]⟩) R s:=by
 have nw:S∉wr:=λh=>hSf (W.sub _ h)
 have up:∀ b∈wr,b∈S::wr:=λb hb=>aa _ hb
 intro k
 induction k with
 | zero=>
  intro i s hk hi hst hS hR
  have hin:i=n:=by omega
  subst hin
  refine ic F.entry_set_update_loop ?_
  rw [aN dX _]; show wpAny _ A.in1 (pyNext (.ref I) >>= _) _ _ s
  refine g8 (W.done s _ _ hst λs' hm=>h7 (hR s' (hm.mono up) ?_))
  rw [List.take_of_length_le (eT hn)] at hS
  exact hS.at λo e=>hm.heap S o nw e
 | succ k ih=>
  intro i s hk hi hst hS hR
  have hlt:i < n:=by omega
  refine ic F.entry_set_update_loop ?_
  rw [aN dX _]; show wpAny _ A.in1 (pyNext (.ref I) >>= _) _ _ s
  refine g8 (W.item i s _ _ hlt hst λv s' hP hst' hm=>?_)
  obtain ⟨x,t,hx,rfl⟩:=hv i v hP
  have hS':SetS prog w s'.heap S ((ss.take i).foldl kX []):=hS.at λo e=>hm.heap S o nw e
  show wpAny _ A.in1 (holding [fy x t] (setAdd S (.str x t)) >>= _) _ _ s'
  refine g8 (ig ?_)
  unfold setAdd
  refine ig (g8 ((bj prog w).pyHash (k:=x) (by rw [isS]; exact decide_eq_true rfl) ?_))
  have hroom:((ss.take i).foldl kX []).length+1 < scanBound:=by
   have h1:=uH (ss.take i) []
   rw [List.length_take,bc] at h1
   omega
  refine qey (s:={ s' with toks:=s'.toks+1 }) hS' hroom λh' b sb hS2=>?_
  have e2:kX ((ss.take i).foldl kX []) x=(ss.take (i+1)).foldl kX []:=by
   rw [List.take_add_one,hx,fh]
   rfl
  rw [e2] at hS2
  refine h7 ⟨ip dX _,ih (i+1) _ 'a' hlt (W.frame _ s' _ _ hst' (e8 _) λb hb o e=>?_) hS2 λs'' hm'' hS''=>?_⟩
  ·rw [sb.2 b λz:b=S=>hSf (z ▸ hb)]
   exact e
  ·refine hR s'' (fL W.gtrans ((hm.mono up).then_heap (e8 _) λb o hb e=>?_) hm'') hS''
   rw [sb.2 b λz:b=S=>hb (z ▸ af)]
   exact e
end
variable {ss:List Str} {i:Nat}
section
abbrev qgy (w:ib):Obj:=kr #[] 0 (.fresh 0 0 (!(w.params.followText "set-order")))
theorem VU (e:h.get? a=g6 (qgy w)):SetS prog w h a []:=
 ⟨_,_,_,e,⟨λe he=>by simp at he,by simp,cx,by decide,by rfl,rfl,λz=>absurd rfl z⟩⟩
theorem qez (a:g9) {Q₁:g9->hV->Prop} (h:Q₁ 'o' { s with heap:=s.heap.push (qgy w) }) :
  codeAny 'g' A (.call (.builtin "set.__new__") ⟨[.type "set",a],[]⟩) (wants Q₁ E) s:=by
 refine codeAny_of_tree ?_; show wpAny _ A.in1 (do checkBuiltinCall "set.__new__" ⟨[.type "set",a],[]⟩; again (.builtin "set.__new__" ⟨[.type "set",a],[]⟩)) _ _ s
 refine g8 (j6 (PySem.F.newCall_set_1 a) (h7 ⟨ip PySem.F.plain_set_new _,ic PySem.F.entry_set_new ?_⟩)); rw [aN PySem.F.plain_set_new _]
 unfold Builtin.«set.__new__» Builtin.Frozenset.newClass; have hsub:=sub_set_self; obtain ⟨hp,g,d,tk,os⟩:=s; dsimp only; wp_walk
 refine iw (h7 ?_); dsimp only; simp only [newObj]
 exact g8 (wpAny_alloc (h7 (h7 h)))
theorem Ui:isSubtype (.type "tuple") (.type "set")=pure false:=by rw [iX]; kernel_rfl
theorem QZ:isSubtype (.type "tuple") (.type "frozenset")=pure false:=by rw [iX]; kernel_rfl
theorem Gz {vs:List g9} (h:i6 vs ss) {v:g9} (e:vs[i]?=g6 v):∃ x t,ss[i]?=g6 x/\v=.str x t:=by
 obtain ⟨y,t,e1,e2⟩:=h.item i v e
 exact ⟨y,t,e2,e1⟩
theorem qb0 {S l:Addr} {Q:Unit->hV->Prop} (hh:A.handled=g7) (hS:SetS prog w s.heap S []) (hl:s.heap.IsList l items) (hi:i6 items.toList ss) (hb:items.size+1 < scanBound) (hne:l≠S)
  (h:∀ h' tk,SetS prog w h' S (ss.foldl kX [])->(∀ b o,b≠S->s.heap.get? b=g6 o->h'.get? b=g6 o)->Q () { s with heap:=h',toks:=tk }) :
  wpAny 'g' A (bE "set.__init__" S (.ref l)) Q E s:=by
 have hT:s.TypeIs (.ref l) "list":=let ⟨o,e,c,_⟩:=hl; ⟨o,e,c⟩
 unfold bE
 refine g8 (m:=cN _) ?_
 unfold cN
 refine g8 (iE hT PySem.F.sub_list_set ?_)
 refine iE hT PySem.F.sub_list_frozenset ?_
 rw [if_neg 'c']
 refine g8 (iF hT ?_)
 rw [if_neg 'c']
 refine g8 (iT hl ?_)
 have hz:s.heap.objs.size≠S:=λz=>by
  obtain ⟨es,ep,t,ho,_⟩:=hS
  exact bQ _ (z ▸ aq ho)
 have hzl:l≠s.heap.objs.size:=by
  obtain ⟨o,e,_⟩:=hl
  exact aB (aq e)
 refine g8 (j4 (YH ((g5 (A:=A.in1) hh _ l hzl items).toS) S ?_ ss (by rw [<-hi.length]; simp) (λi v e=>Gz hi (by rw [bq]; exact e)) hb items.size 0 _ 'a' (bp _) ⟨⟨_,ak _ rfl,rfl,rfl⟩,hl.push _⟩ ?_ ?_))
 ·intro z
  rcases ae.mp z with z | z
  ·exact hz z.symm
  ·exact hne (am.mp z).symm
 ·exact hS.at λo e=>ac _ e
 ·intro s' hm hS'
  obtain ⟨h',g',d',tk',os'⟩:=s'
  have eg:g'=s.gens:=hm.gens
  have ed:d'=s.drawn:=hm.drawn
  have eo:os'=s.os:=hm.os
  subst eg ed eo
  refine h7 (h h' tk' hS' λb o hb e=>hm.heap b o ?_ (ac _ e))
  intro z
  rcases ae.mp z with z | z
  ·exact hb z
  ·rw [am.mp z] at e
   exact bQ _ (aq e)
theorem GA {S l:Addr} {Q:Unit->hV->Prop} (hh:A.handled=g7) (hS:SetS prog w s.heap S []) (hl:s.heap.IsTuple l items) (hi:i6 items.toList ss) (hb:items.size+1 < scanBound) (hne:l≠S)
  (h:∀ h' tk,SetS prog w h' S (ss.foldl kX [])->(∀ b o,b≠S->s.heap.get? b=g6 o->h'.get? b=g6 o)->Q () { s with heap:=h',toks:=tk }) :
  wpAny 'g' A (bE "set.__init__" S (.ref l)) Q E s:=by
 have hT:s.TypeIs (.ref l) "tuple":=let ⟨o,e,c,_⟩:=hl; ⟨o,e,c⟩
 unfold bE
 refine g8 (m:=cN _) ?_
 unfold cN
 refine g8 (iE hT Ui ?_)
 refine iE hT QZ ?_
 rw [if_neg 'c']
 refine g8 (iF hT ?_)
 rw [if_neg 'c']
 refine g8 (iG hl ?_)
 have hz:s.heap.objs.size≠S:=λz=>by
  obtain ⟨es,ep,t,ho,_⟩:=hS
  exact bQ _ (z ▸ aq ho)
 have hzl:l≠s.heap.objs.size:=by
  obtain ⟨o,e,_⟩:=hl
  exact aB (aq e)
 refine g8 (j4 (YH ((Walks.tuple (A:=A.in1) hh _ l hzl items).toS) S ?_ ss (by rw [<-hi.length]; simp) (λi v e=>Gz hi (by rw [bq]; exact e)) hb items.size 0 _ 'a' (bp _) ⟨⟨_,ak _ rfl,rfl,rfl⟩,?_⟩ ?_ ?_))
 ·intro z
  rcases ae.mp z with z | z
  ·exact hz z.symm
  ·exact hne (am.mp z).symm
 ·obtain ⟨o,e,c⟩:=hl
  exact ⟨o,ac _ e,c⟩
 ·exact hS.at λo e=>ac _ e
 ·intro s' hm hS'
  obtain ⟨h',g',d',tk',os'⟩:=s'
  have eg:g'=s.gens:=hm.gens
  have ed:d'=s.drawn:=hm.drawn
  have eo:os'=s.os:=hm.os
  subst eg ed eo
  refine h7 (h h' tk' hS' λb o hb e=>hm.heap b o ?_ (ac _ e))
  intro z
  rcases ae.mp z with z | z
  ·exact hb z
  ·rw [am.mp z] at e
   exact bQ _ (aq e)
set_option maxHeartbeats 3200000 in
theorem VV {l:Addr} {ks:List Str} {Q:g9->hV->Prop}
  (hup:∀ (A1:ii) (Q1:Unit->hV->Prop) (E1:g9->hV->Prop),A1.handled=A.handled->(∀ h' tk,SetS prog w h' s.heap.objs.size ks->(∀ b o,s.heap.get? b=g6 o->h'.get? b=g6 o)->Q1 () { s with heap:=h',toks:=tk }) ->
   wpAny 'g' A1 (bE "set.__init__" s.heap.objs.size (.ref l)) Q1 E1 { s with heap:=s.heap.push (qgy w) })
  (h:∀ h' tk,SetS prog w h' s.heap.objs.size ks->(∀ b o,s.heap.get? b=g6 o->h'.get? b=g6 o)->Q 'o' { s with heap:=h',toks:=tk }) :
  wpAny 'g' A (call (.type "set") [.ref l]) Q E s:=by
 have hnew:∀ {Q₁:g9->hV->Prop},Q₁ 'o' { s with heap:=s.heap.push (qgy w) }->codeAny 'g' A.in1 (.call (.builtin "set.__new__") ⟨[.type "set",.ref l],[]⟩) (wants Q₁ E) s:=λh=>qez (.ref l) h
 unfold qgy kr at hnew hup
 generalize (!(w.params.followText "set-order"))=led at hnew hup
 obtain ⟨c,tl,hmro⟩:=bW.mro
 have hmade:=bW.made
 have hsub:=bW.sub
 refine wpAny_call (codeAny_of_tree ?_); show wpAny _ _ (callAny (.type "set") _) _ _ _
 refine h7 ⟨Code.quiet_builtin _ 'b',ic PySem.F.entry_type_call ?_⟩; rw [Around.under_plain (weight_type_call_type "set" [.ref l] []) rfl]
 have h1:=bW.notType
 have h2:=bW.canCreate
 have hct:=PySem.F.typeCall_set_1 (.ref l)
 repeat (any_goals (first | assumption | wp_step))
 refine j0 (hnew (Q₁:=λobj s₁=>obj=.ref s.heap.objs.size/\s₁={ s with heap:=s.heap.push { cls:=.type "set",dict:=g7,data:=.set #[] 0 (.fresh 0 0 led) } }) ⟨rfl,rfl⟩) λr s₁ hr=>?_
 cases r with
 | error e=>exact hr
 | ok fl=>
  cases fl with
  | ret obj=>
   obtain ⟨rfl,rfl⟩:=hr
   have hS:(s.heap.push { cls:=.type "set",dict:=g7,data:=.set #[] 0 (.fresh 0 0 led) }).get? s.heap.objs.size=g6 { cls:=.type "set",dict:=g7,data:=.set #[] 0 (.fresh 0 0 led) }:=ak _ rfl
   have hT:eJ { s with heap:=s.heap.push { cls:=.type "set",dict:=g7,data:=.set #[] 0 (.fresh 0 0 led) } } 'o' "set":=⟨_,hS,rfl⟩
   have hli:=bW.init.lookup
   have hbi:=bW.init.bind 'o'
   repeat (any_goals (first | assumption | wp_step))
   refine j0 (codeAny_call_builtin (R:=wants (λr s₂=>r=.none/\∃ h' tk,s₂={ s with heap:=h',toks:=tk }/\SetS prog w h' s.heap.objs.size ks/\(∀ b o,s.heap.get? b=g6 o->h'.get? b=g6 o)) E) bW.init.plain PySem.F.entry_set_init (check_set_init_1 hT ?_)) λr₂ s₂ hr₂=>?_
   ·unfold Builtin.«set.__init__» noKeywords
    generalize hU:bE=U
    wp_walk
    subst hU
    refine hup _ _ _ rfl λh' tk hS' hk=>?_
    exact h7 ⟨rfl,h',tk,rfl,hS',hk⟩
   ·cases r₂ with
    | error e=>exact hr₂
    | ok fl₂=>
     cases fl₂ with
     | ret r=>
      obtain ⟨rfl,h',tk,rfl,hS',hk'⟩:=hr₂
      repeat (any_goals (first | assumption | wp_step))
      exact h _ _ hS' hk'
     | _=>exact hr₂.elim
  | _=>exact hr.elim
end
theorem zh {α:Type}:∀ {xs:List α} {i:Nat} (h:i < xs.length),(xs[i]::xs.eraseIdx i).Perm xs
 | [],_,h=>absurd h (Nat.not_lt_zero _)
 | x::xs,0,h=>cM _
 | x::xs,i+1,h=>(List.Perm.swap _ _ _).trans ((zh (xs:=xs) (i:=i) (Nat.lt_of_succ_lt_succ h)).cons x)
variable {M:Model}
theorem XS {src:Source} {Q:Nat->hV->Prop} (hn:n≠0) (h:∀ i d',i < n->Q i { s with drawn:=d' }):wpAny M A (choose src n) Q E s:=
 λ_ _ _=>⟨hn,h _ _ (Nat.mod_lt _ (Nat.pos_of_ne_zero hn))⟩
variable {α:Type}
theorem GB:∀ (n:Nat) (xs:List α) (s:hV) {Q:List α->hV->Prop},n=xs.length->(∀ ys d',ys.Perm xs->Q ys { s with drawn:=d' })->wpAny M A (drawOrder n xs) Q E s
 | 0,xs,s,Q,hn,h=>by
  cases xs with
  | nil=>exact h7 (h [] s.drawn (cM _))
  | cons x l=>cases hn
 | n+1,[],s,Q,hn,h=>by cases hn
 | n+1,x::l,s,Q,hn,h=>by
  show wpAny M A (choose .order (x::l).length >>= _) Q E s
  refine g8 (XS 'h' λi d' hi=>?_)
  have e:(x::l)[i]?=g6 (x::l)[i]:=ah hi
  rw [e]
  refine g8 (GB n _ _ (by rw [List.length_eraseIdx_of_lt hi]; simp only [ap] at hn ⊢; omega) λys d2 hp=>h7 (h _ d2 ?_))
  exact (hp.cons _).trans (zh hi)
theorem GC (next:Nat->Nat):∀ (f k:Nat) (left:List α) (out:Array α),f=left.length->(pickOrder.go next f k left out).toList.Perm (out.toList++left)
 | 0,k,left,out,hf=>by
  cases left with
  | nil=>
   rw [bg]
   exact cM _
  | cons x l=>cases hf
 | f+1,k,left,out,hf=>by
  have hlt:next k % left.length < left.length:=Nat.mod_lt _ 'a'
  have e:left[next k % left.length]?=g6 left[next k % left.length]:=ah hlt
  unfold pickOrder.go
  rw [e]
  refine (GC next f (k+1) _ _ (by rw [List.length_eraseIdx_of_lt hlt]; omega)).trans ?_
  rw [Array.toList_push,aP]
  exact List.Perm.append_left _ (zh hlt)
theorem gO (next:Nat->Nat) (xs:Array α):(pickOrder next xs).toList.Perm xs.toList:=by
 unfold pickOrder
 exact GC next _ _ _ _ 'h'
noncomputable def uI (first:g9) (i:Nat) (a:Addr) (n ep:Nat):Obj:={ cls:=.type "set_iterator",data:=.fields #[first,rawInt i,.ref a,rawInt n,rawInt ep] }
theorem slot_si_next:Slot "set_iterator" "__next__" "set_iterator.__next__":=
 .of (owner := "set_iterator") (n := "__next__") (by rw [iQ,iC]; kernel_rfl) 'b' 'b' 'b' (by first | exact .inl 'b' | exact .inr 'b') (by rw [iX]; kernel_rfl)
theorem zH:Slot "set_iterator" "__iter__" "set_iterator.__iter__":=
 .of (owner := "set_iterator") (n := "__iter__") (by rw [iQ,iC]; kernel_rfl) 'b' 'b' 'b' (by first | exact .inl 'b' | exact .inr 'b') (by rw [iX]; kernel_rfl)
theorem vU (a:g9):argsOk "set_iterator.__next__" ⟨[a],[]⟩:=by unfold argsOk; kernel_rfl
theorem VW (a:g9):argsOk "set_iterator.__iter__" ⟨[a],[]⟩:=by unfold argsOk; kernel_rfl
theorem vh:entryFor table "set_iterator.__next__"=g6 Builtin.«set_iterator.__next__»:=entryFor_of_tree (by kernel_rfl)
theorem Kb:entryFor table "set_iterator.__iter__"=g6 Builtin.«dict_keyiterator.__iter__»:=entryFor_alias (id' := "dict_keyiterator.__iter__") (by kernel_rfl) rfl 'b' (by kernel_rfl)
theorem VX:entryFor table "set.__iter__"=g6 Builtin.«frozenset.__iter__»:=entryFor_alias (id' := "frozenset.__iter__") (by kernel_rfl) rfl 'b' (by kernel_rfl)
variable {p:Addr} {b:Bool} {ps:List Nat}
section
theorem vD (hb:w.params.followText "set-order"=b):({ program:=(model prog w).prog,params:=(model prog w).w.params }:Setting).params.followText "set-order"=b:=hb
theorem VY {sl nx:Nat} {t:ir} {x:g9} {Q:Option g9->hV->Prop} (hi:s.heap.get? it=g6 (uI (rawInt sl) i a n ep)) (ha:s.heap.get? a=g6 (kr es ep t)) (hf:t.fits es.size=hZ) (hz:es.size=n)
  (hn:∀ (A1:ii) (Q1:Option (g9×Nat)->hV->Prop) (E1:g9->hV->Prop),Q1 (g6 (x,nx)) s->wpAny 'g' A1 (setNext a sl i ep) Q1 E1 s)
  (hQ:∀ h',h'.get? it=g6 (uI (rawInt nx) (i+1) a n ep)->bT it s.heap h'->Q (g6 x) { s with heap:=h' }):wpAny 'g' A (pyNext (.ref it)) Q E s:=by
 have hT:s.TypeIs (.ref it) "set_iterator":=⟨_,hi,rfl⟩
 unfold pyNext
 refine g8 (iY (iq (name:=aX "__next__") hT slot_si_next (im slot_si_next hT vh ?_ (vU _))))
 show wpAny _ _ (fieldsOf (.ref it) >>= _) _ _ s
 refine g8 (j5 hi rfl ?_)
 show wpAny _ _ (setEntries a >>= _) _ _ s
 refine g8 (iK ha rfl hf ?_)
 rw [if_neg (by rw [hz]; simp)]
 show wpAny _ _ (setNext a sl i ep >>= _) _ _ s
 refine g8 (hn _ _ _ ?_)
 show wpAny _ _ (setField (.ref it) 0 (rawInt nx) >>= _) _ _ s
 refine g8 (iH hi rfl 'h' ?_)
 have h1:(s.heap.update it (Obj.mapFields (·.setIfInBounds 0 (rawInt nx)))).get? it=g6 (uI (rawInt nx) i a n ep):=aQ _ hi rfl
 refine g8 (iH h1 rfl 'h' (h7 ⟨x,rfl,h7 (hQ _ ?_ ((bv ..).trans (bv ..)))⟩))
 exact aQ _ h1 rfl
theorem VZ {sl:Nat} {t:ir} {Q:Option g9->hV->Prop} (hh:A.handled=g7) (hi:s.heap.get? it=g6 (uI (rawInt sl) i a n ep)) (ha:s.heap.get? a=g6 (kr es ep t)) (hf:t.fits es.size=hZ) (hz:es.size=n)
  (hn:∀ (A1:ii) (Q1:Option (g9×Nat)->hV->Prop) (E1:g9->hV->Prop),Q1 g7 s->wpAny 'g' A1 (setNext a sl i ep) Q1 E1 s)
  (hQ:∀ h',fY it s.heap h'->Q g7 { s with heap:=h' }):wpAny 'g' A (pyNext (.ref it)) Q E s:=by
 have hT:s.TypeIs (.ref it) "set_iterator":=⟨_,hi,rfl⟩
 unfold pyNext
 refine g8 (iY (iq (name:=aX "__next__") hT slot_si_next (im slot_si_next hT vh ?_ (vU _))))
 show wpAny _ _ (fieldsOf (.ref it) >>= _) _ _ s
 refine g8 (j5 hi rfl ?_)
 show wpAny _ _ (setEntries a >>= _) _ _ s
 refine g8 (iK ha rfl hf ?_)
 rw [if_neg (by rw [hz]; simp)]
 show wpAny _ _ (setNext a sl i ep >>= _) _ _ s
 refine g8 (hn _ _ _ ?_)
 show wpAny _ _ (setField (.ref it) 2 cq >>= _) _ _ s
 refine g8 (iH hi rfl 'h' ?_); show wpAny _ _ (newExc (.type "StopIteration") [] >>= _) _ _ _
 refine g8 ?_; simp only [newExc,newTuple]; refine g8 (ia ?_ (by size_fits))
 refine g8 (m:=firstArgMember _ _) (j6 (a:=cq) (by first | rfl | (simp only [firstArgMember]; rfl)) ?_); refine ia ?_ (by size_fits); simp only [raiseNew]
 refine g8 (wpAny_handled ?_); first | rw [show A.in1.handled=g7 from hh] | rw [hh]
 refine g8 (h7 (wpAny_throw ?_)); refine g8 (iE (T := "StopIteration") (b:=hZ) ⟨_,ak _ rfl,rfl⟩ isSubtype_stop ?_)
 exact h7 (hQ _ (((bv ..).extBut.push _).push _))
theorem XT {pl m:Nat} {t:ir} {hx:Int} {x:g9} {ps:Array g9} {Q:Option g9->hV->Prop} (hi:s.heap.get? it=g6 (uI (.ref p) i a n ep)) (ha:s.heap.get? a=g6 (kr es ep t)) (hf:t.fits es.size=hZ) (hz:es.size=n)
  (hp:s.heap.get? p=g6 { cls:=.type "tuple",data:=.seq ps m }) (hpl:ps[i]?=g6 (rawInt pl)) (hx:es[pl]?=g6 (hx,x))
  (hQ:∀ h',h'.get? it=g6 (uI (.ref p) (i+1) a n ep)->bT it s.heap h'->Q (g6 x) { s with heap:=h' }):wpAny 'g' A (pyNext (.ref it)) Q E s:=by
 have hT:s.TypeIs (.ref it) "set_iterator":=⟨_,hi,rfl⟩
 unfold pyNext
 refine g8 (iY (iq (name:=aX "__next__") hT slot_si_next (im slot_si_next hT vh ?_ (vU _))))
 show wpAny _ _ (fieldsOf (.ref it) >>= _) _ _ s
 refine g8 (j5 hi rfl ?_)
 show wpAny _ _ (setEntries a >>= _) _ _ s
 refine g8 (iK ha rfl hf ?_)
 rw [if_neg (by rw [hz]; simp)]
 show wpAny _ _ (seqItems? (.ref p) >>= _) _ _ s
 refine g8 (iA hp rfl ?_)
 dsimp only
 rw [show ps[Int.toNat (i:Int)]?=g6 (rawInt pl) from hpl]
 show wpAny _ _ (setNextDrawn a pl ep >>= _) _ _ s
 refine g8 ?_
 unfold setNextDrawn
 refine g8 (iB ha rfl hf ?_)
 dsimp only
 rw [if_neg 'h',hx]
 refine h7 ?_
 show wpAny _ _ (setField (.ref it) 1 (rawInt (i+1)) >>= _) _ _ s
 refine g8 (iH hi rfl 'h' (h7 ⟨x,rfl,h7 (hQ _ ?_ (bv ..))⟩))
 exact aQ _ hi rfl
theorem GD {m:Nat} {t:ir} {ps:Array g9} {Q:Option g9->hV->Prop} (hh:A.handled=g7) (hi:s.heap.get? it=g6 (uI (.ref p) i a n ep)) (ha:s.heap.get? a=g6 (kr es ep t)) (hf:t.fits es.size=hZ) (hz:es.size=n)
  (hp:s.heap.get? p=g6 { cls:=.type "tuple",data:=.seq ps m }) (hpl:ps[i]?=g7)
  (hQ:∀ h',fY it s.heap h'->Q g7 { s with heap:=h' }):wpAny 'g' A (pyNext (.ref it)) Q E s:=by
 have hT:s.TypeIs (.ref it) "set_iterator":=⟨_,hi,rfl⟩
 unfold pyNext
 refine g8 (iY (iq (name:=aX "__next__") hT slot_si_next (im slot_si_next hT vh ?_ (vU _))))
 show wpAny _ _ (fieldsOf (.ref it) >>= _) _ _ s
 refine g8 (j5 hi rfl ?_)
 show wpAny _ _ (setEntries a >>= _) _ _ s
 refine g8 (iK ha rfl hf ?_)
 rw [if_neg (by rw [hz]; simp)]
 show wpAny _ _ (seqItems? (.ref p) >>= _) _ _ s
 refine g8 (iA hp rfl ?_)
 dsimp only
 rw [show ps[Int.toNat (i:Int)]?=g7 from hpl]
 show wpAny _ _ (setField (.ref it) 0 (rawInt 0) >>= _) _ _ s
 refine g8 (iH hi rfl 'h' ?_)
 have h1:(s.heap.update it (Obj.mapFields (·.setIfInBounds 0 (rawInt 0)))).get? it=g6 (uI (rawInt 0) i a n ep):=aQ _ hi rfl
 refine g8 (iH h1 rfl 'h' ?_); show wpAny _ _ (newExc (.type "StopIteration") [] >>= _) _ _ _
 refine g8 ?_; simp only [newExc,newTuple]; refine g8 (ia ?_ (by size_fits))
 refine g8 (m:=firstArgMember _ _) (j6 (a:=cq) (by first | rfl | (simp only [firstArgMember]; rfl)) ?_); refine ia ?_ (by size_fits); simp only [raiseNew]
 refine g8 (wpAny_handled ?_); first | rw [show A.in1.handled=g7 from hh] | rw [hh]
 refine g8 (h7 (wpAny_throw ?_)); refine g8 (iE (T := "StopIteration") (b:=hZ) ⟨_,ak _ rfl,rfl⟩ isSubtype_stop ?_)
 exact h7 (hQ _ (((((bv ..).trans (bv ..))).extBut.push _).push _))
theorem gP {Q:g9->hV->Prop} (hi:s.heap.get? it=g6 o) (hc:o.cls=.type "set_iterator") (h:Q (.ref it) s):wpAny 'g' A (pyIter (.ref it)) Q E s:=by
 have hT:s.TypeIs (.ref it) "set_iterator":=⟨_,hi,hc⟩
 refine wpAny_pyIter_slot hT zH (im zH hT Kb ?_ (VW _)); show wpAny _ _ (ret (.ref it)) _ _ s
 exact h7 ⟨_,rfl, "set_iterator",_,hT,slot_si_next.lookup,h⟩
theorem GE {ep:Nat} {t:ir} (hh:A.handled=g7) (hb:w.params.followText "set-order"=hZ) (hf:t.fits es.size=hZ) (hne:a≠it) :
  Walks prog w A it [it,a] [it] es.size (λi v=>((pickOrder (w.params.setOrder a ep) es).toList.map (·.2))[i]?=g6 v) (λi h=>h.get? it=g6 (uI (rawInt 0) i a es.size ep)/\h.get? a=g6 (kr es ep t)) where
 sub:=λb hb=>by simp at hb; simp [hb]
 frame:=λ_ _ _ st hk=>⟨hk it 'h' _ st.1,hk a 'h' _ st.2⟩
 item:=λi s Q E hi st hQ=>by
  have hlen:(pickOrder (w.params.setOrder a ep) es).size=es.size:=by
   have:=(gO (w.params.setOrder a ep) es).length_eq
   simpa using this
  have hlt:i < (pickOrder (w.params.setOrder a ep) es).size:=by omega
  obtain ⟨e,he⟩:∃ e,(pickOrder (w.params.setOrder a ep) es)[i]?=g6 e:=⟨_,bL hlt⟩
  refine VY (x:=e.2) (nx:=0) st.1 st.2 hf rfl (λA1 Q1 E1 q=>?_) λh' hi' sb=>hQ e.2 h' s.toks ?_ ⟨hi',?_⟩ λb o nb eo=>?_
  ·unfold setNext
   refine g8 (iB st.2 rfl hf ?_)
   dsimp only
   refine g8 (m:=setsByText) (g8 (iw (h7 ?_)))
   rw [vD hb,if_pos rfl,if_neg 'h']
   refine g8 ?_
   unfold setWalk
   refine g8 (iB st.2 rfl hf ?_)
   dsimp only
   refine g8 (m:=setsByText) (g8 (iw (h7 ?_)))
   rw [vD hb,if_pos rfl]
   refine g8 (iw (h7 ?_))
   refine h7 ?_
   rw [show (pickOrder ((⟨(model prog w).prog,(model prog w).w.params⟩:Setting).params.setOrder a ep) es)[i]?=g6 e from he]
   exact q
  ·rw [aG,bq,he]
   rfl
  ·rw [sb.2 a hne]
   exact st.2
  ·rw [sb.2 b (λz=>nb (by simp [z]))]
   exact eo
 done:=λs Q E st hQ=>by
  have hlen:(pickOrder (w.params.setOrder a ep) es).size=es.size:=by
   have:=(gO (w.params.setOrder a ep) es).length_eq
   simpa using this
  refine VZ hh st.1 st.2 hf rfl (λA1 Q1 E1 q=>?_) λh' eb=>hQ h' s.toks λb o nb eo=>eb b o (λz=>nb (by simp [z])) eo
  unfold setNext
  refine g8 (iB st.2 rfl hf ?_)
  dsimp only
  refine g8 (m:=setsByText) (g8 (iw (h7 ?_)))
  rw [vD hb,if_pos rfl,if_neg 'h']
  refine g8 ?_
  unfold setWalk
  refine g8 (iB st.2 rfl hf ?_)
  dsimp only
  refine g8 (m:=setsByText) (g8 (iw (h7 ?_)))
  rw [vD hb,if_pos rfl]
  refine g8 (iw (h7 ?_))
  refine h7 ?_
  rw [show (pickOrder ((⟨(model prog w).prog,(model prog w).w.params⟩:Setting).params.setOrder a ep) es)[es.size]?=g7 from dj (eT hlen)]
  exact q
 self:=λi s Q E st hQ=>gP st.1 rfl hQ
noncomputable def yZ (t:ir) (i:Nat):Nat:=if i=0 then 0 else t.place.getD 0 0+1
theorem Wa (j k:Nat):bw #[j] k=if j < k then 1 else 0:=by
 unfold bw
 show bw.go #[j] k 1 0 1=_
 unfold bw.go
 rw [if_pos 'a']
 show (if (#[j]:Array Nat).getD 0 k < k then bw.go #[j] k 0 1 1 else bw.go #[j] k 0 0 0)=_
 show (if j < k then bw.go #[j] k 0 1 1 else bw.go #[j] k 0 0 0)=_
 split <;> rfl
theorem YI {t:ir} {Q:Option (g9×Nat)->hV->Prop} (hb:w.params.followText "set-order"=hJ) (hf:t.fits es.size=hZ) (hl:t.led=hZ) (hz:es.size<=1) (ha:s.heap.get? a=g6 (kr es ep t)) (hi:i<=es.size)
  (q:Q (match es[i]? with | some e=>g6 (e.2,yZ t (i+1)) | none=>g7) s):wpAny 'g' A (setNext a (yZ t i) i ep) Q E s:=by
 have hps:t.place.size=es.size:=by
  have:=hf
  simp only [SetTable.fits,aT,beq_iff_eq] at this
  exact this.1
 unfold setNext
 refine g8 (iB ha rfl hf ?_)
 dsimp only
 refine g8 (m:=setsByText) (g8 (iw (h7 ?_)))
 rw [vD hb,if_neg 'h']
 show wpAny _ _ (if (!t.plain&&decide (es.size > 1))=hZ then _ else _) _ _ _
 rw [if_neg (by simp; intro _; omega)]
 refine g8 ?_
 show wpAny _ _ (if (!t.led&&!es.isEmpty)=hZ then _ else _) _ _ _
 rw [hl,if_neg 'h']
 refine h7 (h7 ?_)
 have e:(match es[bw t.place (yZ t i)]?,t.place[bw t.place (yZ t i)]? with | some (_,x),g6 j=>g6 (x,j+1) | _,_=>g7)=(match es[i]? with | some e=>g6 (e.2,yZ t (i+1)) | none=>g7:Option (g9×Nat)):=by
  obtain ⟨l⟩:=es
  obtain ⟨mask,⟨pl⟩,du,fi,le,mo,pn⟩:=t
  cases l with
  | nil=>simp
  | cons e0 l=>
   cases l with
   | cons _ _=>exact absurd hz 'h'
   | nil=>
    cases pl with
    | nil=>exact absurd hps 'h'
    | cons j pl=>
     cases pl with
     | cons _ _=>exact absurd hps 'h'
     | nil=>
      have hi1:i=0\/i=1:=by simp at hi; omega
      rcases hi1 with rfl | rfl
      ·show (match (#[e0]:Array (Int×g9))[bw #[j] 0]?,(#[j]:Array Nat)[bw #[j] 0]? with | some (_,x),g6 j=>g6 (x,j+1) | _,_=>g7)=g6 (e0.2,j+1)
       rw [Wa,if_neg 'a']
       rfl
      ·show (match (#[e0]:Array (Int×g9))[bw #[j] (j+1)]?,(#[j]:Array Nat)[bw #[j] (j+1)]? with | some (_,x),g6 j=>g6 (x,j+1) | _,_=>g7)=g7
       rw [Wa,if_pos 'a']
       rfl
 exact Eq.mp (congrArg (λz=>Q z s) e.symm) q
theorem qb1 {ep:Nat} {t:ir} (hh:A.handled=g7) (hb:w.params.followText "set-order"=hJ) (hf:t.fits es.size=hZ) (hl:t.led=hZ) (hz:es.size<=1) (hne:a≠it) :
  Walks prog w A it [it,a] [it] es.size (λi v=>(es.toList.map (·.2))[i]?=g6 v) (λi h=>h.get? it=g6 (uI (rawInt (yZ t i)) i a es.size ep)/\h.get? a=g6 (kr es ep t)) where
 sub:=λb hb=>by simp at hb; simp [hb]
 frame:=λ_ _ _ st hk=>⟨hk it 'h' _ st.1,hk a 'h' _ st.2⟩
 item:=λi s Q E hi st hQ=>by
  have he:es[i]?=g6 es[i]:=bL hi
  refine VY (x:=es[i].2) (nx:=yZ t (i+1)) st.1 st.2 hf rfl (λA1 Q1 E1 q=>YI hb hf hl hz st.2 (d7 hi) (by rw [he]; exact q)) λh' hi' sb=>hQ es[i].2 h' s.toks ?_ ⟨hi',?_⟩ λb o nb eo=>?_
  ·rw [aG,bq,he]
   rfl
  ·rw [sb.2 a hne]
   exact st.2
  ·rw [sb.2 b (λz=>nb (by simp [z]))]
   exact eo
 done:=λs Q E st hQ=>VZ hh st.1 st.2 hf rfl (λA1 Q1 E1 q=>YI hb hf hl hz st.2 (ax _) (by rw [dj (ax _)]; exact q)) λh' eb=>hQ h' s.toks λb o nb eo=>eb b o (λz=>nb (by simp [z])) eo
 self:=λi s Q E st hQ=>gP st.1 rfl hQ
noncomputable def qgz (es:Array (Int×g9)) (ps:List Nat):List g9:=ps.map λk=>(es[k]?.map (·.2)).getD .none
theorem GF (h:ps.Perm (aE es.size)):(qgz es ps).Perm (es.toList.map (·.2)):=by
 have e:qgz es (aE es.size)=es.toList.map (·.2):=by
  apply eh
  intro i
  unfold qgz
  rw [aG,aG,show es.toList[i]?=es[i]? from bq]
  by_cases hi:i < es.size
  ·rw [eR hi,bL hi]
   simp [hi]
  ·rw [cj (by rw [bO]; omega),dj 'a']
   rfl
 rw [<-e]
 exact h.map _
theorem XU {ep m:Nat} {t:ir} (hh:A.handled=g7) (hf:t.fits es.size=hZ) (hp:ps.Perm (aE es.size)) (hne:a≠it) (hpe:p≠it) :
  Walks prog w A it [it,a,p] [it] es.size (λi v=>(qgz es ps)[i]?=g6 v) (λi h=>h.get? it=g6 (uI (.ref p) i a es.size ep)/\h.get? a=g6 (kr es ep t)/\h.get? p=g6 { cls:=.type "tuple",data:=.seq (ps.map λ(i:Nat)=>rawInt i).toArray m }) where
 sub:=λb hb=>by simp at hb; simp [hb]
 frame:=λ_ _ _ st hk=>⟨hk it 'h' _ st.1,hk a 'h' _ st.2.1,hk p 'h' _ st.2.2⟩
 item:=λi s Q E hi st hQ=>by
  have hlen:ps.length=es.size:=by rw [hp.length_eq,bO]
  have hil:i < ps.length:=by omega
  have hk:ps[i] < es.size:=aL.mp (hp.mem_iff.mp (bG hil))
  have he:es[ps[i]]?=g6 es[ps[i]]:=bL hk
  refine XT (x:=es[ps[i]].2) (hx:=es[ps[i]].1) (pl:=ps[i]) st.1 st.2.1 hf rfl st.2.2 ?_ he λh' hi' sb=>hQ es[ps[i]].2 h' s.toks ?_ ⟨hi',?_,?_⟩ λb o nb eo=>?_
  ·rw [eD,aG,ah hil]
   rfl
  ·unfold qgz
   rw [aG,ah hil]
   simp [he]
  ·rw [sb.2 a hne]
   exact st.2.1
  ·rw [sb.2 p hpe]
   exact st.2.2
  ·rw [sb.2 b (λz=>nb (by simp [z]))]
   exact eo
 done:=λs Q E st hQ=>by
  have hlen:ps.length=es.size:=by rw [hp.length_eq,bO]
  refine GD hh st.1 st.2.1 hf rfl st.2.2 ?_ λh' eb=>hQ h' s.toks λb o nb eo=>eb b o (λz=>nb (by simp [z])) eo
  rw [eD,cj (by simp; omega)]
 self:=λi s Q E st hQ=>gP st.1 rfl hQ
theorem qb2 {t:ir} {A1:ii} {Q:g9->hV->Prop} (hh:A1.handled=g7) (ha:s.heap.get? a=g6 (kr es ep t)) (d:SetD prog w es t ks)
  (hQ:∀ (it:Addr) (h':Heap) (dr:Drawn) (ord:List g9) (fp:List Addr) (St:Nat->Heap->Prop),(∀ b o,s.heap.get? b=g6 o->h'.get? b=g6 o)->ord.Perm (es.toList.map (·.2))->Walks prog w A1 it fp [it] es.size (λi v=>ord[i]?=g6 v) St->St 0 h' ->
   (∀ b∈fp,b=a\/s.heap.objs.size<=b)->s.heap.objs.size<=it->Q (.ref it) { s with heap:=h',drawn:=dr }):wpAny 'g' A (pyIter (.ref a)) Q E s:=by
 have hT:s.TypeIs (.ref a) "set":=⟨_,ha,rfl⟩
 have hlt:a < s.heap.objs.size:=aq ha
 refine wpAny_pyIter_slot hT PySem.F.slot_set_iter (im PySem.F.slot_set_iter hT VX ?_ (PySem.F.args_set_iter_1 _))
 show wpAny _ _ (Builtin.Frozenset.sizeOf a >>= _) _ _ s
 refine g8 (m:=Builtin.Frozenset.sizeOf a) (g8 (iK ha rfl d.fits (h7 ?_)))
 refine g8 (m:=setDrawn a) ?_
 unfold setDrawn
 refine g8 (iB ha rfl d.fits ?_)
 dsimp only
 refine g8 (m:=setsByText) (g8 (iw (h7 ?_)))
 refine h7 ?_
 cases hb:w.params.followText "set-order" with
 | true=>
  rw [vD hb,if_neg 'h']
  refine g8 (h7 ?_)
  refine g8 (m:=setEpoch a) (wpAny_setEpoch_of ha rfl d.fits ?_)
  refine g8 (ia (h7 ⟨_,rfl, "set_iterator",_,⟨_,ak _ rfl,rfl⟩,slot_si_next.lookup,?_⟩))
  refine hQ _ _ s.drawn _ _ _ (λb o e=>ac _ e) ((gO (w.params.setOrder a ep) es).map _) (GE hh hb d.fits (aB hlt)) ⟨ak _ rfl,ac _ ha⟩ ?_ (ax _)
  intro b hb
  rcases ae.mp hb with z | z
  ·exact .inr (z ▸ ax _)
  ·exact .inl (am.mp z)
 | false=>
  have hled:t.led=true:=by rw [d.led,hb]; rfl
  rw [vD hb]
  show wpAny _ _ (if (!false&&(!t.plain&&decide (es.size > 1)))=hZ then _ else _) _ _ _
  by_cases hn:es.size<=1
  ·rw [if_neg (by simp; intro _; omega)]
   refine g8 (h7 ?_)
   refine g8 (m:=setEpoch a) (wpAny_setEpoch_of ha rfl d.fits ?_)
   refine g8 (ia (h7 ⟨_,rfl, "set_iterator",_,⟨_,ak _ rfl,rfl⟩,slot_si_next.lookup,?_⟩))
   refine hQ _ _ s.drawn _ _ _ (λb o e=>ac _ e) (cM _) (qb1 hh hb d.fits hled hn (aB hlt)) ⟨ak _ rfl,ac _ ha⟩ ?_ (ax _)
   intro b hb
   rcases ae.mp hb with z | z
   ·exact .inr (z ▸ ax _)
   ·exact .inl (am.mp z)
  ·have hpl:t.plain=false:=d.plain λz=>by
    have h0:=d.size
    rw [z,bc] at h0
    omega
   rw [if_pos (by rw [hpl]; simp; omega)]
   refine g8 (GB es.size (aE es.size) s 'h' λps dr hp=>?_)
   have hpl2:ps.length=es.size:=by rw [hp.length_eq,bO]
   have hsz:(ps.map λ(i:Nat)=>rawInt i).length<=sizeLine:=by rw [aA,hpl2]; exact i4 d.bd
   refine g8 (wpAny_newTuple ?_ hsz)
   refine g8 (m:=setEpoch a) (wpAny_setEpoch_of (ac _ ha) rfl d.fits ?_)
   refine g8 (ia (h7 ⟨_,rfl, "set_iterator",_,⟨_,ak _ rfl,rfl⟩,slot_si_next.lookup,?_⟩))
   have hp1:s.heap.objs.size < (s.heap.push ({ cls:=.type "tuple",data:=.seq (ps.map λ(i:Nat)=>rawInt i).toArray }:Obj)).objs.size:=by rw [bR]; exact Nat.lt_succ_self _
   refine hQ _ _ dr _ _ _ (λb o e=>ac _ (ac _ e)) (GF hp) (XU (p:=s.heap.objs.size) hh d.fits hp (aB (dh hlt hp1)) (aB hp1)) ⟨ak _ rfl,ac _ (ac _ ha),ac _ (ak _ rfl)⟩ ?_ (d7 hp1)
   intro b hb
   rcases ae.mp hb with z | z
   ·exact .inr (z ▸ d7 hp1)
   ·rcases ae.mp z with z | z
    ·exact .inl z
    ·exact .inr (eT (am.mp z).symm)
end
section
theorem qb3 {ord:List g9} {acc:Array g9} (hl:ord.length=n) (h:lf (λi v=>ord[i]?=g6 v) acc n):acc.toList=ord:=by
 apply eh
 intro i
 rw [show acc.toList[i]?=acc[i]? from bq]
 by_cases hi:i < acc.size
 ·rw [bL hi]
  exact (h.2 i _ (bL hi)).symm
 ·rw [dj 'a',cj (by have:=h.1; omega)]
theorem Uj {t:ir} {Q:List g9->hV->Prop} (hh:A.handled=g7) (ha:s.heap.get? a=g6 (kr es ep t)) (d:SetD prog w es t ks)
  (hQ:∀ h' dr tk ord,(∀ b o,s.heap.get? b=g6 o->h'.get? b=g6 o)->ord.Perm (es.toList.map (·.2))->Q ord { s with heap:=h',drawn:=dr,toks:=tk }):wpAny 'g' A (collect (.ref a)) Q E s:=by
 have hlt:a < s.heap.objs.size:=aq ha
 unfold collect
 refine g8 (j4 (ic PySem.F.entry_proto_collect ?_)); rw [aN PySem.F.plain_proto_collect _]
 show wpAny _ A.in1 (newList [] >>= λl=>again (.builtin "list.__iadd__" ⟨[l,.ref a],[]⟩)) _ _ s; refine g8 (ia ?_)
 refine h7 ⟨ip PySem.F.plain_list_iadd _,ic PySem.F.entry_list_iadd ?_⟩; rw [aN PySem.F.plain_list_iadd _]
 have ha1:(s.heap.push { cls:=.type "list",data:=.seq ([]:List g9).toArray }).get? a=g6 (kr es ep t):=ac _ ha
 have hT:eJ { s with heap:=s.heap.push { cls:=.type "list",data:=.seq ([]:List g9).toArray } } (.ref a) "set":=⟨_,ha1,rfl⟩
 show wpAny _ A.in1 (bo 'o' (.ref a) 'o') _ _ _; unfold bo
 refine g8 (iF hT ?_)
 have h1:cV 'o' (.ref a)=false:=by simp [cV,cr hlt]
 rw [if_neg (by rw [h1]; decide)]
 refine g8 (qb2 (A1:=A.in1) hh ha1 d λit h2 dr ord fp St k2 hp W hst hfp hit=>?_)
 have hS1:h2.get? s.heap.objs.size=g6 { cls:=.type "list",data:=.seq ([]:List g9).toArray }:=k2 _ _ (ak _ rfl)
 have ha2:h2.get? a=g6 (kr es ep t):=k2 _ _ ha1
 refine g8 (ig ?_)
 unfold Builtin.List.listLengthHint
 have hT2:eJ { s with heap:=h2,drawn:=dr } (.ref a) "set":=⟨_,ha2,rfl⟩
 refine g8 (wpAny_specialOf hT2 PySem.F.slot_set_len.lookup ?_)
 (generalize hid:("set.__len__":String)=id0; (fail_if_success (clear hid id0)); wp_delta; rw [show splitId id0=g6 ("set", "__len__") from by subst hid; decide +kernel]; subst hid)
 refine g8 (iE (b:=hZ) hT2 (by rw [iX]; kernel_rfl) ?_)
 refine g8 (m:=typeOf (.ref a)) (iF hT2 ?_)
 refine h7 ?_
 show wpAny _ A.in1 (rule "list.extend.makes-room" >>= λ_=>Builtin.List.listTouch 'o' >>= λ_=>again (.builtin "list.extend.loop" ⟨[.ref s.heap.objs.size,.ref it,.ref s.heap.objs.size],[]⟩)) _ _ _
 refine g8 (iV (g8 ?_)); show wpAny _ A.in1 (updateSeq s.heap.objs.size (·.push .none) >>= λ_=>updateSeq s.heap.objs.size (·.pop)) _ _ _
 refine g8 (iR hS1 rfl ?_); have hS₂:=aQ (cT (·.push cq)) hS1 rfl
 refine iR hS₂ rfl ?_; have hS₃:=aQ (cT (·.pop)) hS₂ rfl
 have hzs:(s.heap.push ({ cls:=.type "list",data:=.seq ([]:List g9).toArray }:Obj)).objs.size=s.heap.objs.size+1:=bR ..
 have oth:∀ b o,b≠s.heap.objs.size->h2.get? b=g6 o->((h2.update s.heap.objs.size (cT (·.push cq))).update s.heap.objs.size (cT (·.pop))).get? b=g6 o:=λb o hb e=>(ba _ _ (bf hb)).trans ((ba _ _ (bf hb)).trans e)
 have nf:s.heap.objs.size∉fp:=λz=>by
  rcases hfp _ z with q | q
  ·exact cr hlt q
  ·exact Nat.not_succ_le_self _ (hzs ▸ q)
 have hlen:ord.length=es.size:=by
  rw [hp.length_eq]
  simp
 refine h7 ⟨ip PySem.F.plain_extend_loop _,codeAny_extend_loopS W.toS (i4 d.bd) _ nf _ es.size 0 _ _ _ rfl (bp _) (W.frame 0 h2 _ hst λb hb o e=>oth b o (λz=>nf (z ▸ hb)) e) hS₃ (ItemsOf.nil _) λs' acc' c' hm hS' hacc=>?_⟩
 show wpAny _ A (load s.heap.objs.size >>= _) _ _ s'
 refine g8 (wpAny_load hS' (h7 ?_))
 rw [qb3 hlen hacc]
 obtain ⟨h',g',d',tk',os'⟩:=s'
 have eg:g'=s.gens:=hm.gens
 have ed:d'=dr:=hm.drawn
 have eo:os'=s.os:=hm.os
 subst eg ed eo
 refine hQ h' d' tk' ord (λb o e=>?_) hp
 have hb:=aq e
 refine hm.heap b o (λz=>?_) (oth b o (aB hb) (k2 b o (ac _ e)))
 rcases ae.mp z with z | z
 ·exact aB hb z
 ·have h3:s.heap.objs.size+1<=it:=hzs ▸ hit
  rw [<-am.mp z] at h3
  exact bQ _ (dh hb h3)
theorem XV {Q:g9->hV->Prop} (hh:A.handled=g7) (hS:SetS prog w s.heap a ks) (h64:ks.length < 64)
  (hQ:∀ (h1 h':Heap) dr tk vs e ss,(∀ b o,s.heap.get? b=g6 o->h1.get? b=g6 o)->(∀ b o,h1.get? b=g6 o->h'.get? b=g6 o)->h'.get? h1.objs.size=g6 (seqObj "list" vs e)->i6 vs.toList ss->ss.Perm ks->sortedS ss=hZ->Q (.ref h1.objs.size) { s with heap:=h',drawn:=dr,toks:=tk }) :
  wpAny 'g' A (call (.builtin "sorted") [.ref a]) Q E s:=by
 obtain ⟨es,ep,t,ha,d⟩:=hS
 refine Calls.call_function_entry kind_sorted plain_sorted entry_sorted (args_sorted1 _) ?_; unfold Builtin.«sorted»
 refine g8 (m:=checkCount "sorted" 1 1 _) (h7 ?_)
 refine g8 (Uj (by exact hh) ha d λh1 dr tk ord k1 hp=>?_)
 have hst:i6 ord (ord.map strOf):=strsAre_map ord λv hv=>by
  obtain ⟨e,he,rfl⟩:=ai.mp (hp.mem_iff.mp hv)
  exact Gy d.el he
 have hpk:(ord.map strOf).Perm ks:=(hp.map strOf).trans (by rw [bb]; exact d.perm)
 have hlen:ord.length=ks.length:=by
  have:=hpk.length_eq
  rwa [aA] at this
 refine g8 (wpAny_newList ?_ (by rw [hlen,ij]; omega))
 have hoL:(h1.push (seqObj "list" ord.toArray 0)).get? h1.objs.size=g6 (seqObj "list" ord.toArray 0):=ak _ rfl
 refine g8 (ig (im slot_list_sort (s:={ s with heap:=h1.push (seqObj "list" ord.toArray 0),drawn:=dr,toks:=tk }) ⟨_,hoL,rfl⟩ entry_list_sort (list_sort_treeK strKind_oneLt hoL hst.keysOf (λv₁ v₂ rest e=>keyKind_strs (by rw [<-e]; exact hst)) (by rw [hlen]; exact h64) λst' a1 a2=>⟨_,rfl,?_⟩) (args_list_sort _)))
 obtain ⟨ss',b1,b2,b3⟩:=sorted_out_str hst a1 a2
 obtain ⟨e,he⟩:=sortedHeap_at (out:=(arrOf st').map (·.2)) hoL
 refine h7 ⟨_,rfl,hQ h1 _ dr tk _ e ss' k1 (λb o eb=>?_) he b1 (b2.trans hpk) b3⟩
 have hb:=aq eb
 rw [sortedHeap_old (aB hb) (by rw [bR]; exact fg hb)]
 exact ac _ eb
end
section
theorem Wb {l:Addr} {x:g9} {Q:g9->hV->Prop} (hit:s.heap.IsTupleIter it l i) (hl:s.heap.IsTuple l items) (hx:items[i]?=g6 x)
  (hQ:∀ h',h'.IsTupleIter it l (i+1)->bT it s.heap h'->Q x { s with heap:=h' }):wpAny 'g' A (cP (.ref it)) Q E s:=by
 obtain ⟨o,ho,hc,hd⟩:=id hit
 obtain ⟨ol,hol,_,nl,hdl⟩:=hl
 unfold cP
 refine g8 (iq (name:=aX "__next__") hit.typeIs bY (im bY hit.typeIs PySem.F.entry_tuple_iterator_next ?_ (PySem.F.args_tuple_iterator_next_1 _))); show wpAny _ _ (field (.ref it) 0 >>= _) _ _ s
 refine g8 (iZ ho hd (x:=.ref l) rfl ?_); show wpAny _ _ (if (cf l == cq)=hZ then _ else _) _ _ s
 rw [if_neg (show ¬((cf l == cq)=hZ) from be)]; show wpAny _ _ (field (.ref it) 1 >>= _) _ _ s
 refine g8 (iZ ho hd (x:=.int i 0) rfl ?_); show wpAny _ _ (seqItems? (.ref l) >>= _) _ _ s
 refine g8 (iA hol hdl ?_); simp only [bZ,hx]
 refine g8 (iH ho hd 'h' (h7 ⟨x,rfl,h7 (hQ _ ?_ (bv ..))⟩)); exact ⟨_,aQ _ ho (Obj.isFreed_of_fields (Obj.data_mapFields hd _)),(Obj.cls_mapFields ..).trans hc,by rw [Obj.data_mapFields hd]; simp [rawInt]⟩
theorem zU {l:Addr} {Q:g9->hV->Prop} (hh:A.handled=g7) (hit:s.heap.IsTupleIter it l i) (hl:s.heap.IsTuple l items) (hx:items[i]?=g7)
  (hE:∀ h' e,fY it s.heap h'->(∃ o,h'.get? e=g6 o/\o.cls=.type "StopIteration")->E (.ref e) { s with heap:=h' }):wpAny 'g' A (cP (.ref it)) Q E s:=by
 obtain ⟨o,ho,hc,hd⟩:=id hit
 obtain ⟨ol,hol,_,nl,hdl⟩:=hl
 unfold cP
 refine g8 (iq (name:=aX "__next__") hit.typeIs bY (im bY hit.typeIs PySem.F.entry_tuple_iterator_next ?_ (PySem.F.args_tuple_iterator_next_1 _))); show wpAny _ _ (field (.ref it) 0 >>= _) _ _ s
 refine g8 (iZ ho hd (x:=.ref l) rfl ?_); show wpAny _ _ (if (cf l == cq)=hZ then _ else _) _ _ s
 rw [if_neg (show ¬((cf l == cq)=hZ) from be)]; show wpAny _ _ (field (.ref it) 1 >>= _) _ _ s
 refine g8 (iZ ho hd (x:=.int i 0) rfl ?_); show wpAny _ _ (seqItems? (.ref l) >>= _) _ _ s
 refine g8 (iA hol hdl ?_); simp only [bZ,hx]
 refine g8 (iV (g8 (iH ho hd 'h' ?_))); show wpAny _ _ (newExc (.type "StopIteration") [] >>= _) _ _ _
 refine g8 ?_; simp only [newExc,newTuple]; refine g8 (ia ?_ (by size_fits))
 refine g8 (m:=firstArgMember _ _) (j6 (a:=cq) (by first | rfl | (simp only [firstArgMember]; rfl)) ?_); refine ia ?_ (by size_fits); simp only [raiseNew]
 refine g8 (wpAny_handled ?_); first | rw [show A.in1.handled=g7 from hh] | rw [hh]
 refine g8 (h7 (wpAny_throw ?_)); exact hE _ _ (((bv ..).extBut.push _).push _) ⟨_,ak _ rfl,rfl⟩
theorem gQ (hh:A.handled=g7) (it l:Addr) (hne:l≠it) (items:Array g9):Draws prog w A it [it,l] items.size (λi v=>items[i]?=g6 v) (λi h=>h.IsTupleIter it l i/\h.IsTuple l items) where
 live:=λ_ _ st=>let ⟨o,ho,_⟩:=st.1; ⟨o,ho⟩
 frame:=λ_ _ _ st hk=>⟨st.1.at λo e=>hk it 'h' o e,let ⟨o,e,c⟩:=st.2; ⟨o,hk l 'h' o e,c⟩⟩
 item:=λi s Q E hi st hQ=>by
  refine Wb st.1 st.2 (x:=items[i]) (by simp [hi]) λh' hit' hs'=>hQ _ h' s.toks (by simp [hi]) ⟨hit',?_⟩ hs'
  obtain ⟨o,e,c⟩:=st.2
  exact ⟨o,(hs'.2 l hne).trans e,c⟩
 done:=λs Q E st hE=>zU hh st.1 st.2 'h' hE
variable {z TI TO i1 i2:Addr} {fp1 fp2:List Addr} {n1 n2:Nat} {P1 P2:Nat->g9->Prop} {S1 S2:Nat->Heap->Prop} {a b:g9}
end
inductive SK where
 | l | t
noncomputable def SK.itc:SK->String
 | .l => "list_iterator"
 | .t => "tuple_iterator"
def ItK (h:Heap) (it a:Addr):SK->Nat->Prop
 | .l,i=>h.IsListIter it a i
 | .t,i=>h.IsTupleIter it a i
theorem ItK.obj:∀ {k:SK},ItK h it a k i->∃ o,h.get? it=g6 o/\o.cls=.type k.itc/\o.data=.fields #[.ref a,.int i 0]
 | .l,⟨o,e,c,d⟩=>⟨o,e,c,d⟩
 | .t,⟨o,e,c,d⟩=>⟨o,e,c,d⟩
variable {t':Nat}
section
theorem Kc {ch:List Addr} (I:Inv X pins σ H s) (k:∀ b o,b∉ch->s.heap.get? b=g6 o->h'.get? b=g6 o) (hf:∀ b∈ch,WM X pins H b):Inv X pins σ H { s with heap:=h',toks:=t' }:=by
 have nit:∀ b u,H b=g6 u->b∉ch:=λb u e z=>by
  rw [(hf b z).1] at e
  cases e
 refine I.step (g':=s.gens) (d':=s.drawn) (ch:=ch) (λb hb=>?_) (λb o _ _ hc e _=>k b o hc e) (λb o _ _ hc e _=>⟨o.slots,k b o hc e⟩) (λ_ _ _ _ n=>n) (λb o hc e=>⟨o,k b o hc e⟩) (λ_ _ e=>e) (λ_ _ _ e=>e) (λb ps e=>⟨#[],by rw [e]; simp⟩) (λm hm=>?_) (λb u e=>?_) I.bare
 ·obtain ⟨f0,f1,f2,f3,f4,f5⟩:=hf b hb
  exact ⟨f3,f1,f4,f5⟩
 ·obtain ⟨o,es,ep,ho,r⟩:=hm
  exact ⟨o,es,ep,k _ o (λz=>(hf _ z).2.1 rfl) ho,r⟩
 ·refine (I.hok b u e).stay (λc v hc q=>k c v ?_ q) (λ_ q=>q) λ_ _ q=>q
  rcases hc with z | z
  ·rw [z]
   exact nit b u e
  ·exact nit c _ z
theorem qjH {d':Drawn} (I:Inv X pins σ H s) (k:∀ b u,s.heap.get? b=g6 u->h'.get? b=g6 u):Inv X pins σ H { s with heap:=h',drawn:=d',toks:=t' }:=by
 refine I.step (g':=s.gens) (d':=d') (ch:=[]) (λ_ z=>nomatch z) (λb o _ _ _ e _=>k b o e) (λb o _ _ _ e _=>⟨o.slots,k b o e⟩) (λ_ _ _ _ n=>n) (λb o _ e=>⟨o,k b o e⟩) (λ_ _ e=>e) (λ_ _ _ e=>e) (λb ps e=>⟨#[],by rw [e]; simp⟩) (λm hm=>?_) (I.hok.kept k) I.bare
 obtain ⟨o,es,ep,ho,r⟩:=hm
 exact ⟨o,es,ep,k _ o ho,r⟩
end
theorem Wc {xs:List V} {us:List g9} (r:Vals xs us) (h:us[i]?=g6 u):∃ x,xs[i]?=g6 x/\RelV x u:=by
 have hi:i < us.length:=(aC.mp h).1
 have hx:i < xs.length:=by rw [r.length]; exact hi
 obtain ⟨u',h1,h2⟩:=r.get (ah hx)
 rw [h] at h1
 cases h1
 exact ⟨xs[i],ah hx,h2⟩
def leS (x y:Str):Prop:=¬y.cps.toList < x.cps.toList
noncomputable def qfz (x:Str):List Str->List Str
 | []=>[x]
 | y::l=>if vP y x=hZ then y::qfz x l else x::y::l
noncomputable def jW:List Str->List Str
 | []=>[]
 | x::l=>qfz x (jW l)
theorem gS {z:Str} (a:leS x y) (b:leS y z):leS x z:=List.le_trans (α:=Nat) a b
theorem GG (x y:Str):leS x y\/leS y x:=List.le_total (α:=Nat) x.cps.toList y.cps.toList
theorem Ke (a:leS x y) (b:leS y x):x=y:=by
 have e:=List.le_antisymm (α:=Nat) (as:=x.cps.toList) (bs:=y.cps.toList) a b
 obtain ⟨⟨l⟩⟩:=x
 obtain ⟨⟨m⟩⟩:=y
 simp at e
 rw [e]
theorem strLt_false:vP y x=hJ↔leS x y:=by
 unfold vP leS
 exact decide_eq_false_iff_not
theorem gT (x:Str):∀ l,(qfz x l).Perm (x::l)
 | []=>cM _
 | y::l=>by
  unfold qfz
  split
  ·exact ((gT x l).cons y).trans (List.Perm.swap _ _ _)
  ·exact cM _
theorem qK:∀ l,(jW l).Perm l
 | []=>cM _
 | x::l=>(gT x _).trans ((qK l).cons x)
theorem gU (x:Str):∀ l,l.Pairwise leS->(qfz x l).Pairwise leS
 | [],_=>dY _ _
 | y::l,h=>by
  have h0:=aY.mp h
  unfold qfz
  split
  ·rename_i hlt
   have hyx:leS y x:=by
    rcases GG y x with q | q
    ·exact q
    ·rw [<-strLt_false] at q
     rw [q] at hlt
     cases hlt
   refine aY.mpr ⟨λz hz=>?_,gU x l h0.2⟩
   rcases ae.mp ((gT x l).mem_iff.mp hz) with rfl | hz
   ·exact hyx
   ·exact h0.1 z hz
  ·rename_i hlt
   have hxy:leS x y:=strLt_false.mp (by cases e:vP y x with | true=>exact absurd e hlt | false=>rfl)
   refine aY.mpr ⟨λz hz=>?_,h⟩
   rcases ae.mp hz with rfl | hz
   ·exact hxy
   ·exact gS hxy (h0.1 z hz)
theorem jn:∀ l,(jW l).Pairwise leS
 | []=>d9
 | x::l=>gU x _ (jn l)
theorem wG:∀ {l m:List Str},l.Perm m->l.Pairwise leS->m.Pairwise leS->l=m
 | [],m,p,_,_=>p.nil_eq
 | x::l,[],p,_,_=>absurd p.length_eq 'h'
 | x::l,y::m,p,hl,hm=>by
  have a:=aY.mp hl
  have b:=aY.mp hm
  have exy:x=y:=by
   have h1:y∈x::l:=p.mem_iff.mpr (af ..)
   have h2:x∈y::m:=p.mem_iff.mp (af ..)
   rcases ae.mp h1 with e | e
   ·exact e.symm
   ·rcases ae.mp h2 with e' | e'
    ·exact e'
    ·exact Ke (a.1 y e) (b.1 x e')
  subst exy
  rw [wG p.cons_inv a.2 b.2]
theorem Js:∀ (x:Str) (l:List Str),risingS x l=hZ->(x::l).Pairwise leS
 | x,[],_=>dY _ _
 | x,y::l,h=>by
  have h:(!ltCps y.cps.toList x.cps.toList&&risingS y l)=true:=h
  rw [aT] at h
  have ih:=Js y l h.2
  have hxy:leS x y:=by
   have h1:=h.1
   rw [ltCps_eq] at h1
   unfold leS
   simpa using h1
  refine aY.mpr ⟨λz hz=>?_,ih⟩
  rcases ae.mp hz with rfl | hz
  ·exact hxy
  ·exact gS hxy ((aY.mp ih).1 z hz)
theorem Uk:∀ (l:List Str),sortedS l=hZ->l.Pairwise leS
 | [],_=>d9
 | x::l,h=>Js x l h
theorem We (p:ss.Perm ks) (h:sortedS ss=hZ):ss=jW ks:=wG (p.trans (qK ks).symm) (Uk ss h) (jn ks)
noncomputable def gW:List D->Option (List Str)
 | []=>g6 []
 | .str x::l=>(gW l).map (x::·)
 | _::_=>g7
noncomputable def xE:D->Option (List Str)
 | .lst ds=>gW ds
 | .tup ds=>gW ds
 | _=>g7
noncomputable def qfA (P:h8) (w:ib) (p:Addr) (ks:List Str):HO:=.ext λh=>SetS P w h p ks
theorem qeA (x:SetS P w h p ks):ObjOk P w H h p (qfA P w p ks):=
 ⟨x,let ⟨_,_,_,e,_⟩:=x; ⟨_,e⟩,λ_ _ a k=>a.at k⟩
theorem Kf:∀ {vs:List V} {us:List g9} {ds:List D} {ss:List Str},IsL K F vs ds->Vals vs us->gW ds=g6 ss->i6 us ss/\∀ x∈ss,x.length<=sizeLine
 | [],[],[],ss,_,_,e=>by cases e; exact ⟨.nil,λx h=>by cases h⟩
 | v::vs,u::us,d::ds,ss,.cons i il,.cons r rl,e=>by
  cases d with
  | str x=>
   cases q:gW ds with
   | none=>
    have e:(gW ds).map (x::·)=g6 ss:=e
    rw [q] at e
    cases e
   | some sl=>
    have e:(gW ds).map (x::·)=g6 ss:=e
    rw [q] at e
    cases e
    cases i with
    | str hz=>
     obtain ⟨t,rfl⟩:=r
     have ih:=Kf il rl q
     refine ⟨.cons x t ih.1,λy hy=>?_⟩
     rcases ae.mp hy with rfl | hy
     ·exact hz
     ·exact ih.2 y hy
  | _=>cases e
variable {f fa:Sl->Out (D×Sl)}
section
variable {own:List Nat} {e:Expr} {ma:Mo} {pos:Pos}
theorem Wf:∀ (l ks:List Str) {x:Str},x∈l.foldl kX ks->x∈ks\/x∈l
 | [],ks,x,h=>.inl h
 | y::l,ks,x,h=>by
  rcases Wf l (kX ks y) h with q | q
  ·unfold kX at q
   split at q
   ·exact .inl q
   ·rcases ao.mp q with q | q
    ·exact .inl q
    ·exact .inr (by rw [am.mp q]; exact af ..)
  ·exact .inr (aa _ q)
theorem qdc (hK:C.K=X.K) (hc:X.calm=hZ):yC X (.type "set") (λxs H Q=>∃ x F dx ss,xs=[x]/\Same F H/\TopIs C.K F H x dx/\xE dx=g6 ss/\ss.length < 4000/\((∀ y∈ss,y.length<=sizeLine)->∀ p,H p=g7->Q (.ref p) (upd H p (qfA X.prog X.w p (ss.foldl kX []))))):=by
 intro pins s σ H xs us Q I r h
 obtain ⟨x,F,dx,ss,rfl,sb,tx,es,hl,q⟩:=h
 obtain ⟨u,rfl,ru⟩:=uw r
 have fin:(∀ y∈ss,y.length<=sizeLine)->∀ h' tk,SetS X.prog X.w h' s.heap.objs.size (ss.foldl kX [])->(∀ b o,s.heap.get? b=g6 o->h'.get? b=g6 o)->EP X pins σ Q 'o' { s with heap:=h',toks:=tk }:=λhy h' tk hS kp=>
  ⟨.ref s.heap.objs.size,_,I.laid (t':=tk) kp (ax _) (qeA hS),rfl,q hy _ (I.hok.fresh (ax _))⟩
 cases dx with
 | lst ds=>
  obtain ⟨a,vs,rfl,hq,il⟩:=tx.lst sb
  cases ru
  rw [hK] at hq
  obtain ⟨its,rv,pl,hz⟩:=I.list hq
  obtain ⟨st,hy⟩:=Kf il rv es
  have hlt:a < s.heap.objs.size:=let ⟨o,_,e,_⟩:=pl; aq e
  have hn:its.length=ss.length:=st.length
  refine VV (λA1 Q1 E1 hA k=>?_) (fin hy)
  refine qb0 (items:=its.toArray) (hA.trans (I.ok.hd hc)) (VU (ak _ rfl)) (pl.isList.push _) (by simpa using st) (by rw [au,hn]; unfold scanBound; omega) (aB hlt) λh' tk hS kp=>k h' tk hS λb o eb=>kp b o (aB (aq eb)) (ac _ eb)
 | tup ds=>
  obtain ⟨a,vs,rfl,hq,il⟩:=tx.tup sb
  cases ru
  rw [hK] at hq
  obtain ⟨its,rv,pl,hz⟩:=I.tuple hq
  obtain ⟨st,hy⟩:=Kf il rv es
  have hlt:a < s.heap.objs.size:=pl.lt
  have hn:its.length=ss.length:=st.length
  refine VV (λA1 Q1 E1 hA k=>?_) (fin hy)
  refine GA (items:=its.toArray) (hA.trans (I.ok.hd hc)) (VU (ak _ rfl)) (by obtain ⟨o,e,c⟩:=pl; exact ⟨o,ac _ e,c⟩) (by simpa using st) (by rw [au,hn]; unfold scanBound; omega) (aB hlt) λh' tk hS kp=>k h' tk hS λb o eb=>kp b o (aB (aq eb)) (ac _ eb)
 | _=>cases es
theorem gX:∀ {us:List g9} {ss:List Str},i6 us ss->Vals (ss.map V.str) us
 | _,_,.nil=>.nil
 | _,_,.cons y t h=>.cons ⟨t,rfl⟩ (gX h)
theorem GH (hc:X.calm=hZ):yC X (.builtin "sorted") (λxs H Q=>∃ a ks,xs=[.ref a]/\H a=g6 (qfA X.prog X.w a ks)/\ks.length < 64/\∀ p,H p=g7->Q (.ref p) (upd H p (.lst ((jW ks).map V.str)))):=by
 intro pins s σ H xs us Q I r h
 obtain ⟨a,ks,rfl,ha,h64,q⟩:=h
 obtain ⟨u,rfl,ru⟩:=uw r
 cases ru
 have hS:SetS X.prog X.w s.heap a ks:=(I.hok a _ ha).1
 refine XV (I.ok.hd hc) hS h64 λh1 h' dr tk vs e ss k1 k2 hp st pm so=>?_
 rw [We pm so] at st
 have I1:Inv X pins σ H { s with heap:=h1,drawn:=dr,toks:=tk }:=qjH I k1
 have hz:(jW ks).length<=sizeLine:=by
  rw [(qK ks).length_eq,ij]
  omega
 refine ⟨.ref h1.objs.size,_,I1.laid (t':=tk) (o:=.lst ((jW ks).map V.str)) k2 (ax _) ⟨by rw [aA]; exact hz,vs.toList,e,gX st,by simpa [seqObj] using hp⟩,rfl,q _ (I1.hok.fresh (ax _))⟩
theorem qeB:yC X (.builtin "len") (λxs H Q=>∃ a ks,xs=[.ref a]/\H a=g6 (qfA X.prog X.w a ks)/\Q (.int ks.length) H):=by
 intro pins s σ H xs us Q I r h
 obtain ⟨a,ks,rfl,ha,q⟩:=h
 obtain ⟨u,rfl,ru⟩:=uw r
 cases ru
 obtain ⟨es,ep,t,ho,d⟩:SetS X.prog X.w s.heap a ks:=(I.hok a _ ha).1
 have hb:=d.bd
 refine call_len_set ho ⟨rfl,rfl,rfl⟩ rfl d.fits (by unfold scanBound at hb; omega) ?_
 exact ⟨.int ks.length,H,I.tok _,⟨_,by rw [d.size]⟩,q⟩
theorem Ul {m:Mo} {Q R:VK} (h:tE C own m f σ H Q) (i:∀ v H1,Q v H1->R v H1):tE C own m f σ H R:=by
 obtain ⟨F,ρ,rp,po⟩:=h
 refine ⟨F,ρ,rp,?_⟩
 cases q:f ρ with
 | ok p=>
  rw [q] at po
  obtain ⟨d,ρ1⟩:=p
  exact λv F1 H1 a b c=>i _ _ (po v F1 H1 a b c)
 | exc c ρ1=>
  rw [q] at po
  exact po
 | bad=>
  rw [q] at po
  exact po.elim
noncomputable def vV (d:D):Out D:=match xE d with
 | some ss=>if ss.length < 64 then .ok (.lst ((jW (ss.foldl kX [])).map D.str)) else .bad
 | none=>.bad
noncomputable def Kg (d:D):Out D:=match xE d with
 | some ss=>if ss.length < 4000 then .ok (.int (ss.foldl kX []).length) else .bad
 | none=>.bad
theorem Kh:∀ {ss:List Str},(∀ x∈ss,x.length<=sizeLine)->IsL K F (ss.map V.str) (ss.map D.str)
 | [],_=>.nil
 | x::l,h=>.cons (.str (h x (af ..))) (Kh λy hy=>h y (aa _ hy))
theorem zi {p p2 pos2:Pos} (hK:C.K=X.K) (hc:X.calm=hZ) (hg:Gl X "sorted") (hm:X.mg "sorted"=g7) (hv:bootBuiltins "sorted"=g6 (.builtin "sorted")) (hg2:Gl X "set") (hm2:X.mg "set"=g7) (hv2:bootBuiltins "set"=g6 (.type "set")) (ha:PE X e (tE C own ma fa))
  (he:starEach [e] X.env=[(hJ,eval e X.env)]:=by exact ja rfl) (he2:starEach [.Call (.Name "set" p2) [e] [] pos2] X.env=[(hJ,eval (.Call (.Name "set" p2) [e] [] pos2) X.env)]:=by exact ja rfl) :
  PE X (.Call (.Name "sorted" p) [.Call (.Name "set" p2) [e] [] pos2] [] pos) (tE C own .fr (d1 vV fa)):=by
 refine kn (xm (GH hc) hg hm hv (jk (ux (qdc hK hc) hg2 hm2 hv2 (jk ha ke he) 'c' 'c' (by rw [he]; rfl) rfl) ke he2) 'c' 'c' (by rw [he2]; rfl) rfl) λσ H Q h=>?_
 refine Ul (zf (ma:=ma) h) λx H1 ⟨x',F,dx,ex,sb,tx,po⟩=>?_
 cases ex
 unfold vV at po
 cases es:xE dx with
 | none=>
  rw [es] at po
  exact po.elim
 | some ss=>
  rw [es] at po
  by_cases hl:ss.length < 64
  ·have po:PoV C .fr F H1 (if ss.length < 64 then .ok (.lst ((jW (ss.foldl kX [])).map D.str)) else .bad) Q:=po
   rw [if_pos hl] at po
   refine ⟨x,F,dx,ss,rfl,sb,tx,es,by omega,λhy q hq=>⟨q,_,rfl,qp,?_,λl hl2=>?_⟩⟩
   ·have:=uH ss []
    rw [bc] at this
    omega
   ·obtain ⟨s1,c1,f1⟩:=vz (u:=qfA X.prog X.w q (ss.foldl kX [])) sb hq
    obtain ⟨s2,c2,f2⟩:=vz (u:=.lst ((jW (ss.foldl kX [])).map V.str)) s1 hl2
    have hl1:H1 l=none:=by
     by_cases z:l=q
     ·rw [z] at hl2
      rw [qp] at hl2
      cases hl2
     ·rwa [qC z] at hl2
    refine po _ _ _ s2 (c1.trans' c2) ⟨l,rfl,hl1,f2,_,qp,Kh λy hy2=>hy y ?_⟩
    rcases Wf ss [] ((qK _).mem_iff.mp hy2) with z | z
    ·cases z
    ·exact z
  ·have po:PoV C .fr F H1 (if ss.length < 64 then .ok (.lst ((jW (ss.foldl kX [])).map D.str)) else .bad) Q:=po
   rw [if_neg hl] at po
   exact po.elim
theorem GI {p p2 pos2:Pos} (hK:C.K=X.K) (hc:X.calm=hZ) (hg:Gl X "len") (hm:X.mg "len"=g7) (hv:bootBuiltins "len"=g6 (.builtin "len")) (hg2:Gl X "set") (hm2:X.mg "set"=g7) (hv2:bootBuiltins "set"=g6 (.type "set")) (ha:PE X e (tE C own ma fa))
  (he:starEach [e] X.env=[(hJ,eval e X.env)]:=by exact ja rfl) (he2:starEach [.Call (.Name "set" p2) [e] [] pos2] X.env=[(hJ,eval (.Call (.Name "set" p2) [e] [] pos2) X.env)]:=by exact ja rfl) :
  PE X (.Call (.Name "len" p) [.Call (.Name "set" p2) [e] [] pos2] [] pos) (tE C own .sh (d1 Kg fa)):=by
 refine kn (xm qeB hg hm hv (jk (ux (qdc hK hc) hg2 hm2 hv2 (jk ha ke he) 'c' 'c' (by rw [he]; rfl) rfl) ke he2) 'c' 'c' (by rw [he2]; rfl) rfl) λσ H Q h=>?_
 refine Ul (zf (ma:=ma) h) λx H1 ⟨x',F,dx,ex,sb,tx,po⟩=>?_
 cases ex
 unfold Kg at po
 cases es:xE dx with
 | none=>
  rw [es] at po
  exact po.elim
 | some ss=>
  rw [es] at po
  have po:PoV C .sh F H1 (if ss.length < 4000 then .ok (.int (ss.foldl kX []).length) else .bad) Q:=po
  by_cases hl:ss.length < 4000
  ·rw [if_pos hl] at po
   refine ⟨x,F,dx,ss,rfl,sb,tx,es,hl,λhy q hq=>⟨q,_,rfl,qp,?_⟩⟩
   obtain ⟨s1,c1,f1⟩:=vz (u:=qfA X.prog X.w q (ss.foldl kX [])) sb hq
   exact po _ _ _ s1 c1 (.int _)
  ·rw [if_neg hl] at po
   exact po.elim
end
variable {β:Type}
@[simp] theorem kY {a:α} {k:α->Out β}:(Out.ok a).bind k=k a:=rfl
@[simp] theorem qi6 {c:Str} {o:Sl} {k:α->Out β}:(Out.exc c o:Out α).bind k=.exc c o:=rfl
@[simp] theorem qi7 {k:α->Out β}:(Out.bad:Out α).bind k=.bad:=rfl
@[simp] theorem qio {a:α}:(Out.ok a).plain=.ok a:=rfl
@[simp] theorem qi8:(Out.bad:Out α).plain=.bad:=rfl
variable {c:Prop}
@[simp] theorem qi9 [Decidable c] {a b:Out α} {k:α->Out β}:(if c then a else b).bind k=if c then a.bind k else b.bind k:=by split <;> rfl
@[simp] theorem qja [Decidable c] {a b:Out α}:(if c then a else b).plain=if c then a.plain else b.plain:=by split <;> rfl
noncomputable def qb4 (d:D) (A B:Out α):Out α:=match d with
 | .bl b=>if b=hZ then A else B
 | _=>.bad
@[simp] theorem qhA {A B:Out α}:qb4 (.bl b) A B=if b=hZ then A else B:=rfl
noncomputable def qjb (p:D×Sl):Out (Bool×Sl):=match p.1 with
 | .bl b=>.ok (b,p.2)
 | _=>.bad
variable {ρ:Sl}
@[simp] theorem qip:qjb (.bl b,ρ)=.ok (b,ρ):=rfl
noncomputable def XW (ms:List PM):Out (Fl×Sl)->Out 'i'
 | .ok (.nx,ρ)=>.ok (.non,qv ρ 0 ms)
 | .ok (.rt d,ρ)=>.ok (d,qv ρ 0 ms)
 | .ok _=>.bad
 | .exc c ρ=>.exc c ((qv ρ 0 ms).map g6)
 | .bad=>.bad
variable {ms:List PM}
theorem runD_ap {f:Sl->Out (Fl×Sl)} {ds:List D}:ko N ms f ds=XW ms (f (qw N ds)):=by
 unfold ko XW
 rfl
@[simp] theorem qjc:XW ms (.ok (.rt d,ρ))=.ok (d,qv ρ 0 ms):=rfl
@[simp] theorem qjd:XW ms (.ok (.nx,ρ))=.ok (.non,qv ρ 0 ms):=rfl
@[simp] theorem qiq {c:Str}:XW ms (.exc c ρ)=.exc c ((qv ρ 0 ms).map g6):=rfl
@[simp] theorem qir [Decidable c] {a b:Out (Fl×Sl)}:XW ms (if c then a else b)=if c then XW ms a else XW ms b:=by split <;> rfl
noncomputable def XX (as:List AK) (ρ:Sl):Out 'i'->Out (D×Sl)
 | .ok q=>.ok (q.1,ji as q.2 ρ)
 | .exc c o=>.exc c (ji as (o.map (·.getD .non)) ρ)
 | .bad=>.bad
variable {as:List AK}
@[simp] theorem qhB {q:D×List D}:XX as ρ (.ok q)=.ok (q.1,ji as q.2 ρ):=rfl
@[simp] theorem qgA {c:Str} {o:Sl}:XX as ρ (.exc c o)=.exc c (ji as (o.map (·.getD .non)) ρ):=rfl
@[simp] theorem qgB [Decidable c] {a b:Out 'i'}:XX as ρ (if c then a else b)=if c then XX as ρ a else XX as ρ b:=by split <;> rfl
variable {ρ:Sl}
@[simp] theorem GJ:qd i ρ=match ρ[i]? with | some (g6 d)=>.ok (d,ρ) | _=>.bad:=rfl
@[simp] theorem qjI:dC d ρ=.ok (d,ρ):=rfl
variable {gg:D->Sl->Out Sl}
section
variable {g g':D->D->Out D} {g1:D->Out D} {fb fc:Sl->Out (D×Sl)} {ft fu:Sl->Out (Bool×Sl)} {fr:Sl->Out (List D×Sl)} {fs ft1:Sl->Out (Fl×Sl)} {fi:Sl->Out (List D×Sl)} {G:List D->Out 'i'}
@[simp] theorem Um:d1 g1 fa ρ=(fa ρ).bind λp=>(g1 p.1).plain.bind λd=>.ok (d,p.2):=rfl
@[simp] theorem qis:d2 g fa fb ρ=(fa ρ).bind λp=>(fb p.2).bind λq=>(g p.1 q.1).plain.bind λd=>.ok (d,q.2):=rfl
@[simp] theorem qit:xq f ρ=(f ρ).bind λp=>(wQ p.1).bind λb=>.ok (b,p.2):=rfl
@[simp] theorem qhC:qV f ρ=(f ρ).bind qjb:=rfl
@[simp] theorem qiu:QV ft ρ=(ft ρ).bind λp=>.ok (!p.1,p.2):=rfl
@[simp] theorem qhD:qin f ρ=(qV f ρ).bind λp=>.ok (.bl (!p.1),p.2):=rfl
@[simp] theorem qiv:qea ft fu ρ=(ft ρ).bind λp=>if p.1=hZ then fu p.2 else .ok (hJ,p.2):=rfl
@[simp] theorem qje:dOr ft fu ρ=(ft ρ).bind λp=>if p.1=hZ then .ok (hZ,p.2) else fu p.2:=rfl
@[simp] theorem qhE:Vz fa fb ρ=(fa ρ).bind λp=>qb4 p.1 (fb p.2) (.ok (.bl hJ,p.2)):=by
 unfold Vz
 cases fa ρ with
 | ok p=>
  obtain ⟨d,r⟩:=p
  cases d <;> try rfl
  rename_i b
  cases b <;> rfl
 | exc c o=>rfl
 | bad=>rfl
@[simp] theorem qiw:qiZ fa fb ρ=(fa ρ).bind λp=>qb4 p.1 (.ok (.bl hZ,p.2)) (fb p.2):=by
 unfold qiZ
 cases fa ρ with
 | ok p=>
  obtain ⟨d,r⟩:=p
  cases d <;> try rfl
  rename_i b
  cases b <;> rfl
 | exc c o=>rfl
 | bad=>rfl
@[simp] theorem qjf:dIf ft fa fb ρ=(ft ρ).bind λp=>if p.1=hZ then fa p.2 else fb p.2:=rfl
@[simp] theorem qgC:xu g g' fa fb fc ρ=(fa ρ).bind λp=>(fb p.2).bind λq=>(g p.1 q.1).plain.bind λz=>qb4 z ((fc q.2).bind λr=>(g' q.1 r.1).plain.bind λd=>.ok (d,r.2)) (.ok (.bl hJ,q.2)):=by
 unfold xu
 congr 1
 funext p
 congr 1
 funext q
 congr 1
 funext z
 cases z <;> try rfl
 rename_i b
 cases b <;> rfl
@[simp] theorem qeC:qD ρ=.ok ([],ρ):=rfl
@[simp] theorem qb5:qc fa fr ρ=(fa ρ).bind λp=>(fr p.2).bind λq=>.ok (p.1::q.1,q.2):=rfl
@[simp] theorem qb6:kG fr ρ=(fr ρ).bind λq=>.ok (D.non::q.1,q.2):=rfl
@[simp] theorem qix:yJ fr ρ=(fr ρ).bind λp=>if p.1.length<=sizeLine then .ok (.tup p.1,p.2) else .bad:=rfl
@[simp] theorem qiy:zE fr ρ=(fr ρ).bind λp=>if p.1.length<=sizeLine then .ok (.lst p.1,p.2) else .bad:=rfl
@[simp] theorem qhF:jV ρ=.ok (.nx,ρ):=rfl
@[simp] theorem Uo:qW fs ft1 ρ=(fs ρ).bind λp=>match p.1 with | .nx=>ft1 p.2 | _=>.ok p:=by
 show _=_
 unfold qW
 cases fs ρ with
 | ok p=>obtain ⟨fl,r⟩:=p; cases fl <;> rfl
 | exc c o=>rfl
 | bad=>rfl
@[simp] theorem qgD:sIf ft fs ft1 ρ=(ft ρ).bind λp=>if p.1=hZ then fs p.2 else ft1 p.2:=rfl
@[simp] theorem qb7:vd f ρ=(f ρ).bind λp=>.ok (.nx,p.2):=rfl
@[simp] theorem gY:jR f ρ=(f ρ).bind λp=>.ok (.rt p.1,p.2):=rfl
@[simp] theorem wt:jQ i f ρ=(f ρ).bind λp=>if i < p.2.length then .ok (.nx,p.2.set i (g6 p.1)) else .bad:=rfl
@[simp] theorem qb8:qt as G fr ρ=(fr ρ).bind λp=>match qA as p.1 p.2 with | some ds=>XX as p.2 (G ds) | none=>.bad:=rfl
@[simp] theorem qiz:qjE f ρ=(f ρ).bind λp=>(qgn p.1).bind λds=>.ok (ds,p.2):=rfl
@[simp] theorem qiA:jY f ρ=(f ρ).bind λp=>(jI p.1).bind λds=>.ok (ds,p.2):=rfl
@[simp] theorem qjg:gNm i d ρ=if i < ρ.length then .ok (ρ.set i (g6 d)) else .bad:=rfl
@[simp] theorem wu:VF fi gg fs ρ=(fi ρ).bind λp=>wA gg fs p.1 p.2:=rfl
@[simp] theorem qiB:qjF f gg ρ=(f ρ).bind λp=>match gg p.1 p.2 with | .ok ρ'=>.ok (.nx,ρ') | _=>.bad:=rfl
@[simp] theorem qeD {gg:List D->D->Out (List D)}:JU i gg f ρ=if yY ρ[i]?=hZ then (f ρ).bind λp=>(match p.2[i]? with | some (g6 (.lst xs))=>(match gg xs p.1 with | .ok ys=>.ok (.non,p.2.set i (g6 (.lst ys))) | _=>.bad) | _=>.bad) else .bad:=rfl
@[simp] theorem qjh:ftT ρ=.ok (hZ,ρ):=rfl
end
end L2.D2
namespace L2.D2
open PySem PySem.Spec PyProof.Rows
def qfv (i j:Int):Prop:=(0<=j/\j<=64)/\-4611686018427387904 < i/\i < 4611686018427387904
instance:∀ i j,Decidable (qfv i j):=λi j=>inferInstanceAs (Decidable (_/\_))
variable {X:Cx} {C:Ct}
section
theorem qc1:OpR X (binaryOp .Pow) (rI qfv λi j=>.int (i ^ j.toNat)):=opI λi j _ _ _ _ _ hc q=>by
 obtain ⟨⟨h0,h1⟩,h2,h3⟩:=hc
 exact pow_int_small h0 'a' 'a' q
noncomputable def qiC:D->D->Out D:=uz λi j=>if qfv i j then .ok (.int (i ^ j.toNat)) else .bad
theorem qgE:OpD X C .sh (binaryOp .Pow) qiC:=Yn qc1 λ_ _ _=>.int _
end
noncomputable def GK (sep:Str):D->Out D
 | .lst ds=>match gW ds with
  | some ss=>if (ss.map (·.length)).sum+ss.length * sep.length<=16777216/\(fA sep ss).length<=sizeLine then .ok (.str (fA sep ss)) else .bad
  | none=>.bad
 | _=>.bad
variable {own:List Nat} {e:Expr}
section
variable {fe:Sl->Out (D×Sl)} {m:Mo} {apos cpos:Pos} {sep:Str}
theorem qeE:MtR X "str.join" (λx vs H Q=>∃ (sep:Str) (a:Addr) (xs:List V) (ss:List Str),x=.str sep/\vs=[.ref a]/\SqL X.K H a xs/\(∀ us,Vals xs us->i6 us ss)/\(ss.map (·.length)).sum+ss.length * sep.length<=16777216/\Q (.str (fA sep ss)) H):=by
 intro pins s σ H x vs v us Q I rx rv h
 obtain ⟨sep,a,xs,ss,rfl,rfl,hq,hb,hz,q⟩:=h
 obtain ⟨t,rfl⟩:=rx
 obtain ⟨u,rfl,ru⟩:=rv.one
 cases ru
 obtain ⟨its,r,pl,_⟩:=I.list hq
 obtain ⟨o,n,ho,hc,hd,hdt⟩:=pl
 exact join_list ⟨o,ho,hc,n,hdt⟩ (by simpa using hb its r) hz λt' k=>⟨.str (fA sep ss),H,I.tok _,⟨_,rfl⟩,q⟩
theorem qeF {c1 c2} (hK:C.K=X.K) (he:PE X e (tE C own m fe))
  (hbase:attributeBase (.Constant (.str sep) c1 c2) "join" X.env (eval (.Constant (.str sep) c1 c2) X.env)=eval (.Constant (.str sep) c1 c2) X.env:=by rfl)
  (hfew:((backTo cpos (starEach [e] X.env)).all (λx=>!x.1)&&(backToKw cpos (keywordEach [] X.env)).all (λx=>x.1.isSome)
   && decide ([e].length+([]:List iI).length+(if ([]:List iI).isEmpty then 0 else 1) < 30))=true:=by exact xp rfl)
  (hline:(apos.endLine == cpos.line)=true:=by rfl) (hs:starEach [e] X.env=[(hJ,eval e X.env)]:=by exact ja rfl) :
  PE X (.Call (.Attribute (.Constant (.str sep) c1 c2) "join" apos) [e] [] cpos) (tE C own .sh (d1 (GK sep) fe)):=by
 refine kn (qbv PySem.F.plainAttrs_str PySem.F.slot_str_join PySem.F.type_str_join qeE qcZ (jk he ke hs) hbase hfew hline hs rfl) λσ H Q h=>?_
 refine ⟨rfl,?_⟩
 obtain ⟨F,ρ,rp,h⟩:=qbD (ma:=m) h
 refine ⟨F,ρ,rp,?_⟩
 cases q:fe ρ with
 | ok p=>
  rw [q] at h
  obtain ⟨d,ρ1⟩:=p
  intro v F1 H1 rp1 c1 mo1
  obtain ⟨F2,dx,sb,tx,po⟩:=h v F1 H1 rp1 c1 mo1
  cases dx <;> try exact po.elim
  rename_i ds
  unfold GK at po
  cases q2:gW ds with
  | none=>simp only [q2] at po; exact po.elim
  | some ss=>
   simp only [q2] at po
   by_cases hz:(ss.map (·.length)).sum+ss.length * sep.length<=16777216/\(fA sep ss).length<=sizeLine
   ·rw [if_pos hz] at po
    obtain ⟨a,vs,rfl,hq,t⟩:=tx.lst sb
    have hq':SqL X.K H1 a vs:=by rw [<-hK]; exact hq
    exact ⟨sep,a,vs,ss,rfl,rfl,hq',λus r=>(Kf t r q2).1,hz.1,po _ F2 H1 sb .refl (.str hz.2)⟩
   ·rw [if_neg hz] at po
    exact po.elim
 | exc c=>rw [q] at h; exact h
 | bad=>rw [q] at h; exact h.elim
end
variable {F H:Hp}
theorem PoI.shift {σ:St} {F1 H1:Hp} {r:Out (List D×Sl)} {R:It->Hp->Prop} (h:PoI C own σ F H r R) (c:Chg (OA own σ) F H F1 H1):PoI C own σ F1 H1 r R:=by
 cases r with
 | ok p=>exact λJ F' H' rp c' j=>h J F' H' rp (c.trans' c') j
 | exc x=>exact λF' H' s io c'=>h F' H' s io (c.trans' c')
 | bad=>exact h.elim
def qb9 (i j:Int):Prop:=(-(2 ^ 62)<=i/\i < 2 ^ 62)/\-(2 ^ 62)<=j/\j < 2 ^ 62
instance:∀ i j,Decidable (qb9 i j):=λi j=>inferInstanceAs (Decidable (_/\_))
noncomputable def zj (fa fb:Sl->Out (D×Sl)):Sl->Out (List D×Sl):=λρ=>(fa ρ).bind λp=>(fb p.2).bind λq=>match p.1,q.1 with
 | .int i,.int j=>if qb9 i j then .ok (yU i (j - i).toNat,q.2) else .bad
 | _,_=>.bad
variable {a:Expr} {fa:Sl->Out (D×Sl)} {ma:Mo} {pos:Pos} {lo:Int} {K:Frag}
section
variable {b tg:Expr} {fb:Sl->Out (D×Sl)} {mb:Mo}
theorem XY {p:Pos} (hg:Gl X "range") (hm:X.mg "range"=g7) (ha:PE X a (tE C own .sh fa)) (hb:PE X b (tE C own mb fb)) (hs:starEach [a,b] X.env=[(hJ,eval a X.env),(hJ,eval b X.env)]:=by exact qbC rfl rfl) (hs2:starEach [b] X.env=[(hJ,eval b X.env)]:=by exact ja rfl) :
  PI X tg (.Call (.Name "range" p) [a,b] [] pos) (tIt C own (zj fa fb)):=by
 refine Gg (ZB hg hm (jk ha (jk hb ke hs2) (by rw [hs,hs2])) hs hs2) λσ H R ⟨F,ρ,rp,h⟩=>⟨F,ρ,rp,PoI.bindV h λv F1 H1 d ρ1 rp1 c1 mo1 h1=>⟨F1,ρ1,rp1,PoI.bindV (h1.shift c1) λw F2 H2 e ρ2 rp2 c2 mo2 h2=>?_⟩⟩
 have mo1:Is C.K F1 v d:=mo1
 cases d with
 | int i=>
  cases e with
  | int j=>
   cases mo1
   obtain rfl:=mo2.top.int
   have h2:PoI C own σ F1 H1 (if qb9 i j then .ok (yU i (j - i).toNat,ρ2) else .bad) R:=h2
   by_cases z:qb9 i j
   ·rw [if_pos z] at h2
    exact ⟨i,j,rfl,⟨z.1.1,z.1.2,z.2.1,z.2.2⟩,h2 _ F2 H2 rp2 c2 qc6⟩
   ·rw [if_neg z] at h2; exact h2.elim
  | _=>exact h2.elim
 | _=>exact h2.elim
theorem GL:∀ {xs:List V} {us:List g9},xs.length=us.length->(∀ (j:Nat) (x:V) (u:g9),xs[j]?=g6 x->us[j]?=g6 u->RelV x u)->Vals xs us
 | [],[],_,_=>.nil
 | x::xs,u::us,hl,h=>.cons (h 0 x u rfl rfl) (GL (Nat.succ.inj hl) λj y w a b=>h (j+1) y w (by simpa using a) (by simpa using b))
 | [],_::_,hl,_=>nomatch hl
 | _::_,[],hl,_=>nomatch hl
noncomputable def qhG (p:Addr) (lo hi:Int):HO:=.ext λh=>∃ t u v,IsRange h p lo hi 1 t u v
theorem qeG {P:h8} {w:ib} {h:Heap} {p:Addr} {hi:Int} {t u v:Tok} (x:IsRange h p lo hi 1 t u v):ObjOk P w H h p (qhG p lo hi):=
 ⟨⟨t,u,v,x⟩,⟨_,x⟩,λ_ _ ⟨t,u,v,x⟩ k=>⟨t,u,v,k _ x⟩⟩
theorem GM:yC X (.type "range") (λxs H Q=>∃ j:Int,xs=[.int j]/\∀ p,H p=g7->Q (.ref p) (upd H p (qhG p 0 j))):=by
 intro pins s σ H xs us Q I r h
 obtain ⟨j,rfl,q⟩:=h
 obtain ⟨u,rfl,ru⟩:=uw r
 obtain ⟨t,rfl⟩:=ru
 exact call_range_1 ⟨.ref s.heap.objs.size,_,I.laid (t':=s.toks+1+1) (λb o e=>ac _ e) (ax _) (qeG (IsRange.new ..)),rfl,q _ (I.hok.fresh (ax _))⟩
theorem qca (hc:X.calm=hZ):yC X (.type "list") (λxs H Q=>∃ r lo hi,xs=[.ref r]/\H r=g6 (qhG r lo hi)/\(qb9 lo hi/\hi - lo<=1000000)/\∀ p,H p=g7->Q (.ref p) (upd H p (.lst ((aE (hi - lo).toNat).map λk=>V.int (lo+(k:Nat)))))):=by
 intro pins s σ H xs us Q I r h
 obtain ⟨a,lo,hi,rfl,ha,hz,q⟩:=h
 obtain ⟨u,rfl,ru⟩:=uw r
 cases ru
 obtain ⟨t,u,v,hr⟩:=(I.hok a _ ha).1
 have e2:Builtin.Range.rangeSize lo hi 1=(((hi - lo).toNat:Nat):Int):=by rw [rangeSize_one]; split <;> omega
 refine call_list_range (n:=(hi - lo).toNat) (I.ok.hd hc) hr (small_one hz.1.1.1 hz.1.1.2 hz.1.2.1 hz.1.2.2) e2 'a' λh' tk acc c k hp hi2=>?_
 refine ⟨.ref s.heap.objs.size,_,I.laid (t':=tk) (o:=.lst ((aE (hi - lo).toNat).map λk=>V.int (lo+(k:Nat)))) k (ax _) ⟨by rw [aA,bO,ij]; omega,acc.toList,c,?_,by simpa using hp⟩,rfl,q _ (I.hok.fresh (ax _))⟩
 refine GL (by rw [aA,bO,bN,hi2.1]) λj x w ex ew=>?_
 rw [aG] at ex
 obtain ⟨k,ek,rfl⟩:=aZ.mp ex
 obtain ⟨hj,rfl⟩:=aC.mp ek
 obtain ⟨t,rfl⟩:=hi2.2 j w (by simpa using ew)
 exact ⟨t,by simp⟩
noncomputable def xF:D->Out D
 | .int j=>if qb9 0 j/\j - 0<=1000000 then .ok (.lst (yU 0 (j - 0).toNat)) else .bad
 | _=>.bad
theorem GN:∀ l:List Nat,IsL K F (l.map λk=>V.int (lo+(k:Nat))) (l.map λk=>D.int (lo+(k:Nat)))
 | []=>.nil
 | k::l=>.cons (.int _) (GN l)
theorem XZ {p p2 pos2:Pos} (hc:X.calm=hZ) (hg:Gl X "list") (hm:X.mg "list"=g7) (hv:bootBuiltins "list"=g6 (.type "list")) (hg2:Gl X "range") (hm2:X.mg "range"=g7) (hv2:bootBuiltins "range"=g6 (.type "range")) (ha:PE X e (tE C own ma fa))
  (he:starEach [e] X.env=[(hJ,eval e X.env)]:=by exact ja rfl) (he2:starEach [.Call (.Name "range" p2) [e] [] pos2] X.env=[(hJ,eval (.Call (.Name "range" p2) [e] [] pos2) X.env)]:=by exact ja rfl) :
  PE X (.Call (.Name "list" p) [.Call (.Name "range" p2) [e] [] pos2] [] pos) (tE C own .fr (d1 xF fa)):=by
 refine kn (ux (qca hc) hg hm hv (jk (ux GM hg2 hm2 hv2 (jk ha ke he) 'c' 'c' (by rw [he]; rfl) rfl) ke he2) 'c' 'c' (by rw [he2]; rfl) rfl) λσ H Q h=>?_
 refine Ul (zf (ma:=ma) h) λx H1 ⟨x',F,dx,ex,sb,tx,po⟩=>?_
 cases ex
 cases dx <;> try exact po.elim
 rename_i j
 unfold xF at po
 by_cases hz:qb9 0 j/\j - 0<=1000000
 ·simp only [if_pos hz] at po
  obtain rfl:=tx.int
  refine ⟨j,rfl,λq hq=>⟨q,0,j,rfl,qp,hz,λl hl2=>?_⟩⟩
  obtain ⟨s1,c1,f1⟩:=vz (u:=qhG q 0 j) sb hq
  obtain ⟨s2,c2,f2⟩:=vz (u:=.lst ((aE (j - 0).toNat).map λk=>V.int (0+(k:Nat)))) s1 hl2
  have hl1:H1 l=none:=by
   by_cases z:l=q
   ·rw [z] at hl2
    rw [qp] at hl2
    cases hl2
   ·rwa [qC z] at hl2
  exact po _ _ _ s2 (c1.trans' c2) ⟨l,rfl,hl1,f2,_,qp,GN _⟩
 ·simp only [if_neg hz] at po
  exact po.elim
end
noncomputable def Ite (K:Frag) (a:Addr) (xs:List V):It:=
 ⟨λi H=>i < xs.length/\SqL K H a xs,λi H v H'=>∃ x p,xs[i]?=g6 x/\H p=g7/\v=.ref p/\H'=upd H p (.tup [.int (i:Nat),x]),λi H=>xs.length<=i/\SqL K H a xs⟩
theorem GO {P:h8} {w:ib} {K:Frag} {elts:List Expr} {x1} {pos:Pos} (b a:Nat) (xs:List V) (h1:a < b) :
  Turn P w K (.Tuple elts x1 pos) (Ite K a xs) [b+1,b] (b+1) (λi h=>(∃ old,IsEnum h (b+1) b i old)/\h.IsListIter b a i) where
 mem:=by simp
 obj:=λi h st c hc=>by
  obtain ⟨⟨old,he⟩,o,ho,hcl,hd⟩:=st
  simp only [ae,aK,or_false] at hc
  rcases hc with rfl | rfl
  ·exact ⟨_,he,λv z=>by cases z⟩
  ·exact ⟨o,ho,λv z=>by rw [hd] at z; cases z⟩
 keep:=λi h h' st k=>by
  obtain ⟨⟨old,he⟩,o,ho,hcl,hd⟩:=st
  exact ⟨⟨old,k _ 'h' _ he⟩,o,k _ 'h' _ ho,hcl,hd⟩
 item:=by
  intro X hP hw hK hc i pins s σ H E I hf st hg
  subst hP hw hK
  obtain ⟨⟨old,he⟩,hit⟩:=st
  obtain ⟨hl,q⟩:=hg
  obtain ⟨its,r,pl,_⟩:=I.list q
  have hi:i < its.length:=by rw [<-r.length]; exact hl
  have hx:its.toArray[i]?=g6 its[i]:=by simp [hi]
  refine wpAny_pyNext_enum_item he hit pl.isList hx (eF b) λh' eo it' tp hz kp=>?_
  refine ⟨_,rfl,wpAny_letOwnedTupleGo_enum eo λhq e2 sb2=>?_⟩
  obtain ⟨x,ex,rx⟩:=Wc r (ah hi)
  have hT:H s.heap.objs.size=none:=I.hok.fresh (ax _)
  have lt1:b+1 < s.heap.objs.size:=aq he
  have fT:∀ c∈[b+1,b],c≠s.heap.objs.size:=λc hc=>by
   simp only [ae,aK,or_false] at hc
   have lt':b+1 < s.heap.objs.size:=lt1
   generalize s.heap.objs.size=m at lt'
   intro z
   omega
  have I1:Inv X pins σ (upd H s.heap.objs.size (.tup [.int (i:Nat),x])) { s with heap:=s.heap.push { cls:=.type "tuple",data:=.seq #[.int i s.toks,its[i]] } }:=
   I.laid (t':=s.toks) (λ_ _ e=>ac _ e) (ax _) ⟨⟨by simp only [ap,bc]; rw [ij]; decide,_,ak _ rfl,rfl⟩,[.int i s.toks,its[i]],.cons ⟨_,rfl⟩ (.cons rx .nil),⟨_,ak _ rfl,rfl,_,rfl⟩⟩
  have I2:Inv X pins σ (upd H s.heap.objs.size (.tup [.int (i:Nat),x])) { s with heap:=hq,toks:=s.toks+1 }:=by
   refine Kc (s:={ s with heap:=s.heap.push { cls:=.type "tuple",data:=.seq #[.int i s.toks,its[i]] } }) (ch:=[b+1,b]) I1 (λc o nc e=>?_) λc hc=>⟨by rw [qC (fT c hc)]; exact (hf c hc).1,(hf c hc).2⟩
   simp only [ae,aK,or_false,not_or] at nc
   rw [sb2.2 c nc.1]
   by_cases ec:c=s.heap.objs.size
   ·subst ec
    have e3:(s.heap.push ({ cls:=.type "tuple",data:=.seq #[.int i s.toks,its[i]] }:Obj)).get? s.heap.objs.size=g6 { cls:=.type "tuple",data:=.seq #[.int i s.toks,its[i]] }:=ak _ rfl
    rw [show (s.heap.push ({ cls:=.type "tuple",data:=.seq #[.int i s.toks,its[i]] }:Obj)).get? s.heap.objs.size=g6 o from e] at e3
    rw [e3]
    exact tp
   ·have e4:s.heap.get? c=g6 o:=by
     have:=e
     rwa [show (s.heap.push ({ cls:=.type "tuple",data:=.seq #[.int i s.toks,its[i]] }:Obj)).get? c=s.heap.get? c from Heap.get?_push_ne _ _ _ ec] at this
    exact kp c o nc.1 nc.2 e4
  refine ⟨.ref s.heap.objs.size,_,I2,rfl,⟨x,_,ex,hT,rfl,rfl⟩,⟨⟨_,by simpa using e2⟩,?_⟩,λc hc=>by rw [qC (fT c hc)]; exact (hf c hc).1⟩
  obtain ⟨o,ho,hcl,hd⟩:=it'
  exact ⟨o,(sb2.2 _ (eF b).symm).trans ho,hcl,hd⟩
 done:=by
  intro X hP hw hK hc i pins s σ H E I hf st hg
  subst hP hw hK
  obtain ⟨⟨old,he⟩,hit⟩:=st
  obtain ⟨hl,q⟩:=hg
  obtain ⟨its,r,pl,_⟩:=I.list q
  refine wpAny_pyNext_enum_end (I.ok.hd hc) he hit pl.isList (by simp; rw [<-r.length]; exact hl) λh' ex=>⟨rfl,Kc (t':=s.toks) (ch:=[b+1,b]) I (λc o nc e=>?_) hf⟩
  simp only [ae,aK,or_false,not_or] at nc
  exact ex c o nc.2 e
 self:=λ_ _ _ _ _ st h=>i5 st.1.choose_spec h
theorem Wg:bootBuiltins "enumerate"=g6 (.type "enumerate"):=by decide +kernel
noncomputable def xa (xs:List D):List D:=(xs.zipIdx).map λp=>.tup [.int (p.2:Nat),p.1]
noncomputable def Za (f:Sl->Out (D×Sl)):Sl->Out (List D×Sl):=λρ=>(f ρ).bind λp=>match p.1 with
 | .lst xs=>.ok (xa xs,p.2)
 | _=>.bad
theorem qgF {a:Addr} {xs:List V} {ds:List D} (p:SqL K F a xs) (t:IsL K F xs ds):ItIs K F (Ite K a xs) (xa ds) where
 go:=λi H hi s=>by
  unfold xa at hi
  rw [aA,dR] at hi
  exact ⟨by rw [t.length]; exact hi,s.seq p⟩
 yld:=λi Fi H v H' d e s1 s2 y=>by
  obtain ⟨x,q,hx,hn,rfl,rfl⟩:=y
  obtain ⟨d1,e1,i1⟩:=t.get hx
  have ed:d=.tup [.int (i:Nat),d1]:=by
   unfold xa at e
   rw [aG,List.getElem?_zipIdx,e1] at e
   simpa using e.symm
  subst ed
  obtain ⟨g1,g2⟩:=uB (u:=.tup [.int (i:Nat),x]) s2 hn
  exact ⟨_,g2,g1,.tup (.of qp) (.cons (.int _) (.cons ((i1.mono s1).mono g2.grow) .nil))⟩
 stop:=λi H hi s=>by
  unfold xa at hi
  rw [aA,dR] at hi
  exact ⟨by rw [t.length]; exact hi,s.seq p⟩
section
theorem qeH {ta:TA} {p tpos:Pos} {elts:List Expr} {x1} (hg:Gl X "enumerate") (hm:X.mg "enumerate"=g7) (ha:PA X [a] ta) (hs:starEach [a] X.env=[(hJ,eval a X.env)]) :
  PI X (.Tuple elts x1 tpos) (.Call (.Name "enumerate" p) [a] [] pos) (λσ H R=>ta σ H λvs H1=>∃ a1 xs,vs=[.ref a1]/\SqL X.K H1 a1 xs/\R (Ite X.K a1 xs) H1):=by
 refine ⟨?_⟩
 intro pins s σ H R I h
 refine Call_ (xj I hg hm Wg (bn (thn (ha pos pins s σ H _ I h) λus s1 ⟨vs,H1,I1,r1,q1⟩=>?_) hs rfl))
 obtain ⟨a1,xs,rfl,w1,q⟩:=q1
 obtain ⟨u1,rfl,e1⟩:=uw r1
 cases e1
 obtain ⟨its,v1,pl,_⟩:=I1.list w1
 have hlt:a1 < s1.heap.objs.size:=let ⟨o,_,e,_⟩:=pl; aq e
 refine call_enumerate_list pl.isList λh' he hit hz kp=>?_
 refine i5 he ?_
 refine ⟨s1.heap.objs.size+1,_,_,Ite X.K a1 xs,H1,rfl,I1.kept (t':=s1.toks) kp,GO s1.heap.objs.size a1 xs hlt,⟨⟨_,he⟩,hit⟩,λb hb=>?_,q⟩
 have hle:s1.heap.objs.size<=b:=by
  simp only [ae,aK,or_false] at hb
  rcases hb with rfl | rfl
  ·exact Nat.le_add_right _ _
  ·exact ax _
 exact I1.fpOk hle (I1.hok.fresh hle)
theorem YJ {p tpos:Pos} {elts:List Expr} {x1} (hK:C.K=X.K) (hg:Gl X "enumerate") (hm:X.mg "enumerate"=g7) (ha:PE X a (tE C own ma fa)) (h1:ma≠.any:=by decide) (hs:starEach [a] X.env=[(hJ,eval a X.env)]:=by exact ja rfl) :
  PI X (.Tuple elts x1 tpos) (.Call (.Name "enumerate" p) [a] [] pos) (tIt C own (Za fa)):=by
 refine Gg (qeH hg hm (jk (yT ha h1) ke hs) hs) λσ H R ⟨F,ρ,rp,h⟩=>⟨F,ρ,rp,PoI.bindV h λv F1 H1 d ρ1 rp1 c1 mo1 h1=>?_⟩
 have mo1:Is C.K F1 v d:=mo1
 cases mo1 with
 | lst p t=>exact ⟨_,_,rfl,by rw [<-hK]; exact rp1.sub.seq p,by rw [<-hK]; exact h1 _ F1 H1 rp1 c1 (qgF p t)⟩
 | _=>exact h1.elim
end
mutual
def qgG:Nat->Expr->Option D
 | 0,_=>g7
 | n+1,e=>match e with
  | .Constant c _ _=>match c with
   | .none=>g6 .non
   | .bool b=>g6 (.bl b)
   | .int i=>g6 (.int i)
   | .str x=>if x.length<=sizeLine then g6 (.str x) else g7
   | _=>g7
  | .UnaryOp .USub (.Constant (.int i) _ _) _=>g6 (.int (-i))
  | .List es _=>(qfB n es).bind λds=>if ds.length<=sizeLine then g6 (.lst ds) else g7
  | .Tuple es _ _=>(qfB n es).bind λds=>if ds.length<=sizeLine then g6 (.tup ds) else g7
  | _=>g7
def qfB:Nat->List Expr->Option (List D)
 | _,[]=>g6 []
 | 0,_::_=>g7
 | n+1,e::es=>(qgG n e).bind λd=>(qfB n es).bind λds=>g6 (d::ds)
end
theorem YK {α:Type}:∀ l:List α,((l.map λ_=>AK.vl).all λa=>decide (a=.vl))=hZ
 | []=>rfl
 | _::l=>by rw [aD,fP,YK l]; rfl
theorem GP {n:Nat} {e:Expr} {d:D} (h:qgG n e=g6 d):WW e=true:=by
 cases n with
 | zero=>cases h
 | succ n=>cases e <;> first | rfl | (simp [qgG] at h)
section
variable {X:Cx} {C:Ct} {own:List Nat}
mutual
theorem qgH:∀ (n:Nat) {e:Expr} {d:D},qgG n e=g6 d->PE X e (tE C own .sh (dC d))
 | 0,_,_,h=>by cases h
 | n+1,e,d,h=>by
  unfold qgG at h
  split at h
  ·split at h
   ·cases h; exact Vx
   ·cases h; exact zS
   ·cases h; exact qr
   ·split at h
    ·rename_i hz
     cases h
     exact yH hz
    ·cases h
   ·cases h
  ·cases h
   exact kn (qd5 Gp qr) λσ H Q h=>h
  ·obtain ⟨ds,h1,h2⟩:=cy.mp h
   split at h2
   ·rename_i hz
    cases h2
    have e2:zE (λρ=>.ok (ds,ρ))=dC (.lst ds):=by
     funext ρ
     unfold zE dC
     rw [Out.ok_bind,if_pos hz]
    rw [<-e2]
    exact yT (kD (Ki n h1) (YK _)) 'c'
   ·cases h2
  ·obtain ⟨ds,h1,h2⟩:=cy.mp h
   split at h2
   ·rename_i hz
    cases h2
    have e2:yJ (λρ=>.ok (ds,ρ))=dC (.tup ds):=by
     funext ρ
     unfold yJ dC
     rw [Out.ok_bind,if_pos hz]
    rw [<-e2]
    exact vy (Ki n h1) (YK _)
   ·cases h2
  ·cases h
theorem Ki:∀ (n:Nat) {es:List Expr} {ds:List D},qfB n es=g6 ds->PA X es (tAr C own (es.map λ_=>.vl) λρ=>.ok (ds,ρ))
 | 0,[],ds,h=>by
  cases h
  exact qf
 | _+1,[],ds,h=>by
  cases h
  exact qf
 | 0,_::_,ds,h=>by cases h
 | n+1,e::es,ds,h=>by
  unfold qfB at h
  obtain ⟨d,h1,h⟩:=cy.mp h
  obtain ⟨ds',h2,h⟩:=cy.mp h
  cases h
  have e2:qc (dC d) (λρ=>.ok (ds',ρ))=λρ=>.ok (d::ds',ρ):=rfl
  rw [<-e2]
  exact qb (qgH n h1) (Ki n h2) 'c' (kS (GP h1))
end
theorem GQ {es:List Expr} {ds:List D} {pos:Pos} (n:Nat) (h:qfB n es=g6 ds):PE X (.List es pos) (tE C own .fr (zE λρ=>.ok (ds,ρ))):=kD (Ki n h) (YK _)
end
noncomputable def txI (i:Int):Str:=toString i
def CTx (i:Int):Prop:=i.natAbs.log2 < 1920/\(txI i).length<=sizeLine
instance:∀ i,Decidable (CTx i):=λi=>inferInstanceAs (Decidable (_/\_))
end L2.D2
namespace PySem
open Builtin Builtin.Str
end PySem
namespace L2.D2
open PySem PySem.Spec PyProof.Rows
def qjJ (x y:Str):Prop:=(y.length == 0)=hJ/\(Txt.split x y).length<=sizeLine/\∀ z∈Txt.split x y,z.length<=sizeLine
instance:∀ x y,Decidable (qjJ x y):=λx y=>inferInstanceAs (Decidable (_/\_))
inductive IntsAre:List g9->List Int->Prop
 | nil:IntsAre [] []
 | cons (y:Int) (t:Tok) {vs:List g9} {ys:List Int} (h:IntsAre vs ys):IntsAre (fO y t::vs) (y::ys)
theorem IntsAre.item:∀ {vs:List g9} {ys:List Int},IntsAre vs ys->∀ (i:Nat) (v:g9),vs[i]?=g6 v->∃ y t,v=fO y t/\ys[i]?=g6 y
 | _,_,.nil,i,v,e=>by simp at e
 | _,_,.cons y t h,0,v,e=>by simp at e; subst e; exact ⟨y,t,rfl,rfl⟩
 | _,_,.cons y t h,i+1,v,e=>by
  obtain ⟨z,t',e1,e2⟩:=h.item i v (by simpa using e)
  exact ⟨z,t',e1,by simpa using e2⟩
noncomputable def gZ:List D->Option (List Int)
 | []=>g6 []
 | .int x::l=>(gZ l).map (x::·)
 | _::_=>g7
variable {K:Frag} {F H:Hp}
section
theorem TopIs.ins {v:V} {c:Addr} {fs:List (Str×D)} (s:Same F H) (h:TopIs K F H v (.ins c fs)):∃ a dx fv,v=.ref a/\H a=g6 (.ins c dx fv)/\IsF K F fv fs:=by
 rcases h with h | ⟨a,rfl,dx,fv,e,t⟩
 ·cases h with
  | ins e t=>exact ⟨_,_,_,rfl,s _ _ e,t⟩
 ·exact ⟨a,dx,fv,rfl,e,t⟩
end
variable {own:List Nat} {σ:St} {ρ:Sl} {i:Nat} {b:Addr}
section
variable {own1:List Nat}
theorem Rep.frz {o:HO} (rp:Rep K own F H σ ρ) (hb:H b=g6 o) (hF:F b=g7) (nA:¬OA own σ b):Rep K own (upd F b o) H σ ρ:=by
 have gr:Same F (upd F b o):=λc w e=>by rw [qC (qJ e hF)]; exact e
 refine ⟨λc w e=>?_,rp.len,λj d hj e=>?_,λj d hj e=>?_,rp.opn,rp.dis⟩
 ·by_cases q:c=b
  ·subst q; rw [qp] at e; cases e; exact hb
  ·rw [qC q] at e; exact rp.sub c w e
 ·obtain ⟨v,h1,h2⟩:=rp.val j d hj e
  exact ⟨v,h1,h2.mono gr⟩
 ·obtain ⟨a,h1,h2,h3⟩:=rp.ow j d hj e
  exact ⟨a,h1,by rw [qC (λz=>nA ⟨j,hj,by rw [<-z]; exact h1⟩)]; exact h2,h3.grow gr λ_ q=>q⟩
end
variable {X:Cx} {C:Ct} {pos:Pos} {x:Str}
section
theorem vr (i:Nat) (hN:X.N[i]?=g6 x:=by rfl) (hv:Vis X.env.scope x:=by first | exact aw rfl | exact bH 'e' | exact bH (bH rfl)) (ho:i∉own:=by decide) (hd:'m'=false:=by decide) (hcd:(x == ("__classdict__":Str))=false:=by decide):PE X (.Name x pos) (tE C own .sh (qd i)):=qgf hN hv ho hd hcd
end
section
theorem Rep.swap {F' H':Hp} {g:Nat} {o:D} (rp:Rep K own F H σ ρ) (hg:g∈own) (eb:σ[g]?=g6 (g6 (V.ref b))) (c:Chg (λz=>z=b) F H F' H') (sb:Same F' H') (fb:F' b=g7) (ow:OwnIs K F' H' b o) :
  Rep K own F' H' σ (ρ.set g (g6 o))/\Chg (OA own σ) F H F' H':=by
 obtain ⟨d0,hd0⟩:=rp.opn g hg
 have hl:g < ρ.length:=(aC.mp hd0).1
 refine ⟨⟨sb,by simp [rp.len],λj d hj e=>?_,λj d hj e=>?_,λj hj=>?_,rp.dis⟩,c.mono λz hz=>⟨g,hg,by rw [hz]; exact eb⟩⟩
 ·rw [ay (λz=>hj (by rw [<-z]; exact hg))] at e
  obtain ⟨v,h1,h2⟩:=rp.val j d hj e
  exact ⟨v,h1,h2.mono c.grow⟩
 ·by_cases q:j=g
  ·subst q
   rw [aH hl] at e
   cases e
   exact ⟨b,eb,fb,ow⟩
  ·rw [ay (bf q)] at e
   obtain ⟨a,h1,h2,h3⟩:=rp.ow j d hj e
   have na:a≠b:=λz=>by subst z; exact q (rp.dis j g a hj hg h1 eb)
   refine ⟨a,h1,?_,h3.grow c.grow λo q=>c.keep a o q na⟩
   cases qa:F' a with
   | none=>rfl
   | some u=>
    rcases c.new a (by rw [qa]; simp) with z | z | z
    ·exact absurd h2 z
    ·exact absurd z h3.there
    ·exact absurd z na
 ·by_cases q:j=g
  ·subst q; exact ⟨o,aH hl⟩
  ·rw [ay (bf q)]; exact rp.opn j hj
end
theorem IsL.dropLast {vs:List V} {ds:List D} (h:IsL K F vs ds):IsL K F vs.dropLast ds.dropLast:=by
 rw [List.dropLast_eq_take,List.dropLast_eq_take,h.length]
 exact h.take _
noncomputable def yL (n:Nat) (fw fx:Sl->Out (D×Sl)):Sl->Out (Fl×Sl):=λρ=>(fw ρ).bind λp=>(fx p.2).bind λq=>match (q.2[n]?:Option (Option D)),q.1 with
 | some (g6 (.lst ds)),.int k=>(match ixN ds.length k with | some j=>.ok (.nx,q.2.set n (g6 (.lst (ds.set j p.1)))) | none=>.bad)
 | _,_=>.bad
theorem qjK {cv:Str->g9} {ca:Str->Addr} {n:Str} (hv:cv n=.ref (ca n)) (hs:bS K (.ref (ca n)) (.ref (ca n))=g6 hZ):∀ c Cc,qgx ca [n] c=g6 Cc->cv c=.ref Cc/\bS K (.ref Cc) (.ref (ca n))=g6 true:=λc Cc h=>by
 unfold qgx at h
 split at h
 ·rename_i z
  cases h
  have z:c=n:=by simpa using z
  subst z
  exact ⟨hv,hs⟩
 ·cases h
variable {n:Nat} {m mx:Mo} {ix:Expr} {apos cpos:Pos}
section
variable {mo mw:Mo} {e o w:Expr} {fe fo fw fx:Sl->Out (D×Sl)} {p1 p2 p3:Pos}
theorem Qa (hN:X.N[n]?=g6 x) (hv:Vis X.env.scope x) (ho:n∈own) (hw:PE X w (tE C own mw fw)) (hx:PE X ix (tE C own mx fx)) (hmw:mw≠.any:=by decide)
  (hd:'m'=false:=by decide) (hcd:(x == ("__classdict__":Str))=false:=by decide)
  (hsub:∀ v,assign (.Subscript (.Name x p1) ix p2) X.env v=(do
   let ov <-holding [v] (eval (.Name x p1) X.env)
   let iv <-holding [v,ov] (eval ix X.env)
   standAt p2
   holding [v,ov,iv] (setItem ov iv v)
   release [v,ov,iv] []):=by intro _; rfl)
  (ha1:swapsWithSole [.Subscript (.Name x p1) ix p2] w p3.line X.env=pure false:=by rfl) (ha2:swappedStores [.Subscript (.Name x p1) ix p2] w X.env=pure none:=by rfl)
  (ha3:(assignEach [.Subscript (.Name x p1) ix p2] X.env).map (·.2)=[assign (.Subscript (.Name x p1) ix p2) X.env]:=by rfl) :
  PS X (.Assign [.Subscript (.Name x p1) ix p2] w p3) (tSt C own own (yL n fw fx)):=by
 refine JQ (qfQ (yT hw hmw) (qfP (yG hN hv hd hcd) hx qbu hsub) ha1 ha2 ha3) λDn σ H ⟨F,ρ,rp,h⟩=>⟨F,ρ,rp,PoS.bindE h λv F1 H1 d ρ1 rp1 c1 mo1 h1=>?_⟩
 have mo1:Is C.K F1 v d:=mo1
 obtain ⟨d0,hd0⟩:=rp1.opn n ho
 obtain ⟨a,e1,hF,o0⟩:=rp1.ow n d0 ho hd0
 refine ⟨_,e1,F1,ρ1,rp1,PoS.bindE h1 λiv F2 H2 di ρ2 rp2 c2 mo2 h2=>?_⟩
 obtain ⟨d2,hd2⟩:=rp2.opn n ho
 obtain ⟨a',e2,hF2,o2⟩:=rp2.ow n d2 ho hd2
 rw [e1] at e2
 cases e2
 simp only [hd2] at h2
 cases d2 with
 | lst ds=>
  cases di with
  | int k=>
   have hiv:=mo2.top.int
   subst hiv
   obtain ⟨xs,ex,il⟩:=o2
   cases q:ixN ds.length k with
   | none=>simp only [q] at h2; exact h2.elim
   | some j=>
    simp only [q] at h2
    obtain ⟨r3,c3⟩:=rp2.write (u:=.lst (xs.set j v)) (d:=.lst (ds.set j d)) ho e1 ⟨_,qp,il.set (mo1.mono c2.grow) j⟩
    exact ⟨a,xs,k,j,rfl,rfl,ex,by rw [il.length]; exact q,h2 σ F2 _ ⟨r3,c3,λ_ z=>.inl z,λ_ _=>rfl⟩⟩
  | _=>exact h2.elim
 | _=>exact h2.elim
end
section
variable {mb:Mo} {b:Expr} {fb:Sl->Out (D×Sl)} {px:Pos}
noncomputable def d2O (i:Nat) (g:D->D->Out D) (fb:Sl->Out (D×Sl)):Sl->Out (D×Sl):=λρ=>(fb ρ).bind λq=>match (q.2[i]?:Option (Option D)) with
 | some (g6 d)=>(g d q.1).plain.bind λr=>.ok (r,q.2)
 | _=>.bad
theorem qeI {g:D->D->Out D} {Q:VK} (ho:i∈own) (h:tE C own m (d2O i g fb) σ H Q) :
  qhM i σ H λx H1=>tE C own mb fb σ H1 λy H2=>∃ F dx dy,Same F H2/\TopIs C.K F H2 x dx/\TopIs C.K F H2 y dy/\PoV C m F H2 (g dx dy) Q:=by
 obtain ⟨F,ρ,rp,h⟩:=h
 obtain ⟨d0,hd0⟩:=rp.opn i ho
 obtain ⟨a,e1,hF,o0⟩:=rp.ow i d0 ho hd0
 refine ⟨_,e1,F,ρ,rp,Po.bind h λv F1 H1 d ρ1 rp1 c1 mo1 h1=>?_⟩
 obtain ⟨d1,hd1⟩:=rp1.opn i ho
 obtain ⟨a',e2,hF1,o1⟩:=rp1.ow i d1 ho hd1
 rw [e1] at e2
 cases e2
 simp only [hd1] at h1
 exact ⟨F1,d1,d,rp1.sub,.inr ⟨a,rfl,o1⟩,mo1.top,PoV.of rp1 h1⟩
theorem GR (hK:C.K=X.K) (hu:X.A.units+64 < cLine) (hN:X.N[i]?=g6 x) (hv:Vis X.env.scope x) (ho:i∈own) (hb:PE X b (tE C own mb fb)) (hs:WS b)
  (hd:'m'=false:=by decide) (hcd:(x == ("__classdict__":Str))=false:=by decide):PE X (.Subscript (.Name x px) b pos) (tE C own .sh (d2O i ixD fb)):=by
 refine kn (qf5 (qc4 'a') (yG hN hv hd hcd) hb hs) λσ H Q h=>?_
 obtain ⟨v,e1,F,ρ,rp,h⟩:=qeI (mb:=mb) ho h
 refine ⟨v,e1,F,ρ,rp,?_⟩
 cases q2:fb ρ with
 | ok p=>
  rw [q2] at h
  obtain ⟨d',ρ3⟩:=p
  intro w F3 H3 rp3 c3 mo3
  obtain ⟨F4,dx,dy,sb,tx,ty,po⟩:=h w F3 H3 rp3 c3 mo3
  exact qc5 (σ:=σ) hK sb tx ty po
 | exc c=>rw [q2] at h; exact h
 | bad=>rw [q2] at h; exact h.elim
end
def FlyA (h:Heap) (ex T:Addr) (cls:g9):Prop:=∃ oe vs oT ts fl,h.get? ex=g6 oe/\oe.cls=cls/\oe.data=.fields vs/\vs[1]?=g6 (.ref T)/\T≠ex/\h.get? T=g6 oT/\oT.data=.fields ts/\ts[3]?=g6 fl
theorem FlyA.tr {h base:Heap} {ex T:Addr} {cls:g9} (f:FlyA h ex T cls) (hb:base.get? T=g7):∃ a0 fl,h.TracedAtW base ex cls a0 fl:=by
 obtain ⟨oe,vs,oT,ts,fl,a1,a2,a3,a4,a5,a6,a7,a8⟩:=f
 have hz:0 < vs.size:=Nat.lt_of_succ_lt (Array.getElem?_eq_some_iff.mp a4).1
 exact ⟨vs[0],fl,oe,vs,T,oT,ts,a1,⟨a2,by simp [hz]⟩,a3,a4,hb,a5,a6,a7,a8⟩
noncomputable def Kj (n:Nat) (fw fx:Sl->Out (D×Sl)):Sl->Out (Fl×Sl):=λρ=>(fw ρ).bind λp=>(fx p.2).bind λq=>match (q.2[n]?:Option (Option D)) with
 | some (g6 (.dct kvs))=>(match JX q.1 with
  | some k=>if kvs.length < sizeLine then .ok (.nx,q.2.set n (g6 (.dct (WO kvs k p.1)))) else .bad
  | none=>.bad)
 | _=>.bad
section
variable {w:Expr} {fw fx:Sl->Out (D×Sl)} {mw:Mo} {p1 p2 p3:Pos}
theorem Kk (hu:X.A.units+64 < cLine) (hN:X.N[n]?=g6 x) (hv:Vis X.env.scope x) (ho:n∈own) (hw:PE X w (tE C own mw fw)) (hx:PE X ix (tE C own mx fx)) (hmw:mw≠.any:=by decide)
  (hd:'m'=false:=by decide) (hcd:(x == ("__classdict__":Str))=false:=by decide) (hs:swapsWith w (g6 (.Subscript (.Name x p1) ix p2)) p3.line X.env=pure false:=by rfl) :
  PS X (.Assign [.Subscript (.Name x p1) ix p2] w p3) (tSt C own own (Kj n fw fx)):=by
 refine JQ (qd4 'a' (yG hN hv hd hcd) hx (yT hw hmw) hs) λDn σ H ⟨F,ρ,rp,h⟩=>⟨F,ρ,rp,PoS.bindE h λv F1 H1 d ρ1 rp1 c1 mo1 h1=>?_⟩
 have mo1:Is C.K F1 v d:=mo1
 obtain ⟨d0,hd0⟩:=rp1.opn n ho
 obtain ⟨a,e1,hF,o0⟩:=rp1.ow n d0 ho hd0
 refine ⟨_,e1,F1,ρ1,rp1,PoS.bindE h1 λiv F2 H2 di ρ2 rp2 c2 mo2 h2=>?_⟩
 obtain ⟨d2,hd2⟩:=rp2.opn n ho
 obtain ⟨a',e2,hF2,o2⟩:=rp2.ow n d2 ho hd2
 rw [e1] at e2
 cases e2
 simp only [hd2] at h2
 cases d2 with
 | dct kvs=>
  cases q:JX di with
  | none=>simp only [q] at h2; exact h2.elim
  | some k=>
   simp only [q] at h2
   have hiv:=qhz mo2.top q
   subst hiv
   obtain ⟨kv,ex,ik⟩:=o2
   by_cases hz:kvs.length < sizeLine
   ·simp only [if_pos hz] at h2
    obtain ⟨r3,c3⟩:=rp2.write (u:=.dK (zR kv k v)) (d:=.dct (WO kvs k d)) ho e1 ⟨_,qp,ik.put (mo1.mono c2.grow)⟩
    exact ⟨a,_,rfl,DPut.k ex (by rw [ik.length]; exact hz),h2 σ F2 _ ⟨r3,c3,λ_ z=>.inl z,λ_ _=>rfl⟩⟩
   ·simp only [if_neg hz] at h2; exact h2.elim
 | _=>exact h2.elim
end
noncomputable def GS (i:Nat):Sl->Out (D×Sl):=λρ=>match (ρ[i]?:Option (Option D)) with
 | some (g6 (.lst (d::es)))=>.ok (d,ρ.set i (g6 (.lst es)))
 | _=>.bad
section
variable {px:Pos}
theorem qeJ:MtR X "list.pop" (λx vs H Q=>∃ l v xs,x=.ref l/\vs=[.int 0]/\H l=g6 (.lst (v::xs))/\Q v (upd H l (.lst xs))):=by
 intro pins s σ H x vs v us Q I rx rv h
 obtain ⟨l,y,xs,rfl,rfl,hH,q⟩:=h
 exact qbx pins s σ H _ _ v us Q I rx rv ⟨l,_,0,0,y,rfl,rfl,hH,by decide,by decide,by simp [seqIndex?],rfl,q⟩
theorem qeK {j:Nat} {pz:Pos} (hN:X.N[i]?=g6 x) (hv:Vis X.env.scope x) (ho:i∈own) (hd:'m'=false:=by decide) (hcd:(x == ("__classdict__":Str))=false:=by decide)
  (hbase:attributeBase (.Name x px) "pop" X.env (eval (.Name x px) X.env)=eval (.Name x px) X.env:=by rfl) (hline:(apos.endLine == cpos.line)=true:=by rfl)
  (hfew:((backTo cpos (starEach [.Constant (.int 0) j pz] X.env)).all (λx=>!x.1)&&(backToKw cpos (keywordEach [] X.env)).all (λx=>x.1.isSome)
   && decide ([Expr.Constant (.int 0) j pz].length+([]:List iI).length+(if ([]:List iI).isEmpty then 0 else 1) < 30))=true:=by exact xp rfl)
  (hs:starEach [.Constant (.int 0) j pz] X.env=[(hJ,eval (.Constant (.int 0) j pz) X.env)]:=by exact ja rfl) :
  PE X (.Call (.Attribute (.Name x px) "pop" apos) [.Constant (.int 0) j pz] [] cpos) (tE C own .sh (GS i)):=by
 refine kn (qbv dU PySem.F.slot_list_pop PySem.F.type_list_pop qeJ (yG hN hv hd hcd) (jk qcY ke hs) hbase hfew hline hs rfl) λσ H Q ⟨F,ρ,rp,h⟩=>?_
 obtain ⟨d0,hd0⟩:=rp.opn i ho
 obtain ⟨a,e1,hF,o0⟩:=rp.ow i d0 ho hd0
 unfold GS at h
 simp only [hd0] at h
 cases d0 with
 | lst es=>
  cases es with
  | nil=>exact h.elim
  | cons d es=>
   obtain ⟨xs,ex,il⟩:=o0
   cases il with
   | cons iv il=>
    refine ⟨_,e1,.inl ⟨rfl,_,.inl (.inl ex)⟩,?_⟩
    obtain ⟨r2,c3⟩:=rp.write (u:=.lst _) (d:=.lst es) ho e1 ⟨_,qp,il⟩
    exact ⟨a,_,_,rfl,rfl,ex,h _ F _ r2 c3 iv⟩
 | _=>exact h.elim
end
noncomputable def qhH (kvs:List (Key×D)) (k:Key) (d:D):D:=match kvs.find? λkv=>decide (kv.1=k) with
 | some kv=>kv.2
 | none=>d
noncomputable def qcb (fo fe ff:Sl->Out (D×Sl)):Sl->Out (D×Sl):=λρ=>(fo ρ).bind λp=>if (match p.1 with | .dct _=>hZ | _=>hJ)=hZ then (fe p.2).bind λq=>(ff q.2).bind λr=>(match p.1 with
 | .dct kvs=>(match JX q.1 with
  | some k=>.ok (qhH kvs k r.1,r.2)
  | none=>.bad)
 | _=>.bad) else .bad
theorem IsK.miss {k:Key}:∀ {vs:List (Key×V)} {ds:List (Key×D)},IsK K F vs ds->(ds.find? λkv=>decide (kv.1=k))=g7->WN vs k=g7
 | _,_,.nil,e=>rfl
 | _,_,.cons (k:=k') (vs:=vs) h t,e=>by
  by_cases q:k'=k
  ·rw [bI (by simp [q])] at e
   cases e
  ·rw [bB (by simp [q])] at e
   rw [xo q]
   exact IsK.miss t e
section
variable {o e f:Expr} {fo fe ff:Sl->Out (D×Sl)} {me mf:Mo}
theorem qeL (hu:X.A.units+64 < cLine) (ho:PE X o (tE C own .sh fo)) (he:PE X e (tE C own me fe)) (hf:PE X f (tE C own mf ff)) (hmf:mf≠.any:=by decide) (hme:me≠.any:=by decide)
  (hbase:attributeBase o "get" X.env (eval o X.env)=eval o X.env:=by rfl)
  (hfew:((backTo cpos (starEach [e,f] X.env)).all (λx=>!x.1)&&(backToKw cpos (keywordEach [] X.env)).all (λx=>x.1.isSome)
   && decide (([e,f]:List Expr).length+([]:List iI).length+(if ([]:List iI).isEmpty then 0 else 1) < 30))=true:=by exact xp rfl)
  (hline:(apos.endLine == cpos.line)=true:=by rfl) (htr:backTo cpos (starEach [e,f] X.env)=[(hJ,eval e X.env),(hJ,eval f X.env)]:=by rfl) :
  PE X (.Call (.Attribute o "get" apos) [e,f] [] cpos) (tE C own .sh (qcb fo fe ff)):=by
 refine kn (qbB 'a' ho he (yT hf hmf) ⟨hbase,hfew,hline,htr⟩) λσ H Q ⟨F,ρ,rp,h⟩=>?_
 refine ⟨F,ρ,rp,Po.bind h λv F1 H1 d ρ1 rp1 c1 mo1 h1=>?_⟩
 have mo1:Is C.K F1 v d:=mo1
 cases d with
 | dct kvs=>
  simp only [if_true] at h1
  cases mo1 with
  | dct ha ik=>
   rename_i a kv
   refine ⟨a,rfl,.inl ⟨kv,.inl (rp1.sub _ _ ha)⟩,F1,ρ1,rp1,Po.bind h1 λy F2 H2 dy ρ2 rp2 c2 mo2 h2=>?_⟩
   refine ⟨F2,ρ2,rp2,Po.bind h2 λz F3 H3 dz ρ3 rp3 c3 mo3 h3=>?_⟩
   have mo3:Is C.K F3 z dz:=mo3
   cases q:JX dy with
   | none=>simp only [q] at h3; exact h3.elim
   | some k=>
    simp only [q] at h3
    have hy:=qhz mo2.top q
    subst hy
    have g23:F3 a=g6 (.dK kv):=c3.grow _ _ (c2.grow _ _ ha)
    have ik3:IsK C.K F3 kv kvs:=(ik.mono c2.grow).mono c3.grow
    refine ⟨WN kv k,.inl ⟨kv,k,.inl (rp3.sub _ _ g23),rfl,rfl⟩,?_⟩
    unfold qhH at h3
    cases q2:kvs.find? λkv=>decide (kv.1=k) with
    | none=>
     simp only [q2] at h3
     rw [ik3.miss q2]
     exact h3 z F3 H3 rp3 .refl mo3
    | some kd=>
     simp only [q2] at h3
     obtain ⟨w,e1,e2⟩:=ik3.find q2
     rw [e1]
     exact h3 w F3 H3 rp3 .refl e2
 | _=>exact h1.elim
end
end L2.D2
namespace L2.D2
open PySem PySem.Spec PyProof.Rows PySem.W
section
variable {prog:h8} {w:ib} {A:ii} {E:g9->hV->Prop} {s:hV} {T:String} {r d:Addr} {n:Nat} {P:Nat->g9->Prop} {OK:Heap->Prop}
theorem GT {Q:List g9->hV->Prop} (K:KdlSrc prog w T r d n P OK) (hh:A.handled=g7) (hok:OK s.heap) (hn:n<=sizeLine)
  (hQ:∀ h' tk acc,(∀ b o,s.heap.get? b=g6 o->h'.get? b=g6 o)->lf P acc n->Q acc.toList { s with heap:=h',toks:=tk }):wpAny 'g' A (collect (.ref r)) Q E s:=by
 unfold collect
 refine g8 (j4 (ic F.entry_proto_collect ?_))
 rw [aN F.plain_proto_collect _]
 show wpAny _ A.in1 (newList [] >>= λl=>again (.builtin "list.__iadd__" ⟨[l,.ref r],[]⟩)) _ _ s
 refine g8 (ia ?_)
 refine h7 ⟨ip F.plain_list_iadd _,ic F.entry_list_iadd ?_⟩
 rw [aN F.plain_list_iadd _]
 have hlt:=K.there _ hok
 have hS:(s.heap.push { cls:=.type "list",data:=.seq ([]:List g9).toArray }).get? s.heap.objs.size=g6 { cls:=.type "list",data:=.seq ([]:List g9).toArray }:=ak _ rfl
 show wpAny _ A.in1 (bo 'o' (.ref r) 'o') _ _ _
 refine kdl_extend (R:=λr s'=>match r with
  | .ok (.ret v)=>wpAny 'g' A (match v with
   | .ref a=>do
    let o <-load a
    match o.data with
     | .seq xs _=>pure xs.toList
     | _=>unsupported "internal:collect"
   | _=>unsupported "internal:collect") Q E s'
  | .ok _=>False
  | .error e=>E e s') (s:={ s with heap:=s.heap.push { cls:=.type "list",data:=.seq ([]:List g9).toArray } }) K hh (K.keep _ _ hok λb _ o e=>ac _ e) _ (cr hlt.1) (cr hlt.2) _ 0 hS (λh' tk acc' c' hk hS' hacc=>?_) hn
 show wpAny _ A (load s.heap.objs.size >>= _) _ _ _
 refine g8 (wpAny_load hS' ?_)
 exact h7 (hQ h' tk acc' (λb o e=>hk b o (aB (aq e)) (ac _ e)) hacc)
theorem GU:∀ (ss:List Str) (us:List g9),us.length=ss.length->(∀ (j:Nat) (v:g9),us[j]?=g6 v->∃ x t,ss[j]?=g6 x/\v=fy x t)->i6 us ss
 | [],[],_,_=>.nil
 | [],_::_,h,_=>by cases h
 | _::_,[],h,_=>by cases h
 | x::ss,u::us,h,k=>by
  obtain ⟨x',t,e1,e2⟩:=k 0 u rfl
  cases e1
  rw [e2]
  refine .cons _ t (GU ss us (by simpa using h) λj v e=>?_)
  simpa using k (j+1) v (by simpa using e)
theorem qcc {ss:List Str} {Q:g9->hV->Prop} (K:KdlSrc prog w T r d n P OK) (hh:A.handled=g7) (hok:OK s.heap) (hss:∀ acc:Array g9,lf P acc n->i6 acc.toList ss) (h64:ss.length < 64) (hn:n<=sizeLine)
  (hQ:∀ (h1 h':Heap) tk vs e ss',(∀ b o,s.heap.get? b=g6 o->h1.get? b=g6 o)->(∀ b o,h1.get? b=g6 o->h'.get? b=g6 o)->h'.get? h1.objs.size=g6 (seqObj "list" vs e)->i6 vs.toList ss'->ss'.Perm ss->sortedS ss'=hZ->Q (.ref h1.objs.size) { s with heap:=h',toks:=tk }) :
  wpAny 'g' A (call (.builtin "sorted") [.ref r]) Q E s:=by
 refine Calls.call_function_entry kind_sorted plain_sorted entry_sorted (args_sorted1 _) ?_; unfold Builtin.«sorted»
 refine g8 (m:=checkCount "sorted" 1 1 _) (h7 ?_)
 refine g8 (GT (A:=A.in1) K (show A.in1.handled=g7 from hh) hok hn λh1 tk acc k1 hi=>?_)
 have hst:=hss acc hi
 have hl:acc.toList.length < 64:=by rw [hst.length]; exact h64
 refine g8 (wpAny_newList ?_ (by rw [ij]; omega))
 have hoL:(h1.push (seqObj "list" acc.toList.toArray 0)).get? h1.objs.size=g6 (seqObj "list" acc.toList.toArray 0):=ak _ rfl
 refine g8 (ig (im slot_list_sort (s:={ s with heap:=h1.push (seqObj "list" acc.toList.toArray 0),toks:=tk }) ⟨_,hoL,rfl⟩ entry_list_sort (list_sort_treeK strKind_oneLt hoL hst.keysOf (λv₁ v₂ rest e=>keyKind_strs (by rw [<-e]; exact hst)) hl λst' a1 a2=>⟨_,rfl,?_⟩) (args_list_sort _)))
 obtain ⟨ss',b1,b2,b3⟩:=sorted_out_str hst a1 a2
 obtain ⟨e,he⟩:=sortedHeap_at (out:=(arrOf st').map (·.2)) hoL
 refine h7 ⟨_,rfl,hQ h1 _ tk _ e ss' k1 (λb o eb=>?_) he b1 b2 b3⟩
 have hb:=aq eb
 rw [sortedHeap_old (aB hb) (by rw [bR]; exact fg hb)]
 exact ac _ eb
end
variable {α:Type}
noncomputable def Up:List (Key×α)->Option (List Str)
 | []=>g6 []
 | (.inr x,_)::l=>(Up l).map (x::·)
 | (.inl _,_)::_=>g7
theorem YL:∀ {l:List (Key×α)} {ss:List Str},Up l=g6 ss->l.map (·.1)=ss.map bA
 | [],ss,h=>by cases h; rfl
 | (.inr x,_)::l,ss,h=>by
  obtain ⟨ss',e,rfl⟩:=aZ.mp (show (Up l).map (x::·)=g6 ss from h)
  rw [aD,aD,YL e]
 | (.inl _,_)::_,ss,h=>by cases h
theorem IsK.keys {K:Frag} {F:Hp}:∀ {kv:List (Key×V)} {ks:List (Key×D)},IsK K F kv ks->kv.map (·.1)=ks.map (·.1)
 | _,_,.nil=>rfl
 | _,_,.cons h t=>by rw [aD,aD,IsK.keys t]
theorem KV.keys:∀ {kv:List (Key×V)} {vs:List (Key×g9)},KV kv vs->kv.map (·.1)=vs.map (·.1)
 | _,_,.nil=>rfl
 | _,_,.cons h t=>by rw [aD,aD,h.1,KV.keys t]
noncomputable def kt:D->Out D
 | .dct kvs=>(match Up kvs with
  | some ss=>if ss.length < 64/\(ss.all λy=>decide (y.length<=sizeLine))=hZ then .ok (.lst ((jW ss).map D.str)) else .bad
  | none=>.bad)
 | _=>.bad
section
variable {X:Cx} {C:Ct} {own:List Nat} {e:Expr} {fa:Sl->Out (D×Sl)} {ma:Mo} {pos:Pos}
theorem Jt (hc:X.calm=hZ):QW X C .fr (.builtin "sorted") kt:=by
 intro pins s σ H xs us Q I r h
 obtain ⟨x,F,dx,rfl,sb,tx,po⟩:=h
 obtain ⟨u,rfl,ru⟩:=uw r
 cases dx with
 | dct kvs=>
  obtain ⟨a,kv,rfl,hH,ik⟩:=tx.dct sb
  cases ru
  cases q:Up kvs with
  | none=>simp only [kt,q] at po; exact po.elim
  | some ss=>
   simp only [kt,q] at po
   by_cases hl:ss.length < 64/\(ss.all λy=>decide (y.length<=sizeLine))=hZ
   ·rw [if_pos hl] at po
    obtain ⟨hz,hsys,vs,rel,dd⟩:=(show ObjOk X.prog X.w H s.heap a (.dK kv) from I.hok a _ hH)
    obtain ⟨ep,da⟩:=dd.dictAt
    have hk:vs.map (·.1)=ss.map bA:=by rw [<-KV.keys rel,ik.keys,YL q]
    have hlen:vs.length=ss.length:=by have:=congrArg fK hk; simpa using this
    refine qcc (kdl_dict (kvs:=vs) (ep:=ep) hsys) (I.ok.hd hc) da (λacc hi=>GU _ _ (by rw [bN,hi.1,hlen]) λj v e=>?_) hl.1 (by rw [hlen,ij]; omega) λh1 h' tk us e ss' k1 k2 hp st pm so=>?_
    ·obtain ⟨k,x,e1,e2⟩:=hi.2 j v (by rw [<-bq]; exact e)
     have e3:(vs.map (·.1))[j]?=g6 k:=by rw [aG,e1]; rfl
     rw [hk,aG] at e3
     obtain ⟨y,e4,rfl⟩:=aZ.mp e3
     rcases jC (show ze (bA y) v=hZ from e2) with ⟨i,t,e5,_⟩ | ⟨z,t,e5,rfl⟩
     ·cases e5
     ·cases e5
      exact ⟨_,t,e4,rfl⟩
    ·rw [We pm so] at st
     have I1:Inv X pins σ H { s with heap:=h1,toks:=tk }:=I.kept (t':=tk) k1
     have hz:(jW ss).length<=sizeLine:=by
      rw [(qK _).length_eq,ij]
      omega
     have hq:H h1.objs.size=none:=I1.hok.fresh (ax _)
     obtain ⟨s2,c2,f2⟩:=vz (u:=.lst ((jW ss).map V.str)) sb hq
     exact ⟨.ref h1.objs.size,_,I1.laid (t':=tk) (o:=.lst ((jW ss).map V.str)) k2 (ax _) ⟨by rw [aA]; exact hz,us.toList,e,gX st,by simpa [seqObj] using hp⟩,rfl,po _ _ _ s2 c2 ⟨_,rfl,hq,f2,_,qp,Kh λy hy2=>by
      have:=(qK _).mem_iff.mp hy2
      exact of_decide_eq_true (aS.mp hl.2 y this)⟩⟩
   ·rw [if_neg hl] at po; exact po.elim
 | _=>exact po.elim
end
end L2.D2
namespace PySem.F
theorem nolen_lri:typeLookup (.type "list_reverseiterator") "__len__"=pure none:=by rw [iQ,iC]; kernel_rfl
theorem hint_lri:typeLookup (.type "list_reverseiterator") "__length_hint__"=pure (g6 (.builtin "list_reverseiterator.__length_hint__")):=by rw [iQ,iC]; kernel_rfl
end PySem.F
namespace L2.D2
open PySem PySem.Spec PyProof.Rows PySem.W
section
variable {prog:h8} {w:ib} {A:ii} {E:g9->hV->Prop} {s:hV} {I l:Addr} {items:Array g9}
theorem Zb {R:k8->hV->Prop} (hh:A.handled=g7) (hne:l≠I) (hit:s.heap.IsRevIter I l ((items.size:Int) - 1)) (hl:s.heap.IsList l items) (S:Addr) (hSI:S≠I) (hSl:S≠l) (res:g9) (c₀:Nat) (hS:s.heap.get? S=g6 { cls:=.type "list",data:=.seq #[] c₀ })
  (hR:∀ h' tk acc' c',(∀ b o,b≠S->b≠I->s.heap.get? b=g6 o->h'.get? b=g6 o)->h'.get? S=g6 { cls:=.type "list",dict:=g7,data:=.seq acc' c',slots:=#[] }->lf (λi v=>items[items.size - 1 - i]?=g6 v) acc' items.size->R (.ok (.ret res)) { s with heap:=h',toks:=tk }) (hn:items.size<=sizeLine) :
  wpAny 'g' A.in1 (bo (.ref S) (.ref I) res)
   (λfin s'=>match fin with | .done f=>R (.ok f) s' | .again c'=>c'.quiet=hZ/\codeAny 'g' A c' R s') (λe s'=>R (.error e) s') s:=by
 have W:=Walks.listRev (prog:=prog) (w:=w) (A:=A.in1) hh I l hne items
 have hSf:S∉[I,l]:=by simp only [ae,aK,or_false,not_or]; exact ⟨hSI,hSl⟩
 have st:0<=items.size/\s.heap.IsRevIter I l ((items.size:Int) - 1 - ((0:Nat):Int))/\s.heap.IsList l items:=⟨bp _,by simpa using hit,hl⟩
 unfold bo
 refine g8 (iF hit.typeIs ?_)
 have h1:cV (.ref S) (.ref I)=false:=by simp [cV,hSI]
 rw [if_neg (by rw [h1]; decide)]
 refine g8 (W.self 0 _ _ _ st ?_)
 refine g8 (ig ?_)
 unfold Builtin.List.listLengthHint
 refine g8 (wpAny_specialOf hit.typeIs F.nolen_lri ?_)
 show wpAny _ A.in1 (specialOf (cf I) (aX "__length_hint__") >>= _) _ _ _
 refine g8 (wpAny_specialOf hit.typeIs F.hint_lri ?_)
 generalize hid:("list_reverseiterator.__length_hint__":String)=id0
 wp_delta
 rw [show splitId id0=g6 ("list_reverseiterator", "__length_hint__") from by subst hid; decide +kernel]
 subst hid
 refine g8 (iE (b:=hZ) hit.typeIs (by rw [iX]; kernel_rfl) ?_)
 refine h7 ?_
 rw [if_neg 'c']
 refine h7 ⟨ip F.plain_extend_loop _,codeAny_extend_loopS W.toS hn S hSf res items.size 0 _ #[] c₀ rfl (bp _) st hS (ItemsOf.nil _) λs' acc' c' hm hS' hacc=>?_⟩
 rw [Moved.eq_with hm]
 refine hR s'.heap s'.toks acc' c' (λb o hb hb2 e=>hm.heap b o (λhmem=>?_) e) hS' hacc
 rcases ae.mp hmem with e' | hmem
 ·exact hb e'
 ·exact hb2 (am.mp hmem)
theorem qcd {Q:g9->hV->Prop} (hh:A.handled=g7) (hne:l≠I) (hit:s.heap.IsRevIter I l ((items.size:Int) - 1)) (hl:s.heap.IsList l items) (hn:items.size<=sizeLine)
  (hQ:∀ h' tk acc' c',(∀ b o,b≠I->s.heap.get? b=g6 o->h'.get? b=g6 o)->h'.get? s.heap.objs.size=g6 { cls:=.type "list",dict:=g7,data:=.seq acc' c',slots:=#[] }->lf (λi v=>items[items.size - 1 - i]?=g6 v) acc' items.size->Q 'o' { s with heap:=h',toks:=tk }) :
  wpAny 'g' A (call (.type "list") [.ref I]) Q E s:=by
 refine callType_codes (Q₁:=λobj s₁=>obj=.ref s.heap.objs.size/\s₁={ s with heap:=s.heap.push { cls:=.type "list",data:=.seq #[] } }) PySem.F.called_list (PySem.F.typeCall_list_1 _) PySem.F.entry_list_init
  (code_list_new _ ⟨rfl,rfl⟩) λobj s₁ h₁=>?_
 obtain ⟨rfl,rfl⟩:=h₁
 have hS:(s.heap.push { cls:=.type "list",data:=.seq #[] }).get? s.heap.objs.size=g6 { cls:=.type "list",data:=.seq #[] }:=ak _ rfl
 obtain ⟨oI,hoI,_⟩:=id hit
 obtain ⟨ol,hol,_⟩:=id hl
 have hSI:s.heap.objs.size≠I:=cr (aq hoI)
 have hSl:s.heap.objs.size≠l:=cr (aq hol)
 refine ⟨⟨_,hS,rfl⟩,PySem.F.args_list_init_2 _ _,?_⟩
 show wpAny _ _ (do let old <-Builtin.List.listItems 'o'; Builtin.List.listUpdate 'o' (λ_=>#[]); letGo old.toList.reverse; bo 'o' (.ref I) .none) _ _ _
 refine g8 ?_
 unfold Builtin.List.listItems
 refine g8 (iA hS rfl (h7 ?_))
 show wpAny _ _ (updateSeq s.heap.objs.size (λ_=>#[]) >>= λ_=>letGo (#[]:Array g9).toList.reverse >>= λ_=>bo 'o' (.ref I) .none) _ _ _
 refine g8 (iR hS rfl ?_)
 have hS₂:=aQ (cT (λ_=>(#[]:Array g9))) hS rfl
 have oth:∀ b o,b≠s.heap.objs.size->s.heap.get? b=g6 o->((s.heap.push { cls:=.type "list",data:=.seq #[] }).update s.heap.objs.size (cT (λ_=>(#[]:Array g9)))).get? b=g6 o:=
  λb o hb e=>(ba _ _ (bf hb)).trans (ac _ e)
 refine g8 (j7 ?_)
 refine Zb (A:=A.in1) hh hne (hit.at λo e=>oth I o hSI.symm e) (hl.at λo e=>oth l o hSl.symm e) _ hSI hSl .none _ hS₂ (λh' tk acc' c' hk hS' hacc=>?_) hn
 exact ⟨rfl,hQ h' tk acc' c' (λb o hb e=>hk b o (aB (aq e)) hb (oth b o (aB (aq e)) e)) hS' hacc⟩
end
noncomputable def xG:D->Out D
 | .lst xs=>.ok (.lst xs.reverse)
 | _=>.bad
theorem qce {vs:List V} {its:List g9} {acc:Array g9} (r:Vals vs its) (h:lf (λi v=>its.toArray[its.toArray.size - 1 - i]?=g6 v) acc its.toArray.size):Vals vs.reverse acc.toList:=by
 have e:acc.toList=its.reverse:=by
  apply eh
  intro j
  have hs:acc.size=its.length:=by simpa using h.1
  by_cases hj:j < its.length
  ·have hv:acc.toList[j]?=g6 (acc.toList[j]'(by rw [bN]; omega)):=ah _
   have h2:=h.2 j _ (by rw [<-bq]; exact hv)
   rw [hv,List.getElem?_reverse hj,<-h2]
   simp
  ·rw [cj (by rw [bN]; omega),cj (by rw [List.length_reverse]; omega)]
 rw [e]
 exact r.reverse
theorem GV {K:Frag} {F:Hp}:∀ {vs:List V} {ds:List D},IsL K F vs ds->IsL K F vs.reverse ds.reverse
 | _,_,.nil=>.nil
 | _,_,.cons h t=>by
  rw [dq,dq]
  exact (GV t).append (.cons h .nil)
section
variable {X:Cx} {C:Ct} {own:List Nat} {e:Expr} {fa:Sl->Out (D×Sl)} {ma:Mo} {pos:Pos}
theorem Zc {p p2 pos2:Pos} (hK:C.K=X.K) (hc:X.calm=hZ) (hg:Gl X "list") (hm:X.mg "list"=g7) (hv:bootBuiltins "list"=g6 (.type "list")) (hg2:Gl X "reversed") (hm2:X.mg "reversed"=g7) (hv2:bootBuiltins "reversed"=g6 (.type "reversed")) (ha:PE X e (tE C own ma fa))
  (he:starEach [e] X.env=[(hJ,eval e X.env)]:=by exact ja rfl) (he2:starEach [.Call (.Name "reversed" p2) [e] [] pos2] X.env=[(hJ,eval (.Call (.Name "reversed" p2) [e] [] pos2) X.env)]:=by exact ja rfl) :
  PE X (.Call (.Name "list" p) [.Call (.Name "reversed" p2) [e] [] pos2] [] pos) (tE C own .fr (d1 xG fa)):=by
 refine ⟨?_⟩
 intro pins s σ H Q I h
 refine iN (xj I hg hm hv ?_ 'c' 'c')
 refine bn ?_ (by rw [he2]; rfl) rfl
 rw [he2]
 show wpAny _ _ (spliced ((hJ,eval (.Call (.Name "reversed" p2) [e] [] pos2) X.env)::[])) _ _ s
 refine dP ?_
 refine iN (xj I hg2 hm2 hv2 ?_ 'c' 'c')
 refine bn (thn ((jk ha ke he) pos2 pins s σ H _ I (zf (ma:=ma) h)) λus s1 ⟨vs,H1,I1,r1,q1⟩=>?_) (by rw [he]; rfl) rfl
 obtain ⟨x,F,dx,rfl,sb,tx,po⟩:=q1
 obtain ⟨u,rfl,ru⟩:=uw r1
 cases dx with
 | lst ds=>
  obtain ⟨a,vs,rfl,hq,t⟩:=tx.lst sb
  rw [hK] at hq
  cases ru
  obtain ⟨its,rv,pl0,hz⟩:=I1.list hq
  have pl:s1.heap.IsList a its.toArray:=by
   obtain ⟨o,n,ho,hc1,_,hdt⟩:=pl0
   exact ⟨o,ho,hc1,n,hdt⟩
  refine call_reversed_list pl ?_
  refine e7 ?_
  have hs1:=ak (h:=s1.heap) (o:=revObj a ((its.toArray.size:Int) - 1)) 
  have pl2:(s1.heap.push (revObj a ((its.toArray.size:Int) - 1))).IsList a its.toArray:=pl.at λo eo=>ac _ eo
  obtain ⟨oa,hoa,_⟩:=id pl
  have hne:a≠s1.heap.objs.size:=aB (aq hoa)
  refine qcd (s:={ s1 with heap:=s1.heap.push (revObj a ((its.toArray.size:Int) - 1)) }) (I.ok.hd hc) hne ⟨_,ak _ rfl,rfl,rfl⟩ pl2 (by rw [au,<-rv.length]; exact hz) λh' tk acc c kp hp hi=>?_
  have kp2:∀ b o,s1.heap.get? b=g6 o->h'.get? b=g6 o:=λb o eo=>kp b o (aB (aq eo)) (ac _ eo)
  have hsz:(s1.heap.push (revObj a ((its.toArray.size:Int) - 1))).objs.size=s1.heap.objs.size+1:=bR ..
  have hq2:H1 (s1.heap.objs.size+1)=none:=I1.hok.fresh (e8 _)
  obtain ⟨s2,c2,f2⟩:=vz (u:=.lst vs.reverse) sb hq2
  have hp:h'.get? (s1.heap.objs.size+1)=g6 { cls:=.type "list",dict:=g7,data:=.seq acc c,slots:=#[] }:=by rw [<-hsz]; exact hp
  have goal:EP X pins σ Q (.ref (s1.heap.objs.size+1)) { s1 with heap:=h',toks:=tk }:=
   ⟨.ref (s1.heap.objs.size+1),_,I1.laid (t':=tk) (o:=.lst vs.reverse) kp2 (e8 _) ⟨by rw [List.length_reverse]; exact hz,acc.toList,c,qce rv hi,by simpa using hp⟩,rfl,po _ _ _ s2 c2 ⟨_,rfl,hq2,f2,_,qp,GV t⟩⟩
  rw [<-hsz] at goal
  exact goal
 | _=>exact po.elim
end
end L2.D2
namespace L2.D2
open PySem PySem.Spec PyProof.Rows
variable {A:ii} {s:hV} {items:Array g9}
section
variable {prog:h8} {w:ib} {E:g9->hV->Prop}
theorem Zd:typeLookup (.type "list") "keys"=pure none:=by rw [iQ,iC]; kernel_rfl
theorem Qb {a:Addr} {o:Obj} {xs:Array g9} {k:Nat} {Q:Option g9->hV->Prop} (hh:A.handled=g7) (hx:s.heap.get? a=g6 o) (hc:o.cls=.type "list") (hdat:o.data=.seq xs k) (hd:o.dict=g7)
  (h:∀ h' tk,(∀ b ob,s.heap.get? b=g6 ob->h'.get? b=g6 ob)->Q g7 { s with heap:=h',toks:=tk }):wpAny 'g' A (getAttr? (.ref a) "keys") Q E s:=by
 obtain ⟨c,dct,dat,sl⟩:=o
 simp only at hc hdat hd
 subst hc hdat hd
 obtain ⟨hp,g,d,tk,os⟩:=s
 have hT:∀ tk',(⟨hp,g,d,tk',os⟩:hV).TypeIs (.ref a) "list":=λ_=>⟨_,hx,rfl⟩
 have f1:=sub_AttributeError
 have f3:=dM.lookup
 have f4:=dM.bind (.ref a)
 have f5:=am_list_getattr_none
 have f6:=Zd
 have hnm:(["__module__", "__name__", "__qualname__", "__doc__", "__annotations__"]:List Str).contains ("keys":Str)=false:=by decide +kernel
 have hsz:("keys":Str).length+100<=sizeLine:=by rw [ij]; decide +kernel
 unfold getAttr? getAttrBy?
 refine g8 (wpAny_mkText (g8 (iY ?_)))
 unfold getAttrBy
 repeat (any_goals (first | assumption | exact hT _ | ((with_reducible show wpAny _ _ (call (Value.builtin "list.__getattribute__") _ _) _ _ _); refine k6 dM (hT _) am_entry_list_getattribute (F.args_list_getattribute_2 _ _) (meets_getattribute_miss_list a xs k sl "keys" _ f6 hnm hsz) ⟨hx,hh,λh' tk' e hx'=>?_⟩) | wp_step))
 obtain ⟨t',u',he⟩:=hx'.there
 show wpAny _ _ (getattributeRaised _ _ _ _ _ _ _) _ _ _
 unfold getattributeRaised
 repeat (any_goals (first | assumption | wp_step))
 exact h h' tk' hx'.keeps
theorem GW {R:k8->hV->Prop} {d it t:Addr} (hh:A.in1.handled=g7) (hdt:d≠t) (hdi:d≠it) (hti:t≠it):∀ (n i:Nat) (s:hV) (kvs:List (Key×g9)) (ps:List (Key×g9×g9)),items.size - i=n->i<=items.size ->
  s.heap.IsListIter it t i->s.heap.IsList t items->s.heap.DictOf (qT prog w) d kvs->ps.length=n->(∀ j p,ps[j]?=g6 p->∃ v,items[i+j]?=g6 v/\ze p.1 p.2.1=hZ/\VT s.heap v p.2.1 p.2.2)->kvs.length+n<=sizeLine ->
  (∀ h' tk,h'.DictOf (qT prog w) d (ps.foldl (λl p=>stored l p.1 p.2.2) kvs)->(∀ b o,b≠d->b≠it->s.heap.get? b=g6 o->h'.get? b=g6 o)->R (.ok (.ret .none)) { s with heap:=h',toks:=tk }) ->
  codeAny 'g' A (.builtin "dict.update.loop" ⟨[.ref d,.ref it,rawInt i,.none],[]⟩) R s:=by
 intro n
 induction n with
 | zero=>
  intro i s kvs ps hn hi st ht hd hl hp hz hR
  have e:ps=[]:=dW.mp hl
  subst e
  refine ic vS ?_
  rw [aN jm _]
  show wpAny _ A.in1 (pyNext (.ref it) >>= _) _ _ s
  refine g8 (wpAny_pyNext_list_end hh st ht (by simp; omega) λh' eb=>?_)
  show wpAny _ A.in1 (ret cq) _ _ _
  refine h7 (hR h' s.toks ?_ λb o _ h2 e=>eb b o h2 e)
  obtain ⟨o,es,ep,ho,r⟩:=hd
  exact ⟨o,es,ep,eb d o hdi ho,r⟩
 | succ n ih=>
  intro i s kvs ps hn hi st ht hd hl hp hz hR
  cases ps with
  | nil=>simp at hl
  | cons p ps=>
   obtain ⟨v,hv,hk,q,oq,nq,rfl,hq,hqc,hqd⟩:=hp 0 p rfl
   obtain ⟨od,es,ep,hod,hdx,hrest⟩:=id hd
   have nqd:q≠d:=λz=>by
    subst z
    rw [hq] at hod; cases hod
    rw [hrest.1] at hqd; cases hqd
   obtain ⟨oi,hoi,hic,hid⟩:=id st
   have nqi:q≠it:=λz=>by
    subst z
    rw [hq] at hoi; cases hoi
    rw [hid] at hqd; cases hqd
   refine ic vS ?_
   rw [aN jm _]
   show wpAny _ A.in1 (pyNext (.ref it) >>= _) _ _ s
   refine g8 (wpAny_pyNext_list_item st ht (x:=.ref q) (by simpa using hv) λh' st' sb=>?_)
   have hq':h'.get? q=g6 oq:=(sb.2 q nqi).trans hq
   have hTq:eJ { s with heap:=h' } (.ref q) "tuple":=⟨oq,hq',hqc⟩
   have hd':h'.DictOf (qT prog w) d kvs:=by
    obtain ⟨o,es,ep,ho,r⟩:=hd
    exact ⟨o,es,ep,(sb.2 d hdi).trans ho,r⟩
   have ht':h'.IsList t items:=by
    obtain ⟨o,ho,r⟩:=ht
    exact ⟨o,(sb.2 t hti).trans ho,r⟩
   dsimp only
   refine g8 (ig (g8 ?_))
   refine iW ?_
   unfold Builtin.Dict.pairItems
   refine g8 (iF hTq ?_)
   rw [if_pos 'c']
   refine g8 (iA hq' hqd (h7 ?_))
   show wpAny _ A.in1 (holding [p.2.1,p.2.2] (dictSet d p.2.1 p.2.2)) _ _ _
   refine ig (wpAny_dictSet_pairs (knd:=qT prog w) hk hd' (λh2 hd2 sb2=>?_) 'a')
   have keep:∀ b o,b≠d->b≠it->s.heap.get? b=g6 o->h2.get? b=g6 o:=λb o n1 n2 e=>(sb2.2 b n1).trans ((sb.2 b n2).trans e)
   have hlen:(stored kvs p.1 p.2.2).length<=kvs.length+1:=by
    unfold stored
    split <;> simp
   refine h7 ⟨ip jm _,?_⟩
   have ec:rawInt ((i:Int)+1)=rawInt ((i+1:Nat):Int):=by push_cast; rfl
   rw [ec]
   refine ih (i+1) _ (stored kvs p.1 p.2.2) ps 'a' 'a' ?_ ?_ hd2 (by simpa using hl) (λj p' e=>?_) 'a' λh3 tk hd3 k3=>?_
   ·obtain ⟨o,e,r⟩:=st'
    exact ⟨o,(sb2.2 it (bf hdi)).trans e,r⟩
   ·obtain ⟨o,e,r⟩:=ht'
    exact ⟨o,(sb2.2 t (bf hdt)).trans e,r⟩
   ·obtain ⟨v',hv',hk',q',oq',nq',rfl,hq2,hqc2,hqd2⟩:=hp (j+1) p' (by simpa using e)
    refine ⟨.ref q',by rw [show i+1+j=i+(j+1) by omega]; exact hv',hk',q',oq',nq',rfl,keep q' oq' (λz=>?_) (λz=>?_) hq2,hqc2,hqd2⟩
    ·subst z
     rw [hq2] at hod; cases hod
     rw [hrest.1] at hqd2; cases hqd2
    ·subst z
     rw [hq2] at hoi; cases hoi
     rw [hid] at hqd2; cases hqd2
   ·exact hR h3 tk hd3 λb o n1 n2 e=>k3 b o n1 n2 (keep b o n1 n2 e)
theorem zV {t:Addr} {ps:List (Key×g9×g9)} {Q:g9->hV->Prop} (hh:A.handled=g7) {ot:Obj} {nt:Nat} (hot:s.heap.get? t=g6 ot) (hotc:ot.cls=.type "list") (hotd:ot.dict=g7) (hots:ot.data=.seq items nt)
  (hl:ps.length=items.size) (hp:∀ (j:Nat) (p:Key×g9×g9),ps[j]?=g6 p->∃ v,items[j]?=g6 v/\ze p.1 p.2.1=hZ/\VT s.heap v p.2.1 p.2.2) (hz:items.size<=sizeLine)
  (h:∀ h' tk,h'.DictOf (qT prog w) s.heap.objs.size (ps.foldl (λl p=>stored l p.1 p.2.2) [])->(∀ b o,s.heap.get? b=g6 o->h'.get? b=g6 o)->Q 'o' { s with heap:=h',toks:=tk }) :
  wpAny 'g' A (call (.type "dict") [.ref t]) Q E s:=by
 refine callType_codes (Q₁:=λobj s₁=>obj=.ref s.heap.objs.size/\s₁={ s with heap:=s.heap.push { cls:=.type "dict",data:=.dict #[] } }) F.kt_called_dict (F.kt_typeCall_dict_1 _) F.entry_dict_init (kt_code_dict_new _ ⟨rfl,rfl⟩) ?_
 rintro obj s₁ ⟨rfl,rfl⟩
 have hnew:(s.heap.push { cls:=.type "dict",data:=.dict #[] }).DictOf (qT prog w) s.heap.objs.size []:=fG s.heap
 refine ⟨hnew.typeIs,F.args_dict_init_2 _ _,?_⟩
 unfold Builtin.«dict.__init__»
 refine g8 ?_
 unfold Builtin.Dict.selfAndRest
 refine g8 (wpAny_notOrdered_dict hnew.typeIs ?_)
 show wpAny _ _ (pure (s.heap.objs.size,[cf t])) _ _ _
 refine h7 ?_
 show wpAny _ _ (c7 "dict.__init__" s.heap.objs.size (.ref t) [] .none) _ _ _
 unfold c7
 have hot':(s.heap.push { cls:=.type "dict",data:=.dict #[] }).get? t=g6 ot:=ac _ hot
 have hlt:t < s.heap.objs.size:=aq hot
 refine g8 (iF (T := "list") ⟨ot,hot',hotc⟩ ?_)
 rw [if_pos 'c']
 refine g8 (Qb (by exact hh) hot' hotc hots hotd λh1 tk1 k1=>?_)
 rw [if_pos (show (g7:Option g9).isNone=hZ from rfl)]
 refine g8 (iV ?_)
 have ht1:h1.get? t=g6 ot:=k1 _ _ hot'
 have hd1:h1.DictOf (qT prog w) s.heap.objs.size []:=by
  obtain ⟨o,es,ep,ho,r⟩:=hnew
  exact ⟨o,es,ep,k1 _ _ ho,r⟩
 have htup:h1.IsList t items:=⟨ot,ht1,hotc,nt,hots⟩
 refine g8 (iT (s:={ s with heap:=h1,toks:=tk1 }) htup ?_)
 have hs1:s.heap.objs.size < h1.objs.size:=let ⟨o,es,ep,ho,r⟩:=hd1; aq ho
 have up:∀ b o,s.heap.get? b=g6 o->(h1.push { cls:=.type "list_iterator",data:=.fields #[.ref t,.int 0 0] }).get? b=g6 o:=λb o e=>ac _ (k1 _ _ (ac _ e))
 refine h7 ⟨ip jm _,?_⟩
 refine GW (items:=items) (t:=t) (A:=A.in1) (show A.in1.in1.handled=g7 from hh) (cr hlt) (aB hs1) (aB (dh hlt hs1)) items.size 0 _ [] ps 'a' (bp _) ⟨_,ak _ rfl,rfl,rfl⟩ ?_ ?_ hl (λj p e=>?_) (by simpa using hz) λh2 tk2 hd2 k2=>⟨rfl,h h2 tk2 hd2 λb o e=>?_⟩
 ·exact ⟨ot,ac _ ht1,hotc,nt,hots⟩
 ·obtain ⟨o,es,ep,ho,r⟩:=hd1
  exact ⟨o,es,ep,ac _ ho,r⟩
 ·obtain ⟨v,hv,hk,q,oq,nq,rfl,hq,r⟩:=hp j p e
  exact ⟨.ref q,by simpa using hv,hk,q,oq,nq,rfl,up q oq hq,r⟩
 ·have hb:=aq e
  exact k2 b o (aB hb) (aB (dh hb hs1)) (up b o e)
end
noncomputable def Qc:D->Out D
 | .lst ds=>match yK ds with
  | some ps=>.ok (.dct (ps.foldl (λl p=>WO l p.1 p.2) []))
  | none=>.bad
 | _=>.bad
variable {X:Cx} {pins:List (Addr×Obj)} {σ:St}
section
variable {C:Ct} {F H:Hp}
theorem YM (hK:C.K=X.K) (hc:X.calm=hZ):QW X C .fr (.type "dict") Qc:=by
 intro pins s σ H xs us Q I r h
 obtain ⟨x,F,dx,rfl,sb,tx,po⟩:=h
 cases dx <;> try exact po.elim
 rename_i ds
 unfold Qc at po
 cases q:yK ds with
 | none=>simp only [q] at po; exact po.elim
 | some ps=>
  simp only [q] at po
  obtain ⟨a,vs,rfl,hq,t⟩:=tx.lst sb
  obtain ⟨u,rfl,ru⟩:=uw r
  cases ru
  have hq':SqL X.K H a vs:=by rw [<-hK]; exact hq
  obtain ⟨its,rv,⟨o,n,ho,hcl,hdn,hd⟩,hz⟩:=I.list hq'
  obtain ⟨pv,tr,h1,h2,h3,h3',h4⟩:=Ka hK I sb t rv q
  have hlen:=rv.length
  refine zV (ps:=tr) (I.ok.hd hc) ho hcl hdn hd (by simp [h3]) (λj p e=>?_) (by simp; omega) λh' tk hd' kp=>?_
  ·obtain ⟨v,e1,e2⟩:=h4 j p e
   exact ⟨v,by simpa using e1,e2⟩
  ·have hp:H s.heap.objs.size=none:=I.hok.fresh (ax _)
   obtain ⟨s2,c2,hF⟩:=vz (u:=.dK (pv.foldl (λl p=>zR l p.1 p.2) [])) sb hp
   have hl:(pv.foldl (λl p=>zR l p.1 p.2) ([]:List (Key×V))).length<=sizeLine:=by
    have:=@JZ pv []
    simp at this
    omega
   have hsys:(s.heap.objs.size == sysModules)=false:=beq_eq_false_iff_ne.mpr (cr I.big)
   refine ⟨.ref s.heap.objs.size,_,I.laid (o:=.dK (pv.foldl (λl p=>zR l p.1 p.2) [])) (t':=tk) kp (ax _) (ZQ hl hsys (Ug h2 .nil) hd'),rfl,po _ F _ s2 c2 ⟨_,rfl,hp,hF,_,qp,JY h1 .nil⟩⟩
end
open PySem.SeqAt
open AutoSeq1 (wpAny_loadPart')
open MeetsSeq MeetsSeq2 MeetsSeq3
def RcLtAt (A:ii) (s:hV) (y x:g9) (b:Bool):Prop:=
 ∀ (prog:h8) (w:ib) (E:g9->hV->Prop) (Q:g9->hV->Prop),Q (.bool b) s->wpAny 'g' A (richCompare .Lt y x) Q E s
def LtL (A:ii) (s:hV) (k b:Bool):List (g9×g9)->Prop
 | []=>b=k
 | (y,x)::t=>(EqAt A.in1 s y x hZ/\LtL A s k b t)\/(EqAt A.in1 s y x hJ/\RcLtAt A.in1 s y x b)
theorem Ze (l b:Addr) (items items2:Array g9) (n n2:Nat) (dd dd2:Option Addr) (sl sl2:Array (Option g9)) (c:Bool) :
  Meets (Builtin.«tuple.__lt__» ⟨[.ref l,.ref b],[]⟩)
   (λA R s=>s.heap.get? l=g6 { cls:=.type "tuple",dict:=dd,data:=.seq items n,slots:=sl }/\s.heap.get? b=g6 { cls:=.type "tuple",dict:=dd2,data:=.seq items2 n2,slots:=sl2 } /\
    LtL A s (decide (items.size < items2.size)) c (items.toList.zip items2.toList)/\R (.ok (.ret (.bool c))) s):=
 .of_wp λprog w A R s h=>by
  obtain ⟨hp,g,d,tk,os⟩:=s; obtain ⟨hl,hb,he,h⟩:=h
  have f2:=AutoSeq1.sub_tuple_tuple
  wp_walk using iS hl,iS hb,wpAny_forIn_list _ (λrest b s'=>b.1=g7/\s'=⟨hp,g,d,tk,os⟩/\LtL A ⟨hp,g,d,tk,os⟩ (decide (items.size < items2.size)) c rest) _
  case turn=>
   rintro ⟨y,x⟩ rest b s' ⟨hb',rfl,hz⟩
   rcases hz with ⟨e1,hz⟩ | ⟨e1,hz⟩
   ·refine g8 (e1 prog w _ _ ?_)
    wp_walk
    exact ⟨rfl,rfl,hz⟩
   ·refine g8 (e1 prog w _ _ ?_)
    refine g8 (iV (g8 (hz prog w _ _ ?_)))
    wp_walk
    exact ⟨_,rfl,h⟩
  case fin=>
   rintro ⟨b1,b2⟩ s' ⟨hb',rfl,hz⟩
   simp only at hb'
   subst hb'
   have hz:c=_:=hz
   subst hz
   wp_walk
   exact ⟨_,rfl,by simpa [Builtin.Tuple.tupleCompareSizes] using h⟩
  case h=>
   exact ⟨rfl,rfl,he⟩
theorem RcLtAt.tuples {l b:Addr} {items2:Array g9} {c:Bool} (hl:s.heap.IsTuple l items) (hb:s.heap.IsTuple b items2) (hu:A.units < cLine)
  (he:LtL A s (decide (items.size < items2.size)) c (items.toList.zip items2.toList)):RcLtAt A s (.ref l) (.ref b) c:=λprog w E Q h=>by
 obtain ⟨⟨cls,dd,data,sl⟩,ho,hc,n,hd⟩:=id hl
 obtain ⟨⟨cls2,dd2,data2,sl2⟩,ho2,hc2,n2,hd2⟩:=id hb
 simp only at hc hd hc2 hd2
 subst hc hd hc2 hd2
 exact richCompare_meets_room (op:=.Lt) ⟨_,ho,rfl⟩ ⟨_,ho2,rfl⟩ F.slot_tuple_lt F.entry_tuple_lt (F.args_tuple_lt_2 _ _) (Ze l b items items2 n n2 dd dd2 sl sl2 c)
  ⟨ho,ho2,he,show dg c≠Value.notImplemented/\Q (.bool c) s from ⟨(λx=>nomatch x),h⟩⟩ hu
noncomputable def qcf (f g:D->D->Option Bool):List D->List D->Option Bool
 | x::xs,y::ys=>(f x y).bind λa=>if a then qcf f g xs ys else g x y
 | [],y::ys=>g6 hZ
 | _,[]=>g6 hJ
noncomputable def ltN:Nat->D->D->Option Bool
 | n+1,.tup xs,.tup ys=>qcf (eqN n) (ltN n) xs ys
 | _,.int i,.int j=>g6 (decide (i < j))
 | _,_,_=>g7
section
variable {F H:Hp}
theorem qgI {A:ii} {n:Nat} {b:Bool}
  (i1:∀ {v w:V} {d e:D} {u t:g9} {b:Bool},Is X.K F v d->Is X.K F w e->RelV v u->RelV w t->eqN n d e=g6 b->EqAt A.in1 s u t b)
  (i2:∀ {v w:V} {d e:D} {u t:g9} {b:Bool},Is X.K F v d->Is X.K F w e->RelV v u->RelV w t->ltN n d e=g6 b->RcLtAt A.in1 s u t b) :
  ∀ {xs ys:List V} {us ws:List g9} {ds es:List D},Vals xs us->Vals ys ws->IsL X.K F xs ds->IsL X.K F ys es->qcf (eqN n) (ltN n) ds es=g6 b->LtL A s (decide (us.length < ws.length)) b (us.zip ws):=by
 intro xs
 induction xs with
 | nil=>
  intro ys us ws ds es r1 r2 j1 j2 h
  cases r1
  cases j1
  cases j2 with
  | nil=>cases r2; simp [qcf] at h; simp [LtL,h]
  | cons _ _=>cases r2; simp [qcf] at h; simp [LtL,h]
 | cons x xs ih=>
  intro ys us ws ds es r1 r2 j1 j2 h
  cases r1 with
  | cons a1 r1=>
  cases j1 with
  | cons b1 j1=>
  cases j2 with
  | nil=>cases r2; simp [qcf] at h; simp [LtL,h]
  | cons b2 j2=>
   cases r2 with
   | cons a2 r2=>
    rename_i u us d ds _ _ _ _ w ws
    unfold qcf at h
    cases q:eqN n d _ with
    | none=>rw [q] at h; simp at h
    | some k=>
     rw [q] at h
     cases k with
     | true=>
      have z:=ih r1 r2 j1 j2 (by simpa using h)
      refine .inl ⟨i1 b1 b2 a1 a2 q,?_⟩
      rw [show decide ((u::us).length < (w::ws).length)=decide (us.length < ws.length) by simp]
      exact z
     | false=>exact .inr ⟨i1 b1 b2 a1 a2 q,i2 b1 b2 a1 a2 (by simpa using h)⟩
theorem qcg {A:ii} {n:Nat} {a c:Addr} {xs ys:List V} {ds es:List D} {b:Bool} (I:Inv X pins σ H s)
  (i1:∀ {v w:V} {d e:D} {u t:g9} {b:Bool},Is X.K F v d->Is X.K F w e->RelV v u->RelV w t->eqN n d e=g6 b->EqAt A.in1 s u t b)
  (i2:∀ {v w:V} {d e:D} {u t:g9} {b:Bool},Is X.K F v d->Is X.K F w e->RelV v u->RelV w t->ltN n d e=g6 b->RcLtAt A.in1 s u t b)
  (p1:SqT X.K H a xs) (p2:SqT X.K H c ys) (j1:IsL X.K F xs ds) (j2:IsL X.K F ys es) (h:ltN (n+1) (.tup ds) (.tup es)=g6 b) (hu:A.units < cLine):RcLtAt A s (.ref a) (.ref c) b:=by
 obtain ⟨us,r1,t1,_⟩:=I.tuple p1
 obtain ⟨ws,r2,t2,_⟩:=I.tuple p2
 exact RcLtAt.tuples t1 t2 hu (by simpa using qgI i1 i2 r1 r2 j1 j2 h)
theorem JL {i j:Int} {t u:Tok}:RcLtAt A s (.int i t) (.int j u) (decide (i < j)):=λprog w E Q h=>wpAny_lt_int h
theorem qgJ (I:Inv X pins σ H s) (sb:Same F H):∀ (n:Nat) {A:ii} {v w:V} {d e:D} {u t:g9} {b:Bool},A.units+n < cLine->Is X.K F v d->Is X.K F w e->RelV v u->RelV w t->ltN n d e=g6 b->RcLtAt A s u t b:=by
 intro n
 induction n with
 | zero=>
  intro A v w d e u t b hu h1 h2 rx ry h
  cases d <;> try (cases h; done)
  cases e <;> try (cases h; done)
  cases h1
  cases h2
  obtain ⟨_,rfl⟩:=rx
  obtain ⟨_,rfl⟩:=ry
  cases h
  exact JL
 | succ n ih=>
  intro A v w d e u t b hu h1 h2 rx ry h
  cases d <;> try (cases h; done)
  ·cases e <;> try (cases h; done)
   cases h1
   cases h2
   obtain ⟨_,rfl⟩:=rx
   obtain ⟨_,rfl⟩:=ry
   cases h
   exact JL
  ·cases e <;> try (cases h; done)
   cases h1 with
   | tup p1 t1=>
   cases h2 with
   | tup p2 t2=>
    cases rx
    cases ry
    have hu1:A.in1.units+n < cLine:=by show A.units+1+n < cLine; omega
    exact qcg I (λa1 a2 a3 a4 a5=>Yr I sb n hu1 a1 a2 a3 a4 a5) (λa1 a2 a3 a4 a5=>ih hu1 a1 a2 a3 a4 a5) (qN sb p1) (qN sb p2) t1 t2 h 'a'
end
end L2.D2
namespace L2.D2
open PySem PySem.Spec PyProof.Rows
open PySem.SeqAt
variable {prog:h8} {w:ib} {A:ii}
section
variable {R:k8->hV->Prop} {I:Addr} {fp wr:List Addr} {G:Array j8->Array j8->Prop} {n:Nat} {P:Nat->g9->Prop} {St:Nat->hV->Prop}
abbrev qji (vs:Array g9) (c:Nat):Obj:={ cls:=.type "list",dict:=g7,data:=.seq vs c,slots:=#[] }
theorem qch (W:WalksS prog w A.in1 I fp wr G n P St) (bt:Nat->Nat->Bool) (S:Addr) (hSf:S∉fp) (K:hV->Prop) (hmv:∀ s s',K s->Moved (S::wr) G s s'->K s')
  (hcmp:∀ i j vi vj (s:hV) (Q:g9->hV->Prop) (E:g9->hV->Prop),K s->P i vi->P j vj->Q (.bool (bt i j)) s->wpAny 'g' A.in1 (richCompare .Lt vi vj) Q E s) :
  ∀ (k j:Nat) (s:hV) (vb:g9) (c:Nat),n - (j+1)=k->j+1<=n->St (j+1) s->P (argBest bt j) vb->K s->s.heap.get? S=g6 (qji #[vb,vb] c) ->
  (∀ v s',P (argBest bt (n - 1)) v->Moved (S::wr) G s s'->R (.ok (.ret v)) s')->codeAny 'g' A (.builtin "min.loop" ⟨[.ref I,.none,.ref S],[]⟩) R s:=by
 have hSw:S∉wr:=λh=>hSf (W.sub _ h)
 have up:∀ b∈wr,b∈S::wr:=λb hb=>aa _ hb
 have hname:(toString "min"++toString ".loop":String) = "min.loop":=by decide
 have nS:∀ {b:Addr},b∉S::wr->S≠b:=λhb h=>hb (by rw [h]; exact af)
 intro k
 induction k with
 | zero=>
  intro j s vb c hk hj hst hPb hKs hS hR
  have hin:j+1=n:=by omega
  refine ic fB ?_
  rw [aN cH _]
  show wpAny _ A.in1 (seqItems? (.ref S) >>= _) _ _ s
  refine g8 (iA hS rfl ?_)
  show wpAny _ A.in1 (tryCatch (pyNext (.ref I)) _ >>= _) _ _ s
  refine g8 (iW (W.done s _ _ (hin ▸ hst) λs' hm=>?_))
  have hS':=hm.heap S _ hSw hS
  show wpAny _ A.in1 (updateSeq S (λ_=>#[]) >>= _) _ _ _
  refine g8 (iR hS' rfl (g8 (j7 (h7 ?_))))
  exact hR vb _ (by rw [<-hin]; exact hPb) ((hm.mono up).then_heap (tk:=s'.toks) (ax _) λb o hb e=>(ba _ _ (nS hb)).trans e)
 | succ k ih=>
  intro j s vb c hk hj hst hPb hKs hS hR
  have hlt:j+1 < n:=by omega
  refine ic fB ?_
  rw [aN cH _]
  show wpAny _ A.in1 (seqItems? (.ref S) >>= _) _ _ s
  refine g8 (iA hS rfl ?_)
  show wpAny _ A.in1 (tryCatch (pyNext (.ref I)) _ >>= _) _ _ s
  refine g8 (iW (W.item (j+1) s _ _ hlt hst λv s' hP hst' hm=>?_))
  have hS':=hm.heap S _ hSw hS
  have hK':=hmv s s' hKs (hm.mono up)
  show wpAny _ A.in1 (tryCatch (holding [v,v] (richCompare .Lt v vb >>= _)) _ >>= _) _ _ _
  refine g8 (iW (ig (g8 (hcmp (j+1) (argBest bt j) v vb _ _ _ hK' hP hPb ?_))))
  refine g8 (ig (iy ?_))
  refine g8 (j7 (h7 ?_))
  cases hb:bt (j+1) (argBest bt j) with
  | true=>
   simp only [if_true]
   refine g8 (iR hS' rfl (g8 (j7 ?_)))
   rw [hname]
   have hm2:∀ f:Obj->Obj,Moved (S::wr) G s { s' with heap:=s'.heap.update S f,toks:=s'.toks }:=λf=>(hm.mono up).then_heap (tk:=s'.toks) (ax _) λb o hb e=>(ba _ _ (nS hb)).trans e
   refine h7 ⟨ip cH _,ih (j+1) _ v _ 'a' hlt (W.frame _ s' _ s'.toks hst' (ax _) λb hbf o e=>?_) (by simp only [argBest,hb,if_true]; exact hP) (hmv _ _ hKs (hm2 _)) (aQ _ hS' rfl)
    λv' s'' hP' hm''=>hR v' s'' hP' (fL W.gtrans (hm2 _) hm'')⟩
   exact (ba _ _ (λh:S=b=>hSf (by rw [h]; exact hbf))).trans e
  | false=>
   simp only [eX,if_false]
   refine g8 (j7 ?_)
   rw [hname]
   exact h7 ⟨ip cH _,ih (j+1) _ vb c 'a' hlt hst' (by simp only [argBest,hb,eX,if_false]; exact hPb) hK' hS' λv' s'' hP' hm''=>
    hR v' s'' hP' (fL W.gtrans (hm.mono up) hm'')⟩
theorem GX (W:WalksS prog w A.in1 I fp wr G n P St) (bt:Nat->Nat->Bool) (S:Addr) (hSf:S∉fp) (hn:0 < n) (K:hV->Prop) (hmv:∀ s s',K s->Moved (S::wr) G s s'->K s')
  (hcmp:∀ i j vi vj (s:hV) (Q:g9->hV->Prop) (E:g9->hV->Prop),K s->P i vi->P j vj->Q (.bool (bt i j)) s->wpAny 'g' A.in1 (richCompare .Lt vi vj) Q E s)
  {s:hV} {c:Nat} (hst:St 0 s) (hKs:K s) (hS:s.heap.get? S=g6 (qji #[] c))
  (hR:∀ v s',P (argBest bt (n - 1)) v->Moved (S::wr) G s s'->R (.ok (.ret v)) s'):codeAny 'g' A (.builtin "min.loop" ⟨[.ref I,.none,.ref S],[]⟩) R s:=by
 have hSw:S∉wr:=λh=>hSf (W.sub _ h)
 have up:∀ b∈wr,b∈S::wr:=λb hb=>aa _ hb
 have hname:(toString "min"++toString ".loop":String) = "min.loop":=by decide
 have nS:∀ {b:Addr},b∉S::wr->S≠b:=λhb h=>hb (by rw [h]; exact af)
 refine ic fB ?_
 rw [aN cH _]
 show wpAny _ A.in1 (seqItems? (.ref S) >>= _) _ _ s
 refine g8 (iA hS rfl ?_)
 show wpAny _ A.in1 (tryCatch (pyNext (.ref I)) _ >>= _) _ _ s
 refine g8 (iW (W.item 0 s _ _ hn hst λv s' hP hst' hm=>?_))
 have hS':=hm.heap S _ hSw hS
 show wpAny _ A.in1 (updateSeq S (λ_=>#[v,v]) >>= _) _ _ _
 refine g8 (iR hS' rfl ?_)
 rw [hname]
 have hm2:∀ f:Obj->Obj,Moved (S::wr) G s { s' with heap:=s'.heap.update S f,toks:=s'.toks }:=λf=>(hm.mono up).then_heap (tk:=s'.toks) (ax _) λb o hb e=>(ba _ _ (nS hb)).trans e
 refine h7 ⟨ip cH _,qch W bt S hSf K hmv hcmp _ 0 _ v _ rfl hn (W.frame _ s' _ s'.toks hst' (ax _) λb hbf o e=>?_) hP (hmv _ _ hKs (hm2 _)) (aQ _ hS' rfl) λv' s'' hP' hm''=>hR v' s'' hP' (fL W.gtrans (hm2 _) hm'')⟩
 exact (ba _ _ (λh:S=b=>hSf (by rw [h]; exact hbf))).trans e
end
section
variable {E:g9->hV->Prop} {s:hV}
theorem qci {l:Addr} {items:Array g9} {bt:Nat->Nat->Bool} {Q:g9->hV->Prop} (hh:A.handled=g7) (hl:s.heap.IsList l items) (hne:0 < items.size)
  (hcmp:∀ i j vi vj (h':Heap) (tk:Nat) (Q:g9->hV->Prop) (E:g9->hV->Prop),(∀ b o,s.heap.get? b=g6 o->h'.get? b=g6 o)->items[i]?=g6 vi->items[j]?=g6 vj->Q (.bool (bt i j)) { s with heap:=h',toks:=tk }->wpAny 'g' A.in1 (richCompare .Lt vi vj) Q E { s with heap:=h',toks:=tk })
  (h:∀ v h' tk,items[argBest bt (items.size - 1)]?=g6 v->(∀ b o,s.heap.get? b=g6 o->h'.get? b=g6 o)->Q v { s with heap:=h',toks:=tk }) :
  wpAny 'g' A (call (.builtin "min") [.ref l]) Q E s:=by
 have hlt:l < s.heap.objs.size:=by obtain ⟨_,e,_⟩:=hl; exact aq e
 have hname:(toString "min"++toString ".loop":String) = "min.loop":=by decide
 refine call_function_tree F.kind_min F.plain_min F.entry_min (F.args_min1 _) ?_
 show wpAny _ A.in1 (Builtin.Builtins.bindParams "min" ["key", "default"] 0 ⟨[],[]⟩ >>= _) _ _ s
 refine g8 (j6 (show Builtin.Builtins.bindParams "min" ["key", "default"] 0 ⟨[],[]⟩=pure [g7,g7] from rfl) ?_)
 refine g8 (h7 ?_)
 refine g8 (iT hl ?_)
 refine g8 (ia ?_)
 rw [hname]
 have z1:(s.heap.push { cls:=.type "list_iterator",data:=.fields #[.ref l,.int 0 0] }).objs.size=s.heap.objs.size+1:=bR ..
 refine h7 ⟨ip cH _,GX ((g5 (A:=A.in1) hh s.heap.objs.size l (aB hlt) items).toS) bt _ ?_ hne (λs'=>∃ h' tk,s'={ s with heap:=h',toks:=tk }/\∀ b o,s.heap.get? b=g6 o->h'.get? b=g6 o) ?_ ?_ ?_ ?_ (ak _ rfl) ?_⟩
 ·intro z
  simp only [ae,aK,or_false] at z
  rw [z1] at z
  have hlt:@LT.lt Nat _ l s.heap.objs.size:=hlt
  rcases z with z | z
  ·have z:@Eq Nat _ _:=z
   omega
  ·have z:@Eq Nat _ _:=z
   omega
 ·rintro _ s2 ⟨h1,t1,rfl,k1⟩ hm
  obtain ⟨h',g',d',tk',os'⟩:=s2
  have eg:g'=s.gens:=hm.gens
  have ed:d'=s.drawn:=hm.drawn
  have eo:os'=s.os:=hm.os
  subst eg ed eo
  refine ⟨h',tk',rfl,λb o e=>hm.heap b o (λz=>?_) (k1 b o e)⟩
  have hb:@LT.lt Nat _ b s.heap.objs.size:=aq e
  simp only [ae,aK,or_false] at z
  rw [z1] at z
  rcases z with z | z
  ·have z:@Eq Nat _ _:=z
   omega
  ·have z:@Eq Nat _ _:=z
   omega
 ·rintro i j vi vj _ Q' E' ⟨h1,t1,rfl,k1⟩ p1 p2 q
  exact hcmp i j vi vj h1 t1 Q' E' k1 p1 p2 q
 ·refine ⟨?_,?_⟩
  ·exact ⟨_,ac _ (ak _ rfl),rfl,rfl⟩
  ·exact (hl.push _).push _
 ·exact ⟨_,_,rfl,λb o e=>ac _ (ac _ e)⟩
 ·rintro v s2 p1 hm
  obtain ⟨h',g',d',tk',os'⟩:=s2
  have eg:g'=s.gens:=hm.gens
  have ed:d'=s.drawn:=hm.drawn
  have eo:os'=s.os:=hm.os
  subst eg ed eo
  refine h v h' tk' p1 λb o e=>hm.heap b o (λz=>?_) (ac _ (ac _ e))
  have hb:@LT.lt Nat _ b s.heap.objs.size:=aq e
  simp only [ae,aK,or_false] at z
  rw [z1] at z
  rcases z with z | z
  ·have z:@Eq Nat _ _:=z
   omega
  ·have z:@Eq Nat _ _:=z
   omega
end
noncomputable def ltZ:List Int->List Int->Bool
 | x::xs,y::ys=>if x=y then ltZ xs ys else decide (x < y)
 | [],_::_=>hZ
 | _,[]=>hJ
theorem Wh (k:Nat):∀ a b:List Int,qcf (eqN k) (ltN k) (a.map D.int) (b.map D.int)=g6 (ltZ a b)
 | [],[]=>rfl
 | [],_::_=>rfl
 | _::_,[]=>rfl
 | x::a,y::b=>by
  have ih:=Wh k a b
  have e:eqN k (.int x) (.int y)=g6 (decide (x=y)):=by
   cases k <;> (by_cases q:x=y <;> simp [eqN,eqS,q])
  have e2:ltN k (.int x) (.int y)=g6 (decide (x < y)):=by
   cases k <;> simp [ltN]
  simp only [aD,qcf,ih,e,e2,ltZ]
  by_cases q:x=y <;> simp [q]
noncomputable def Ja:List D->Option (List (List Int))
 | []=>g6 []
 | .tup ds::l=>(gZ ds).bind λt=>(Ja l).map (t::·)
 | _::_=>g7
theorem YN:∀ {ds:List D} {l:List Int},gZ ds=g6 l->ds=l.map D.int
 | [],l,h=>by cases h; rfl
 | d::ds,l,h=>by
  cases d with
  | int x=>
   have h:(gZ ds).map (x::·)=g6 l:=h
   cases q:gZ ds with
   | none=>rw [q] at h; cases h
   | some m=>
    rw [q] at h
    cases h
    rw [YN q]
    rfl
  | _=>cases h
theorem YO:∀ {ds:List D} {T:List (List Int)},Ja ds=g6 T->ds=T.map λt=>.tup (t.map D.int)
 | [],T,h=>by cases h; rfl
 | d::ds,T,h=>by
  cases d with
  | tup es=>
   have h:((gZ es).bind λt=>(Ja ds).map (t::·))=g6 T:=h
   cases q:gZ es with
   | none=>rw [q] at h; cases h
   | some t=>
    cases q2:Ja ds with
    | none=>rw [q,q2] at h; cases h
    | some U=>
     rw [q,q2] at h
     cases h
     rw [YO q2,YN q]
     rfl
  | _=>cases h
noncomputable def Uq (t:List Int) (ts:List (List Int)):List Int:=ts.foldl (λb t=>if ltZ t b then t else b) t
noncomputable def qcj:D->Out D
 | .lst ds=>(match Ja ds with
  | some (t::ts)=>.ok (.tup ((Uq t ts).map D.int))
  | _=>.bad)
 | _=>.bad
noncomputable def btZ (T:List (List Int)) (i j:Nat):Bool:=ltZ (T.getD i []) (T.getD j [])
theorem GY (t:List Int) (ts:List (List Int)):∀ k,k<=ts.length->(t::ts).getD (argBest (btZ (t::ts)) k) []=Uq t (ts.take k)
 | 0,_=>rfl
 | k+1,h=>by
  have ih:=GY t ts k 'a'
  have hk:k < ts.length:=by omega
  have e:ts.take (k+1)=ts.take k++[ts[k]]:=by rw [List.take_add_one,ah hk]; rfl
  have e2:(t::ts).getD (k+1) []=ts[k]:=by rw [List.getD_eq_getElem?_getD,c9,ah hk]; rfl
  rw [e]
  unfold Uq at ih ⊢
  rw [fh,<-ih]
  show (t::ts).getD (if btZ (t::ts) (k+1) (argBest (btZ (t::ts)) k) then k+1 else argBest (btZ (t::ts)) k) []=if ltZ ts[k] ((t::ts).getD (argBest (btZ (t::ts)) k) []) then ts[k] else (t::ts).getD (argBest (btZ (t::ts)) k) []
  rw [show btZ (t::ts) (k+1) (argBest (btZ (t::ts)) k)=ltZ ts[k] ((t::ts).getD (argBest (btZ (t::ts)) k) []) by unfold btZ; rw [e2]]
  by_cases q:ltZ ts[k] ((t::ts).getD (argBest (btZ (t::ts)) k) [])=hZ
  ·rw [if_pos q,if_pos q,e2]
  ·rw [if_neg q,if_neg q]
theorem qeM {X:Cx} {C:Ct} (hK:C.K=X.K) (hc:X.calm=hZ) (hu:X.A.units+64 < cLine):QW X C .sh (.builtin "min") qcj:=by
 intro pins s σ H xs us Q I r h
 obtain ⟨x,F,dx,rfl,sb,tx,po⟩:=h
 cases dx with
 | lst ds=>
  obtain ⟨u,rfl,ru⟩:=uw r
  obtain ⟨a,vs,rfl,hq,il⟩:=tx.lst sb
  cases ru
  rw [hK] at hq il
  obtain ⟨its,rv,pl0,hz⟩:=I.list hq
  have pl:s.heap.IsList a its.toArray:=by
   obtain ⟨o,n,ho,hc1,_,hdt⟩:=pl0
   exact ⟨o,ho,hc1,n,hdt⟩
  have po:PoV C .sh F H (match Ja ds with | some (t::ts)=>.ok (.tup ((Uq t ts).map D.int)) | _=>.bad) Q:=po
  match e:Ja ds with
  | none=>rw [e] at po; exact po.elim
  | some []=>rw [e] at po; exact po.elim
  | some (t::ts)=>
   rw [e] at po
   have hds:=YO e
   have hn:its.length=ts.length+1:=by rw [<-rv.length,il.length,hds]; simp
   have hat:∀ i v,its[i]?=g6 v->∃ x,vs[i]?=g6 x/\RelV x v/\Is X.K F x (.tup (((t::ts).getD i []).map D.int)):=λi v hv=>by
    have hi:i < its.length:=(aC.mp hv).1
    obtain ⟨x,ex,rx⟩:=Vals.getE rv hi
    obtain ⟨d,ed,idd⟩:=il.get ex
    rw [ah hi] at hv
    cases hv
    refine ⟨x,ex,rx,?_⟩
    rw [hds,aG] at ed
    have hi2:i < (t::ts).length:=by rw [ap]; omega
    rw [ah hi2] at ed
    cases ed
    rw [List.getD_eq_getElem?_getD,ah hi2]
    exact idd
   refine qci (bt:=btZ (t::ts)) (I.ok.hd hc) pl (by rw [au,hn]; omega) (λi j vi vj h' tk Q' E' kp ei ej q=>?_) λv h' tk ev kp=>?_
   ·obtain ⟨x1,_,r1,i1⟩:=hat i vi (by simpa using ei)
    obtain ⟨x2,_,r2,i2⟩:=hat j vj (by simpa using ej)
    have I1:Inv X pins σ H { s with heap:=h',toks:=tk }:=I.kept kp
    exact qgJ I1 sb 7 (by show X.A.units+1+7 < cLine; omega) i1 i2 r1 r2 (Wh 6 _ _) _ _ _ _ q
   ·have I1:Inv X pins σ H { s with heap:=h',toks:=tk }:=I.kept kp
    obtain ⟨x1,_,r1,i1⟩:=hat _ v (by simpa using ev)
    rw [hn,Nat.add_sub_cancel,GY t ts _ (ax _),cI] at i1
    exact ⟨x1,H,I1,r1,po _ F H sb .refl (by rw [hK]; exact i1)⟩
 | _=>exact po.elim
end L2.D2
namespace L2.D2
open PySem PySem.Spec PyProof.Rows
open AutoSeq1 (wpAny_loadPart')
theorem GZ (l:Addr) (items:Array g9) (n:Nat) (dct:Option Addr) (sl:Array (Option g9)) :
  Meets (Builtin.«enumerate.__new__» ⟨[.type "enumerate",.ref l],[]⟩) (λ_ R s=>s.heap.get? l=g6 { cls:=.type "tuple",dict:=dct,data:=.seq items n,slots:=sl } /\
   R (.ok (.ret (.ref (s.heap.push { cls:=.type "tuple_iterator",data:=.fields #[.ref l,.int 0 0] }).objs.size)))
    { s with heap:=(s.heap.push { cls:=.type "tuple_iterator",data:=.fields #[.ref l,.int 0 0] }).push { cls:=.type "enumerate",data:=.fields #[.none,.bool hJ,.ref s.heap.objs.size,rawInt 0,.none,.none] } }):=
 .of_wp λprog w A R s h=>by
  obtain ⟨hp,g,d,tk,os⟩:=s; obtain ⟨hl,h⟩:=h
  have hsub:=sub_enumerate
  have hL:Heap.IsTuple (Shared.heap ⟨hp,g,d,tk,os⟩) l items:=⟨_,hl,rfl,n,rfl⟩
  wp_walk using iS hl
  refine wpAny_stack_any λst=>h7 ?_
  split
  ·rename_i c _ _ _ _ _
   cases (c == fR "enumerate")
   ·wp_walk using iS hl,iG hL
    exact ⟨_,rfl,h⟩
   ·wp_walk using iS hl,iG hL
    exact ⟨_,rfl,h⟩
  ·wp_walk using iS hl,iG hL
   exact ⟨_,rfl,h⟩
theorem yE {prog:h8} {w:ib} {A:ii} {E:g9->hV->Prop} {s:hV} {l:Addr} {items:Array g9} {Q:g9->hV->Prop} (hL:s.heap.IsTuple l items)
  (h:∀ h',IsEnum h' (s.heap.objs.size+1) s.heap.objs.size 0 .none->h'.IsTupleIter s.heap.objs.size l 0->h'.objs.size=s.heap.objs.size+2 ->
   (∀ b o,s.heap.get? b=g6 o->h'.get? b=g6 o)->Q (.ref (s.heap.objs.size+1)) { s with heap:=h' }) :
  wpAny 'g' A (call (.type "enumerate") [.ref l]) Q E s:=by
 obtain ⟨⟨c,dct,dt,sl⟩,hl,hc,n,hd⟩:=hL
 replace hc:c=.type "tuple":=hc
 replace hd:dt=.seq items n:=hd
 subst hc hd
 refine callType_new F.called_enumerate 'c' (F.typeCall_enumerate_1 _) (F.newCall_enumerate_1 _) (λobj=>F.args_object_init_2 obj _) F.entry_enumerate_new (GZ l items n dct sl) ⟨hl,?_⟩
 have hz:(s.heap.push { cls:=.type "tuple_iterator",data:=.fields #[.ref l,.int 0 0] }).objs.size=s.heap.objs.size+1:=bR ..
 show _/\_
 rw [hz]
 have he:IsEnum ((s.heap.push { cls:=.type "tuple_iterator",data:=.fields #[.ref l,.int 0 0] }).push { cls:=.type "enumerate",data:=.fields #[.none,.bool hJ,.ref s.heap.objs.size,rawInt 0,.none,.none] }) (s.heap.objs.size+1) s.heap.objs.size 0 .none:=by
  have:=ak (s.heap.push { cls:=.type "tuple_iterator",data:=.fields #[.ref l,.int 0 0] }) (o:={ cls:=.type "enumerate",data:=.fields #[.none,.bool hJ,.ref s.heap.objs.size,rawInt 0,.none,.none] }) rfl
  rw [hz] at this; exact this
 exact ⟨⟨_,he,rfl⟩,h _ he ⟨_,ac _ (ak _ rfl),rfl,rfl⟩ (by rw [bR,hz]) λb o x=>ac _ (ac _ x)⟩
noncomputable def qhI (K:Frag) (a:Addr) (xs:List V):It:=
 ⟨λi H=>i < xs.length/\SqT K H a xs,λi H v H'=>∃ x p,xs[i]?=g6 x/\H p=g7/\v=.ref p/\H'=upd H p (.tup [.int (i:Nat),x]),λi H=>xs.length<=i/\SqT K H a xs⟩
theorem Zf {P:h8} {w:ib} {K:Frag} {elts:List Expr} {x1} {pos:Pos} (b a:Nat) (xs:List V) (h1:a < b) :
  Turn P w K (.Tuple elts x1 pos) (qhI K a xs) [b+1,b] (b+1) (λi h=>(∃ old,IsEnum h (b+1) b i old)/\h.IsTupleIter b a i/\i<=xs.length) where
 mem:=by simp
 obj:=λi h st c hc=>by
  obtain ⟨⟨old,he⟩,⟨o,ho,hcl,hd⟩,hle⟩:=st
  simp only [ae,aK,or_false] at hc
  rcases hc with rfl | rfl
  ·exact ⟨_,he,λv z=>by cases z⟩
  ·exact ⟨o,ho,λv z=>by rw [hd] at z; cases z⟩
 keep:=λi h h' st k=>by
  obtain ⟨⟨old,he⟩,⟨o,ho,hcl,hd⟩,hle⟩:=st
  exact ⟨⟨old,k _ 'h' _ he⟩,⟨o,k _ 'h' _ ho,hcl,hd⟩,hle⟩
 item:=by
  intro X hP hw hK hc i pins s σ H E I hf st hg
  subst hP hw hK
  obtain ⟨⟨old,he⟩,hit,hle⟩:=st
  obtain ⟨hl,q⟩:=hg
  obtain ⟨its,r,pl,_⟩:=I.tuple q
  have hi:i < its.length:=by rw [<-r.length]; exact hl
  have hx:its.toArray[i]?=g6 its[i]:=by simp [hi]
  have hne:a≠b:=aB h1
  refine wpAny_pyNext_enum_itemD (gQ (A:=X.A.in1) (I.ok.hd hc) b a hne its.toArray) he ⟨hit,pl⟩ (by simpa using hi) (eF b) (by
   intro z
   simp only [ae,aK,or_false] at z
   have h1:@LT.lt Nat _ a b:=h1
   rcases z with z | z
   ·have z:@Eq Nat _ _:=z
    omega
   ·have z:@Eq Nat _ _:=z
    omega) λx1 h' tk hx1 eo it' tp hz kp=>?_
  have ex1:x1=its[i]:=by
   have hx1:its.toArray[i]?=g6 x1:=hx1
   rw [hx] at hx1
   exact (aU.inj hx1).symm
  subst ex1
  refine ⟨_,rfl,wpAny_letOwnedTupleGo_enum eo λhq e2 sb2=>?_⟩
  obtain ⟨x,ex,rx⟩:=Wc r (ah hi)
  have hT:H s.heap.objs.size=none:=I.hok.fresh (ax _)
  have lt1:b+1 < s.heap.objs.size:=aq he
  have fT:∀ c∈[b+1,b],c≠s.heap.objs.size:=λc hc=>by
   simp only [ae,aK,or_false] at hc
   have lt':b+1 < s.heap.objs.size:=lt1
   generalize s.heap.objs.size=m at lt'
   intro z
   omega
  have I1:Inv X pins σ (upd H s.heap.objs.size (.tup [.int (i:Nat),x])) { s with heap:=s.heap.push { cls:=.type "tuple",data:=.seq #[.int i tk,its[i]] } }:=
   I.laid (t':=s.toks) (λ_ _ e=>ac _ e) (ax _) ⟨⟨by simp only [ap,bc]; rw [ij]; decide,_,ak _ rfl,rfl⟩,[.int i tk,its[i]],.cons ⟨_,rfl⟩ (.cons rx .nil),⟨_,ak _ rfl,rfl,_,rfl⟩⟩
  have I2:Inv X pins σ (upd H s.heap.objs.size (.tup [.int (i:Nat),x])) { s with heap:=hq,toks:=tk+1 }:=by
   refine Kc (s:={ s with heap:=s.heap.push { cls:=.type "tuple",data:=.seq #[.int i tk,its[i]] } }) (ch:=[b+1,b]) I1 (λc o nc e=>?_) λc hc=>⟨by rw [qC (fT c hc)]; exact (hf c hc).1,(hf c hc).2⟩
   simp only [ae,aK,or_false,not_or] at nc
   rw [sb2.2 c nc.1]
   by_cases ec:c=s.heap.objs.size
   ·subst ec
    have e3:(s.heap.push ({ cls:=.type "tuple",data:=.seq #[.int i tk,its[i]] }:Obj)).get? s.heap.objs.size=g6 { cls:=.type "tuple",data:=.seq #[.int i tk,its[i]] }:=ak _ rfl
    rw [show (s.heap.push ({ cls:=.type "tuple",data:=.seq #[.int i tk,its[i]] }:Obj)).get? s.heap.objs.size=g6 o from e] at e3
    rw [e3]
    exact tp
   ·have e4:s.heap.get? c=g6 o:=by
     have:=e
     rwa [show (s.heap.push ({ cls:=.type "tuple",data:=.seq #[.int i tk,its[i]] }:Obj)).get? c=s.heap.get? c from Heap.get?_push_ne _ _ _ ec] at this
    exact kp c o nc.1 nc.2 e4
  refine ⟨.ref s.heap.objs.size,_,I2,rfl,⟨x,_,ex,hT,rfl,rfl⟩,⟨⟨_,by simpa using e2⟩,?_,hl⟩,λc hc=>by rw [qC (fT c hc)]; exact (hf c hc).1⟩
  obtain ⟨o,ho,hcl,hd⟩:=it'.1
  exact ⟨o,(sb2.2 _ (eF b).symm).trans ho,hcl,hd⟩
 done:=by
  intro X hP hw hK hc i pins s σ H E I hf st hg
  subst hP hw hK
  obtain ⟨⟨old,he⟩,hit,hle⟩:=st
  obtain ⟨hl,q⟩:=hg
  obtain ⟨its,r,pl,_⟩:=I.tuple q
  have hin:i=its.toArray.size:=by
   rw [au,<-r.length]
   exact fH hle hl
  subst hin
  refine wpAny_pyNext_enum_endD (gQ (A:=X.A.in1) (I.ok.hd hc) b a (aB h1) its.toArray) he ⟨hit,pl⟩ λh' ex=>⟨rfl,Kc (t':=s.toks) (ch:=[b+1,b]) I (λc o nc e=>?_) hf⟩
  simp only [ae,aK,or_false,not_or] at nc
  exact ex c o nc.2 e
 self:=λ_ _ _ _ _ st h=>i5 st.1.choose_spec h
noncomputable def qaa (f:Sl->Out (D×Sl)):Sl->Out (List D×Sl):=λρ=>(f ρ).bind λp=>match p.1 with
 | .tup xs=>.ok (xa xs,p.2)
 | _=>.bad
theorem qeN {K:Frag} {F:Hp} {a:Addr} {xs:List V} {ds:List D} (p:SqT K F a xs) (t:IsL K F xs ds):ItIs K F (qhI K a xs) (xa ds) where
 go:=λi H hi s=>by
  unfold xa at hi
  rw [aA,dR] at hi
  exact ⟨by rw [t.length]; exact hi,qN s p⟩
 yld:=λi Fi H v H' d e s1 s2 y=>by
  obtain ⟨x,q,hx,hn,rfl,rfl⟩:=y
  obtain ⟨d1,e1,i1⟩:=t.get hx
  have ed:d=.tup [.int (i:Nat),d1]:=by
   unfold xa at e
   rw [aG,List.getElem?_zipIdx,e1] at e
   simpa using e.symm
  subst ed
  obtain ⟨g1,g2⟩:=uB (u:=.tup [.int (i:Nat),x]) s2 hn
  exact ⟨_,g2,g1,.tup (.of qp) (.cons (.int _) (.cons ((i1.mono s1).mono g2.grow) .nil))⟩
 stop:=λi H hi s=>by
  unfold xa at hi
  rw [aA,dR] at hi
  exact ⟨by rw [t.length]; exact hi,qN s p⟩
section
variable {X:Cx} {C:Ct} {own:List Nat} {a:Expr} {fa:Sl->Out (D×Sl)} {ma:Mo} {pos:Pos}
theorem qck {ta:TA} {p tpos:Pos} {elts:List Expr} {x1} (hg:Gl X "enumerate") (hm:X.mg "enumerate"=g7) (ha:PA X [a] ta) (hs:starEach [a] X.env=[(hJ,eval a X.env)]) :
  PI X (.Tuple elts x1 tpos) (.Call (.Name "enumerate" p) [a] [] pos) (λσ H R=>ta σ H λvs H1=>∃ a1 xs,vs=[.ref a1]/\SqT X.K H1 a1 xs/\R (qhI X.K a1 xs) H1):=by
 refine ⟨?_⟩
 intro pins s σ H R I h
 refine Call_ (xj I hg hm Wg (bn (thn (ha pos pins s σ H _ I h) λus s1 ⟨vs,H1,I1,r1,q1⟩=>?_) hs rfl))
 obtain ⟨a1,xs,rfl,w1,q⟩:=q1
 obtain ⟨u1,rfl,e1⟩:=uw r1
 cases e1
 obtain ⟨its,v1,pl,_⟩:=I1.tuple w1
 have hlt:a1 < s1.heap.objs.size:=pl.lt
 refine yE pl λh' he hit hz kp=>?_
 refine i5 he ?_
 refine ⟨s1.heap.objs.size+1,_,_,qhI X.K a1 xs,H1,rfl,I1.kept (t':=s1.toks) kp,Zf s1.heap.objs.size a1 xs hlt,⟨⟨_,he⟩,hit,bp _⟩,λb hb=>?_,q⟩
 have hle:s1.heap.objs.size<=b:=by
  simp only [ae,aK,or_false] at hb
  rcases hb with rfl | rfl
  ·exact Nat.le_add_right _ _
  ·exact ax _
 exact I1.fpOk hle (I1.hok.fresh hle)
theorem qab {p tpos:Pos} {elts:List Expr} {x1} (hK:C.K=X.K) (hg:Gl X "enumerate") (hm:X.mg "enumerate"=g7) (ha:PE X a (tE C own ma fa)) (h1:ma≠.any:=by decide) (hs:starEach [a] X.env=[(hJ,eval a X.env)]:=by exact ja rfl) :
  PI X (.Tuple elts x1 tpos) (.Call (.Name "enumerate" p) [a] [] pos) (tIt C own (qaa fa)):=by
 refine Gg (qck hg hm (jk (yT ha h1) ke hs) hs) λσ H R ⟨F,ρ,rp,h⟩=>⟨F,ρ,rp,PoI.bindV h λv F1 H1 d ρ1 rp1 c1 mo1 h1=>?_⟩
 have mo1:Is C.K F1 v d:=mo1
 cases mo1 with
 | tup p t=>exact ⟨_,_,rfl,by rw [<-hK]; exact qN rp1.sub p,by rw [<-hK]; exact h1 _ F1 H1 rp1 c1 (qeN p t)⟩
 | _=>exact h1.elim
end
end L2.D2
namespace L2.D2
open PySem PySem.Spec PyProof.Rows
end L2.D2
namespace L2.D2
open PySem PySem.Spec PyProof.Rows PySem.W
theorem xH:∀ l:List Int,gZ (l.map D.int)=g6 l
 | []=>rfl
 | x::l=>by
  show (gZ (l.map D.int)).map (x::·)=g6 (x::l)
  rw [xH l]
  rfl
end L2.D2
namespace L2.D2
open PySem PySem.Spec PyProof.Rows
theorem fsc {N P:List Str} {sc:i7} (a:sc.kind=.function:=by rfl) (b:sc.isCoroutine=false:=by rfl) (c:sc.isGenerator=false:=by rfl) (d:N.Nodup:=by decide +kernel) (e:N.take P.length=P:=by rfl) (f:∀ x∈P,sc.names.lookup x=g6 .local\/sc.names.lookup x=g6 .cell:=by decide +kernel) (g:∀ y∈sc.names,y.2≠.free:=by decide +kernel):FnScope N P sc:=⟨a,b,c,d,e,f,g⟩
end L2.D2
set_option maxHeartbeats 4000000
namespace Kx
open PySem PySem.Spec PyProof.Rows L2 L2.D2
noncomputable def top (i:Nat):Stmt:=PySem.Challenge.pw_lookwords_k16_whole_near_ones.main.body.getD i (.Pass ⟨0,0,0,0⟩)
noncomputable def CS:List Str:=["NoWords", "NoLook", "NoNumbers", "NoRoom", "NoWorths", "Never"]
noncomputable def FS:List Str:=[]
structure Zt (K:Frag) (mg:Str->Option g9) (cv:Str->g9) (ca:Str->Addr):Prop where
 xs:Xs K cv ca CS "WordError"
 mref:∀ c∈CS,mg c=g6 (.ref (ca c))
 xin:∀ c∈CS,dL K (ca c) bmV "ValueError.__new__"=hZ
 fref:∀ x∈FS,mg x=g6 (.ref (ca x))
 z_all:mg "all"=g7
 z_bool:mg "bool"=g7
 z_dict:mg "dict"=g7
 z_enumerate:mg "enumerate"=g7
 z_int:mg "int"=g7
 z_isinstance:mg "isinstance"=g7
 z_len:mg "len"=g7
 z_list:mg "list"=g7
 z_max:mg "max"=g7
 z_min:mg "min"=g7
 z_range:mg "range"=g7
 z_reversed:mg "reversed"=g7
 z_set:mg "set"=g7
 z_sorted:mg "sorted"=g7
 z_str:mg "str"=g7
 z_tuple:mg "tuple"=g7
 c_LEAST_PLACE:∃ t,mg "LEAST_PLACE"=g6 (.int (-3) t)
 c_MOST_LETTERS:∃ t,mg "MOST_LETTERS"=g6 (.int 6 t)
 c_MOST_PLACE:∃ t,mg "MOST_PLACE"=g6 (.int 2 t)
 c_MOST_ROOM:∃ t,mg "MOST_ROOM"=g6 (.int 99 t)
 c_MOST_WORDS:∃ t,mg "MOST_WORDS"=g6 (.int 6 t)
 s_NoWorths:bS K (.ref (ca "NoWorths")) (.ref (ca "NoWorths"))=g6 hZ
theorem Ju:bootBuiltins "all"=g6 (.builtin "all"):=by decide +kernel
theorem qeO:bootBuiltins "bool"=g6 (.type "bool"):=by decide +kernel
theorem Ur:bootBuiltins "dict"=g6 (.type "dict"):=by decide +kernel
theorem qgK:bootBuiltins "int"=g6 (.type "int"):=by decide +kernel
theorem jl:bootBuiltins "isinstance"=g6 (.builtin "isinstance"):=by decide +kernel
theorem jo:bootBuiltins "len"=g6 (.builtin "len"):=by decide +kernel
theorem Qd:bootBuiltins "list"=g6 (.type "list"):=by decide +kernel
theorem qgL:bootBuiltins "max"=g6 (.builtin "max"):=by decide +kernel
theorem qdd:bootBuiltins "min"=g6 (.builtin "min"):=by decide +kernel
theorem qcl:bootBuiltins "range"=g6 (.type "range"):=by decide +kernel
theorem Us:bootBuiltins "reversed"=g6 (.type "reversed"):=by decide +kernel
theorem YQ:bootBuiltins "set"=g6 (.type "set"):=by decide +kernel
theorem uJ:bootBuiltins "sorted"=g6 (.builtin "sorted"):=by decide +kernel
theorem qde:bootBuiltins "str"=g6 (.type "str"):=by decide +kernel
theorem ku:bootBuiltins "tuple"=g6 (.type "tuple"):=by decide +kernel
instance {α:Type}:Inhabited (Out α):=⟨.bad⟩
section
variable {P:h8} {w:ib} {K:Frag} {mg:Str->Option g9} {base:Heap} {cv:Str->g9} {ca:Str->Addr}
abbrev wS:Stmt:=top 15
abbrev Qe:List Str:=["thing"]
theorem Wi:FnScope Qe ["thing"] (qe wS):=fsc
noncomputable def vE:Sl->Out (Fl×Sl):=(jR (Vz (d1 (ge "str") (qd 0)) (Vz (d2 eqD (d1 jy (qd 0)) (dC (.int 1))) (xu leD leD (dC (.str "a")) (qd 0) (dC (.str "z"))))))
noncomputable abbrev vF:List D->Out 'i':=ko Qe [.val] (vE)
abbrev uK P w K mg base cv:=DefOk P w K mg base cv 1 "is_letter" ["thing"] [.val] .sh (vF)
theorem Wj (Z:Zt K mg cv ca) (T:jb K mg "is_letter" wS ["thing"]):uK P w K mg base cv:=
 qE (k:=0) (own':=[]) (fb:=vE) T Wi λcdv f A outer s H E hr=>(qm (qo (VA (xD rfl rfl Z.z_isinstance jl rfl Z.z_str qde (vr 0)) (VA (uq (uA rfl hr.units) 'n' qr) (Yt (Yv VC VC yH (vr 0) yH))))))
abbrev wH:Stmt:=top 16
abbrev Qf:List Str:=["thing"]
theorem Zg:FnScope Qf ["thing"] (qe wH):=fsc
noncomputable def Qg:Sl->Out (Fl×Sl):=(qW (sIf (dOr (QV (xq (d1 (ge "str") (qd 0)))) (QV (qV (xu leD leD (dC (.int 1)) (d1 jy (qd 0)) (dC (.int 6)))))) (jR (dC (.bl hJ))) jV)
  (jR (d1 Gr (jg [] 1 [] (jY (qd 0)) (gNm 0) ftT (qt [.vl] vF (qc (qd 0) qD))))))
noncomputable abbrev xI:List D->Out 'i':=ko Qf [.val] (Qg)
abbrev Jv P w K mg base cv:=DefOk P w K mg base cv 2 "is_word" ["thing"] [.val] .sh (xI)
theorem Zh (Z:Zt K mg cv ca) (T:jb K mg "is_word" wH ["thing"]) (ok_is_letter:uK P w K mg base cv):Jv P w K mg base cv:=
 qE (k:=1) (own':=[]) (fb:=Qg) T Zg λcdv f A outer s H E hr=>(qg (jG (PW.pt (yI (jP (jv rfl (xD rfl rfl Z.z_isinstance jl rfl Z.z_str qde (vr 0)) (λ_=>rfl))) (va (jP (VB VC VC qr 'n' (xC Z.c_MOST_LETTERS rfl)))))) (qm (qo zS)) qY)
  (qm (qo (qB (Jq rfl rfl) rfl Z.z_all Ju (jw (N:=["sign"]) (nt:=1) (cap:=[]) rfl (kb (names:=(qe wH).names) rfl 'b') (jt (names:=(qe wH).names) (N:=Qf) rfl rfl 'b') (qS rfl (vr 0)) (λfp L s1 H1=>(qu (i:=0) (show aJ (["sign"]:List Str) from by decide +kernel) rfl 'e')) (λfp L s1 H1=>qU) (λfp L s1 H1=>(ql ok_is_letter hr 'c' yD rfl (qb (vr 0) qf))))))))
abbrev vw:Stmt:=top 17
abbrev zk:List Str:=["thing"]
theorem Ut:FnScope zk ["thing"] (qe vw):=fsc
noncomputable def zl:Sl->Out (Fl×Sl):=(qW (sIf (dOr (QV (xq (d1 (ge "tuple") (qd 0)))) (QV (qV (xu leD leD (dC (.int 1)) (d1 jy (qd 0)) (dC (.int 6)))))) (jR (dC (.bl hJ))) jV)
  (jR (Vz (d1 Gr (jg [] 1 [] (jY (qd 0)) (gNm 0) ftT (qt [.vl] xI (qc (qd 0) qD)))) (d2 eqD (d1 Kg (qd 0)) (d1 jy (qd 0))))))
noncomputable abbrev zm:List D->Out 'i':=ko zk [.val] (zl)
abbrev Qh P w K mg base cv:=DefOk P w K mg base cv 3 "is_words" ["thing"] [.val] .sh (zm)
theorem Uu (Z:Zt K mg cv ca) (T:jb K mg "is_words" vw ["thing"]) (ok_is_word:Jv P w K mg base cv):Qh P w K mg base cv:=
 qE (k:=2) (own':=[]) (fb:=zl) T Ut λcdv f A outer s H E hr=>(qg (jG (PW.pt (yI (jP (jv rfl (xD rfl rfl Z.z_isinstance jl rfl Z.z_tuple ku (vr 0)) (λ_=>rfl))) (va (jP (VB VC VC qr 'n' (xC Z.c_MOST_WORDS rfl)))))) (qm (qo zS)) qY)
  (qm (qo (VA (qB (Jq rfl rfl) rfl Z.z_all Ju (jw (N:=["part"]) (nt:=1) (cap:=[]) rfl (kb (names:=(qe vw).names) rfl 'b') (jt (names:=(qe vw).names) (N:=zk) rfl rfl 'b') (qS rfl (vr 0)) (λfp L s1 H1=>(qu (i:=0) (show aJ (["part"]:List Str) from by decide +kernel) rfl 'e')) (λfp L s1 H1=>qU) (λfp L s1 H1=>(ql ok_is_word hr 'c' yD rfl (qb (vr 0) qf))))) (Yt (uq (uA rfl hr.units) (GI rfl rfl rfl Z.z_len jo rfl Z.z_set YQ (vr 0)) 'n'))))))
abbrev vm:Stmt:=top 22
abbrev xJ:List Str:=["thing"]
theorem Jb:FnScope xJ ["thing"] (qe vm):=fsc
noncomputable def wT:Sl->Out (Fl×Sl):=(sIf (QV (xq (qt [.vl] zm (qc (qd 0) qD)))) (vB "NoWords" (qc (dC (.str "words are a tuple of 1 to 6 unlike words of 1 to 6 letters from a to z")) qD)) jV)
noncomputable abbrev wU:List D->Out 'i':=ko xJ [.val] (wT)
abbrev yM P w K mg base cv:=DefOk P w K mg base cv 4 "check_words" ["thing"] [.val] .sh (wU)
theorem Jc (Z:Zt K mg cv ca) (T:jb K mg "check_words" vm ["thing"]) (ok_is_words:Qh P w K mg base cv):yM P w K mg base cv:=
 qE (k:=3) (own':=[]) (fb:=wT) T Jb λcdv f A outer s H E hr=>(qm (jG (jP (jv rfl (ql ok_is_words hr 'c' qH rfl (qb (vr 0) qf)) (λ_=>rfl))) (qm (vC rfl (gM rfl) rfl rfl (Z.mref "NoWords" 'b') (Z.xs.val "NoWords" 'b') (Z.xin "NoWords" 'b') (qb yH qf))) qY))
abbrev vW:Stmt:=top 14
abbrev zI:List Str:=["thing", "least", "most"]
theorem Kl:FnScope zI ["thing", "least", "most"] (qe vW):=fsc
noncomputable def vX:Sl->Out (Fl×Sl):=(qW (sIf (dOr (QV (xq (d1 (ge "int") (qd 0)))) (xq (d1 (ge "bool") (qd 0)))) (jR (dC (.bl hJ))) jV)
  (jR (xu leD leD (qd 1) (qd 0) (qd 2))))
noncomputable abbrev jJ:List D->Out 'i':=ko zI [.val,.val,.val] (vX)
abbrev kw P w K mg base cv:=DefOk P w K mg base cv 1 "is_between" ["thing", "least", "most"] [.val,.val,.val] .sh (jJ)
theorem Km (Z:Zt K mg cv ca) (T:jb K mg "is_between" vW ["thing", "least", "most"]):kw P w K mg base cv:=
 qE (k:=0) (own':=[]) (fb:=vX) T Kl λcdv f A outer s H E hr=>(qg (jG (PW.pt (yI (jP (jv rfl (xD rfl rfl Z.z_isinstance jl rfl Z.z_int qgK (vr 0)) (λ_=>rfl))) (va (jv rfl (xD rfl rfl Z.z_isinstance jl rfl Z.z_bool qeO (vr 0)) (λ_=>rfl))))) (qm (qo zS)) qY)
  (qm (qo (Yv VC VC (vr 1) (vr 0) (vr 2)))))
abbrev wI:Stmt:=top 18
abbrev Qi:List Str:=["thing"]
theorem Zi:FnScope Qi ["thing"] (qe wI):=fsc
noncomputable def Qj:Sl->Out (Fl×Sl):=(qW (sIf (dOr (QV (xq (d1 (ge "tuple") (qd 0)))) (qV (d2 neD (d1 jy (qd 0)) (dC (.int 2))))) (jR (dC (.bl hJ))) jV)
  (jR (d1 Gr (jg [] 1 [] (jY (qd 0)) (gNm 0) ftT (qt [.vl,.vl,.vl] jJ (qc (qd 0) (qc (dC (.int (-3))) (qc (dC (.int 2)) qD))))))))
noncomputable abbrev Qk:List D->Out 'i':=ko Qi [.val] (Qj)
abbrev Jw P w K mg base cv:=DefOk P w K mg base cv 2 "is_look" ["thing"] [.val] .sh (Qk)
theorem Zj (Z:Zt K mg cv ca) (T:jb K mg "is_look" wI ["thing"]) (ok_is_between:kw P w K mg base cv):Jw P w K mg base cv:=
 qE (k:=1) (own':=[]) (fb:=Qj) T Zi λcdv f A outer s H E hr=>(qg (jG (PW.pt (yI (jP (jv rfl (xD rfl rfl Z.z_isinstance jl rfl Z.z_tuple ku (vr 0)) (λ_=>rfl))) (va (qM (QU rfl hr.units) 'n' qr)))) (qm (qo zS)) qY)
  (qm (qo (qB (Jq rfl rfl) rfl Z.z_all Ju (jw (N:=["place"]) (nt:=1) (cap:=[]) rfl (kb (names:=(qe wI).names) rfl 'b') (jt (names:=(qe wI).names) (N:=Qi) rfl rfl 'b') (qS rfl (vr 0)) (λfp L s1 H1=>(qu (i:=0) (show aJ (["place"]:List Str) from by decide +kernel) rfl 'e')) (λfp L s1 H1=>qU) (λfp L s1 H1=>(ql ok_is_between hr 'c' yD rfl (qb (vr 0) (qb (xC Z.c_LEAST_PLACE rfl) (qb (xC Z.c_MOST_PLACE rfl) qf))))))))))
abbrev vY:Stmt:=top 23
abbrev zJ:List Str:=["thing"]
theorem Kn:FnScope zJ ["thing"] (qe vY):=fsc
noncomputable def uL:Sl->Out (Fl×Sl):=(sIf (QV (xq (qt [.vl] Qk (qc (qd 0) qD)))) (vB "NoLook" (qc (dC (.str "a look is a tuple of two places from -3 to 2")) qD)) jV)
noncomputable abbrev uM:List D->Out 'i':=ko zJ [.val] (uL)
abbrev xK P w K mg base cv:=DefOk P w K mg base cv 3 "check_look" ["thing"] [.val] .sh (uM)
theorem Ko (Z:Zt K mg cv ca) (T:jb K mg "check_look" vY ["thing"]) (ok_is_look:Jw P w K mg base cv):xK P w K mg base cv:=
 qE (k:=2) (own':=[]) (fb:=uL) T Kn λcdv f A outer s H E hr=>(qm (jG (jP (jv rfl (ql ok_is_look hr 'c' qH rfl (qb (vr 0) qf)) (λ_=>rfl))) (qm (vC rfl (gM rfl) rfl rfl (Z.mref "NoLook" 'b') (Z.xs.val "NoLook" 'b') (Z.xin "NoLook" 'b') (qb yH qf))) qY))
abbrev wV:Stmt:=top 28
abbrev Ql:List Str:=["word", "place", "at"]
theorem sc_letter_at:FnScope Ql ["word", "place"] (qe wV):=fsc
noncomputable def wW:Sl->Out (Fl×Sl):=(qW (jQ 2 (dIf (qV (d2 geD (qd 1) 'k')) (qd 1) (d2 kE (d1 jy (qd 0)) (qd 1))))
  (jR (d2 ixD (qd 0) (d2 qhx 'k' (d2 qhy (qd 2) (d2 Vy (d1 jy (qd 0)) (dC (.int 1))))))))
noncomputable abbrev vG:List D->Out 'i':=ko Ql [.val,.val] (wW)
abbrev zK P w K mg base cv:=DefOk P w K mg base cv 1 "letter_at" ["word", "place"] [.val,.val] .sh (vG)
theorem Wl (Z:Zt K mg cv ca) (T:jb K mg "letter_at" wV ["word", "place"]):zK P w K mg base cv:=
 qE (k:=0) (own':=[]) (fb:=wW) T sc_letter_at λcdv f A outer s H E hr=>(qg (qF (i:=2) sc_letter_at.nd rfl 'e' (WZ (qM qec (vr 1) qr) (vr 1) (jh (jX rfl) 'n' (vr 1))))
  (qm (qo (qZ rfl hr.units (vr 0) (VQ (qgt rfl) rfl Z.z_max qgL qr (VQ (qgu rfl) rfl Z.z_min qdd (vr 2) (jh gH 'n' qr))) 'f'))))
abbrev zn:Stmt:=top 29
abbrev Uv:List Str:=["words", "look"]
theorem qcm:FnScope Uv ["words", "look"] (qe zn):=fsc
noncomputable def Uw:Sl->Out (Fl×Sl):=(qW (vd (qt [.vl] wU (qc (qd 0) qD)))
  (qW (vd (qt [.vl] uM (qc (qd 1) qD)))
  (jR (jg [] 1 [1] (jY (qd 0)) (gNm 0) ftT (yJ (qc (qt [.vl,.vl] vG (qc (qd 0) (qc (d2 ixD (qd 1) 'k') qD))) (qc (qt [.vl,.vl] vG (qc (qd 0) (qc (d2 ixD (qd 1) (dC (.int 1))) qD))) qD)))))))
noncomputable abbrev zo:List D->Out 'i':=ko Uv [.val,.val] (Uw)
abbrev gh P w K mg base cv:=DefOk P w K mg base cv 5 "pairs" ["words", "look"] [.val,.val] .sh (zo)
theorem qcn (Z:Zt K mg cv ca) (T:jb K mg "pairs" zn ["words", "look"]) (ok_check_words:yM P w K mg base cv) (ok_check_look:xK P w K mg base cv) (ok_letter_at:zK P w K mg base cv):gh P w K mg base cv:=
 qE (k:=4) (own':=[]) (fb:=Uw) T qcm λcdv f A outer s H E hr=>(qg (jL (ql ok_check_words hr 'c' qH rfl (qb (vr 0) qf)))
  (qg (jL (ql ok_check_look hr 'c' qH rfl (qb (vr 1) qf)))
  (qm (qo (jw (N:=["word", "look"]) (nt:=1) (cap:=[1]) rfl (kb (names:=(qe zn).names) rfl 'b') (jt (names:=(qe zn).names) (N:=Uv) rfl rfl 'b') (qS rfl (vr 0)) (λfp L s1 H1=>(qu (i:=0) (show aJ (["word", "look"]:List Str) from by decide +kernel) rfl 'e')) (λfp L s1 H1=>qU) (λfp L s1 H1=>(vy (qb (ql ok_letter_at hr 'c' yD rfl (qb (vr 0) (qb (qZ rfl hr.units (vr 1) qr 'f') qf))) (qb (ql ok_letter_at hr 'c' yD rfl (qb (vr 0) (qb (qZ rfl hr.units (vr 1) qr 'f') qf))) qf)))))))))
abbrev vZ:Stmt:=top 24
abbrev zL:List Str:=["thing"]
theorem Kp:FnScope zL ["thing"] (qe vZ):=fsc
noncomputable def uN:Sl->Out (Fl×Sl):=(sIf (QV (xq (qt [.vl,.vl,.vl] jJ (qc (qd 0) (qc (dC (.int 1)) (qc (dC (.int 99)) qD)))))) (vB "NoRoom" (qc (dC (.str "a room is a whole number from 1 to 99")) qD)) jV)
noncomputable abbrev wa:List D->Out 'i':=ko zL [.val] (uN)
abbrev wX P w K mg base cv:=DefOk P w K mg base cv 2 "check_room" ["thing"] [.val] .sh (wa)
theorem Kq (Z:Zt K mg cv ca) (T:jb K mg "check_room" vZ ["thing"]) (ok_is_between:kw P w K mg base cv):wX P w K mg base cv:=
 qE (k:=1) (own':=[]) (fb:=uN) T Kp λcdv f A outer s H E hr=>(qm (jG (jP (jv rfl (ql ok_is_between hr 'c' qH rfl (qb (vr 0) (qb qr (qb (xC Z.c_MOST_ROOM rfl) qf)))) (λ_=>rfl))) (qm (vC rfl (gM rfl) rfl rfl (Z.mref "NoRoom" 'b') (Z.xs.val "NoRoom" 'b') (Z.xin "NoRoom" 'b') (qb yH qf))) qY))
abbrev kh:Stmt:=top 21
abbrev uO:List Str:=["thing", "count", "room"]
theorem Kr:FnScope uO ["thing", "count", "room"] (qe kh):=fsc
noncomputable def uP:Sl->Out (Fl×Sl):=(qW (sIf (dOr (QV (xq (d1 (ge "tuple") (qd 0)))) (qV (d2 neD (d1 jy (qd 0)) (qd 1)))) (jR (dC (.bl hJ))) jV)
  (jR (d1 Gr (jg [] 1 [2] (jY (qd 0)) (gNm 0) ftT (qt [.vl,.vl,.vl] jJ (qc (qd 0) (qc 'k' (qc (d2 Vy (qd 1) (dC (.int 1))) qD))))))))
noncomputable abbrev uQ:List D->Out 'i':=ko uO [.val,.val,.val] (uP)
abbrev xL P w K mg base cv:=DefOk P w K mg base cv 2 "is_numbers" ["thing", "count", "room"] [.val,.val,.val] .sh (uQ)
theorem Ks (Z:Zt K mg cv ca) (T:jb K mg "is_numbers" kh ["thing", "count", "room"]) (ok_is_between:kw P w K mg base cv):xL P w K mg base cv:=
 qE (k:=1) (own':=[]) (fb:=uP) T Kr λcdv f A outer s H E hr=>(qg (jG (PW.pt (yI (jP (jv rfl (xD rfl rfl Z.z_isinstance jl rfl Z.z_tuple ku (vr 0)) (λ_=>rfl))) (va (qM (QU rfl hr.units) 'n' (vr 1))))) (qm (qo zS)) qY)
  (qm (qo (qB (Jq rfl rfl) rfl Z.z_all Ju (jw (N:=["number", "room"]) (nt:=1) (cap:=[2]) rfl (kb (names:=(qe kh).names) rfl 'b') (jt (names:=(qe kh).names) (N:=uO) rfl rfl 'b') (qS rfl (vr 0)) (λfp L s1 H1=>(qu (i:=0) (show aJ (["number", "room"]:List Str) from by decide +kernel) rfl 'e')) (λfp L s1 H1=>qU) (λfp L s1 H1=>(ql ok_is_between hr 'c' yD rfl (qb (vr 0) (qb qr (qb (jh gH (vr 1) qr) qf))))))))))
abbrev kx:Stmt:=top 26
abbrev uR:List Str:=["thing", "count", "room"]
theorem zW:FnScope uR ["thing", "count", "room"] (qe kx):=fsc
noncomputable def vH:Sl->Out (Fl×Sl):=(sIf (QV (xq (qt [.vl,.vl,.vl] uQ (qc (qd 0) (qc (qd 1) (qc (qd 2) qD)))))) (vB "NoNumbers" (qc (dC (.str "numbers are a tuple of a number within the room for each word")) qD)) jV)
noncomputable abbrev vI:List D->Out 'i':=ko uR [.val,.val,.val] (vH)
abbrev ur P w K mg base cv:=DefOk P w K mg base cv 3 "check_numbers" ["thing", "count", "room"] [.val,.val,.val] .sh (vI)
theorem zX (Z:Zt K mg cv ca) (T:jb K mg "check_numbers" kx ["thing", "count", "room"]) (ok_is_numbers:xL P w K mg base cv):ur P w K mg base cv:=
 qE (k:=2) (own':=[]) (fb:=vH) T zW λcdv f A outer s H E hr=>(qm (jG (jP (jv rfl (ql ok_is_numbers hr 'c' qH rfl (qb (vr 0) (qb (vr 1) (qb (vr 2) qf)))) (λ_=>rfl))) (qm (vC rfl (gM rfl) rfl rfl (Z.mref "NoNumbers" 'b') (Z.xs.val "NoNumbers" 'b') (Z.xin "NoNumbers" 'b') (qb yH qf))) qY))
abbrev wb:Stmt:=top 34
abbrev zM:List Str:=["words", "look", "room", "numbers", "seen"]
theorem sc_told_pairs:FnScope zM ["words", "look", "room", "numbers"] (qe wb):=fsc
noncomputable def uS:Sl->Out (Fl×Sl):=(qW (jQ 4 (qt [.vl,.vl] zo (qc (qd 0) (qc (qd 1) qD))))
  (qW (vd (qt [.vl] wa (qc (qd 2) qD)))
  (qW (vd (qt [.vl,.vl,.vl] vI (qc (qd 3) (qc (d1 jy (qd 0)) (qc (qd 2) qD)))))
  (jR (qd 4)))))
noncomputable abbrev ki:List D->Out 'i':=ko zM [.val,.val,.val,.val] (uS)
abbrev ky P w K mg base cv:=DefOk P w K mg base cv 6 "told_pairs" ["words", "look", "room", "numbers"] [.val,.val,.val,.val] .sh (ki)
theorem Kt (Z:Zt K mg cv ca) (T:jb K mg "told_pairs" wb ["words", "look", "room", "numbers"]) (ok_check_room:wX P w K mg base cv) (ok_check_numbers:ur P w K mg base cv) (ok_pairs:gh P w K mg base cv):ky P w K mg base cv:=
 qE (k:=5) (own':=[]) (fb:=uS) T sc_told_pairs λcdv f A outer s H E hr=>(qg (qF (i:=4) sc_told_pairs.nd rfl 'e' (ql ok_pairs hr 'c' qH rfl (qb (vr 0) (qb (vr 1) qf))))
  (qg (jL (ql ok_check_room hr 'c' qH rfl (qb (vr 2) qf)))
  (qg (jL (ql ok_check_numbers hr 'c' qH rfl (qb (vr 3) (qb 'n' (qb (vr 2) qf)))))
  (qm (qo (vr 4))))))
abbrev gi:Stmt:=top 37
abbrev YR:List Str:=["walk"]
theorem qac:FnScope YR ["walk"] (qe gi):=fsc
noncomputable def gj:Sl->Out (Fl×Sl):=(jR (d2 eqD (d2 zd (d1 jy (qd 0)) (dC (.int 2))) (dC (.int 1))))
noncomputable abbrev wY:List D->Out 'i':=ko YR [.val] (gj)
abbrev xM P w K mg base cv:=DefOk P w K mg base cv 1 "is_odd" ["walk"] [.val] .sh (wY)
theorem qad (Z:Zt K mg cv ca) (T:jb K mg "is_odd" gi ["walk"]):xM P w K mg base cv:=
 qE (k:=0) (own':=[]) (fb:=gj) T qac λcdv f A outer s H E hr=>(qm (qo (uq (uA rfl hr.units) (jh vQ 'n' qr) qr)))
abbrev yk:Stmt:=top 36
abbrev zp:List Str:=["walk", "numbers", "start", "total", "at"]
theorem sc_comes_to:FnScope zp ["walk", "numbers", "start"] (qe yk):=fsc
noncomputable def zq:Sl->Out (Fl×Sl):=(qW (jQ 3 (qd 2))
  (qW (VF (jY (qd 0)) (gNm 4)
  (jQ 3 (d2 Vy (d2 ixD (qd 1) (qd 4)) (qd 3))))
  (jR (qd 3))))
noncomputable abbrev vx:List D->Out 'i':=ko zp [.val,.val,.val] (zq)
abbrev wZ P w K mg base cv:=DefOk P w K mg base cv 1 "comes_to" ["walk", "numbers", "start"] [.val,.val,.val] .sh (vx)
theorem Ux (Z:Zt K mg cv ca) (T:jb K mg "comes_to" yk ["walk", "numbers", "start"]):wZ P w K mg base cv:=
 qE (k:=0) (own':=[]) (fb:=zq) T sc_comes_to λcdv f A outer s H E hr=>(qg (qF (i:=3) sc_comes_to.nd rfl 'e' (vr 2))
  (qg (vc aR rfl (qS rfl (vr 0)) (qu (i:=4) sc_comes_to.nd rfl 'e')
  (qm (qF (i:=3) sc_comes_to.nd rfl 'e' (jh gH (qZ rfl hr.units (vr 1) (vr 4) 'f') (vr 3)))))
  (qm (qo (vr 3)))))
abbrev YS:Stmt:=top 38
abbrev qdf:List Str:=["walk", "room", "numbers", "total"]
theorem sc_bars:FnScope qdf ["walk", "room", "numbers"] (qe YS):=fsc
noncomputable def YT:Sl->Out (Fl×Sl):=(qW (jQ 3 (qt [.vl,.vl,.vl] vx (qc (qd 0) (qc (qd 2) (qc 'k' qD)))))
  (qW (sIf (xq (qt [.vl] wY (qc (qd 0) qD))) (jR (Vz (d2 eqD (d2 zd (qd 1) (dC (.int 2))) 'k') (d2 eqD (d2 zd (qd 3) (dC (.int 2))) (dC (.int 1))))) jV)
  (jR (d2 neD (d2 zd (qd 3) (qd 1)) 'k'))))
noncomputable abbrev YU:List D->Out 'i':=ko qdf [.val,.val,.val] (YT)
abbrev qae P w K mg base cv:=DefOk P w K mg base cv 2 "bars" ["walk", "room", "numbers"] [.val,.val,.val] .sh (YU)
theorem qeP (Z:Zt K mg cv ca) (T:jb K mg "bars" YS ["walk", "room", "numbers"]) (ok_comes_to:wZ P w K mg base cv) (ok_is_odd:xM P w K mg base cv):qae P w K mg base cv:=
 qE (k:=1) (own':=[]) (fb:=YT) T sc_bars λcdv f A outer s H E hr=>(qg (qF (i:=3) sc_bars.nd rfl 'e' (ql ok_comes_to hr 'c' qH rfl (qb (vr 0) (qb (vr 2) (qb qr qf)))))
  (qg (jG (jv rfl (ql ok_is_odd hr 'c' qH rfl (qb (vr 0) qf)) (λ_=>rfl)) (qm (qo (VA (uq (uA rfl hr.units) (jh vQ (vr 1) qr) qr) (Yt (uq (uA rfl hr.units) (jh vQ (vr 3) qr) qr))))) qY)
  (qm (qo (uq (QU rfl hr.units) (jh vQ (vr 3) (vr 1)) qr)))))
abbrev jK:Stmt:=top 30
abbrev wc:List Str:=["seen"]
theorem Ku:FnScope wc ["seen"] (qe jK):=fsc
noncomputable def uT:Sl->Out (Fl×Sl):=(jR (d1 vV (d2 kE (jg [] 1 [] (jY (qd 0)) (gNm 0) ftT (d2 ixD (qd 0) 'k')) (jg [] 1 [] (jY (qd 0)) (gNm 0) ftT (d2 ixD (qd 0) (dC (.int 1)))))))
noncomputable abbrev jT:List D->Out 'i':=ko wc [.val] (uT)
abbrev ua P w K mg base cv:=DefOk P w K mg base cv 1 "letters_of" ["seen"] [.val] .sh (jT)
theorem Kv (Z:Zt K mg cv ca) (T:jb K mg "letters_of" jK ["seen"]):ua P w K mg base cv:=
 qE (k:=0) (own':=[]) (fb:=uT) T Ku λcdv f A outer s H E hr=>(qm (qo (zi rfl rfl rfl Z.z_sorted uJ rfl Z.z_set YQ (jh (jX rfl) (jw (N:=["pair"]) (nt:=1) (cap:=[]) rfl (kb (names:=(qe jK).names) rfl 'b') (jt (names:=(qe jK).names) (N:=wc) rfl rfl 'b') (qS rfl (vr 0)) (λfp L s1 H1=>(qu (i:=0) (show aJ (["pair"]:List Str) from by decide +kernel) rfl 'e')) (λfp L s1 H1=>qU) (λfp L s1 H1=>(qZ rfl hr.units (vr 0) qr 'f'))) (jw (N:=["pair"]) (nt:=1) (cap:=[]) rfl (kb (names:=(qe jK).names) rfl 'b') (jt (names:=(qe jK).names) (N:=wc) rfl rfl 'b') (qS rfl (vr 0)) (λfp L s1 H1=>(qu (i:=0) (show aJ (["pair"]:List Str) from by decide +kernel) rfl 'e')) (λfp L s1 H1=>qU) (λfp L s1 H1=>(qZ rfl hr.units (vr 0) qr 'f')))))))
abbrev kP:Stmt:=top 35
abbrev yN:List Str:=["pair", "letter"]
theorem Qm:FnScope yN ["pair", "letter"] (qe kP):=fsc
noncomputable def wv:Sl->Out (Fl×Sl):=(jR (dIf (qV (d2 eqD (qd 1) (d2 ixD (qd 0) 'k'))) (d2 ixD (qd 0) (dC (.int 1))) (d2 ixD (qd 0) 'k')))
noncomputable abbrev kQ:List D->Out 'i':=ko yN [.val,.val] (wv)
abbrev uU P w K mg base cv:=DefOk P w K mg base cv 1 "other_letter" ["pair", "letter"] [.val,.val] .sh (kQ)
theorem Qn (Z:Zt K mg cv ca) (T:jb K mg "other_letter" kP ["pair", "letter"]):uU P w K mg base cv:=
 qE (k:=0) (own':=[]) (fb:=wv) T Qm λcdv f A outer s H E hr=>(qm (qo (WZ (qM (uA rfl hr.units) (vr 1) (qZ rfl hr.units (vr 0) qr 'f')) (qZ rfl hr.units (vr 0) qr 'f') (qZ rfl hr.units (vr 0) qr 'f'))))
abbrev gk:Stmt:=top 39
abbrev Kw:List Str:=["seen", "root", "ways", "waiting", "letter", "at", "pair", "reached"]
theorem sc_spread:FnScope Kw ["seen", "root", "ways"] (qe gk):=fsc
noncomputable def Ky:Sl->Out (Fl×Sl):=(qW (Kj 2 (yJ (qc (qd 1) (qc (zE qD) qD))) (qd 1))
  (qW (jQ 3 (zE (qc (qd 1) qD)))
  (jz (qV (d2 gtD (d1 jy (qd 3)) 'k'))
  (qW (jQ 4 (GS 3))
  (VF (Za (qd 0)) (kU 2 (qL (gNm 5) (qL (gNm 6) kT)))
  (qW (jQ 7 (qt [.vl,.vl] kQ (qc (qd 6) (qc (qd 4) qD))))
  (sIf (qea (qV (d2 inA (qd 4) (qd 6))) (qV (d2 gf (qd 7) (qd 2)))) (qW (Kj 2 (yJ (qc (qd 1) (qc (d2 kE (d2 ixD (d2O 2 ixD (qd 4)) (dC (.int 1))) (zE (qc (qd 5) qD))) qD))) (qd 7))
  (vd (JU 3 VN (qd 7)))) jV)))) 20)))
noncomputable abbrev gl:List D->Out 'i':=ko Kw [.val,.val,.io] (Ky)
abbrev Wm P w K mg base cv:=DefOk P w K mg base cv 2 "spread" ["seen", "root", "ways"] [.val,.val,.io] .sh (gl)
theorem qaf (Z:Zt K mg cv ca) (T:jb K mg "spread" gk ["seen", "root", "ways"]) (ok_other_letter:uU P w K mg base cv):Wm P w K mg base cv:=
 qE (k:=1) (own':=[3,2]) (fb:=Ky) T sc_spread λcdv f A outer s H E hr=>(qg (Kk (n:=2) hr.units rfl 'e' 'c' (vy (qb (vr 1) (qb (kD qf) qf))) (vr 1))
  (qg (kq (i:=3) sc_spread.nd rfl 'e' (kD (qb (vr 1) qf)))
  (qm (gI 20 aR (qM qeb (qB (js rfl) rfl Z.z_len jo (ka (i:=3) rfl 'e' 'c')) qr)
  (qg (qF (i:=4) sc_spread.nd rfl 'e' (qeK (i:=3) rfl 'e' 'c'))
  (qm (vc aR rfl (YJ rfl rfl Z.z_enumerate (vr 0)) (uC rfl rfl (jj (qu (i:=5) sc_spread.nd rfl 'e') (jj (qu (i:=6) sc_spread.nd rfl 'e') vR)))
  (qg (qF (i:=7) sc_spread.nd rfl 'e' (ql ok_other_letter hr 'c' qH rfl (qb (vr 6) (qb (vr 4) qf))))
  (qm (jG (PW.pt (ZZ (qM (qda rfl hr.units) (vr 4) (vr 6)) (va (qM (wF rfl hr.units) (vr 7) (ka (i:=2) rfl 'e' 'c'))))) (qg (Kk (n:=2) hr.units rfl 'e' 'c' (vy (qb (vr 1) (qb (jh (jX rfl) (qZ rfl hr.units (GR (i:=2) rfl hr.units rfl 'e' 'c' (vr 4) 'f') qr 'f') (kD (qb (vr 5) qf))) qf))) (vr 7))
  (qm (jL (uG (i:=3) rfl rfl 'e' 'c' (vr 7))))) qY))))))))))
abbrev xN:Stmt:=top 40
abbrev Qo:List Str:=["seen", "ways", "letter"]
theorem sc_ways_of:FnScope Qo ["seen"] (qe xN):=fsc
noncomputable def Qp:Sl->Out (Fl×Sl):=(qW (jQ 1 (dC (.dct [])))
  (qW (VF (jY (qt [.vl] jT (qc (qd 0) qD))) (gNm 2)
  (sIf (qV (d2 gf (qd 2) (qd 1))) (vd (qt [.vl,.vl,.sl 1] gl (qc (qd 0) (qc (qd 2) (kG qD))))) jV))
  (jR (qd 1))))
noncomputable abbrev wJ:List D->Out 'i':=ko Qo [.val] (Qp)
abbrev yl P w K mg base cv:=DefOk P w K mg base cv 3 "ways_of" ["seen"] [.val] .sh (wJ)
theorem Zk (Z:Zt K mg cv ca) (T:jb K mg "ways_of" xN ["seen"]) (ok_letters_of:ua P w K mg base cv) (ok_spread:Wm P w K mg base cv):yl P w K mg base cv:=
 qE (k:=2) (own':=[]) (fb:=Qp) T sc_ways_of λcdv f A outer s H E hr=>(qg (kq (i:=1) sc_ways_of.nd rfl 'e' Yw)
  (qg (vc aR rfl (qS rfl (ql ok_letters_of hr 'c' qH rfl (qb (vr 0) qf))) (qu (i:=2) sc_ways_of.nd rfl 'e')
  (qm (jG (qM (wF rfl hr.units) (vr 2) (ka (i:=1) rfl 'e' 'c')) (qm (jL (ql ok_spread hr 'c' qH rfl (qb (vr 0) (qb (vr 2) (jx (i:=1) rfl 'e' 'c' qf)))))) qY)))
  (kO [1] (qm (qo (vr 1))))))
abbrev we:Stmt:=top 41
abbrev uV:List Str:=["seen", "ways", "found", "at", "pair", "back"]
theorem sc_circles_of:FnScope uV ["seen", "ways"] (qe we):=fsc
noncomputable def uW:Sl->Out (Fl×Sl):=(qW (jQ 2 (zE qD))
  (qW (VF (Za (qd 0)) (kU 2 (qL (gNm 3) (qL (gNm 4) kT)))
  (qW (jQ 5 (d1 xG (d2 ixD (d2 ixD (qd 1) (d2 ixD (qd 4) (dC (.int 1)))) (dC (.int 1)))))
  (vd (JU 2 VN (yJ (qc (d2 ixD (d2 ixD (qd 1) (d2 ixD (qd 4) 'k')) 'k') (qc (d2 kE (d2 kE (d2 ixD (d2 ixD (qd 1) (d2 ixD (qd 4) 'k')) (dC (.int 1))) (zE (qc (qd 3) qD))) (qd 5)) qD)))))))
  (jR (qd 2))))
noncomputable abbrev wf:List D->Out 'i':=ko uV [.val,.val] (uW)
abbrev ub P w K mg base cv:=DefOk P w K mg base cv 1 "circles_of" ["seen", "ways"] [.val,.val] .sh (wf)
theorem Kz (Z:Zt K mg cv ca) (T:jb K mg "circles_of" we ["seen", "ways"]):ub P w K mg base cv:=
 qE (k:=0) (own':=[]) (fb:=uW) T sc_circles_of λcdv f A outer s H E hr=>(qg (kq (i:=2) sc_circles_of.nd rfl 'e' (kD qf))
  (qg (vc aR rfl (YJ rfl rfl Z.z_enumerate (vr 0)) (uC rfl rfl (jj (qu (i:=3) sc_circles_of.nd rfl 'e') (jj (qu (i:=4) sc_circles_of.nd rfl 'e') vR)))
  (qg (qF (i:=5) sc_circles_of.nd rfl 'e' (Zc rfl rfl rfl Z.z_list Qd rfl Z.z_reversed Us (qZ rfl hr.units (qZ rfl hr.units (vr 1) (qZ rfl hr.units (vr 4) qr 'f') 'f') qr 'f')))
  (qm (jL (uG (i:=2) rfl rfl 'e' 'c' (vy (qb (qZ rfl hr.units (qZ rfl hr.units (vr 1) (qZ rfl hr.units (vr 4) qr 'f') 'f') qr 'f') (qb (jh (jX rfl) (jh (jX rfl) (qZ rfl hr.units (qZ rfl hr.units (vr 1) (qZ rfl hr.units (vr 4) qr 'f') 'f') qr 'f') (kD (qb (vr 3) qf))) (vr 5)) qf))))))))
  (kO [2] (qm (qo (vr 2))))))
abbrev uc:Stmt:=top 42
abbrev xb:List Str:=["circles", "first", "root", "walk"]
theorem sc_first_odd:FnScope xb ["circles"] (qe uc):=fsc
noncomputable def xc:Sl->Out (Fl×Sl):=(qW (jQ 1 (dC (.dct [])))
  (qW (VF (jY (qd 0)) (kU 2 (qL (gNm 2) (qL (gNm 3) kT)))
  (sIf (qea (xq (qt [.vl] wY (qc (qd 3) qD))) (qV (d2 gf (qd 2) (qd 1)))) (Kj 1 (qd 3) (qd 2)) jV))
  (jR (qd 1))))
noncomputable abbrev ud:List D->Out 'i':=ko xb [.val] (xc)
abbrev uX P w K mg base cv:=DefOk P w K mg base cv 2 "first_odd" ["circles"] [.val] .sh (ud)
theorem Wn (Z:Zt K mg cv ca) (T:jb K mg "first_odd" uc ["circles"]) (ok_is_odd:xM P w K mg base cv):uX P w K mg base cv:=
 qE (k:=1) (own':=[]) (fb:=xc) T sc_first_odd λcdv f A outer s H E hr=>(qg (kq (i:=1) sc_first_odd.nd rfl 'e' Yw)
  (qg (vc aR rfl (qS rfl (vr 0)) (uC rfl rfl (jj (qu (i:=2) sc_first_odd.nd rfl 'e') (jj (qu (i:=3) sc_first_odd.nd rfl 'e') vR)))
  (qm (jG (PW.pt (ZZ (jv rfl (ql ok_is_odd hr 'c' qH rfl (qb (vr 3) qf)) (λ_=>rfl)) (va (qM (wF rfl hr.units) (vr 2) (ka (i:=1) rfl 'e' 'c'))))) (qm (Kk (n:=1) hr.units rfl 'e' 'c' (vr 3) (vr 2))) qY)))
  (kO [1] (qm (qo (vr 1))))))
abbrev ym:Stmt:=top 43
abbrev gm:List Str:=["seen", "room", "numbers", "circles", "first", "joined", "root", "walk"]
theorem sc_bar_of:FnScope gm ["seen", "room", "numbers"] (qe ym):=fsc
noncomputable def KA:Sl->Out (Fl×Sl):=(qW (jQ 3 (qt [.vl,.vl] wf (qc (qd 0) (qc (qt [.vl] wJ (qc (qd 0) qD)) qD))))
  (qW (jQ 4 (qt [.vl] ud (qc (qd 3) qD)))
  (qW (jQ 5 (jg [] 2 [4] (jY (qd 3)) (kU 2 (qL (gNm 0) (qL (gNm 1) kT))) (xq (qt [.vl] wY (qc (qd 1) qD))) (yJ (qc (qd 0) (qc (d2 kE (d2 ixD (qd 2) (qd 0)) (qd 1)) qD)))))
  (qW (VF (jY (d2 kE (qd 3) (qd 5))) (kU 2 (qL (gNm 6) (qL (gNm 7) kT)))
  (sIf (xq (qt [.vl,.vl,.vl] YU (qc (qd 7) (qc (qd 1) (qc (qd 2) qD))))) (jR (yJ (qc (qd 6) (qc (qd 7) qD)))) jV))
  (jR (dC .non))))))
noncomputable abbrev xO:List D->Out 'i':=ko gm [.val,.val,.val] (KA)
abbrev xP P w K mg base cv:=DefOk P w K mg base cv 4 "bar_of" ["seen", "room", "numbers"] [.val,.val,.val] .sh (xO)
theorem qag (Z:Zt K mg cv ca) (T:jb K mg "bar_of" ym ["seen", "room", "numbers"]) (ok_is_odd:xM P w K mg base cv) (ok_bars:qae P w K mg base cv) (ok_ways_of:yl P w K mg base cv) (ok_circles_of:ub P w K mg base cv) (ok_first_odd:uX P w K mg base cv):xP P w K mg base cv:=
 qE (k:=3) (own':=[]) (fb:=KA) T sc_bar_of λcdv f A outer s H E hr=>(qg (qF (i:=3) sc_bar_of.nd rfl 'e' (ql ok_circles_of hr 'c' qH rfl (qb (vr 0) (qb (ql ok_ways_of hr 'c' qH rfl (qb (vr 0) qf)) qf))))
  (qg (qF (i:=4) sc_bar_of.nd rfl (bH rfl) (ql ok_first_odd hr 'c' qH rfl (qb (vr 3) qf)))
  (qg (vg (N:=["root", "walk", "first"]) (nt:=2) (cap:=[4]) sc_bar_of.nd (i:=5) rfl 'e' rfl (kb (names:=(qe ym).names) rfl 'b') (jt (names:=(qe ym).names) (N:=gm) rfl rfl 'b') (qS rfl (vr 3)) (λfp L s1 H1=>(uC rfl rfl (jj (qu (i:=0) (show aJ (["root", "walk", "first"]:List Str) from by decide +kernel) rfl 'e') (jj (qu (i:=1) (show aJ (["root", "walk", "first"]:List Str) from by decide +kernel) rfl 'e') vR)))) (λfp L s1 H1=>(uE (jv rfl (ql ok_is_odd hr 'c' yD rfl (qb (vr 1) qf)) (λ_=>rfl)))) (λfp L s1 H1=>(vy (qb (vr 0) (qb (jh (jX rfl) (qZ rfl hr.units (vr 2) (vr 0) 'f') (vr 1)) qf)))))
  (qg (vc aR rfl (qS rfl (jh (jX rfl) (vr 3) (ka (i:=5) rfl 'e' 'c'))) (uC rfl rfl (jj (qu (i:=6) sc_bar_of.nd rfl 'e') (jj (qu (i:=7) sc_bar_of.nd rfl 'e') vR)))
  (qm (jG (jv rfl (ql ok_bars hr 'c' qH rfl (qb (vr 7) (qb (vr 1) (qb (vr 2) qf)))) (λ_=>rfl)) (qm (qo (vy (qb (vr 6) (qb (vr 7) qf))))) qY)))
  (qm (qo Vx))))))
abbrev qco:Stmt:=top 44
abbrev qgM:List Str:=["words", "look", "room", "numbers"]
theorem qgN:FnScope qgM ["words", "look", "room", "numbers"] (qe qco):=fsc
noncomputable def qeQ:Sl->Out (Fl×Sl):=(jR (qt [.vl,.vl,.vl] xO (qc (qt [.vl,.vl,.vl,.vl] ki (qc (qd 0) (qc (qd 1) (qc (qd 2) (qc (qd 3) qD))))) (qc (qd 2) (qc (qd 3) qD)))))
noncomputable abbrev qeR:List D->Out 'i':=ko qgM [.val,.val,.val,.val] (qeQ)
abbrev qdg P w K mg base cv:=DefOk P w K mg base cv 7 "bar" ["words", "look", "room", "numbers"] [.val,.val,.val,.val] .sh (qeR)
theorem qgO (Z:Zt K mg cv ca) (T:jb K mg "bar" qco ["words", "look", "room", "numbers"]) (ok_told_pairs:ky P w K mg base cv) (ok_bar_of:xP P w K mg base cv):qdg P w K mg base cv:=
 qE (k:=6) (own':=[]) (fb:=qeQ) T qgN λcdv f A outer s H E hr=>(qm (qo (ql ok_bar_of hr 'c' qH rfl (qb (ql ok_told_pairs hr 'c' qH rfl (qb (vr 0) (qb (vr 1) (qb (vr 2) (qb (vr 3) qf))))) (qb (vr 2) (qb (vr 3) qf))))))
abbrev YV:Stmt:=top 45
abbrev qdh:List Str:=["total", "room", "rest"]
theorem sc_half:FnScope qdh ["total", "room"] (qe YV):=fsc
noncomputable def qah:Sl->Out (Fl×Sl):=(qW (jQ 2 (d2 zd (qd 0) (qd 1)))
  (jR (dIf (qV (d2 eqD (d2 zd (qd 2) (dC (.int 2))) 'k')) (d2 XG (qd 2) (dC (.int 2))) (d2 XG (d2 kE (qd 2) (qd 1)) (dC (.int 2))))))
noncomputable abbrev qai:List D->Out 'i':=ko qdh [.val,.val] (qah)
abbrev qaj P w K mg base cv:=DefOk P w K mg base cv 1 "half" ["total", "room"] [.val,.val] .sh (qai)
theorem qeS (Z:Zt K mg cv ca) (T:jb K mg "half" YV ["total", "room"]):qaj P w K mg base cv:=
 qE (k:=0) (own':=[]) (fb:=qah) T sc_half λcdv f A outer s H E hr=>(qg (qF (i:=2) sc_half.nd rfl 'e' (jh vQ (vr 0) (vr 1)))
  (qm (qo (WZ (qM (uA rfl hr.units) (jh vQ (vr 2) qr) qr) (jh WY (vr 2) qr) (jh WY (jh (jX rfl) (vr 2) (vr 1)) qr)))))
abbrev vn:Stmt:=top 46
abbrev xQ:List Str:=["walk", "room", "numbers", "worth"]
theorem sc_root_worths:FnScope xQ ["walk", "room", "numbers"] (qe vn):=fsc
noncomputable def kz:Sl->Out (Fl×Sl):=(qW (sIf (qV (d2 eqD (d1 jy (qd 0)) 'k')) (jR (d1 xF (qd 1))) jV)
  (qW (jQ 3 (qt [.vl,.vl] qai (qc (qt [.vl,.vl,.vl] vx (qc (qd 0) (qc (qd 2) (qc 'k' qD)))) (qc (qd 1) qD))))
  (jR (dIf (qV (d2 eqD (d2 zd (qd 1) (dC (.int 2))) 'k')) (zE (qc (qd 3) (qc (d2 kE (qd 3) (d2 XG (qd 1) (dC (.int 2)))) qD))) (zE (qc (qd 3) qD))))))
noncomputable abbrev vo:List D->Out 'i':=ko xQ [.val,.val,.val] (kz)
abbrev yO P w K mg base cv:=DefOk P w K mg base cv 2 "root_worths" ["walk", "room", "numbers"] [.val,.val,.val] .sh (vo)
theorem Jd (Z:Zt K mg cv ca) (T:jb K mg "root_worths" vn ["walk", "room", "numbers"]) (ok_comes_to:wZ P w K mg base cv) (ok_half:qaj P w K mg base cv):yO P w K mg base cv:=
 qE (k:=1) (own':=[]) (fb:=kz) T sc_root_worths λcdv f A outer s H E hr=>(qg (jG (qM (uA rfl hr.units) 'n' qr) (qm (qo (XZ rfl rfl Z.z_list Qd rfl Z.z_range qcl (vr 1)))) qY)
  (qg (qF (i:=3) sc_root_worths.nd rfl 'e' (ql ok_half hr 'c' qH rfl (qb (ql ok_comes_to hr 'c' qH rfl (qb (vr 0) (qb (vr 2) (qb qr qf)))) (qb (vr 1) qf))))
  (qm (qo (WZ (qM (uA rfl hr.units) (jh vQ (vr 1) qr) qr) (kD (qb (vr 3) (qb (jh (jX rfl) (vr 3) (jh WY (vr 1) qr)) qf))) (kD (qb (vr 3) qf)))))))
abbrev kj:Stmt:=top 47
abbrev wK:List Str:=["seen", "room", "numbers", "ways", "first", "roots"]
theorem sc_roots_of:FnScope wK ["seen", "room", "numbers"] (qe kj):=fsc
noncomputable def zr:Sl->Out (Fl×Sl):=(qW (jQ 3 (qt [.vl] wJ (qc (qd 0) qD)))
  (qW (jQ 4 (qt [.vl] ud (qc (qt [.vl,.vl] wf (qc (qd 0) (qc (qd 3) qD))) qD)))
  (qW (jQ 5 (jg [] 1 [3] (jY (d1 kt (qd 3))) (gNm 0) (qV (d2 eqD (d2 ixD (d2 ixD (qd 1) (qd 0)) 'k') (qd 0))) (qd 0)))
  (jR (jg [] 1 [1,2,4] (jY (qd 5)) (gNm 0) ftT (yJ (qc (qd 0) (qc (qt [.vl,.vl,.vl] vo (qc (qcb (qd 3) (qd 0) (zE qD)) (qc (qd 1) (qc (qd 2) qD)))) qD))))))))
noncomputable abbrev wL:List D->Out 'i':=ko wK [.val,.val,.val] (zr)
abbrev Qq P w K mg base cv:=DefOk P w K mg base cv 4 "roots_of" ["seen", "room", "numbers"] [.val,.val,.val] .sh (wL)
theorem Uy (Z:Zt K mg cv ca) (T:jb K mg "roots_of" kj ["seen", "room", "numbers"]) (ok_ways_of:yl P w K mg base cv) (ok_circles_of:ub P w K mg base cv) (ok_first_odd:uX P w K mg base cv) (ok_root_worths:yO P w K mg base cv):Qq P w K mg base cv:=
 qE (k:=3) (own':=[]) (fb:=zr) T sc_roots_of λcdv f A outer s H E hr=>(qg (qF (i:=3) sc_roots_of.nd rfl (bH rfl) (ql ok_ways_of hr 'c' qH rfl (qb (vr 0) qf)))
  (qg (qF (i:=4) sc_roots_of.nd rfl (bH rfl) (ql ok_first_odd hr 'c' qH rfl (qb (ql ok_circles_of hr 'c' qH rfl (qb (vr 0) (qb (vr 3) qf))) qf)))
  (qg (vg (N:=["letter", "ways"]) (nt:=1) (cap:=[3]) sc_roots_of.nd (i:=5) rfl 'e' rfl (kb (names:=(qe kj).names) rfl 'b') (jt (names:=(qe kj).names) (N:=wK) rfl rfl 'b') (qS rfl (qB (Jt rfl) rfl Z.z_sorted uJ (vr 3))) (λfp L s1 H1=>(qu (i:=0) (show aJ (["letter", "ways"]:List Str) from by decide +kernel) rfl 'e')) (λfp L s1 H1=>(uE (qM (uA rfl hr.units) (qZ rfl hr.units (qZ rfl hr.units (vr 1) (vr 0) 'f') qr 'f') (vr 0)))) (λfp L s1 H1=>(vr 0)))
  (kO [5] (qm (qo (jw (N:=["root", "room", "numbers", "first"]) (nt:=1) (cap:=[1,2,4]) rfl (kb (names:=(qe kj).names) rfl 'b') (jt (names:=(qe kj).names) (N:=wK) rfl rfl 'b') (qS rfl (vr 5)) (λfp L s1 H1=>(qu (i:=0) (show aJ (["root", "room", "numbers", "first"]:List Str) from by decide +kernel) rfl 'e')) (λfp L s1 H1=>qU) (λfp L s1 H1=>(vy (qb (vr 0) (qb (ql ok_root_worths hr 'c' yD rfl (qb (qeL hr.units (vr 3) (vr 0) (kD qf)) (qb (vr 1) (qb (vr 2) qf)))) qf)))))))))))
abbrev vp:Stmt:=top 48
abbrev ue:List Str:=["seen", "room", "numbers", "starts", "ways", "found", "letter", "start"]
theorem sc_worths_from:FnScope ue ["seen", "room", "numbers", "starts"] (qe vp):=fsc
noncomputable def uf:Sl->Out (Fl×Sl):=(qW (jQ 4 (qt [.vl] wJ (qc (qd 0) qD)))
  (qW (jQ 5 (zE qD))
  (qW (VF (jY (d1 kt (qd 4))) (gNm 6)
  (qW (jQ 7 (d2 ixD (qd 3) (d2 ixD (d2 ixD (qd 4) (qd 6)) 'k')))
  (vd (JU 5 VN (yJ (qc (qd 6) (qc (d2 zd (qt [.vl,.vl,.vl] vx (qc (d2 ixD (d2 ixD (qd 4) (qd 6)) (dC (.int 1))) (qc (qd 2) (qc (qd 7) qD)))) (qd 1)) qD)))))))
  (jR (d1 wC (qd 5))))))
noncomputable abbrev ug:List D->Out 'i':=ko ue [.val,.val,.val,.val] (uf)
abbrev yP P w K mg base cv:=DefOk P w K mg base cv 4 "worths_from" ["seen", "room", "numbers", "starts"] [.val,.val,.val,.val] .sh (ug)
theorem Je (Z:Zt K mg cv ca) (T:jb K mg "worths_from" vp ["seen", "room", "numbers", "starts"]) (ok_comes_to:wZ P w K mg base cv) (ok_ways_of:yl P w K mg base cv):yP P w K mg base cv:=
 qE (k:=3) (own':=[]) (fb:=uf) T sc_worths_from λcdv f A outer s H E hr=>(qg (qF (i:=4) sc_worths_from.nd rfl 'e' (ql ok_ways_of hr 'c' qH rfl (qb (vr 0) qf)))
  (qg (kq (i:=5) sc_worths_from.nd rfl 'e' (kD qf))
  (qg (vc aR rfl (qS rfl (qB (Jt rfl) rfl Z.z_sorted uJ (vr 4))) (qu (i:=6) sc_worths_from.nd rfl 'e')
  (qg (qF (i:=7) sc_worths_from.nd rfl 'e' (qZ rfl hr.units (vr 3) (qZ rfl hr.units (qZ rfl hr.units (vr 4) (vr 6) 'f') qr 'f') 'f'))
  (qm (jL (uG (i:=5) rfl rfl 'e' 'c' (vy (qb (vr 6) (qb (jh vQ (ql ok_comes_to hr 'c' qH rfl (qb (qZ rfl hr.units (qZ rfl hr.units (vr 4) (vr 6) 'f') qr 'f') (qb (vr 2) (qb (vr 7) qf)))) (vr 1)) qf))))))))
  (qm (qo (jN (yj rfl) rfl Z.z_tuple ku (ka (i:=5) rfl 'e' 'c')))))))
abbrev yn:Stmt:=top 49
abbrev gn:List Str:=["words", "look", "room", "numbers", "seen", "starts"]
theorem sc_worths:FnScope gn ["words", "look", "room", "numbers"] (qe yn):=fsc
noncomputable def KB:Sl->Out (Fl×Sl):=(qW (sIf (qV (d2 qee (qt [.vl,.vl,.vl,.vl] qeR (qc (qd 0) (qc (qd 1) (qc (qd 2) (qc (qd 3) qD))))) (dC .non))) (vB "Never" (qc (dC (.str "no worths give the words these numbers")) qD)) jV)
  (qW (jQ 4 (qt [.vl,.vl] zo (qc (qd 0) (qc (qd 1) qD))))
  (qW (jQ 5 (d1 Qc (jg [] 2 [] (jY (qt [.vl,.vl,.vl] wL (qc (qd 4) (qc (qd 2) (qc (qd 3) qD))))) (kU 2 (qL (gNm 0) (qL (gNm 1) kT))) ftT (yJ (qc (qd 0) (qc (d2 ixD (qd 1) 'k') qD))))))
  (jR (qt [.vl,.vl,.vl,.vl] ug (qc (qd 4) (qc (qd 2) (qc (qd 3) (qc (qd 5) qD)))))))))
noncomputable abbrev KC:List D->Out 'i':=ko gn [.val,.val,.val,.val] (KB)
abbrev Wo P w K mg base cv:=DefOk P w K mg base cv 8 "worths" ["words", "look", "room", "numbers"] [.val,.val,.val,.val] .sh (KC)
theorem qak (Z:Zt K mg cv ca) (T:jb K mg "worths" yn ["words", "look", "room", "numbers"]) (ok_pairs:gh P w K mg base cv) (ok_bar:qdg P w K mg base cv) (ok_roots_of:Qq P w K mg base cv) (ok_worths_from:yP P w K mg base cv):Wo P w K mg base cv:=
 qE (k:=7) (own':=[]) (fb:=KB) T sc_worths λcdv f A outer s H E hr=>(qg (jG (qM qef (ql ok_bar hr 'c' qH rfl (qb (vr 0) (qb (vr 1) (qb (vr 2) (qb (vr 3) qf))))) Vx) (qm (vC rfl (gM rfl) rfl rfl (Z.mref "Never" 'b') (Z.xs.val "Never" 'b') (Z.xin "Never" 'b') (qb yH qf))) qY)
  (qg (qF (i:=4) sc_worths.nd rfl 'e' (ql ok_pairs hr 'c' qH rfl (qb (vr 0) (qb (vr 1) qf))))
  (qg (qF (i:=5) sc_worths.nd rfl 'e' (jN (YM rfl rfl) rfl Z.z_dict Ur (jw (N:=["root", "choices"]) (nt:=2) (cap:=[]) rfl (kb (names:=(qe yn).names) rfl 'b') (jt (names:=(qe yn).names) (N:=gn) rfl rfl 'b') (qS rfl (ql ok_roots_of hr 'c' qH rfl (qb (vr 4) (qb (vr 2) (qb (vr 3) qf))))) (λfp L s1 H1=>(uC rfl rfl (jj (qu (i:=0) (show aJ (["root", "choices"]:List Str) from by decide +kernel) rfl 'e') (jj (qu (i:=1) (show aJ (["root", "choices"]:List Str) from by decide +kernel) rfl 'e') vR)))) (λfp L s1 H1=>qU) (λfp L s1 H1=>(vy (qb (vr 0) (qb (qZ rfl hr.units (vr 1) qr 'f') qf)))))))
  (qm (qo (ql ok_worths_from hr 'c' qH rfl (qb (vr 4) (qb (vr 2) (qb (vr 3) (qb (vr 5) qf))))))))))
abbrev yo:Stmt:=top 19
abbrev Jx:List Str:=["thing", "room"]
theorem Uz:FnScope Jx ["thing", "room"] (qe yo):=fsc
noncomputable def kJ:Sl->Out (Fl×Sl):=(qW (sIf (dOr (QV (xq (d1 (ge "tuple") (qd 0)))) (qV (d2 neD (d1 jy (qd 0)) (dC (.int 2))))) (jR (dC (.bl hJ))) jV)
  (jR (Vz (qt [.vl] vF (qc (d2 ixD (qd 0) 'k') qD)) (qt [.vl,.vl,.vl] jJ (qc (d2 ixD (qd 0) (dC (.int 1))) (qc 'k' (qc (d2 Vy (qd 1) (dC (.int 1))) qD)))))))
noncomputable abbrev yp:List D->Out 'i':=ko Jx [.val,.val] (kJ)
abbrev Qr P w K mg base cv:=DefOk P w K mg base cv 2 "is_worth" ["thing", "room"] [.val,.val] .sh (yp)
theorem UA (Z:Zt K mg cv ca) (T:jb K mg "is_worth" yo ["thing", "room"]) (ok_is_between:kw P w K mg base cv) (ok_is_letter:uK P w K mg base cv):Qr P w K mg base cv:=
 qE (k:=1) (own':=[]) (fb:=kJ) T Uz λcdv f A outer s H E hr=>(qg (jG (PW.pt (yI (jP (jv rfl (xD rfl rfl Z.z_isinstance jl rfl Z.z_tuple ku (vr 0)) (λ_=>rfl))) (va (qM (QU rfl hr.units) 'n' qr)))) (qm (qo zS)) qY)
  (qm (qo (VA (ql ok_is_letter hr 'c' qH rfl (qb (qZ rfl hr.units (vr 0) qr 'f') qf)) (Yt (ql ok_is_between hr 'c' qH rfl (qb (qZ rfl hr.units (vr 0) qr 'f') (qb qr (qb (jh gH (vr 1) qr) qf)))))))))
abbrev jU:Stmt:=top 20
abbrev uh:List Str:=["thing", "room", "letters"]
theorem sc_is_worths:FnScope uh ["thing", "room"] (qe jU):=fsc
noncomputable def ui:Sl->Out (Fl×Sl):=(qW (sIf (dOr (QV (xq (d1 (ge "tuple") (qd 0)))) (QV (xq (d1 Gr (jg [] 1 [1] (jY (qd 0)) (gNm 0) ftT (qt [.vl,.vl] yp (qc (qd 0) (qc (qd 1) qD)))))))) (jR (dC (.bl hJ))) jV)
  (qW (jQ 2 (jg [] 1 [] (jY (qd 0)) (gNm 0) ftT (d2 ixD (qd 0) 'k')))
  (jR (d2 eqD (qd 2) (d1 vV (qd 2))))))
noncomputable abbrev kK:List D->Out 'i':=ko uh [.val,.val] (ui)
abbrev zN P w K mg base cv:=DefOk P w K mg base cv 3 "is_worths" ["thing", "room"] [.val,.val] .sh (kK)
theorem Wp (Z:Zt K mg cv ca) (T:jb K mg "is_worths" jU ["thing", "room"]) (ok_is_worth:Qr P w K mg base cv):zN P w K mg base cv:=
 qE (k:=2) (own':=[]) (fb:=ui) T sc_is_worths λcdv f A outer s H E hr=>(qg (jG (PW.pt (yI (jP (jv rfl (xD rfl rfl Z.z_isinstance jl rfl Z.z_tuple ku (vr 0)) (λ_=>rfl))) (va (jP (jv rfl (qB (Jq rfl rfl) rfl Z.z_all Ju (jw (N:=["part", "room"]) (nt:=1) (cap:=[1]) rfl (kb (names:=(qe jU).names) rfl 'b') (jt (names:=(qe jU).names) (N:=uh) rfl rfl 'b') (qS rfl (vr 0)) (λfp L s1 H1=>(qu (i:=0) (show aJ (["part", "room"]:List Str) from by decide +kernel) rfl 'e')) (λfp L s1 H1=>qU) (λfp L s1 H1=>(ql ok_is_worth hr 'c' yD rfl (qb (vr 0) (qb (vr 1) qf)))))) (λ_=>rfl)))))) (qm (qo zS)) qY)
  (qg (vg (N:=["part"]) (nt:=1) (cap:=[]) sc_is_worths.nd (i:=2) rfl 'e' rfl (kb (names:=(qe jU).names) rfl 'b') (jt (names:=(qe jU).names) (N:=uh) rfl rfl 'b') (qS rfl (vr 0)) (λfp L s1 H1=>(qu (i:=0) (show aJ (["part"]:List Str) from by decide +kernel) rfl 'e')) (λfp L s1 H1=>qU) (λfp L s1 H1=>(qZ rfl hr.units (vr 0) qr 'f')))
  (kO [2] (qm (qo (uq (uA rfl hr.units) (vr 2) (zi rfl rfl rfl Z.z_sorted uJ rfl Z.z_set YQ (vr 2))))))))
abbrev kR:Stmt:=top 25
abbrev yQ:List Str:=["thing", "room"]
theorem Qs:FnScope yQ ["thing", "room"] (qe kR):=fsc
noncomputable def ww:Sl->Out (Fl×Sl):=(sIf (QV (xq (qt [.vl,.vl] kK (qc (qd 0) (qc (qd 1) qD))))) (vB "NoWorths" (qc (dC (.str "worths are a rising tuple of unlike letters, each with a number within the room")) qD)) jV)
noncomputable abbrev wx:List D->Out 'i':=ko yQ [.val,.val] (ww)
abbrev uY P w K mg base cv:=DefOk P w K mg base cv 4 "check_worths" ["thing", "room"] [.val,.val] .sh (wx)
theorem Qt (Z:Zt K mg cv ca) (T:jb K mg "check_worths" kR ["thing", "room"]) (ok_is_worths:zN P w K mg base cv):uY P w K mg base cv:=
 qE (k:=3) (own':=[]) (fb:=ww) T Qs λcdv f A outer s H E hr=>(qm (jG (jP (jv rfl (ql ok_is_worths hr 'c' qH rfl (qb (vr 0) (qb (vr 1) qf))) (λ_=>rfl))) (qm (vC rfl (gM rfl) rfl rfl (Z.mref "NoWorths" 'b') (Z.xs.val "NoWorths" 'b') (Z.xin "NoWorths" 'b') (qb yH qf))) qY))
abbrev gp:Stmt:=top 31
abbrev YW:List Str:=["total", "room"]
theorem qal:FnScope YW ["total", "room"] (qe gp):=fsc
noncomputable def KD:Sl->Out (Fl×Sl):=(jR (dIf (qV (d2 geD (qd 0) (qd 1))) (d2 Vy (qd 0) (qd 1)) (qd 0)))
noncomputable abbrev gq:List D->Out 'i':=ko YW [.val,.val] (KD)
abbrev Wq P w K mg base cv:=DefOk P w K mg base cv 1 "within" ["total", "room"] [.val,.val] .sh (gq)
theorem qam (Z:Zt K mg cv ca) (T:jb K mg "within" gp ["total", "room"]):Wq P w K mg base cv:=
 qE (k:=0) (own':=[]) (fb:=KD) T qal λcdv f A outer s H E hr=>(qm (qo (WZ (qM qec (vr 0) (vr 1)) (jh gH (vr 0) (vr 1)) (vr 0))))
abbrev kl:Stmt:=top 32
abbrev yq:List Str:=["words", "look", "room", "worths", "seen", "worth_of"]
theorem sc_numbered:FnScope yq ["words", "look", "room", "worths"] (qe kl):=fsc
noncomputable def yr:Sl->Out (Fl×Sl):=(qW (jQ 4 (qt [.vl,.vl] zo (qc (qd 0) (qc (qd 1) qD))))
  (qW (vd (qt [.vl] wa (qc (qd 2) qD)))
  (qW (vd (qt [.vl,.vl] wx (qc (qd 3) (qc (qd 2) qD))))
  (qW (jQ 5 (d1 Gv (qd 3)))
  (qW (sIf (QV (xq (d1 Gr (jg [] 1 [5] (jY (qt [.vl] jT (qc (qd 4) qD))) (gNm 0) ftT (d2 inA (qd 0) (qd 1)))))) (vB "NoWorths" (qc (dC (.str "a letter that is seen has no worth")) qD)) jV)
  (jR (d1 wC (jg [] 1 [2,5] (jY (qd 4)) (gNm 0) ftT (qt [.vl,.vl] gq (qc (d2 kE (d2 ixD (qd 2) (d2 ixD (qd 0) 'k')) (d2 ixD (qd 2) (d2 ixD (qd 0) (dC (.int 1))))) (qc (qd 1) qD)))))))))))
noncomputable abbrev yt:List D->Out 'i':=ko yq [.val,.val,.val,.val] (yr)
abbrev Qu P w K mg base cv:=DefOk P w K mg base cv 6 "numbered" ["words", "look", "room", "worths"] [.val,.val,.val,.val] .sh (yt)
theorem UB (Z:Zt K mg cv ca) (T:jb K mg "numbered" kl ["words", "look", "room", "worths"]) (ok_check_room:wX P w K mg base cv) (ok_check_worths:uY P w K mg base cv) (ok_pairs:gh P w K mg base cv) (ok_letters_of:ua P w K mg base cv) (ok_within:Wq P w K mg base cv):Qu P w K mg base cv:=
 qE (k:=5) (own':=[]) (fb:=yr) T sc_numbered λcdv f A outer s H E hr=>(qg (qF (i:=4) sc_numbered.nd rfl 'e' (ql ok_pairs hr 'c' qH rfl (qb (vr 0) (qb (vr 1) qf))))
  (qg (jL (ql ok_check_room hr 'c' qH rfl (qb (vr 2) qf)))
  (qg (jL (ql ok_check_worths hr 'c' qH rfl (qb (vr 3) (qb (vr 2) qf))))
  (qg (qF (i:=5) sc_numbered.nd rfl (bH rfl) (jN (qev rfl rfl) rfl Z.z_dict Ur (vr 3)))
  (qg (jG (jP (jv rfl (qB (Jq rfl rfl) rfl Z.z_all Ju (jw (N:=["letter", "worth_of"]) (nt:=1) (cap:=[5]) rfl (kb (names:=(qe kl).names) rfl 'b') (jt (names:=(qe kl).names) (N:=yq) rfl rfl 'b') (qS rfl (ql ok_letters_of hr 'c' qH rfl (qb (vr 4) qf))) (λfp L s1 H1=>(qu (i:=0) (show aJ (["letter", "worth_of"]:List Str) from by decide +kernel) rfl 'e')) (λfp L s1 H1=>qU) (λfp L s1 H1=>(uq (qda rfl hr.units) (vr 0) (vr 1))))) (λ_=>rfl))) (qm (vC rfl (gM rfl) rfl rfl (Z.mref "NoWorths" 'b') (Z.xs.val "NoWorths" 'b') (Z.xin "NoWorths" 'b') (qb yH qf))) qY)
  (qm (qo (jN (yj rfl) rfl Z.z_tuple ku (jw (N:=["pair", "room", "worth_of"]) (nt:=1) (cap:=[2,5]) rfl (kb (names:=(qe kl).names) rfl 'b') (jt (names:=(qe kl).names) (N:=yq) rfl rfl 'b') (qS rfl (vr 4)) (λfp L s1 H1=>(qu (i:=0) (show aJ (["pair", "room", "worth_of"]:List Str) from by decide +kernel) rfl 'e')) (λfp L s1 H1=>qU) (λfp L s1 H1=>(ql ok_within hr 'c' yD rfl (qb (jh (jX rfl) (qZ rfl hr.units (vr 2) (qZ rfl hr.units (vr 0) qr 'f') 'f') (qZ rfl hr.units (vr 2) (qZ rfl hr.units (vr 0) qr 'f') 'f')) (qb (vr 1) qf)))))))))))))
abbrev wg:Stmt:=top 50
abbrev uZ:List Str:=["words", "look", "room", "numbers", "thing", "given"]
theorem sc_is_telling:FnScope uZ ["words", "look", "room", "numbers", "thing"] (qe wg):=fsc
noncomputable def ya (ca:Str->Addr):Sl->Out (Fl×Sl):=(qW (vd (qt [.vl,.vl,.vl,.vl] ki (qc (qd 0) (qc (qd 1) (qc (qd 2) (qc (qd 3) qD))))))
  (qW (qfx 6 g7 (qgx ca ["NoWorths"]) (jQ 5 (qt [.vl,.vl,.vl,.vl] yt (qc (qd 0) (qc (qd 1) (qc (qd 2) (qc (qd 4) qD)))))) (jR (dC (.bl hJ))))
  (jR (d2 eqD (qd 5) (qd 3)))))
noncomputable abbrev yb (ca:Str->Addr):List D->Out 'i':=ko uZ [.val,.val,.val,.val,.val] (ya ca)
abbrev xR (ca:Str->Addr) P w K mg base cv:=DefOk P w K mg base cv 7 "is_telling" ["words", "look", "room", "numbers", "thing"] [.val,.val,.val,.val,.val] .sh (yb ca)
theorem KF (Z:Zt K mg cv ca) (T:jb K mg "is_telling" wg ["words", "look", "room", "numbers", "thing"]) (ok_numbered:Qu P w K mg base cv) (ok_told_pairs:ky P w K mg base cv):xR ca P w K mg base cv:=
 qE (k:=6) (own':=[]) (fb:=ya ca) T sc_is_telling λcdv f A outer s H E hr=>(qg (jL (ql ok_told_pairs hr 'c' qH rfl (qb (vr 0) (qb (vr 1) (qb (vr 2) (qb (vr 3) qf))))))
  (qg (qbP (own2:=[]) (n:=6) rfl rfl rfl rfl (Z.mref "NoWorths" 'b') (qjK (Z.xs.val "NoWorths" 'b') Z.s_NoWorths) rfl (λpn xe E hx=>(qm (qF (i:=5) sc_is_telling.nd rfl 'e' (ql ok_numbered hr 'c' hx rfl (qb (vr 0) (qb (vr 1) (qb (vr 2) (qb (vr 4) qf)))))))) (λe=>(qm (qo zS))))
  (qm (qo (uq (uA rfl hr.units) (vr 5) (vr 3))))))
abbrev qG:Stmt:=top 52
abbrev jp:List Str:=["seen", "room", "numbers", "gone", "kept"]
theorem sc_can_be_left_out:FnScope jp ["seen", "room", "numbers", "gone"] (qe qG):=fsc
noncomputable def kL:Sl->Out (Fl×Sl):=(qW (jQ 4 (jg [] 1 [3] (jD (d1 jy (qd 0))) (gNm 0) (qV (d2 gf (qd 0) (qd 1))) (qd 0)))
  (jR (d2 qed (qt [.vl,.vl,.vl] xO (qc (jg [] 1 [0] (jY (qd 4)) (gNm 0) ftT (d2 ixD (qd 1) (qd 0))) (qc (qd 1) (qc (jg [] 1 [2] (jY (qd 4)) (gNm 0) ftT (d2 ixD (qd 1) (qd 0))) qD)))) (dC .non))))
noncomputable abbrev jq:List D->Out 'i':=ko jp [.val,.val,.val,.val] (kL)
abbrev wj P w K mg base cv:=DefOk P w K mg base cv 5 "can_be_left_out" ["seen", "room", "numbers", "gone"] [.val,.val,.val,.val] .sh (jq)
theorem xS (Z:Zt K mg cv ca) (T:jb K mg "can_be_left_out" qG ["seen", "room", "numbers", "gone"]) (ok_bar_of:xP P w K mg base cv):wj P w K mg base cv:=
 qE (k:=4) (own':=[]) (fb:=kL) T sc_can_be_left_out λcdv f A outer s H E hr=>(qg (vg (N:=["at", "gone"]) (nt:=1) (cap:=[3]) sc_can_be_left_out.nd (i:=4) rfl 'e' rfl (kb (names:=(qe qG).names) rfl 'b') (jt (names:=(qe qG).names) (N:=jp) rfl rfl 'b') (kf rfl Z.z_range 'n') (λfp L s1 H1=>(qu (i:=0) (show aJ (["at", "gone"]:List Str) from by decide +kernel) rfl 'e')) (λfp L s1 H1=>(uE (qM (wF rfl hr.units) (vr 0) (vr 1)))) (λfp L s1 H1=>(vr 0)))
  (kO [4] (qm (qo (uq qc3 (ql ok_bar_of hr 'c' qH rfl (qb (jw (N:=["at", "seen"]) (nt:=1) (cap:=[0]) rfl (kb (names:=(qe qG).names) rfl 'b') (jt (names:=(qe qG).names) (N:=jp) rfl rfl 'b') (qS rfl (vr 4)) (λfp L s1 H1=>(qu (i:=0) (show aJ (["at", "seen"]:List Str) from by decide +kernel) rfl 'e')) (λfp L s1 H1=>qU) (λfp L s1 H1=>(qZ rfl hr.units (vr 1) (vr 0) 'f'))) (qb (vr 1) (qb (jw (N:=["at", "numbers"]) (nt:=1) (cap:=[2]) rfl (kb (names:=(qe qG).names) rfl 'b') (jt (names:=(qe qG).names) (N:=jp) rfl rfl 'b') (qS rfl (vr 4)) (λfp L s1 H1=>(qu (i:=0) (show aJ (["at", "numbers"]:List Str) from by decide +kernel) rfl 'e')) (λfp L s1 H1=>qU) (λfp L s1 H1=>(qZ rfl hr.units (vr 1) (vr 0) 'f'))) qf)))) Vx)))))
abbrev km:Stmt:=top 53
abbrev wk:List Str:=["choices", "count", "found", "choice", "start"]
theorem sc_one_longer:FnScope wk ["choices", "count"] (qe km):=fsc
noncomputable def yc:Sl->Out (Fl×Sl):=(qW (jQ 2 (zE qD))
  (qW (VF (jY (qd 0)) (gNm 3)
  (qW (jQ 4 (dIf (qV (d2 gtD (d1 jy (qd 3)) 'k')) (d2 kE (d2 ixD (qd 3) (d1 qfy (dC (.int 1)))) (dC (.int 1))) 'k'))
  (vd (JU 2 qeu (jg [2] 1 [3] (zj (qd 4) (qd 1)) (gNm 0) ftT (d2 kE (qd 1) (yJ (qc (qd 0) qD))))))))
  (jR (qd 2))))
noncomputable abbrev kZ:List D->Out 'i':=ko wk [.val,.val] (yc)
abbrev xT P w K mg base cv:=DefOk P w K mg base cv 1 "one_longer" ["choices", "count"] [.val,.val] .sh (kZ)
theorem KG (Z:Zt K mg cv ca) (T:jb K mg "one_longer" km ["choices", "count"]):xT P w K mg base cv:=
 qE (k:=0) (own':=[]) (fb:=yc) T sc_one_longer λcdv f A outer s H E hr=>(qg (kq (i:=2) sc_one_longer.nd rfl 'e' (kD qf))
  (qg (vc aR rfl (qS rfl (vr 0)) (qu (i:=3) sc_one_longer.nd rfl (bH rfl))
  (qg (qF (i:=4) sc_one_longer.nd rfl 'e' (WZ (qM qeb (qB (js rfl) rfl Z.z_len jo (vr 3)) qr) (jh (jX rfl) (qZ rfl hr.units (vr 3) (qd5 Gp qr) 'f') qr) qr))
  (qm (jL (VO (i:=2) rfl 'e' 'c' (jw (N:=["at", "choice"]) (nt:=1) (cap:=[3]) rfl (kb (names:=(qe km).names) rfl 'b') (jt (names:=(qe km).names) (N:=wk) rfl rfl 'b') (XY rfl Z.z_range (vr 4) (vr 1)) (λfp L s1 H1=>(qu (i:=0) (show aJ (["at", "choice"]:List Str) from by decide +kernel) rfl 'e')) (λfp L s1 H1=>qU) (λfp L s1 H1=>(jh (jX rfl) (vr 1) (vy (qb (vr 0) qf))))))))))
  (kO [2] (qm (qo (vr 2))))))
abbrev yu:Stmt:=top 54
abbrev gt:List Str:=["seen", "room", "numbers", "choices", "found"]
theorem sc_fewest:FnScope gt ["seen", "room", "numbers"] (qe yu):=fsc
noncomputable def KH:Sl->Out (Fl×Sl):=(qW (jQ 3 (zE λρ=>.ok ([(.tup [])],ρ)))
  (qW (jQ 4 (zE qD))
  (qW (jz (qV (d2 eqD (d1 jy (qd 4)) 'k'))
  (qW (jQ 4 (jg [] 1 [0,1,2] (jY (qd 3)) (gNm 0) (xq (qt [.vl,.vl,.vl,.vl] jq (qc (qd 1) (qc (qd 2) (qc (qd 3) (qc (qd 0) qD)))))) (qd 0)))
  (jQ 3 (qt [.vl,.vl] kZ (qc (qd 3) (qc (d1 jy (qd 0)) qD))))) 20)
  (jR (qd 4)))))
noncomputable abbrev gu:List D->Out 'i':=ko gt [.val,.val,.val] (KH)
abbrev Qv P w K mg base cv:=DefOk P w K mg base cv 6 "fewest" ["seen", "room", "numbers"] [.val,.val,.val] .sh (gu)
theorem qan (Z:Zt K mg cv ca) (T:jb K mg "fewest" yu ["seen", "room", "numbers"]) (ok_can_be_left_out:wj P w K mg base cv) (ok_one_longer:xT P w K mg base cv):Qv P w K mg base cv:=
 qE (k:=5) (own':=[]) (fb:=KH) T sc_fewest λcdv f A outer s H E hr=>(qg (qF (i:=3) sc_fewest.nd rfl 'e' (GQ 7 rfl))
  (qg (qF (i:=4) sc_fewest.nd rfl 'e' (kD qf))
  (qg (gI 20 aR (qM (uA rfl hr.units) (qB (js rfl) rfl Z.z_len jo (vr 4)) qr)
  (qg (vg (N:=["gone", "seen", "room", "numbers"]) (nt:=1) (cap:=[0,1,2]) sc_fewest.nd (i:=4) rfl 'e' rfl (kb (names:=(qe yu).names) rfl 'b') (jt (names:=(qe yu).names) (N:=gt) rfl rfl 'b') (qS rfl (vr 3)) (λfp L s1 H1=>(qu (i:=0) (show aJ (["gone", "seen", "room", "numbers"]:List Str) from by decide +kernel) rfl 'e')) (λfp L s1 H1=>(uE (jv rfl (ql ok_can_be_left_out hr 'c' yD rfl (qb (vr 1) (qb (vr 2) (qb (vr 3) (qb (vr 0) qf))))) (λ_=>rfl)))) (λfp L s1 H1=>(vr 0)))
  (kO [4] (qm (qF (i:=3) sc_fewest.nd rfl 'e' (ql ok_one_longer hr 'c' qH rfl (qb (vr 3) (qb 'n' qf))))))))
  (qm (qo (vr 4))))))
abbrev yv:Stmt:=top 55
abbrev Jy:List Str:=["words", "look", "room", "numbers", "seen"]
theorem sc_left_out:FnScope Jy ["words", "look", "room", "numbers"] (qe yv):=fsc
noncomputable def Jz:Sl->Out (Fl×Sl):=(qW (jQ 4 (qt [.vl,.vl,.vl,.vl] ki (qc (qd 0) (qc (qd 1) (qc (qd 2) (qc (qd 3) qD))))))
  (jR (d2 ixD (qt [.vl,.vl,.vl] gu (qc (qd 4) (qc (qd 2) (qc (qd 3) qD)))) 'k')))
noncomputable abbrev yw:List D->Out 'i':=ko Jy [.val,.val,.val,.val] (Jz)
abbrev Qw P w K mg base cv:=DefOk P w K mg base cv 7 "left_out" ["words", "look", "room", "numbers"] [.val,.val,.val,.val] .sh (yw)
theorem UC (Z:Zt K mg cv ca) (T:jb K mg "left_out" yv ["words", "look", "room", "numbers"]) (ok_told_pairs:ky P w K mg base cv) (ok_fewest:Qv P w K mg base cv):Qw P w K mg base cv:=
 qE (k:=6) (own':=[]) (fb:=Jz) T sc_left_out λcdv f A outer s H E hr=>(qg (qF (i:=4) sc_left_out.nd rfl 'e' (ql ok_told_pairs hr 'c' qH rfl (qb (vr 0) (qb (vr 1) (qb (vr 2) (qb (vr 3) qf))))))
  (qm (qo (qZ rfl hr.units (ql ok_fewest hr 'c' qH rfl (qb (vr 4) (qb (vr 2) (qb (vr 3) qf)))) qr 'f'))))
abbrev qO:Stmt:=top 52
abbrev jf:List Str:=["seen", "room", "numbers", "gone", "kept"]
theorem sc_can_be_left_outL:FnScope jf ["seen", "room", "numbers", "gone"] (qe qO):=fsc
noncomputable def kA:Sl->Out (Fl×Sl):=(qW (jQ 4 (jg [2] 1 [3] (jD (d1 jy (qd 0))) (gNm 0) (qV (d2 gf (qd 0) (qd 1))) (qd 0)))
  (jR (d2 qed (qt [.vl,.vl,.vl] xO (qc (jg [2] 1 [0] (jY (qd 4)) (gNm 0) ftT (d2 ixD (qd 1) (qd 0))) (qc (qd 1) (qc (jg [2] 1 [2] (jY (qd 4)) (gNm 0) ftT (d2O 1 ixD (qd 0))) qD)))) (dC .non))))
noncomputable abbrev qP:List D->Out 'i':=ko jf [.val,.val,.io,.val] (kA)
abbrev vJ P w K mg base cv:=DefOk P w K mg base cv 5 "can_be_left_out" ["seen", "room", "numbers", "gone"] [.val,.val,.io,.val] .sh (qP)
theorem xf (Z:Zt K mg cv ca) (T:jb K mg "can_be_left_out" qO ["seen", "room", "numbers", "gone"]) (ok_bar_of:xP P w K mg base cv):vJ P w K mg base cv:=
 qE (k:=4) (own':=[2]) (fb:=kA) T sc_can_be_left_outL λcdv f A outer s H E hr=>(qg (vg (N:=["at", "gone"]) (nt:=1) (cap:=[3]) sc_can_be_left_outL.nd (i:=4) rfl 'e' rfl (kb (names:=(qe qO).names) rfl 'b') (jt (names:=(qe qO).names) (N:=jf) rfl rfl 'b') (kf rfl Z.z_range 'n') (λfp L s1 H1=>(qu (i:=0) (show aJ (["at", "gone"]:List Str) from by decide +kernel) rfl 'e')) (λfp L s1 H1=>(uE (qM (wF rfl hr.units) (vr 0) (vr 1)))) (λfp L s1 H1=>(vr 0)))
  (kO [4] (qm (qo (uq qc3 (ql ok_bar_of hr 'c' qH rfl (qb (jw (N:=["at", "seen"]) (nt:=1) (cap:=[0]) rfl (kb (names:=(qe qO).names) rfl 'b') (jt (names:=(qe qO).names) (N:=jf) rfl rfl 'b') (qS rfl (vr 4)) (λfp L s1 H1=>(qu (i:=0) (show aJ (["at", "seen"]:List Str) from by decide +kernel) rfl 'e')) (λfp L s1 H1=>qU) (λfp L s1 H1=>(qZ rfl hr.units (vr 1) (vr 0) 'f'))) (qb (vr 1) (qb (jw (N:=["at", "numbers"]) (nt:=1) (cap:=[2]) rfl (kb (names:=(qe qO).names) rfl 'b') (jt (names:=(qe qO).names) (N:=jf) rfl rfl 'b') (qS rfl (vr 4)) (λfp L s1 H1=>(qu (i:=0) (show aJ (["at", "numbers"]:List Str) from by decide +kernel) rfl 'e')) (λfp L s1 H1=>qU) (λfp L s1 H1=>(GR (i:=1) rfl hr.units rfl (by first | exact bH (bH rfl) | exact bH 'e') 'c' (vr 0) 'f'))) qf)))) Vx)))))
abbrev kB:Stmt:=top 56
abbrev vK:List Str:=["seen", "room", "numbers", "gone", "found", "place", "at"]
theorem sc_least_without:FnScope vK ["seen", "room", "numbers", "gone"] (qe kB):=fsc
noncomputable def vL:Sl->Out (Fl×Sl):=(qW (jQ 4 (d1 VP (qd 2)))
  (qW (VF (qaa (qd 3)) (kU 2 (qL (gNm 5) (qL (gNm 6) kT)))
  (qW (yL 4 'k' (qd 6))
  (jz (QV (xq (qt [.vl,.vl,.sl 4,.vl] qP (qc (qd 0) (qc (qd 1) (kG (qc (YD (qd 3) (g6 (d2 kE (qd 5) (dC (.int 1)))) g7 g7) qD)))))))
  (yL 4 (d2 kE (d2O 4 ixD (qd 6)) (dC (.int 1))) (qd 6)) 20)))
  (jR (d1 wC (qd 4)))))
noncomputable abbrev vM:List D->Out 'i':=ko vK [.val,.val,.val,.val] (vL)
abbrev ut P w K mg base cv:=DefOk P w K mg base cv 6 "least_without" ["seen", "room", "numbers", "gone"] [.val,.val,.val,.val] .sh (vM)
theorem zY (Z:Zt K mg cv ca) (T:jb K mg "least_without" kB ["seen", "room", "numbers", "gone"]) (ok_can_be_left_outL:vJ P w K mg base cv):ut P w K mg base cv:=
 qE (k:=5) (own':=[]) (fb:=vL) T sc_least_without λcdv f A outer s H E hr=>(qg (kq (i:=4) sc_least_without.nd rfl 'e' (jN (Uf rfl) rfl Z.z_list Qd (vr 2)))
  (qg (vc aR rfl (qab rfl rfl Z.z_enumerate (vr 3)) (uC rfl rfl (jj (qu (i:=5) sc_least_without.nd rfl 'e') (jj (qu (i:=6) sc_least_without.nd rfl 'e') vR)))
  (qg (Qa (n:=4) rfl 'e' 'c' qr (vr 6))
  (qm (gI 20 aR (jP (jv rfl (ql ok_can_be_left_outL hr 'c' qH rfl (qb (vr 0) (qb (vr 1) (jx (i:=4) rfl 'e' 'c' (qb (qbW rfl (vr 3) (qbV (jh (jX rfl) (vr 5) qr)) YE YE) qf))))) (λ_=>rfl)))
  (qm (Qa (n:=4) rfl 'e' 'c' (jh (jX rfl) (GR (i:=4) rfl hr.units rfl 'e' 'c' (vr 6) 'f') qr) (vr 6)))))))
  (qm (qo (jN (yj rfl) rfl Z.z_tuple ku (ka (i:=4) rfl 'e' 'c'))))))
abbrev yx:Stmt:=top 57
abbrev KI:List Str:=["words", "look", "room", "numbers", "seen"]
theorem sc_mended:FnScope KI ["words", "look", "room", "numbers"] (qe yx):=fsc
noncomputable def YX:Sl->Out (Fl×Sl):=(qW (jQ 4 (qt [.vl,.vl,.vl,.vl] ki (qc (qd 0) (qc (qd 1) (qc (qd 2) (qc (qd 3) qD))))))
  (jR (d1 qcj (jg [] 1 [4,2,3] (jY (qt [.vl,.vl,.vl] gu (qc (qd 4) (qc (qd 2) (qc (qd 3) qD))))) (gNm 0) ftT (qt [.vl,.vl,.vl,.vl] vM (qc (qd 1) (qc (qd 2) (qc (qd 3) (qc (qd 0) qD)))))))))
noncomputable abbrev xU:List D->Out 'i':=ko KI [.val,.val,.val,.val] (YX)
abbrev Wr P w K mg base cv:=DefOk P w K mg base cv 7 "mended" ["words", "look", "room", "numbers"] [.val,.val,.val,.val] .sh (xU)
theorem qao (Z:Zt K mg cv ca) (T:jb K mg "mended" yx ["words", "look", "room", "numbers"]) (ok_told_pairs:ky P w K mg base cv) (ok_fewest:Qv P w K mg base cv) (ok_least_without:ut P w K mg base cv):Wr P w K mg base cv:=
 qE (k:=6) (own':=[]) (fb:=YX) T sc_mended λcdv f A outer s H E hr=>(qg (qF (i:=4) sc_mended.nd rfl (bH rfl) (ql ok_told_pairs hr 'c' qH rfl (qb (vr 0) (qb (vr 1) (qb (vr 2) (qb (vr 3) qf))))))
  (qm (qo (qB (qeM rfl rfl hr.units) rfl Z.z_min qdd (jw (N:=["gone", "seen", "room", "numbers"]) (nt:=1) (cap:=[4,2,3]) rfl (kb (names:=(qe yx).names) rfl 'b') (jt (names:=(qe yx).names) (N:=KI) rfl rfl 'b') (qS rfl (ql ok_fewest hr 'c' qH rfl (qb (vr 4) (qb (vr 2) (qb (vr 3) qf))))) (λfp L s1 H1=>(qu (i:=0) (show aJ (["gone", "seen", "room", "numbers"]:List Str) from by decide +kernel) rfl 'e')) (λfp L s1 H1=>qU) (λfp L s1 H1=>(ql ok_least_without hr 'c' yD rfl (qb (vr 1) (qb (vr 2) (qb (vr 3) (qb (vr 0) qf)))))))))))
abbrev yy:Stmt:=top 59
abbrev JA:List Str:=["_law_script", "_law_k"]
theorem UD:FnScope JA ["_law_script", "_law_k"] (qe yy):=fsc
noncomputable def wM:Sl->Out (Fl×Sl):=(qW (sIf (qV (d2 ltD (qd 1) (d1 jy (qd 0)))) (jR (d2 ixD (qd 0) (qd 1))) jV)
  (qW (sIf (qV (d2 eqD (qd 0) (zE qD))) (jR 'k') jV)
  (jR (d2 kE (d2 qfw (d2 ixD (qd 0) (d2 zd (qd 1) (d1 jy (qd 0)))) (dC (.int 31))) (qd 1)))))
noncomputable abbrev zt:List D->Out 'i':=ko JA [.val,.val] (wM)
abbrev Qx P w K mg base cv:=DefOk P w K mg base cv 1 "_law_cell_at" ["_law_script", "_law_k"] [.val,.val] .sh (zt)
theorem UE (Z:Zt K mg cv ca) (T:jb K mg "_law_cell_at" yy ["_law_script", "_law_k"]):Qx P w K mg base cv:=
 qE (k:=0) (own':=[]) (fb:=wM) T UD λcdv f A outer s H E hr=>(qg (jG (qM qig (vr 1) 'n') (qm (qo (qZ rfl hr.units (vr 0) (vr 1) 'f'))) qY)
  (qg (jG (qM (uA rfl hr.units) (vr 0) (kD qf)) (qm (qo qr)) qY)
  (qm (qo (jh (jX rfl) (jh ZT (qZ rfl hr.units (vr 0) (jh vQ (vr 1) 'n') 'f') qr) (vr 1))))))
abbrev gx:Stmt:=top 60
abbrev YY:List Str:=["_law_script", "_law_k", "_law_many", "_law_drawn"]
theorem sc_Lmixed:FnScope YY ["_law_script", "_law_k", "_law_many"] (qe gx):=fsc
noncomputable def KJ:Sl->Out (Fl×Sl):=(qW (jQ 3 (d2 zd (d2 kE (d2 kE (d2 qfw (qt [.vl,.vl] zt (qc (qd 0) (qc (qd 1) qD))) (dC (.int 1103515245))) (d2 qfw (dC (.int 7919)) (qd 1))) (dC (.int 12345))) (dC (.int 2147483647))))
  (jR (d2 zd (d2 zd (d2 zd (d2 qiC (qd 3) (dC (.int 5))) (dC (.int 2147483647))) (dC (.int 999983))) (qd 2))))
noncomputable abbrev KK:List D->Out 'i':=ko YY [.val,.val,.val] (KJ)
abbrev Ws P w K mg base cv:=DefOk P w K mg base cv 2 "_law_mixed" ["_law_script", "_law_k", "_law_many"] [.val,.val,.val] .sh (KK)
theorem qap (Z:Zt K mg cv ca) (T:jb K mg "_law_mixed" gx ["_law_script", "_law_k", "_law_many"]) (ok_Lcell_at:Qx P w K mg base cv):Ws P w K mg base cv:=
 qE (k:=1) (own':=[]) (fb:=KJ) T sc_Lmixed λcdv f A outer s H E hr=>(qg (qF (i:=3) sc_Lmixed.nd rfl 'e' (jh vQ (jh (jX rfl) (jh (jX rfl) (jh ZT (ql ok_Lcell_at hr 'c' qH rfl (qb (vr 0) (qb (vr 1) qf))) qr) (jh ZT qr (vr 1))) qr) qr))
  (qm (qo (jh vQ (jh vQ (jh vQ (jh qgE (vr 3) qr) qr) qr) (vr 2)))))
abbrev KL:Stmt:=top 61
abbrev qaq:List Str:=["_law_script", "_law_town", "_law_many"]
theorem qcp:FnScope qaq ["_law_script", "_law_town", "_law_many"] (qe KL):=fsc
noncomputable def UF:Sl->Out (Fl×Sl):=(qW (vd (JU 1 VN 'k'))
  (jR (qt [.vl,.vl,.vl] KK (qc (qd 0) (qc (d1 jy (qd 1)) (qc (qd 2) qD))))))
noncomputable abbrev jZ:List D->Out 'i':=ko qaq [.val,.io,.val] (UF)
abbrev yz P w K mg base cv:=DefOk P w K mg base cv 3 "_law_draw" ["_law_script", "_law_town", "_law_many"] [.val,.io,.val] .sh (jZ)
theorem qcq (Z:Zt K mg cv ca) (T:jb K mg "_law_draw" KL ["_law_script", "_law_town", "_law_many"]) (ok_Lmixed:Ws P w K mg base cv):yz P w K mg base cv:=
 qE (k:=2) (own':=[1]) (fb:=UF) T qcp λcdv f A outer s H E hr=>(qg (jL (uG (i:=1) rfl rfl 'e' 'c' qr))
  (qm (qo (ql ok_Lmixed hr 'c' qH rfl (qb (vr 0) (qb (qB (js rfl) rfl Z.z_len jo (ka (i:=1) rfl 'e' 'c')) (qb (vr 2) qf)))))))
abbrev KM:Stmt:=top 62
abbrev qar:List Str:=["_law_script", "_law_town", "_law_some"]
theorem qcr:FnScope qar ["_law_script", "_law_town", "_law_some"] (qe KM):=fsc
noncomputable def UG:Sl->Out (Fl×Sl):=(jR (d2 ixD (qd 2) (qt [.vl,.sl 1,.vl] jZ (qc (qd 0) (kG (qc (d1 jy (qd 2)) qD))))))
noncomputable abbrev Qy:List D->Out 'i':=ko qar [.val,.io,.val] (UG)
abbrev KN P w K mg base cv:=DefOk P w K mg base cv 4 "_law_pick" ["_law_script", "_law_town", "_law_some"] [.val,.io,.val] .sh (Qy)
theorem qcs (Z:Zt K mg cv ca) (T:jb K mg "_law_pick" KM ["_law_script", "_law_town", "_law_some"]) (ok_Ldraw:yz P w K mg base cv):KN P w K mg base cv:=
 qE (k:=3) (own':=[1]) (fb:=UG) T qcr λcdv f A outer s H E hr=>(qm (qo (qZ rfl hr.units (vr 2) (ql ok_Ldraw hr 'c' qH rfl (qb (vr 0) (jx (i:=1) rfl 'e' 'c' (qb (qB (js rfl) rfl Z.z_len jo (vr 2)) qf)))) 'f')))
abbrev zu:Stmt:=top 63
abbrev UH:List Str:=["_law_script", "_law_town", "_law_letters_here", "_law_most"]
theorem qct:FnScope UH ["_law_script", "_law_town", "_law_letters_here", "_law_most"] (qe zu):=fsc
noncomputable def UI:Sl->Out (Fl×Sl):=(jR (d1 (GK "") (jg [1] 1 [0,1,2] (jD (d2 kE (dC (.int 1)) (qt [.vl,.sl 1,.vl] jZ (qc (qd 0) (kG (qc (qd 3) qD)))))) (gNm 0) ftT (qt [.vl,.sl 2,.vl] Qy (qc (qd 1) (kG (qc (qd 3) qD)))))))
noncomputable abbrev KO:List D->Out 'i':=ko UH [.val,.io,.val,.val] (UI)
abbrev YZ P w K mg base cv:=DefOk P w K mg base cv 5 "_law_word" ["_law_script", "_law_town", "_law_letters_here", "_law_most"] [.val,.io,.val,.val] .sh (KO)
theorem qcu (Z:Zt K mg cv ca) (T:jb K mg "_law_word" zu ["_law_script", "_law_town", "_law_letters_here", "_law_most"]) (ok_Ldraw:yz P w K mg base cv) (ok_Lpick:KN P w K mg base cv):YZ P w K mg base cv:=
 qE (k:=4) (own':=[1]) (fb:=UI) T qct λcdv f A outer s H E hr=>(qm (qo (qeF rfl (jw (N:=["_law_k", "_law_script", "_law_town", "_law_letters_here"]) (nt:=1) (cap:=[0,1,2]) rfl (kb (names:=(qe zu).names) rfl 'b') (jt (names:=(qe zu).names) (N:=UH) rfl rfl 'b') (kf rfl Z.z_range (jh (jX rfl) qr (ql ok_Ldraw hr 'c' qH rfl (qb (vr 0) (jx (i:=1) rfl (bH 'e') 'c' (qb (vr 3) qf)))))) (λfp L s1 H1=>(qu (i:=0) (show aJ (["_law_k", "_law_script", "_law_town", "_law_letters_here"]:List Str) from by decide +kernel) rfl 'e')) (λfp L s1 H1=>qU) (λfp L s1 H1=>(ql ok_Lpick hr 'c' yD rfl (qb (vr 1) (jx (i:=2) rfl (by first | exact bH (bH rfl) | exact bH 'e') 'c' (qb (vr 3) qf)))))))))
abbrev gy:Stmt:=top 64
abbrev Xa:List Str:=["_law_script", "_law_town", "_law_most", "_law_letters_here", "_law_made", "_law_k", "_law_word_here"]
theorem sc_Lwords:FnScope Xa ["_law_script", "_law_town", "_law_most"] (qe gy):=fsc
noncomputable def KP:Sl->Out (Fl×Sl):=(qW (jQ 3 (qt [.vl,.sl 1,.vl] Qy (qc (qd 0) (kG (qc (zE λρ=>.ok ([(.lst [(.str "a"),(.str "b")]),(.lst [(.str "a"),(.str "b"),(.str "c")]),(.lst [(.str "a"),(.str "b"),(.str "c"),(.str "d")]),(.lst [(.str "k"),(.str "m"),(.str "z"),(.str "a"),(.str "e")])],ρ)) qD)))))
  (qW (jQ 4 (zE qD))
  (qW (VF (jD (d2 kE (dC (.int 1)) (qt [.vl,.sl 1,.vl] jZ (qc (qd 0) (kG (qc (qd 2) qD)))))) (gNm 5)
  (qW (jQ 6 (qt [.vl,.sl 1,.vl,.vl] KO (qc (qd 0) (kG (qc (qd 3) (qc (dC (.int 6)) qD))))))
  (sIf (qV (d2 gf (qd 6) (qd 4))) (vd (JU 4 VN (qd 6))) jV)))
  (jR (d1 wC (qd 4))))))
noncomputable abbrev KQ:List D->Out 'i':=ko Xa [.val,.io,.val] (KP)
abbrev Wt P w K mg base cv:=DefOk P w K mg base cv 6 "_law_words" ["_law_script", "_law_town", "_law_most"] [.val,.io,.val] .sh (KQ)
theorem qas (Z:Zt K mg cv ca) (T:jb K mg "_law_words" gy ["_law_script", "_law_town", "_law_most"]) (ok_Ldraw:yz P w K mg base cv) (ok_Lpick:KN P w K mg base cv) (ok_Lword:YZ P w K mg base cv):Wt P w K mg base cv:=
 qE (k:=5) (own':=[1]) (fb:=KP) T sc_Lwords λcdv f A outer s H E hr=>(qg (qF (i:=3) sc_Lwords.nd rfl 'e' (ql ok_Lpick hr 'c' qH rfl (qb (vr 0) (jx (i:=1) rfl 'e' 'c' (qb (GQ 16 rfl) qf)))))
  (qg (kq (i:=4) sc_Lwords.nd rfl 'e' (kD qf))
  (qg (vc aR rfl (kf rfl Z.z_range (jh (jX rfl) qr (ql ok_Ldraw hr 'c' qH rfl (qb (vr 0) (jx (i:=1) rfl 'e' 'c' (qb (vr 2) qf)))))) (qu (i:=5) sc_Lwords.nd rfl 'e')
  (qg (qF (i:=6) sc_Lwords.nd rfl 'e' (ql ok_Lword hr 'c' qH rfl (qb (vr 0) (jx (i:=1) rfl 'e' 'c' (qb (vr 3) (qb qr qf))))))
  (qm (jG (qM (wF rfl hr.units) (vr 6) (ka (i:=4) rfl 'e' 'c')) (qm (jL (uG (i:=4) rfl rfl 'e' 'c' (vr 6)))) qY))))
  (qm (qo (jN (yj rfl) rfl Z.z_tuple ku (ka (i:=4) rfl 'e' 'c')))))))
abbrev KR:Stmt:=top 65
abbrev qat:List Str:=["_law_script", "_law_town"]
theorem qcv:FnScope qat ["_law_script", "_law_town"] (qe KR):=fsc
noncomputable def UJ:Sl->Out (Fl×Sl):=(jR (yJ (qc (d2 Vy (qt [.vl,.sl 1,.vl] jZ (qc (qd 0) (kG (qc (dC (.int 6)) qD)))) (dC (.int 3))) (qc (d2 Vy (qt [.vl,.sl 1,.vl] jZ (qc (qd 0) (kG (qc (dC (.int 6)) qD)))) (dC (.int 3))) qD))))
noncomputable abbrev UK:List D->Out 'i':=ko qat [.val,.io] (UJ)
abbrev Xb P w K mg base cv:=DefOk P w K mg base cv 4 "_law_look" ["_law_script", "_law_town"] [.val,.io] .sh (UK)
theorem qcw (Z:Zt K mg cv ca) (T:jb K mg "_law_look" KR ["_law_script", "_law_town"]) (ok_Ldraw:yz P w K mg base cv):Xb P w K mg base cv:=
 qE (k:=3) (own':=[1]) (fb:=UJ) T qcv λcdv f A outer s H E hr=>(qm (qo (vy (qb (jh gH (ql ok_Ldraw hr 'c' qH rfl (qb (vr 0) (jx (i:=1) rfl 'e' 'c' (qb qr qf)))) qr) (qb (jh gH (ql ok_Ldraw hr 'c' qH rfl (qb (vr 0) (jx (i:=1) rfl 'e' 'c' (qb qr qf)))) qr) qf)))))
abbrev Zl:Stmt:=top 66
abbrev qeT:List Str:=["_law_word_here", "_law_place", "_law_spots"]
theorem sc_Lat:FnScope qeT ["_law_word_here", "_law_place"] (qe Zl):=fsc
noncomputable def qgP:Sl->Out (Fl×Sl):=(qW (jQ 2 (jg [] 1 [1,0] (jD (d1 jy (qd 0))) (gNm 0) (dOr (qV (d2 eqD (qd 0) (qd 1))) (qV (d2 eqD (qd 0) (d2 kE (qd 1) (d1 jy (qd 2)))))) (qd 0)))
  (qW (sIf (qV (d2 neD (qd 2) (zE qD))) (jR (d2 ixD (qd 0) (d2 ixD (qd 2) 'k'))) jV)
  (jR (dIf (qV (d2 geD (qd 1) 'k')) (d2 ixD (qd 0) (d1 qfy (dC (.int 1)))) (d2 ixD (qd 0) 'k')))))
noncomputable abbrev qau:List D->Out 'i':=ko qeT [.val,.val] (qgP)
abbrev qdi P w K mg base cv:=DefOk P w K mg base cv 1 "_law_at" ["_law_word_here", "_law_place"] [.val,.val] .sh (qau)
theorem qgQ (Z:Zt K mg cv ca) (T:jb K mg "_law_at" Zl ["_law_word_here", "_law_place"]):qdi P w K mg base cv:=
 qE (k:=0) (own':=[]) (fb:=qgP) T sc_Lat λcdv f A outer s H E hr=>(qg (vg (N:=["_law_at_here", "_law_place", "_law_word_here"]) (nt:=1) (cap:=[1,0]) sc_Lat.nd (i:=2) rfl 'e' rfl (kb (names:=(qe Zl).names) rfl 'b') (jt (names:=(qe Zl).names) (N:=qeT) rfl rfl 'b') (kf rfl Z.z_range 'n') (λfp L s1 H1=>(qu (i:=0) (show aJ (["_law_at_here", "_law_place", "_law_word_here"]:List Str) from by decide +kernel) rfl 'e')) (λfp L s1 H1=>(uE (PW.pt (yI (qM (uA rfl hr.units) (vr 0) (vr 1)) (va (qM (uA rfl hr.units) (vr 0) (jh (jX rfl) (vr 1) (qB (js rfl) rfl Z.z_len jo (vr 2))))))))) (λfp L s1 H1=>(vr 0)))
  (kO [2] (qg (jG (qM (QU rfl hr.units) (vr 2) (kD qf)) (qm (qo (qZ rfl hr.units (vr 0) (qZ rfl hr.units (vr 2) qr 'f') 'f'))) qY)
  (qm (qo (WZ (qM qec (vr 1) qr) (qZ rfl hr.units (vr 0) (qd5 Gp qr) 'f') (qZ rfl hr.units (vr 0) qr 'f')))))))
abbrev zv:Stmt:=top 67
abbrev KS:List Str:=["_law_words_here", "_law_look_here"]
theorem qcx:FnScope KS ["_law_words_here", "_law_look_here"] (qe zv):=fsc
noncomputable def UL:Sl->Out (Fl×Sl):=(jR (jg [] 1 [1] (jY (qd 0)) (gNm 0) ftT (yJ (qc (qt [.vl,.vl] qau (qc (qd 0) (qc (d2 ixD (qd 1) 'k') qD))) (qc (qt [.vl,.vl] qau (qc (qd 0) (qc (d2 ixD (qd 1) (dC (.int 1))) qD))) qD)))))
noncomputable abbrev Qz:List D->Out 'i':=ko KS [.val,.val] (UL)
abbrev KU P w K mg base cv:=DefOk P w K mg base cv 2 "_law_seen" ["_law_words_here", "_law_look_here"] [.val,.val] .sh (Qz)
theorem qcy (Z:Zt K mg cv ca) (T:jb K mg "_law_seen" zv ["_law_words_here", "_law_look_here"]) (ok_Lat:qdi P w K mg base cv):KU P w K mg base cv:=
 qE (k:=1) (own':=[]) (fb:=UL) T qcx λcdv f A outer s H E hr=>(qm (qo (jw (N:=["_law_word_here", "_law_look_here"]) (nt:=1) (cap:=[1]) rfl (kb (names:=(qe zv).names) rfl 'b') (jt (names:=(qe zv).names) (N:=KS) rfl rfl 'b') (qS rfl (vr 0)) (λfp L s1 H1=>(qu (i:=0) (show aJ (["_law_word_here", "_law_look_here"]:List Str) from by decide +kernel) rfl 'e')) (λfp L s1 H1=>qU) (λfp L s1 H1=>(vy (qb (ql ok_Lat hr 'c' yD rfl (qb (vr 0) (qb (qZ rfl hr.units (vr 1) qr 'f') qf))) (qb (ql ok_Lat hr 'c' yD rfl (qb (vr 0) (qb (qZ rfl hr.units (vr 1) qr 'f') qf))) qf)))))))
abbrev yA:Stmt:=top 68
abbrev JB:List Str:=["_law_words_here", "_law_look_here", "_law_made", "_law_pair"]
theorem sc_Lletters:FnScope JB ["_law_words_here", "_law_look_here"] (qe yA):=fsc
noncomputable def zw:Sl->Out (Fl×Sl):=(qW (jQ 2 (zE qD))
  (qW (VF (jY (qt [.vl,.vl] Qz (qc (qd 0) (qc (qd 1) qD)))) (gNm 3)
  (vd (JU 2 qeu (d1 VP (qd 3)))))
  (jR (d1 vV (qd 2)))))
noncomputable abbrev yB:List D->Out 'i':=ko JB [.val,.val] (zw)
abbrev QA P w K mg base cv:=DefOk P w K mg base cv 3 "_law_letters" ["_law_words_here", "_law_look_here"] [.val,.val] .sh (yB)
theorem UM (Z:Zt K mg cv ca) (T:jb K mg "_law_letters" yA ["_law_words_here", "_law_look_here"]) (ok_Lseen:KU P w K mg base cv):QA P w K mg base cv:=
 qE (k:=2) (own':=[]) (fb:=zw) T sc_Lletters λcdv f A outer s H E hr=>(qg (kq (i:=2) sc_Lletters.nd rfl 'e' (kD qf))
  (qg (vc aR rfl (qS rfl (ql ok_Lseen hr 'c' qH rfl (qb (vr 0) (qb (vr 1) qf)))) (qu (i:=3) sc_Lletters.nd rfl 'e')
  (qm (jL (VO (i:=2) rfl 'e' 'c' (jN (Uf rfl) rfl Z.z_list Qd (vr 3))))))
  (qm (qo (zi rfl rfl rfl Z.z_sorted uJ rfl Z.z_set YQ (ka (i:=2) rfl 'e' 'c'))))))
abbrev Zm:Stmt:=top 69
abbrev qcz:List Str:=["_law_words_here", "_law_look_here", "_law_room", "_law_book"]
theorem qgR:FnScope qcz ["_law_words_here", "_law_look_here", "_law_room", "_law_book"] (qe Zm):=fsc
noncomputable def qeU:Sl->Out (Fl×Sl):=(jR (d1 wC (jg [] 2 [2,3] (jY (qt [.vl,.vl] Qz (qc (qd 0) (qc (qd 1) qD)))) (kU 2 (qL (gNm 0) (qL (gNm 1) kT))) ftT (d2 zd (d2 kE (d2 ixD (qd 3) (qd 0)) (d2 ixD (qd 3) (qd 1))) (qd 2)))))
noncomputable abbrev qeV:List D->Out 'i':=ko qcz [.val,.val,.val,.val] (qeU)
abbrev qdj P w K mg base cv:=DefOk P w K mg base cv 3 "_law_by" ["_law_words_here", "_law_look_here", "_law_room", "_law_book"] [.val,.val,.val,.val] .sh (qeV)
theorem qgS (Z:Zt K mg cv ca) (T:jb K mg "_law_by" Zm ["_law_words_here", "_law_look_here", "_law_room", "_law_book"]) (ok_Lseen:KU P w K mg base cv):qdj P w K mg base cv:=
 qE (k:=2) (own':=[]) (fb:=qeU) T qgR λcdv f A outer s H E hr=>(qm (qo (jN (yj rfl) rfl Z.z_tuple ku (jw (N:=["_law_one", "_law_other", "_law_room", "_law_book"]) (nt:=2) (cap:=[2,3]) rfl (kb (names:=(qe Zm).names) rfl 'b') (jt (names:=(qe Zm).names) (N:=qcz) rfl rfl 'b') (qS rfl (ql ok_Lseen hr 'c' qH rfl (qb (vr 0) (qb (vr 1) qf)))) (λfp L s1 H1=>(uC rfl rfl (jj (qu (i:=0) (show aJ (["_law_one", "_law_other", "_law_room", "_law_book"]:List Str) from by decide +kernel) rfl 'e') (jj (qu (i:=1) (show aJ (["_law_one", "_law_other", "_law_room", "_law_book"]:List Str) from by decide +kernel) rfl 'e') vR)))) (λfp L s1 H1=>qU) (λfp L s1 H1=>(jh vQ (jh (jX rfl) (qZ rfl hr.units (vr 3) (vr 0) 'f') (qZ rfl hr.units (vr 3) (vr 1) 'f')) (vr 2)))))))
abbrev QB:Stmt:=top 70
abbrev Zn:List Str:=["_law_script", "_law_town", "_law_times", "_law_room", "_law_look_here", "_law_names", "_law_book", "_law_right", "_law_numbers", "_law_k", "_law_made", "_law_out", "_law_wrong", "_law_others"]
theorem sc_law:FnScope Zn ["_law_script"] (qe QB):=fsc
noncomputable def qeW (ca:Str->Addr):Sl->Out (Fl×Sl):=(qW (jQ 1 (zE qD))
  (qW (jQ 2 (qt [.vl,.sl 1,.vl] jZ (qc (qd 0) (kG (qc (dC (.int 4)) qD)))))
  (qW (jQ 3 (d2 kE (dC (.int 1)) (qt [.vl,.sl 1,.vl] jZ (qc (qd 0) (kG (qc (dC (.int 9)) qD))))))
  (qW (jQ 4 (qt [.vl,.sl 1] UK (qc (qd 0) (kG qD))))
  (qW (jQ 5 (qt [.vl,.sl 1,.vl] KQ (qc (qd 0) (kG (qc (dC (.int 6)) qD)))))
  (qW (jQ 6 (d1 Qc (jg [1] 1 [0,1,3] (jY (qt [.vl,.vl] yB (qc (qd 5) (qc (qd 4) qD)))) (gNm 0) ftT (yJ (qc (qd 0) (qc (qt [.vl,.sl 2,.vl] jZ (qc (qd 1) (kG (qc (qd 3) qD)))) qD))))))
  (qW (jQ 7 (qt [.vl,.vl,.vl,.vl] qeV (qc (qd 5) (qc (qd 4) (qc (qd 3) (qc (qd 6) qD))))))
  (qW (sIf (dOr (qV (d2 neD (qt [.vl,.vl,.vl,.vl] xU (qc (qd 5) (qc (qd 4) (qc (qd 3) (qc (qd 7) qD))))) (qd 7))) (qV (d2 neD (qt [.vl,.vl,.vl,.vl] yw (qc (qd 5) (qc (qd 4) (qc (qd 3) (qc (qd 7) qD))))) (yJ qD)))) (jR (dC (.bl hJ))) jV)
  (qW (jQ 8 (d1 VP (qd 7)))
  (qW (VF (jD (qd 2)) (gNm 9)
  (yL 8 (qt [.vl,.sl 1,.vl] jZ (qc (qd 0) (kG (qc (qd 3) qD)))) (qt [.vl,.sl 1,.vl] jZ (qc (qd 0) (kG (qc (d1 jy (qd 8)) qD))))))
  (qW (jQ 8 (d1 wC (qd 8)))
  (qW (jQ 10 (qt [.vl,.vl,.vl,.vl] xU (qc (qd 5) (qc (qd 4) (qc (qd 3) (qc (qd 8) qD))))))
  (qW (jQ 11 (qt [.vl,.vl,.vl,.vl] yw (qc (qd 5) (qc (qd 4) (qc (qd 3) (qc (qd 8) qD))))))
  (qW (jQ 12 (jg [1] 1 [10,8] (jD (d1 jy (qd 5))) (gNm 0) (qV (d2 neD (d2 ixD (qd 1) (qd 0)) (d2 ixD (qd 2) (qd 0)))) (qd 0)))
  (qW (jQ 13 (jg [12,1] 1 [7,8] (jD (d1 jy (qd 5))) (gNm 0) (qV (d2 neD (d2 ixD (qd 1) (qd 0)) (d2 ixD (qd 2) (qd 0)))) (qd 0)))
  (qW (sIf (dOr (qV (d2 neD (d1 jy (qd 12)) (d1 jy (qd 11)))) (qV (d2 gtD (d1 jy (qd 11)) (d1 jy (qd 13))))) (jR (dC (.bl hJ))) jV)
  (qW (sIf (QV (xq (qt [.vl,.vl,.vl,.vl,.vl] (yb ca) (qc (qd 5) (qc (qd 4) (qc (qd 3) (qc (qd 10) (qc (qt [.vl,.vl,.vl,.vl] KC (qc (qd 5) (qc (qd 4) (qc (qd 3) (qc (qd 10) qD))))) qD)))))))) (jR (dC (.bl hJ))) jV)
  (jR (d2 eqD (qt [.vl,.vl,.vl,.vl] xU (qc (qd 5) (qc (qd 4) (qc (qd 3) (qc (qd 10) qD))))) (qd 10))))))))))))))))))))
noncomputable abbrev qcA (ca:Str->Addr):List D->Out 'i':=ko Zn [.val] (qeW ca)
theorem qgT {f:Addr} {fd:iP} (Z:Zt K mg cv ca) (F:Fun K "law" "law" QB f fd) (ok_worths:Wo P w K mg base cv) (ok_is_telling:xR ca P w K mg base cv) (ok_left_out:Qw P w K mg base cv) (ok_mended:Wr P w K mg base cv) (ok_Ldraw:yz P w K mg base cv) (ok_Lwords:Wt P w K mg base cv) (ok_Llook:Xb P w K mg base cv) (ok_Lletters:QA P w K mg base cv) (ok_Lby:qdj P w K mg base cv):FnOk P w K mg base (CXk P w) 9 f fd ["_law_script"] (spD K cv [.val] .sh (qcA ca)):=
 qi1 (k:=8) (own':=[]) (fb:=qeW ca) F sc_law rfl (zD rfl) (.inl rfl) (λcdv A outer s H E hr=>(qg (kq (i:=1) sc_law.nd rfl (bH rfl) (kD qf))
  (qg (qF (i:=2) sc_law.nd rfl 'e' (ql ok_Ldraw hr 'c' qH rfl (qb (vr 0) (jx (i:=1) rfl (bH 'e') 'c' (qb qr qf)))))
  (qg (qF (i:=3) sc_law.nd rfl (bH rfl) (jh (jX rfl) qr (ql ok_Ldraw hr 'c' qH rfl (qb (vr 0) (jx (i:=1) rfl (bH 'e') 'c' (qb qr qf))))))
  (qg (qF (i:=4) sc_law.nd rfl 'e' (ql ok_Llook hr 'c' qH rfl (qb (vr 0) (jx (i:=1) rfl (bH 'e') 'c' qf))))
  (qg (qF (i:=5) sc_law.nd rfl 'e' (ql ok_Lwords hr 'c' qH rfl (qb (vr 0) (jx (i:=1) rfl (bH 'e') 'c' (qb qr qf)))))
  (qg (qF (i:=6) sc_law.nd rfl 'e' (jN (YM rfl rfl) rfl Z.z_dict Ur (jw (N:=["_law_letter", "_law_script", "_law_town", "_law_room"]) (nt:=1) (cap:=[0,1,3]) rfl (kb (names:=(qe QB).names) rfl 'b') (jt (names:=(qe QB).names) (N:=Zn) rfl rfl 'b') (qS rfl (ql ok_Lletters hr 'c' qH rfl (qb (vr 5) (qb (vr 4) qf)))) (λfp L s1 H1=>(qu (i:=0) (show aJ (["_law_letter", "_law_script", "_law_town", "_law_room"]:List Str) from by decide +kernel) rfl 'e')) (λfp L s1 H1=>qU) (λfp L s1 H1=>(vy (qb (vr 0) (qb (ql ok_Ldraw hr 'c' yD rfl (qb (vr 1) (jx (i:=2) rfl (by first | exact bH (bH rfl) | exact bH 'e') 'c' (qb (vr 3) qf)))) qf)))))))
  (qg (qF (i:=7) sc_law.nd rfl (bH rfl) (ql ok_Lby hr 'c' qH rfl (qb (vr 5) (qb (vr 4) (qb (vr 3) (qb (vr 6) qf))))))
  (qg (jG (PW.pt (yI (qM (QU rfl hr.units) (ql ok_mended hr 'c' qH rfl (qb (vr 5) (qb (vr 4) (qb (vr 3) (qb (vr 7) qf))))) (vr 7)) (va (qM (QU rfl hr.units) (ql ok_left_out hr 'c' qH rfl (qb (vr 5) (qb (vr 4) (qb (vr 3) (qb (vr 7) qf))))) (vy qf))))) (qm (qo zS)) qY)
  (qg (kq (i:=8) sc_law.nd rfl (bH rfl) (jN (Uf rfl) rfl Z.z_list Qd (vr 7)))
  (qg (vc aR rfl (kf rfl Z.z_range (vr 2)) (qu (i:=9) sc_law.nd rfl 'e')
  (qm (Qa (n:=8) rfl (bH 'e') 'c' (ql ok_Ldraw hr 'c' qH rfl (qb (vr 0) (jx (i:=1) rfl (bH 'e') 'c' (qb (vr 3) qf)))) (ql ok_Ldraw hr 'c' qH rfl (qb (vr 0) (jx (i:=1) rfl (bH 'e') 'c' (qb (qB (js rfl) rfl Z.z_len jo (ka (i:=8) rfl (bH 'e') 'c')) qf)))))))
  (qg (qF (i:=8) sc_law.nd rfl (bH rfl) (jN (yj rfl) rfl Z.z_tuple ku (ka (i:=8) rfl (bH 'e') 'c')))
  (qg (qF (i:=10) sc_law.nd rfl (bH rfl) (ql ok_mended hr 'c' qH rfl (qb (vr 5) (qb (vr 4) (qb (vr 3) (qb (vr 8) qf))))))
  (qg (qF (i:=11) sc_law.nd rfl 'e' (ql ok_left_out hr 'c' qH rfl (qb (vr 5) (qb (vr 4) (qb (vr 3) (qb (vr 8) qf))))))
  (qg (vg (N:=["_law_at_here", "_law_made", "_law_numbers"]) (nt:=1) (cap:=[10,8]) sc_law.nd (i:=12) rfl 'e' rfl (kb (names:=(qe QB).names) rfl 'b') (jt (names:=(qe QB).names) (N:=Zn) rfl rfl 'b') (kf rfl Z.z_range (qB (js rfl) rfl Z.z_len jo (vr 5))) (λfp L s1 H1=>(qu (i:=0) (show aJ (["_law_at_here", "_law_made", "_law_numbers"]:List Str) from by decide +kernel) rfl 'e')) (λfp L s1 H1=>(uE (qM (QU rfl hr.units) (qZ rfl hr.units (vr 1) (vr 0) 'f') (qZ rfl hr.units (vr 2) (vr 0) 'f')))) (λfp L s1 H1=>(vr 0)))
  (qg (vg (N:=["_law_at_here", "_law_right", "_law_numbers"]) (nt:=1) (cap:=[7,8]) sc_law.nd (i:=13) rfl 'e' rfl (kb (names:=(qe QB).names) rfl 'b') (jt (names:=(qe QB).names) (N:=Zn) rfl rfl 'b') (kf rfl Z.z_range (qB (js rfl) rfl Z.z_len jo (vr 5))) (λfp L s1 H1=>(qu (i:=0) (show aJ (["_law_at_here", "_law_right", "_law_numbers"]:List Str) from by decide +kernel) rfl 'e')) (λfp L s1 H1=>(uE (qM (QU rfl hr.units) (qZ rfl hr.units (vr 1) (vr 0) 'f') (qZ rfl hr.units (vr 2) (vr 0) 'f')))) (λfp L s1 H1=>(vr 0)))
  (qg (jG (PW.pt (yI (qM (QU rfl hr.units) (qB (js rfl) rfl Z.z_len jo (ka (i:=12) rfl 'e' 'c')) (qB (js rfl) rfl Z.z_len jo (vr 11))) (va (qM qeb (qB (js rfl) rfl Z.z_len jo (vr 11)) (qB (js rfl) rfl Z.z_len jo (ka (i:=13) rfl 'e' 'c')))))) (qm (qo zS)) qY)
  (qg (jG (jP (jv rfl (ql ok_is_telling hr 'c' qH rfl (qb (vr 5) (qb (vr 4) (qb (vr 3) (qb (vr 10) (qb (ql ok_worths hr 'c' qH rfl (qb (vr 5) (qb (vr 4) (qb (vr 3) (qb (vr 10) qf))))) qf)))))) (λ_=>rfl))) (qm (qo zS)) qY)
  (qm (qo (uq (uA rfl hr.units) (ql ok_mended hr 'c' qH rfl (qb (vr 5) (qb (vr 4) (qb (vr 3) (qb (vr 10) qf))))) (vr 10)))))))))))))))))))))) λ_=>.inr rfl
end
end Kx
namespace Kx
open PySem PySem.Spec L2 L2.D2
variable {α:Type}
theorem wp (xs:List α) (k:Nat):atI xs (k:Int)=xs[k]?:=by
 unfold atI ixN
 rw [if_pos 'a']
 by_cases h:k < xs.length
 ·rw [if_pos 'a']
  simp
 ·rw [if_neg 'a',cj 'a']
  rfl
theorem qgU {xs:List α} {i:Int} (h0:0<=i) (h1:i < xs.length):∃ d,atI xs i=g6 d/\d∈xs:=by
 obtain ⟨k,rfl⟩:=db h0
 have hk:k < xs.length:=by omega
 exact ⟨xs[k],by rw [wp,ah hk],bG hk⟩
theorem big:2000<=sizeLine:=by rw [ij]; decide
abbrev scr (ns:List Int):D:=.lst (ns.map .int)
theorem qeX (ns:List Int) (k:Nat):∃ i,zt [scr ns,.int k]=.ok (.int i,[.non,.non]):=by
 by_cases h:k < ns.length
 ·refine ⟨ns[k],?_⟩
  sleep 1
  simp [wM,qw,jy,ltD,ixD,qv,h,wp]
 ·by_cases h0:ns=[]
  ·subst h0
   have hk:¬((k:Int) < 0):=by omega
   exact ⟨0,by refine runD_ap.trans ?_; simp [wM,qw,jy,ltD,ixD,qv,eqD,eqN,wz,hk]⟩
  ·have hp:0 < ns.length:=List.length_pos_iff.mpr h0
   have hm:k % ns.length < ns.length:=Nat.mod_lt _ hp
   have e:atI (ns.map D.int) ((k:Int) % (ns.length:Int))=g6 (.int ns[k % ns.length]):=by
    rw [show ((k:Int) % (ns.length:Int))=((k % ns.length:Nat):Int) by simp,wp,aG,ah hm]
    rfl
   refine ⟨ns[k % ns.length] * 31+k,?_⟩
   sleep 1
   simp [wM,qw,jy,ltD,ixD,qv,eqD,eqN,h,h0,zd,qfw,kE,uz,hp,e,CMul]
variable {many:Int}
theorem qcB (ns:List Int) (k:Nat) (hm:0 < many):∃ r,0<=r/\r < many/\KK [scr ns,.int k,.int many]=.ok (.int r,[.non,.non,.non]):=by
 obtain ⟨c,hc⟩:=qeX ns k
 have h1:=bV (c * 1103515245+7919 * k+12345) (show (2147483647:Int)≠0 by decide)
 have h2:=bC (c * 1103515245+7919 * k+12345) (show (0:Int) < 2147483647 by decide)
 generalize hd:(c * 1103515245+7919 * (k:Int)+12345) % 2147483647=d at h1 h2
 have c1:L2.D2.qfv d 5:=⟨⟨by omega,by omega⟩,by omega,by omega⟩
 refine ⟨d ^ 5 % 2147483647 % 999983 % many,bV _ 'a',bC _ hm,?_⟩
 sleep 1
 simp [KJ,qw,qv,qA,ji,hc,qfw,zd,kE,qiC,uz,hm,hd,c1,show ∀ j,CMul 7919 j from λj=>.inl ⟨by omega,by omega⟩,show ∀ i,CMul i 1103515245 from λi=>.inr ⟨by omega,by omega⟩]
theorem wy (ns:List Int) (town:List D) (hm:0 < many) (ht:town.length < 1000):∃ r,0<=r/\r < many/\jZ [scr ns,.lst town,.int many]=.ok (.int r,[.non,.lst (town++[.int 0]),.non]):=by
 obtain ⟨r,h0,h1,h⟩:=qcB ns (town.length+1) hm
 have hl:town.length < sizeLine:=aI (dh ht 'c') big
 refine ⟨r,h0,h1,?_⟩
 simp at h
 sleep 1
 simp [UF,qw,qv,qA,ji,yY,VN,jy,hl,h]
theorem qav (ns:List Int) (town xs:List D) (hx:xs≠[]) (ht:town.length < 1000):∃ d,d∈xs/\Qy [scr ns,.lst town,.lst xs]=.ok (d,[.non,.lst (town++[.int 0]),.non]):=by
 have hp:0 < xs.length:=List.length_pos_iff.mpr hx
 obtain ⟨r,h0,h1,h⟩:=wy ns town (many:=(xs.length:Int)) 'a' ht
 obtain ⟨d,e,hd⟩:=qgU (xs:=xs) h0 h1
 refine ⟨d,hd,?_⟩
 sleep 1
 simp [UG,qw,qv,qA,ji,jy,h,ixD,e]
def az (c:Nat):Prop:=97<=c/\c<=122
def qcC (w:Str):Prop:=1<=w.length/\w.length<=6/\∀ c∈w.cps.toList,az c
theorem QC (x:Str):x.length=x.cps.size:=rfl
theorem qaw (x y:Str):(x++y).cps=x.cps++y.cps:=rfl
def qhJ (ls:List Str):Prop:=ls≠[]/\∀ x∈ls,∃ c,az c/\x=⟨#[c]⟩
theorem qax:∀ cs:List Nat,fA (aX "") (cs.map λc=>(⟨#[c]⟩:Str))=⟨cs.toArray⟩:=by
 intro cs
 have e:∀ cs:List Nat,Str.join (aX "") (cs.map λc=>(⟨#[c]⟩:Str))=⟨cs.toArray⟩:=by
  intro cs
  induction cs with
  | nil=>rfl
  | cons c cs ih=>
   cases cs with
   | nil=>rfl
   | cons d ds=>
    show (⟨#[c]⟩:Str)++aX ""++Str.join (aX "") ((d::ds).map λc=>(⟨#[c]⟩:Str))=_
    rw [ih]
    have:((⟨#[c]⟩:Str)++aX ""++(⟨(d::ds).toArray⟩:Str)).cps=(c::d::ds).toArray:=by
     rw [qaw,qaw]
     have:(aX "").cps=#[]:=by decide +kernel
     rw [this]
     simp
    generalize h:(⟨#[c]⟩:Str)++aX ""++(⟨(d::ds).toArray⟩:Str)=x at this
    obtain ⟨y⟩:=x
    simp only at this
    rw [this]
 unfold fA
 rw [StrLaws.glued_eq_join]
 exact e cs
theorem Xc:∀ cs:List Nat,((cs.map λc=>(⟨#[c]⟩:Str)).map (·.length)).sum=cs.length
 | []=>rfl
 | c::cs=>by
  have ih:=Xc cs
  rw [aD,aD,List.sum_cons,ih,ap]
  show 1 + _=_
  omega
theorem wN:∀ ws:List Str,gW (ws.map D.str)=g6 ws
 | []=>rfl
 | w::ws=>by simp [gW,wN ws]
variable {ls:List Str}
theorem Wu (ns:List Int) (hl:qhJ ls):∀ (ds:List D) (town:List D) (k:Option D),town.length+ds.length < 1000 ->
  ∃ (cs:List Nat) (town':List D) (k':Option D),town'.length=town.length+ds.length/\cs.length=ds.length/\(∀ c∈cs,az c) /\
   jH (gNm 0) ftT (qt [.vl,.sl 2,.vl] Qy (qc (qd 1) (kG (qc (qd 3) qD)))) ds [k,g6 (scr ns),g6 (.lst town),g6 (.lst (ls.map D.str))]
    = .ok ((cs.map λc=>(⟨#[c]⟩:Str)).map D.str,[k',g6 (scr ns),g6 (.lst town'),g6 (.lst (ls.map D.str))])
 | [],town,k,_=>⟨[],town,k,by simp,rfl,by simp,rfl⟩
 | d::ds,town,k,ht=>by
  rw [ap] at ht
  obtain ⟨e,he,hp⟩:=qav ns town (ls.map D.str) (by simpa using hl.1) 'a'
  obtain ⟨x,hx,rfl⟩:=ai.mp he
  obtain ⟨c,hc,rfl⟩:=hl.2 x hx
  obtain ⟨cs,town',k',a1,a2,a3,a4⟩:=Wu ns hl ds (town++[.int 0]) (g6 d) (by rw [aj]; simp; omega)
  refine ⟨c::cs,town',k',?_,by simp [a2],?_,?_⟩
  ·rw [a1,aj,ap]
   simp
   omega
  ·intro y hy
   rcases ae.mp hy with rfl | hy
   ·exact hc
   ·exact a3 y hy
  ·simp [jH,yX,qA,ji,hp,a4]
theorem qeY (ns:List Int) (town:List D) (hl:qhJ ls) (ht:town.length < 900):∃ w town',qcC w/\town'.length<=town.length+8/\KO [scr ns,.lst town,.lst (ls.map D.str),.int 6]=.ok (.str w,[.non,.lst town',.non,.non]):=by
 obtain ⟨r,r0,r1,hr⟩:=wy ns town (many:=6) 'a' 'a'
 have hlen:(yU 0 (1+r).toNat).length=(1+r).toNat:=by simp [yU]
 obtain ⟨cs,town',k',a1,a2,a3,a4⟩:=Wu ns hl (yU 0 (1+r).toNat) (town++[.int 0]) g7 (by rw [hlen,aj]; simp; omega)
 rw [hlen] at a1 a2
 rw [aj] at a1
 simp at a1
 refine ⟨⟨cs.toArray⟩,town',⟨?_,?_,?_⟩,by omega,?_⟩
 ·show 1<=cs.toArray.size
  simp; omega
 ·show cs.toArray.size<=6
  simp; omega
 ·simpa using a3
 ·sleep 1
  have c1:-(2 ^ 62:Int)<=1+r/\1+r < 2 ^ 62:=by omega
  have hb:=big
  have hz:(yU 0 (1+r).toNat).length<=sizeLine:=by rw [hlen]; omega
  have e0:fS (aX "")=0:=by decide +kernel
  have hs:=Xc cs
  have hj:GK (aX "") (.lst ((cs.map λc=>(⟨#[c]⟩:Str)).map D.str))=.ok (.str ⟨cs.toArray⟩):=by
   unfold GK
   simp only [wN,qax,hs]
   rw [if_pos ⟨by simp [e0]; omega,by show cs.toArray.size<=_; simp; omega⟩]
  simp only [UI,qw,gY,Um,jg]
  simp [-bb,qA,ji,hr,jD,kE,-Int.reducePow,c1,hz,vf,a4,jS,hj,qv]
theorem xV (w:Str):∀ ws:List Str,JP 7 (.str w) (ws.map D.str)=g6 (decide (w∈ws))
 | []=>by simp [JP]
 | a::ws=>by
  have ih:=xV w ws
  simp only [aD,JP,ih]
  simp [eqN,eqS]
  by_cases h:a=w
  ·simp [h]
  ·simp [h,bf h]
def jM (ws:List Str):Prop:=1<=ws.length/\ws.length<=6/\ws.Nodup/\∀ w∈ws,qcC w
abbrev qay:Sl->Out (Fl×Sl):=(qW (jQ 6 (qt [.vl,.sl 1,.vl,.vl] KO (qc (qd 0) (kG (qc (qd 3) (qc (dC (.int 6)) qD))))))
  (sIf (qV (d2 gf (qd 6) (qd 4))) (vd (JU 4 VN (qd 6))) jV))
theorem zx (ns:List Int) (most:D) (hls:qhJ ls):∀ (ds:List D) (town:List D) (ws:List Str) (k u:Option D),town.length+8 * ds.length < 900->ws.length+ds.length<=100->ws.Nodup->(∀ w∈ws,qcC w) ->
  ∃ (town':List D) (ws':List Str) (k' u':Option D),town'.length<=town.length+8 * ds.length/\ws'.length<=ws.length+ds.length/\ws.length<=ws'.length/\(ds≠[]->1<=ws'.length)/\ws'.Nodup/\(∀ w∈ws',qcC w) /\
   wA (gNm 5) qay ds [g6 (scr ns),g6 (.lst town),g6 most,g6 (.lst (ls.map D.str)),g6 (.lst (ws.map D.str)),k,u]=.ok (.nx,[g6 (scr ns),g6 (.lst town'),g6 most,g6 (.lst (ls.map D.str)),g6 (.lst (ws'.map D.str)),k',u'])
 | [],town,ws,k,u,_,_,hn,hw=>⟨town,ws,k,u,by simp,by simp,by simp,by simp,hn,hw,rfl⟩
 | d::ds,town,ws,k,u,ht,hl,hn,hw=>by
  rw [ap] at ht hl
  obtain ⟨w,t1,hW,ht1,hg⟩:=qeY ns town hls 'a'
  have hb:=big
  have hz:ws.length < sizeLine:=by omega
  by_cases hm:w∈ws
  ·obtain ⟨town',ws',k',u',a1,a2,a3,a4,a5,a6,a7⟩:=zx ns most hls ds t1 ws (g6 d) (g6 (.str w)) 'a' 'a' hn hw
   refine ⟨town',ws',k',u',by rw [ap]; omega,by rw [ap]; omega,a3,λ_=>?_,a5,a6,?_⟩
   ·have:0 < ws.length:=ce hm
    omega
   ·rw [<-a7]
    simp [wA,qay,qA,ji,hg,gf,XI,inD,xV,hm]
  ·obtain ⟨town',ws',k',u',a1,a2,a3,a4,a5,a6,a7⟩:=zx ns most hls ds t1 (ws++[w]) (g6 d) (g6 (.str w)) 'a' (by rw [aj]; simp; omega) (dA.mpr ⟨hn,by simp,λa ha b hb=>by
    rw [am.mp hb]
    exact λz=>hm (z ▸ ha)⟩) (λx hx=>by
    rcases ao.mp hx with hx | hx
    ·exact hw x hx
    ·rw [am.mp hx]
     exact hW)
   rw [aj] at a2 a3
   simp at a2 a3
   refine ⟨town',ws',k',u',by rw [ap]; omega,by rw [ap]; omega,by omega,λ_=>by omega,a5,a6,?_⟩
   rw [<-a7]
   simp [wA,qay,qA,ji,hg,gf,XI,inD,xV,hm,yY,VN,hz]
noncomputable def LETS:List (List Str):=[["a", "b"],["a", "b", "c"],["a", "b", "c", "d"],["k", "m", "z", "a", "e"]]
theorem qeZ:∀ ls∈LETS,qhJ ls:=by
 have h1:∀ ls∈LETS,∀ x∈ls,x∈(["a", "b", "c", "d", "k", "m", "z", "e"]:List Str):=by decide +kernel
 have h2:∀ ls∈LETS,ls≠[]:=by decide +kernel
 intro ls h
 refine ⟨h2 ls h,λx hx=>?_⟩
 have h3:=h1 ls h x hx
 simp only [ae,aK,or_false] at h3
 rcases h3 with rfl | rfl | rfl | rfl | rfl | rfl | rfl | rfl
 ·exact ⟨97,by unfold az; decide,by decide +kernel⟩
 ·exact ⟨98,by unfold az; decide,by decide +kernel⟩
 ·exact ⟨99,by unfold az; decide,by decide +kernel⟩
 ·exact ⟨100,by unfold az; decide,by decide +kernel⟩
 ·exact ⟨107,by unfold az; decide,by decide +kernel⟩
 ·exact ⟨109,by unfold az; decide,by decide +kernel⟩
 ·exact ⟨122,by unfold az; decide,by decide +kernel⟩
 ·exact ⟨101,by unfold az; decide,by decide +kernel⟩
theorem qcD (ns:List Int) (town:List D) (ht:town.length < 700):∃ ws town',jM ws/\ws.length<=6/\town'.length<=town.length+50/\KQ [scr ns,.lst town,.int 6]=.ok (.tup (ws.map D.str),[.non,.lst town',.non]):=by
 obtain ⟨d,hd,hp⟩:=qav ns town (LETS.map λl=>.lst (l.map D.str)) (by simp [LETS]) 'a'
 obtain ⟨ls,hls,rfl⟩:=ai.mp hd
 have hl:=qeZ ls hls
 obtain ⟨r,r0,r1,hr⟩:=wy ns (town++[.int 0]) (many:=6) 'a' (by rw [aj]; simp; omega)
 have hlen:(yU 0 (1+r).toNat).length=(1+r).toNat:=by simp [yU]
 obtain ⟨town',ws',k',u',a1,a2,a3,a4,a5,a6,a7⟩:=zx ns (.int 6) hl (yU 0 (1+r).toNat) (town++[.int 0]++[.int 0]) [] g7 g7 (by rw [hlen,aj,aj]; simp; omega) (by rw [hlen]; simp; omega) cx 'h'
 have hne:yU 0 (1+r).toNat≠[]:=λz=>by
  rw [z] at hlen
  simp at hlen
  omega
 refine ⟨ws',town',⟨a4 hne,?_,a5,a6⟩,?_,?_,?_⟩
 ·rw [hlen] at a2
  simp at a2
  omega
 ·rw [hlen] at a2
  simp at a2
  omega
 ·rw [hlen,aj,aj] at a1
  simp at a1
  omega
 ·sleep 1
  have c1:-(2 ^ 62:Int)<=1+r/\1+r < 2 ^ 62:=by omega
  have hb:=big
  have hz:4<=sizeLine:=by omega
  simp only [aP,eG,ci,bU] at a7 hr
  simp only [LETS,aD,bU] at hp
  simp [KP,qw,qv,qA,ji,hp,hr,jD,kE,-Int.reducePow,c1,hz,a7,wC]
def Vk (p q:Int):Prop:=(-3<=p/\p<=2)/\-3<=q/\q<=2
theorem qe0 (ns:List Int) (town:List D) (ht:town.length < 900):∃ p q town',Vk p q/\town'.length=town.length+2/\UK [scr ns,.lst town]=.ok (.tup [.int p,.int q],[.non,.lst town']):=by
 obtain ⟨r,r0,r1,hr⟩:=wy ns town (many:=6) 'a' 'a'
 obtain ⟨u,u0,u1,hu⟩:=wy ns (town++[.int 0]) (many:=6) 'a' (by rw [aj]; simp; omega)
 have hb:=big
 have hz:2<=sizeLine:=by omega
 refine ⟨r - 3,u - 3,town++[.int 0,.int 0],⟨⟨by omega,by omega⟩,by omega,by omega⟩,by simp,?_⟩
 sleep 1
 simp only [aP,eG,ci] at hu
 simp [UJ,qw,qv,qA,ji,hr,hu,Vy,uz,hz]
noncomputable def xW (n:Nat) (p:Int):Nat:=(max 0 (min (if 0<=p then p else (n:Int)+p) ((n:Int) - 1))).toNat
noncomputable def Zw (w:Str) (p:Int):Str:=⟨#[(w.cps.toList[xW w.length p]?).getD 0]⟩
variable {w:Str}
theorem zO (hw:qcC w) (p:Int):vG [.str w,.int p]=.ok (.str (Zw w p),[.non,.non]):=by
 have h1:=hw.1
 have hn:(w.cps.toList.length:Int)=w.length:=by simp [QC]
 have key:∀ q:Int,q=(if 0<=p then p else (w.length:Int)+p)->atI w.cps.toList (if 0 < (if (w.length:Int) - 1 < q then (w.length:Int) - 1 else q) then (if (w.length:Int) - 1 < q then (w.length:Int) - 1 else q) else 0)=g6 ((w.cps.toList[xW w.length p]?).getD 0):=by
  intro q hq
  have e:(if 0 < (if (w.length:Int) - 1 < q then (w.length:Int) - 1 else q) then (if (w.length:Int) - 1 < q then (w.length:Int) - 1 else q) else 0)=(xW w.length p:Int):=by
   unfold xW
   rw [<-hq]
   have:1<=(w.length:Int):=by omega
   generalize (w.length:Int)=n at *
   split <;> split <;> omega
  have hl:xW w.length p < w.cps.toList.length:=by
   have hn':w.cps.toList.length=w.length:=by simp [QC]
   rw [hn']
   unfold xW
   omega
  rw [e,wp,ah hl]
  rfl
 sleep 1
 by_cases hp:0<=p
 ·have k:=key p (by rw [if_pos hp])
  simp [wW,qw,qv,geD,uz,hp,qhx,qhy,Vy,jy,ixD,k,Zw]
 ·have k:=key (w.length+p) (by rw [if_neg hp])
  simp [wW,qw,qv,geD,uz,hp,qhx,qhy,Vy,kE,jy,ixD,k,Zw]
theorem qaz (h:qcC w):(∃ a,w=⟨#[a]⟩)\/(∃ a b,w=⟨#[a,b]⟩)\/(∃ a b c,w=⟨#[a,b,c]⟩)\/(∃ a b c d,w=⟨#[a,b,c,d]⟩)\/(∃ a b c d e,w=⟨#[a,b,c,d,e]⟩)\/∃ a b c d e f,w=⟨#[a,b,c,d,e,f]⟩:=by
 obtain ⟨⟨l⟩⟩:=w
 have h1:1<=l.length:=h.1
 have h2:l.length<=6:=h.2.1
 match l,h1,h2 with
 | [a],_,_=>exact .inl ⟨a,rfl⟩
 | [a,b],_,_=>exact .inr (.inl ⟨a,b,rfl⟩)
 | [a,b,c],_,_=>exact .inr (.inr (.inl ⟨a,b,c,rfl⟩))
 | [a,b,c,d],_,_=>exact .inr (.inr (.inr (.inl ⟨a,b,c,d,rfl⟩)))
 | [a,b,c,d,e],_,_=>exact .inr (.inr (.inr (.inr (.inl ⟨a,b,c,d,e,rfl⟩))))
 | [a,b,c,d,e,f],_,_=>exact .inr (.inr (.inr (.inr (.inr ⟨a,b,c,d,e,f,rfl⟩))))
variable {p:Int}
theorem Wv (hw:qcC w) (h0:-3<=p) (h1:p<=2):qau [.str w,.int p]=.ok (.str (Zw w p),[.non,.non]):=by
 have hp:p=-3\/p=-2\/p=-1\/p=0\/p=1\/p=2:=by omega
 rcases qaz hw with ⟨a,rfl⟩ | ⟨a,b,rfl⟩ | ⟨a,b,c,rfl⟩ | ⟨a,b,c,d,rfl⟩ | ⟨a,b,c,d,e,rfl⟩ | ⟨a,b,c,d,e,f,rfl⟩ <;> rcases hp with rfl | rfl | rfl | rfl | rfl | rfl <;> kernel_rfl
variable {own:List Nat}
theorem zy (ρc:Sl):∀ (cap:List Nat) (n:Nat) (ρ:Sl),(∀ k∈cap,k∉own)->jS own ρc n cap ρ=ρ
 | [],n,ρ,_=>rfl
 | k::cap,n,ρ,h=>by
  unfold jS
  rw [if_neg (h k (af ..))]
  exact zy ρc cap (n+1) ρ λx hx=>h x (aa _ hx)
variable {fe:Sl->Out (D×Sl)} {ft:Sl->Out (Bool×Sl)} {caps:Sl}
theorem qgV {P:D->Bool} {F:D->D}:∀ (ds:List D) (x:Option D),(∀ d∈ds,ft (g6 d::caps)=.ok (P d,g6 d::caps))->(∀ d∈ds,P d=hZ->fe (g6 d::caps)=.ok (F d,g6 d::caps))->∃ x',jH (gNm 0) ft fe ds (x::caps)=.ok ((ds.filter P).map F,x'::caps)
 | [],x,_,_=>⟨x,rfl⟩
 | d::ds,x,h,h'=>by
  obtain ⟨x',e⟩:=qgV ds (g6 d) (λd' hd=>h d' (aa _ hd)) λd' hd=>h' d' (aa _ hd)
  refine ⟨x',?_⟩
  have h1:=h d (af ..)
  have h2:=h' d (af ..)
  cases q:P d with
  | true=>simp [jH,yX,h1,q,h2 q,e]
  | false=>simp [jH,yX,h1,q,e]
variable {cap:List Nat} {fi:Sl->Out (List D×Sl)} {ρ ρ1:Sl} {ds:List D}
theorem Ww {fe:Sl->Out (D×Sl)} {ft:Sl->Out (Bool×Sl)} (P:D->Bool) (F:D->D) (ho:∀ k∈cap,k∉own) (h:fi ρ=.ok (ds,ρ1)) (hl:ds.length<=sizeLine)
  (ht:∀ d∈ds,ft (g6 d::cap.map λk=>(ρ1[k]?).getD g7)=.ok (P d,g6 d::cap.map λk=>(ρ1[k]?).getD g7)) (he:∀ d∈ds,P d=hZ->fe (g6 d::cap.map λk=>(ρ1[k]?).getD g7)=.ok (F d,g6 d::cap.map λk=>(ρ1[k]?).getD g7)) :
  jg own 1 cap fi (gNm 0) ft fe ρ=.ok (.lst ((ds.filter P).map F),ρ1):=by
 obtain ⟨x',e⟩:=qgV ds g7 ht he
 unfold jg
 rw [h]
 simp only [kY]
 rw [if_pos hl,show vf 1 cap ρ1=g7::cap.map λk=>(ρ1[k]?).getD g7 from rfl,e]
 simp only [kY,zy _ _ _ _ ho]
theorem UN (F:D->D) (ho:∀ k∈cap,k∉own) (h:fi ρ=.ok (ds,ρ1)) (hl:ds.length<=sizeLine) (ht:∀ d∈ds,fe (g6 d::cap.map λk=>(ρ1[k]?).getD g7)=.ok (F d,g6 d::cap.map λk=>(ρ1[k]?).getD g7)) :
  jg own 1 cap fi (gNm 0) ftT fe ρ=.ok (.lst (ds.map F),ρ1):=by
 have e:=Ww (ft:=ftT) (λ_=>hZ) F ho h hl 'f' λd hd _=>ht d hd
 rw [dH.mpr λ_ _=>rfl] at e
 exact e
theorem wl (F:D->D) (h:fi ρ=.ok (ds,ρ1)) (hl:ds.length<=sizeLine) (ht:∀ d∈ds,fe (g6 d::cap.map λk=>(ρ1[k]?).getD g7)=.ok (F d,g6 d::cap.map λk=>(ρ1[k]?).getD g7)) :
  jg [] 1 cap fi (gNm 0) ftT fe ρ=.ok (.lst (ds.map F),ρ1):=UN F (λ_ _=>by simp) h hl ht
theorem qdk {P:D×D->Bool} {F:D×D->D}:∀ (ps:List (D×D)) (x y:Option D),(∀ p∈ps,ft (g6 p.1::g6 p.2::caps)=.ok (P p,g6 p.1::g6 p.2::caps))->(∀ p∈ps,P p=hZ->fe (g6 p.1::g6 p.2::caps)=.ok (F p,g6 p.1::g6 p.2::caps)) ->
  ∃ x' y',jH (kU 2 (qL (gNm 0) (qL (gNm 1) kT))) ft fe (ps.map λp=>.tup [p.1,p.2]) (x::y::caps)=.ok ((ps.filter P).map F,x'::y'::caps)
 | [],x,y,_,_=>⟨x,y,rfl⟩
 | p::ps,x,y,h,h'=>by
  obtain ⟨x',y',e⟩:=qdk ps (g6 p.1) (g6 p.2) (λd' hd=>h d' (aa _ hd)) λd' hd=>h' d' (aa _ hd)
  refine ⟨x',y',?_⟩
  have h1:=h p (af ..)
  have h2:=h' p (af ..)
  cases q:P p with
  | true=>simp [jH,yX,kU,qL,kT,h1,q,h2 q,e]
  | false=>simp [jH,yX,kU,qL,kT,h1,q,e]
theorem qaA {fe:Sl->Out (D×Sl)} {ft:Sl->Out (Bool×Sl)} {ps:List (D×D)} (P:D×D->Bool) (F:D×D->D) (ho:∀ k∈cap,k∉own) (h:fi ρ=.ok (ps.map λp=>.tup [p.1,p.2],ρ1)) (hl:ps.length<=sizeLine)
  (ht:∀ p∈ps,ft (g6 p.1::g6 p.2::cap.map λk=>(ρ1[k]?).getD g7)=.ok (P p,g6 p.1::g6 p.2::cap.map λk=>(ρ1[k]?).getD g7))
  (he:∀ p∈ps,P p=hZ->fe (g6 p.1::g6 p.2::cap.map λk=>(ρ1[k]?).getD g7)=.ok (F p,g6 p.1::g6 p.2::cap.map λk=>(ρ1[k]?).getD g7)) :
  jg own 2 cap fi (kU 2 (qL (gNm 0) (qL (gNm 1) kT))) ft fe ρ=.ok (.lst ((ps.filter P).map F),ρ1):=by
 obtain ⟨x',y',e⟩:=qdk ps g7 g7 ht he
 unfold jg
 rw [h]
 simp only [kY]
 rw [if_pos (by rw [aA]; exact hl),show vf 2 cap ρ1=g7::g7::cap.map λk=>(ρ1[k]?).getD g7 from rfl,e]
 simp only [kY,zy _ _ _ _ ho]
noncomputable def qy (ws:List Str) (p q:Int):List (Str×Str):=ws.map λw=>(Zw w p,Zw w q)
noncomputable def jA (l:List (Str×Str)):List D:=l.map λx=>.tup [.str x.1,.str x.2]
variable {n:Nat}
theorem jB (h:n<=2000):n<=sizeLine:=br h big
abbrev Wd (ws:List Str):D:=.tup (ws.map D.str)
abbrev Ld (p q:Int):D:=.tup [.int p,.int q]
variable {G:List D->Out 'i'} {ws:List Str} {q:Int}
theorem JC (hw:jM ws) (hG:∀ w∈ws,G [.str w,.int p]=.ok (.str (Zw w p),[.non,.non])/\G [.str w,.int q]=.ok (.str (Zw w q),[.non,.non])) :
  jg [] 1 [1] (jY (qd 0)) (gNm 0) ftT (yJ (qc (qt [.vl,.vl] G (qc (qd 0) (qc (d2 ixD (qd 1) 'k') qD))) (qc (qt [.vl,.vl] G (qc (qd 0) (qc (d2 ixD (qd 1) (dC (.int 1))) qD))) qD))) [g6 (Wd ws),g6 (Ld p q)]
   = .ok (.lst (jA (qy ws p q)),[g6 (Wd ws),g6 (Ld p q)]):=by
 have e:=wl (cap:=[1]) (fi:=jY (qd 0)) (ρ:=[g6 (Wd ws),g6 (Ld p q)]) (ρ1:=[g6 (Wd ws),g6 (Ld p q)]) (ds:=ws.map D.str)
  (fe:=(yJ (qc (qt [.vl,.vl] G (qc (qd 0) (qc (d2 ixD (qd 1) 'k') qD))) (qc (qt [.vl,.vl] G (qc (qd 0) (qc (d2 ixD (qd 1) (dC (.int 1))) qD))) qD))))
  (λd=>match d with | .str w=>.tup [.str (Zw w p),.str (Zw w q)] | d=>d) (by simp [jI]) (by rw [aA]; exact jB (by have:=hw.2.1; omega)) (λd hd=>by
   obtain ⟨w,hm,rfl⟩:=ai.mp hd
   obtain ⟨h1,h2⟩:=hG w hm
   have hz:2<=sizeLine:=jB 'a'
   simp [qA,ji,ixD,atI,ixN,h1,h2,hz])
 rw [e]
 simp [jA,qy]
theorem QD (hw:jM ws) (hl:Vk p q):Qz [Wd ws,Ld p q]=.ok (.lst (jA (qy ws p q)),[.non,.non]):=by
 sleep 1
 have e:=JC (G:=qau) hw (p:=p) (q:=q) λw hm=>⟨Wv (hw.2.2.2 w hm) hl.1.1 hl.1.2,Wv (hw.2.2.2 w hm) hl.2.1 hl.2.2⟩
 unfold UL
 rw [gY,show qw KS [Wd ws,Ld p q]=[g6 (Wd ws),g6 (Ld p q)] from rfl,e]
 rfl
def Pl:D->Prop
 | .raw _=>False
 | .xcp _=>False
 | .ins _ _=>False
 | .dct _=>False
 | .at_ _ _=>False
 | _=>True
@[simp] theorem kk1:kI "NoneType" "int"=g6 false:=by decide +kernel
@[simp] theorem kk2:kI "bool" "int"=g6 true:=by decide +kernel
@[simp] theorem kk3:kI "int" "int"=g6 true:=by decide +kernel
@[simp] theorem kk4:kI "str" "int"=g6 false:=by decide +kernel
@[simp] theorem kk5:kI "tuple" "int"=g6 false:=by decide +kernel
@[simp] theorem kk6:kI "list" "int"=g6 false:=by decide +kernel
@[simp] theorem kb1:kI "NoneType" "bool"=g6 false:=by decide +kernel
@[simp] theorem kb2:kI "bool" "bool"=g6 true:=by decide +kernel
@[simp] theorem kb3:kI "int" "bool"=g6 false:=by decide +kernel
@[simp] theorem kb4:kI "str" "bool"=g6 false:=by decide +kernel
@[simp] theorem kb5:kI "tuple" "bool"=g6 false:=by decide +kernel
@[simp] theorem kb6:kI "list" "bool"=g6 false:=by decide +kernel
@[simp] theorem ks1:kI "NoneType" "str"=g6 false:=by decide +kernel
@[simp] theorem ks2:kI "bool" "str"=g6 false:=by decide +kernel
@[simp] theorem ks3:kI "int" "str"=g6 false:=by decide +kernel
@[simp] theorem ks4:kI "str" "str"=g6 true:=by decide +kernel
@[simp] theorem ks5:kI "tuple" "str"=g6 false:=by decide +kernel
@[simp] theorem ks6:kI "list" "str"=g6 false:=by decide +kernel
@[simp] theorem kt1:kI "NoneType" "tuple"=g6 false:=by decide +kernel
@[simp] theorem kt2:kI "bool" "tuple"=g6 false:=by decide +kernel
@[simp] theorem kt3:kI "int" "tuple"=g6 false:=by decide +kernel
@[simp] theorem kt4:kI "str" "tuple"=g6 false:=by decide +kernel
@[simp] theorem kt5:kI "tuple" "tuple"=g6 true:=by decide +kernel
@[simp] theorem kt6:kI "list" "tuple"=g6 false:=by decide +kernel
noncomputable def Jf:D->Bool
 | .tup _=>hZ
 | _=>hJ
noncomputable def isInt:D->Bool
 | .int _=>hZ
 | .bl _=>hZ
 | _=>hJ
variable {d:D}
theorem qaB (h:Pl d):ge "tuple" d=.ok (.bl (Jf d)):=by cases d <;> first | exact h.elim | simp [ge,tyN,Jf]
noncomputable def qaC:D->Bool
 | .str x=>decide (x.length=1)&&(!vP x "a"&&!vP "z" x)
 | _=>hJ
noncomputable def KW (lo hi:Int):D->Bool
 | .int i=>decide (lo<=i)&&decide (i<=hi)
 | _=>hJ
theorem zQ (h:Pl d):vF [d]=.ok (.bl (qaC d),[.non]):=by
 sleep 1
 cases d <;> first
  | exact h.elim
  | (simp [vE,qw,qv,ge,tyN,qaC]; done)
  | skip
 rename_i x
 by_cases h1:x.length=1
 ·have h1':(x.length:Int)=1:=by omega
  cases h2:vP x "a" <;> simp [vE,qw,ge,tyN,jy,eqD,eqN,eqS,leD,qv,qaC,h1,h1',h2]
 ·have h1':¬(x.length:Int)=1:=by omega
  simp [vE,qw,ge,tyN,jy,eqD,eqN,eqS,leD,qv,qaC,h1,h1']
theorem kC (h:Pl d) (lo hi:Int):jJ [d,.int lo,.int hi]=.ok (.bl (KW lo hi d),[.non,.non,.non]):=by
 sleep 1
 cases d <;> first
  | exact h.elim
  | (simp [vX,qw,qv,ge,tyN,KW,wQ]; done)
  | skip
 rename_i i
 by_cases h1:lo<=i <;> simp [vX,qw,ge,tyN,leD,qv,KW,wQ,h1]
theorem qdl {c:Nat} (h:az c):qaC (.str ⟨#[c]⟩)=true:=by
 have ha:(aX "a").cps.toList=[97]:=by decide +kernel
 have hz:(aX "z").cps.toList=[122]:=by decide +kernel
 obtain ⟨h1,h2⟩:=h
 have l1:¬([c]:List Nat) < [97]:=by
  rw [List.cons_lt_cons_iff]
  simp
  omega
 have l2:¬([122]:List Nat) < [c]:=by
  rw [List.cons_lt_cons_iff]
  simp
  omega
 have e1:vP ⟨#[c]⟩ (aX "a")=false:=by
  unfold vP
  rw [ha]
  exact decide_eq_false l1
 have e2:vP (aX "z") ⟨#[c]⟩=false:=by
  unfold vP
  rw [hz]
  exact decide_eq_false l2
 simp [qaC,QC,e1,e2]
theorem JD (f:α->Bool):∀ l:List α,zG (l.map λx=>.bl (f x))=g6 (l.map f)
 | []=>rfl
 | a::l=>by
  have ih:=JD f l
  simp [zG,ih]
theorem xX (f:α->Bool) (l:List α):Gr (.lst (l.map λx=>.bl (f x)))=.ok (.bl (l.all f)):=by
 simp only [Gr,JD]
 simp [List.all_map,Function.comp_def]
theorem qaD (hw:qcC w) (p:Int):∃ c,az c/\Zw w p=⟨#[c]⟩:=by
 have hn:w.cps.toList.length=w.length:=by simp [QC]
 have hl:xW w.length p < w.cps.toList.length:=by
  have:=hw.1
  rw [hn]
  unfold xW
  omega
 refine ⟨w.cps.toList[xW w.length p],hw.2.2 _ (bG hl),?_⟩
 unfold Zw
 rw [ah hl]
 rfl
theorem Zo (hw:qcC w):xI [.str w]=.ok (.bl hZ,[.non]):=by
 sleep 1
 have e:=wl (cap:=[]) (fi:=jY (qd 0)) (ρ:=[g6 (.str w)]) (ρ1:=[g6 (.str w)]) (ds:=VS w) (fe:=qt [.vl] vF (qc (qd 0) qD)) (λd=>.bl (qaC d)) (by simp [jI]) (by
   have:=hw.2.1
   simp [VS,<-QC]
   exact jB 'a') (λd hd=>by
   obtain ⟨c,hc,rfl⟩:=ai.mp hd
   have h1:=zQ (d:=.str ⟨#[c]⟩) trivial
   simp [qA,ji,h1])
 have ha:(VS w).all qaC=true:=by
  rw [aS]
  intro d hd
  obtain ⟨c,hc,rfl⟩:=ai.mp hd
  exact qdl (hw.2.2 c hc)
 have h1:(1:Int)<=w.length:=by have:=hw.1; omega
 have h6:(w.length:Int)<=6:=by have:=hw.2.1; omega
 simp only [Qg,qw,aD,bU,ap,bc,Nat.reduceAdd,eU,c6,bg]
 simp [ge,tyN,wQ,jy,leD,h1,h6,e,xX,ha,qv]
theorem xg:∀ (ws ks:List Str),ws.Nodup->(∀ x∈ws,x∉ks)->ws.foldl kX ks=ks++ws
 | [],ks,_,_=>by simp
 | w::ws,ks,hn,hd=>by
  have h1:=aM.mp hn
  rw [cg,show kX ks w=ks++[w] from if_neg (hd w (af ..)),xg ws (ks++[w]) h1.2 ?_]
  ·simp
  ·intro x hx z
   rcases ao.mp z with z | z
   ·exact hd x (aa _ hx) z
   ·rw [am.mp z] at hx
    exact h1.1 hx
theorem wO (ws:List Str):∀ ks:List Str,ks.Nodup->(ws.foldl kX ks).Nodup/\∀ x,x∈ws.foldl kX ks↔x∈ks\/x∈ws:=by
 induction ws with
 | nil=>intro ks hn; exact ⟨hn,λx=>by simp⟩
 | cons w ws ih=>
  intro ks hn
  have hn2:(kX ks w).Nodup:=by
   unfold kX
   split
   ·exact hn
   ·rename_i h
    exact dA.mpr ⟨hn,by simp,λa ha b hb=>by
     rw [am.mp hb]
     exact λz=>h (z ▸ ha)⟩
  obtain ⟨a,b⟩:=ih (kX ks w) hn2
  refine ⟨a,λx=>?_⟩
  rw [cg,b x]
  unfold kX
  split
  ·rename_i h
   constructor
   ·rintro (q | q)
    ·exact .inl q
    ·exact .inr (aa _ q)
   ·rintro (q | q)
    ·exact .inl q
    ·rcases ae.mp q with rfl | q
     ·exact .inl h
     ·exact .inr q
  ·simp [ao,or_assoc]
theorem UO (hw:jM ws):zm [.tup (ws.map D.str)]=.ok (.bl hZ,[.non]):=by
 sleep 1
 have e:=wl (cap:=[]) (fi:=jY (qd 0)) (ρ:=[g6 (.tup (ws.map D.str))]) (ρ1:=[g6 (.tup (ws.map D.str))]) (ds:=ws.map D.str) (fe:=qt [.vl] xI (qc (qd 0) qD)) (λd=>.bl hZ) (by simp [jI]) (by
   rw [aA]
   exact jB (by have:=hw.2.1; omega)) (λd hd=>by
   obtain ⟨w,hm,rfl⟩:=ai.mp hd
   have h1:=Zo (hw.2.2.2 w hm)
   simp [qA,ji,h1])
 have h1:(1:Int)<=ws.length:=by have:=hw.1; omega
 have h6:(ws.length:Int)<=6:=by have:=hw.2.1; omega
 have hf:ws.foldl kX []=ws:=by rw [xg ws [] hw.2.2.1 'h']; simp
 have h4:ws.length < 4000:=by omega
 have ha:=xX (λ_:D=>hZ) (ws.map D.str)
 simp only [zl,qw,aD,bU,ap,bc,Nat.reduceAdd,eU,c6,bg]
 simp [-bb,ge,tyN,wQ,jy,leD,h1,h6,e,ha,qv,Kg,xE,wN,hf,h4,eqD,eqN,eqS]
theorem Jg (hw:jM ws):wU [.tup (ws.map D.str)]=.ok (.non,[.non]):=by
 sleep 1
 have h:=UO hw
 simp [wT,qw,qv,qA,ji,h,wQ]
theorem Zp (hl:Vk p q):Qk [.tup [.int p,.int q]]=.ok (.bl hZ,[.non]):=by
 sleep 1
 have e:=wl (cap:=[]) (fi:=jY (qd 0)) (ρ:=[g6 (.tup [.int p,.int q])]) (ρ1:=[g6 (.tup [.int p,.int q])]) (ds:=[.int p,.int q]) (fe:=qt [.vl,.vl,.vl] jJ (qc (qd 0) (qc (dC (.int (-3))) (qc (dC (.int 2)) qD)))) (λd=>.bl (KW (-3) 2 d)) (by simp [jI]) (jB 'h') (λd hd=>by
   have hd:d=.int p\/d=.int q:=by simpa using hd
   have h1:=kC (d:=.int p) trivial (-3) 2
   have h2:=kC (d:=.int q) trivial (-3) 2
   rcases hd with rfl | rfl
   ·simp [qA,ji,h1]
   ·simp [qA,ji,h2])
 have b1:KW (-3) 2 (.int p)=true:=by simp [KW]; exact hl.1
 have b2:KW (-3) 2 (.int q)=true:=by simp [KW]; exact hl.2
 simp only [Qj,qw,aD,bU,ap,bc,Nat.reduceAdd,eU,c6,bg]
 simp [ge,tyN,wQ,jy,neD,eqN,eqS,e,Gr,zG,b1,b2,qv]
theorem KY (hl:Vk p q):uM [.tup [.int p,.int q]]=.ok (.non,[.non]):=by
 sleep 1
 have h:=Zp hl
 simp [uL,qw,qv,qA,ji,h,wQ]
theorem Xd (hw:jM ws) (hl:Vk p q):zo [Wd ws,Ld p q]=.ok (.lst (jA (qy ws p q)),[.non,.non]):=by
 sleep 1
 have e:=JC (G:=vG) hw (p:=p) (q:=q) λw hm=>⟨zO (hw.2.2.2 w hm) p,zO (hw.2.2.2 w hm) q⟩
 have c1:=Jg hw
 have c2:=KY hl
 simp only [Uw,qw,aD,bU,ap,bc,Nat.reduceAdd,eU,c6,bg]
 simp [qA,ji,c1,c2,e,qv]
theorem QE {a b:List Str} (ha:a.Nodup) (hb:b.Nodup) (h:∀ x,x∈a↔x∈b):a.Perm b:=(List.perm_ext_iff_of_nodup ha hb).mpr h
theorem qaE {a b:List Str} (h:∀ x,x∈a↔x∈b):jW (a.foldl kX [])=jW (b.foldl kX []):=by
 obtain ⟨n1,m1⟩:=wO a [] cx
 obtain ⟨n2,m2⟩:=wO b [] cx
 have p:=QE n1 n2 λx=>by
  rw [m1,m2,h]
 exact wG ((qK _).trans (p.trans (qK _).symm)) (jn _) (jn _)
noncomputable def LS (l:List (Str×Str)):List Str:=jW ((l.map (·.1)++l.map (·.2)).foldl kX [])
variable {x:Str}
theorem mem_LS {l:List (Str×Str)}:x∈LS l↔∃ p∈l,x=p.1\/x=p.2:=by
 unfold LS
 rw [(qK _).mem_iff,(wO _ [] cx).2]
 simp only [aK,false_or,ao,ai]
 constructor
 ·rintro (⟨p,hp,rfl⟩ | ⟨p,hp,rfl⟩)
  ·exact ⟨p,hp,.inl rfl⟩
  ·exact ⟨p,hp,.inr rfl⟩
 ·rintro ⟨p,hp,rfl | rfl⟩
  ·exact .inl ⟨p,hp,rfl⟩
  ·exact .inr ⟨p,hp,rfl⟩
theorem xY {l:List (Str×Str)} (hl:l.length<=20):jT [.lst (jA l)]=.ok (.lst ((LS l).map D.str),[.non]):=by
 sleep 1
 have hz:(jA l).length<=sizeLine:=by
  unfold jA
  rw [aA]
  exact jB 'a'
 have e1:=wl (cap:=[]) (fi:=jY (qd 0)) (ρ:=[g6 (.lst (jA l))]) (ρ1:=[g6 (.lst (jA l))]) (ds:=jA l) (fe:=d2 ixD (qd 0) 'k') (λd=>match d with | .tup [a,b]=>a | d=>d) (by simp [jI]) hz (λd hd=>by
   obtain ⟨x,hx,rfl⟩:=ai.mp hd
   simp [ixD,atI,ixN])
 have e2:=wl (cap:=[]) (fi:=jY (qd 0)) (ρ:=[g6 (.lst (jA l))]) (ρ1:=[g6 (.lst (jA l))]) (ds:=jA l) (fe:=d2 ixD (qd 0) (dC (.int 1))) (λd=>match d with | .tup [a,b]=>b | d=>d) (by simp [jI]) hz (λd hd=>by
   obtain ⟨x,hx,rfl⟩:=ai.mp hd
   simp [ixD,atI,ixN])
 have f1:(jA l).map (λd=>match d with | .tup [a,b]=>a | d=>d)=(l.map (·.1)).map D.str:=by simp [jA]
 have f2:(jA l).map (λd=>match d with | .tup [a,b]=>b | d=>d)=(l.map (·.2)).map D.str:=by simp [jA]
 rw [f1] at e1
 rw [f2] at e2
 have hs:l.length+l.length<=sizeLine:=jB 'a'
 have h64:l.length+l.length < 64:=by omega
 simp only [uT,qw,aD,bU,ap,bc,Nat.reduceAdd,eU,c6,bg,gY,Um,qis,e1,e2,kY]
 simp only [kE,aA,if_pos hs,qio,kY,<-eO,vV,xE,wN,aj,if_pos h64]
 simp [qv,LS]
theorem Xe:∀ l:List (Str×Str),(l.flatMap λp=>[p.1,p.2]).length=2 * l.length
 | []=>rfl
 | a::l=>by
  rw [et,aj,Xe l,ap]
  simp
  omega
variable {a:D}
theorem at0 {l:List D}:atI (a::l) 0=g6 a:=by
 have:=wp (a::l) 0
 simpa using this
variable {b:D}
theorem at1 {l:List D}:atI (a::b::l) 1=g6 b:=by
 have:=wp (a::b::l) 1
 simpa using this
noncomputable def prL (l:List (Str×Int)):List D:=l.map λx=>.tup [.str x.1,.int x.2]
noncomputable def qX (l:List (Str×Int)):List Str:=l.map (·.1)
noncomputable def bk (l:List (Str×Int)):List (Key×D):=l.map λx=>(.inr x.1,.int x.2)
theorem QF:∀ l:List (Str×Int),yK (prL l)=g6 (bk l)
 | []=>rfl
 | x::l=>by
  have ih:=QF l
  unfold prL at ih ⊢
  rw [aD]
  simp [yK,qbY,JX,ih,bk]
theorem UP:∀ (l:List (Str×Int)) (a:List (Key×D)),(qX l).Nodup->(∀ x∈l,∀ p∈a,p.1≠.inr x.1)->(bk l).foldl (λa p=>WO a p.1 p.2) a=a++bk l
 | [],a,_,_=>by simp [bk]
 | x::l,a,hn,hd=>by
  have h1:=aM.mp (show (x.1::qX l).Nodup from hn)
  have hp:WO a (.inr x.1) (.int x.2)=a++[(.inr x.1,.int x.2)]:=by
   unfold WO
   rw [if_neg]
   simp only [List.any_eq_true,decide_eq_true_eq,not_exists,not_and]
   exact λp hp=>hd x (af ..) p hp
  have ih:=UP l (a++[(.inr x.1,.int x.2)]) h1.2 (λy hy p hp=>by
   rcases ao.mp hp with hp | hp
   ·exact hd y (aa _ hy) p hp
   ·rw [am.mp hp]
    intro z
    have z:x.1=y.1:=bA.inj z
    exact h1.1 (z ▸ ai.mpr ⟨y,hy,rfl⟩))
  show ((bk l).foldl (λa p=>WO a p.1 p.2) (WO a (.inr x.1) (.int x.2)))=a++(.inr x.1,.int x.2)::bk l
  rw [hp,ih]
  simp
variable {l:List (Str×Int)}
theorem qe1 (h:(qX l).Nodup):Gv (.tup (prL l))=.ok (.dct (bk l)):=by
 have e:=UP l [] h (λ_ _ p hp=>by cases hp)
 simp at e
 simp [Gv,QF,e]
noncomputable def jE (l:List (Str×Int)) (x:Str):Int:=((l.find? λy=>decide (y.1=x)).map (·.2)).getD 0
theorem uj:∀ {l:List (Str×Int)} {x:Str},x∈qX l->(x,jE l x)∈l/\(bk l).find? (λkv=>decide (kv.1=bA x))=g6 (.inr x,.int (jE l x))
 | [],x,h=>by cases h
 | a::l,x,h=>by
  by_cases e:a.1=x
  ·have hv:jE (a::l) x=a.2:=by simp [jE,e]
   rw [hv]
   refine ⟨?_,?_⟩
   ·rw [<-e]
    exact af ..
   ·simp [bk,e]
  ·have hx:x∈qX l:=by
    rcases ae.mp (show x∈a.1::qX l from h) with z | z
    ·exact absurd z.symm e
    ·exact z
   obtain ⟨h1,h2⟩:=uj hx
   have hv:jE (a::l) x=jE l x:=by simp [jE,e]
   rw [hv]
   refine ⟨aa _ h1,?_⟩
   rw [<-h2]
   simp [bk,e]
theorem qaF (h:x∈qX l):ixD (.dct (bk l)) (.str x)=.ok (.int (jE l x)):=by
 simp [ixD,(uj h).2]
abbrev nn4:Sl:=[g6 .non,g6 .non,g6 .non,g6 .non]
theorem xZ (h:Pl d):wa [d]=if KW 1 99 d=hZ then .ok (.non,[.non]) else .exc "NoRoom" [g6 .non]:=by
 sleep 1
 have h1:=kC h 1 99
 have hz:1<=sizeLine:=jB 'a'
 cases e:KW 1 99 d <;> simp [uN,qw,qv,qA,ji,h1,e,wQ,vB]
noncomputable def qdm (l:List (Str×Int)) (s:List (Str×Str)) (r:Int):List D:=s.map λx=>.int ((jE l x.1+jE l x.2) % r)
theorem qx {ms:List PM} {f g:Sl->Out (Fl×Sl)} (h:f ρ=.ok (.nx,ρ1)):XW ms (qW f g ρ)=XW ms (g ρ1):=by
 rw [Uo,h]
 rfl
abbrev qgW:Sl->Out (Fl×Sl):=(vd (JU 2 qeu (d1 VP (qd 3))))
theorem Wx (a b:Option D):∀ (l:List (Str×Str)) (made:List Str) (x:Option D),made.length+2 * l.length<=1000->∃ x',wA (gNm 3) qgW (jA l) [a,b,g6 (.lst (made.map D.str)),x]=.ok (.nx,[a,b,g6 (.lst ((made++l.flatMap λp=>[p.1,p.2]).map D.str)),x'])
 | [],made,x,_=>⟨x,by simp [jA,wA]⟩
 | p::l,made,x,h=>by
  rw [ap] at h
  obtain ⟨x',e⟩:=Wx a b l (made++[p.1,p.2]) (g6 (.tup [.str p.1,.str p.2])) (by rw [aj]; simp; omega)
  refine ⟨x',?_⟩
  have hz:2<=sizeLine:=jB 'a'
  have hz2:made.length+2<=sizeLine:=jB 'a'
  rw [show (made++(p::l).flatMap λp=>[p.1,p.2])=(made++[p.1,p.2])++l.flatMap λp=>[p.1,p.2] by simp,<-e]
  simp [jA,wA,qgW,yY,qeu,VP,hz,hz2]
theorem Jh (hw:jM ws) (hl:Vk p q):yB [Wd ws,Ld p q]=.ok (.lst ((LS (qy ws p q)).map D.str),[.non,.non]):=by
 sleep 1
 have h1:=QD hw hl
 have hn:(qy ws p q).length<=6:=by simp [qy]; exact hw.2.1
 obtain ⟨x',e⟩:=Wx (g6 (Wd ws)) (g6 (Ld p q)) (qy ws p q) [] g7 (by simp; omega)
 have hf:((qy ws p q).flatMap λp=>[p.1,p.2]).length < 64:=by
  rw [Xe]
  omega
 have hs:jW (((qy ws p q).flatMap λp=>[p.1,p.2]).foldl kX [])=LS (qy ws p q):=qaE λx=>by
  simp only [cJ,ao,ai,ae,aK,or_false]
  constructor
  ·rintro ⟨p,hp,rfl | rfl⟩
   ·exact .inl ⟨p,hp,rfl⟩
   ·exact .inr ⟨p,hp,rfl⟩
  ·rintro (⟨p,hp,rfl⟩ | ⟨p,hp,rfl⟩)
   ·exact ⟨p,hp,.inl rfl⟩
   ·exact ⟨p,hp,.inr rfl⟩
 simp only [bU,ci] at e
 simp [zw,qw,qv,qA,ji,h1,jI]
 rw [e]
 simp only [kY,Um,GJ,c9,dZ,vV,xE,wN,if_pos hf,hs]
 simp [qv]
variable {r:Int}
theorem qaG (hw:jM ws) (hl:Vk p q) (hr:0 < r) (hk:∀ x∈LS (qy ws p q),x∈qX l):qeV [Wd ws,Ld p q,.int r,.dct (bk l)]=.ok (.tup (qdm l (qy ws p q) r),[.non,.non,.non,.non]):=by
 sleep 1
 have h1:=QD hw hl
 have hn:(qy ws p q).length<=6:=by simp [qy]; exact hw.2.1
 have e:=qaA (own:=[]) (cap:=[2,3]) (fi:=jY (qt [.vl,.vl] Qz (qc (qd 0) (qc (qd 1) qD)))) (ft:=ftT) (fe:=d2 zd (d2 kE (d2 ixD (qd 3) (qd 0)) (d2 ixD (qd 3) (qd 1))) (qd 2))
  (ρ:=[g6 (Wd ws),g6 (Ld p q),g6 'l',g6 (.dct (bk l))]) (ρ1:=[g6 (Wd ws),g6 (Ld p q),g6 'l',g6 (.dct (bk l))]) (ps:=(qy ws p q).map λx=>(.str x.1,.str x.2)) (λ_=>hZ) (λd=>match d with | (.str a,.str b)=>.int ((jE l a+jE l b) % r) | _=>.non) 'h'
  (by simp [qA,ji,h1,jI,jA]) (by rw [aA]; exact jB 'a') 'f' (λd hd _=>by
   obtain ⟨x,hx,rfl⟩:=ai.mp hd
   have j1:=qaF (hk x.1 (mem_LS.mpr ⟨x,hx,.inl rfl⟩))
   have j2:=qaF (hk x.2 (mem_LS.mpr ⟨x,hx,.inr rfl⟩))
   simp [j1,j2,kE,zd,uz,hr])
 rw [dH.mpr 'f'] at e
 have f:((qy ws p q).map λx=>(D.str x.1,D.str x.2)).map (λd=>match d with | (.str a,.str b)=>.int ((jE l a+jE l b) % r) | _=>.non)=qdm l (qy ws p q) r:=by simp [qdm]
 rw [f] at e
 unfold qeU
 rw [gY,Um,show qw qcz [Wd ws,Ld p q,.int r,.dct (bk l)]=[g6 (Wd ws),g6 (Ld p q),g6 'l',g6 (.dct (bk l))] from rfl,e]
 simp [wC,qv]
variable {room:Int}
theorem JE (ns:List Int) (hr:0 < room):∀ (Ls:List Str) (town:List D) (x:Option D),town.length+Ls.length < 1000 ->
  ∃ (es:List (Str×Int)) (town':List D) (x':Option D),qX es=Ls/\(∀ e∈es,0<=e.2/\e.2 < room)/\town'.length=town.length+Ls.length /\
   jH (gNm 0) ftT (yJ (qc (qd 0) (qc (qt [.vl,.sl 2,.vl] jZ (qc (qd 1) (kG (qc (qd 3) qD)))) qD))) (Ls.map D.str) [x,g6 (scr ns),g6 (.lst town),g6 (.int room)]=.ok (prL es,[x',g6 (scr ns),g6 (.lst town'),g6 (.int room)])
 | [],town,x,_=>⟨[],town,x,rfl,by simp,by simp,rfl⟩
 | a::Ls,town,x,h=>by
  rw [ap] at h
  obtain ⟨r,r0,r1,hd⟩:=wy ns town (many:=room) hr 'a'
  obtain ⟨es,town',x',a1,a0,a2,a3⟩:=JE ns hr Ls (town++[.int 0]) (g6 (.str a)) (by rw [aj]; simp; omega)
  have z2:2<=sizeLine:=jB 'a'
  refine ⟨(a,r)::es,town',x',by simp [qX] at a1 ⊢; exact a1,λe he=>?_,by rw [a2,aj]; simp; omega,?_⟩
  ·rcases ae.mp he with rfl | he
   ·exact ⟨r0,r1⟩
   ·exact a0 e he
  ·simp [jH,yX,qA,ji,hd,z2,a3,prL]
theorem qaH (hw:jM ws) (p q:Int):(LS (qy ws p q)).length<=12:=by
 have hs:(qy ws p q).length<=6:=by simp [qy]; exact hw.2.1
 unfold LS
 rw [(qK _).length_eq]
 have:=uH ((qy ws p q).map (·.1)++(qy ws p q).map (·.2)) []
 simp only [aj,aA,bc] at this
 omega
theorem qgX (hw:jM ws) (p q:Int):∀ x∈LS (qy ws p q),∃ c,az c/\x=⟨#[c]⟩:=λx hx=>by
 obtain ⟨y,hy,h⟩:=mem_LS.mp hx
 obtain ⟨w,hm,rfl⟩:=ai.mp hy
 rcases h with rfl | rfl
 ·exact qaD (hw.2.2.2 w hm) p
 ·exact qaD (hw.2.2.2 w hm) q
abbrev Pr:=Str×Str
abbrev Wk:=List Nat
noncomputable def inL (l:Wk):List D:=l.map λ(k:Nat)=>.int (k:Nat)
abbrev lD (l:Wk):D:=.lst (inL l)
abbrev nD (ns:List Int):D:=.tup (ns.map D.int)
abbrev pD (p:Pr):D:=.tup [.str p.1,.str p.2]
noncomputable def nI (ns:List Int) (k:Nat):Int:=(ns[k]?).getD 0
variable {ns:List Int}
theorem Xf {k:Nat} (h:k < ns.length):ixD (nD ns) (.int (k:Nat))=.ok (.int (nI ns k)):=by
 unfold ixD nI
 simp only []
 rw [wp,aG,ah h]
 rfl
noncomputable def qQ (ns:List Int) (t:Int) (l:Wk):Int:=l.foldl (λa k=>nI ns k - a) t
def qe2 (nd:D) (ns:List Int):Prop:=∀ k:Nat,k < ns.length->ixD nd (.int (k:Nat))=.ok (.int (nI ns k))
theorem qaI (ns:List Int):qe2 (nD ns) ns:=λ_ h=>Xf h
theorem Xg (ns:List Int):qe2 (.lst (ns.map D.int)) ns:=λk h=>by
 unfold ixD nI
 simp only []
 rw [wp,aG,ah h]
 rfl
theorem JF {nd:D} {ns:List Int} (hnd:qe2 nd ns) {a s:Option D}:∀ (l:Wk) (t:Int) (x:Option D),(∀ k∈l,k < ns.length)->∃ x',wA (gNm 4) (jQ 3 (d2 Vy (d2 ixD (qd 1) (qd 4)) (qd 3))) (inL l) [a,g6 nd,s,g6 (.int t),x]=.ok (.nx,[a,g6 nd,s,g6 (.int (qQ ns t l)),x'])
 | [],t,x,_=>⟨x,rfl⟩
 | k::l,t,x,h=>by
  have hk:=hnd k (h k (af ..))
  obtain ⟨x',e⟩:=JF hnd (a:=a) (s:=s) l (nI ns k - t) (g6 (.int (k:Nat))) λj hj=>h j (aa _ hj)
  refine ⟨x',?_⟩
  have e0:qQ ns t (k::l)=qQ ns (nI ns k - t) l:=rfl
  rw [e0,<-e]
  simp [inL,wA,hk,Vy,uz]
variable {nd:D}
theorem xh (hnd:qe2 nd ns) {l:Wk} (h:∀ k∈l,k < ns.length) (t:Int):vx [lD l,nd,.int t]=.ok (.int (qQ ns t l),[.non,.non,.non]):=by
 obtain ⟨x',e⟩:=JF hnd (a:=g6 (lD l)) (s:=g6 (.int t)) l t g7 h
 sleep 1
 unfold zq
 rw [show qw zp [lD l,nd,.int t]=[g6 (lD l),g6 nd,g6 (.int t),g7,g7] from rfl]
 refine (qx (ρ1:=[g6 (lD l),g6 nd,g6 (.int t),g6 (.int t),g7]) 'h').trans ?_
 refine (qx (ρ1:=[g6 (lD l),g6 nd,g6 (.int t),g6 (.int (qQ ns t l)),x']) (by rw [wu]; exact e)).trans ?_
 simp [qv]
noncomputable def odd (l:Wk):Bool:=decide (l.length % 2=1)
theorem QG (l:Wk):wY [lD l]=.ok (.bl (odd l),[.non]):=by
 sleep 1
 have h:((inL l).length:Int) % 2=((l.length % 2:Nat):Int):=by simp [inL]
 by_cases q:l.length % 2=1
 ·simp [gj,qw,jy,zd,uz,eqD,eqN,eqS,qv,h,odd,q]
 ·have q':¬((l.length % 2:Nat):Int)=1:=by omega
  simp [gj,qw,jy,zd,uz,eqD,eqN,eqS,qv,h,odd,q,q']
  omega
noncomputable def Zq (l:Wk) (r:Int) (ns:List Int):Bool:=if odd l=hZ then decide (r % 2=0)&&decide (qQ ns 0 l % 2=1) else !decide (qQ ns 0 l % r=0)
theorem qe3 (hnd:qe2 nd ns) {l:Wk} (h:∀ k∈l,k < ns.length) (hr:1<=r):YU [lD l,.int r,nd]=.ok (.bl (Zq l r ns),[.non,.non,.non]):=by
 have h1:=xh hnd h 0
 have h2:=QG l
 have hr':0 < r:=by omega
 sleep 1
 unfold Zq
 generalize qQ ns 0 l=t at h1
 cases q:odd l with
 | true=>
  rw [q] at h2
  by_cases e1:r % 2=0 <;> simp [YT,qw,qA,ji,h1,h2,wQ,zd,uz,eqD,eqN,eqS,qv,e1] <;> rfl
 | false=>
  rw [q] at h2
  simp [YT,qw,qA,ji,h1,h2,wQ,zd,uz,neD,eqN,eqS,qv,hr']
  rfl
abbrev Wy:=List (Str×Str×Wk)
noncomputable def wD (W:Wy):List (Key×D):=W.map λe=>(.inr e.1,.tup [.str e.2.1,lD e.2.2])
noncomputable def kW (W:Wy):List Str:=W.map (·.1)
theorem qdn (W:Wy) (x:Str):Gw (wD W) (.inr x)=decide (x∈kW W):=by
 unfold Gw wD kW
 induction W with
 | nil=>rfl
 | cons e W ih=>
  rw [aD,cG,ih]
  by_cases h:e.1=x
  ·subst h; simp
  ·have h2:¬(bA e.1:Key)=bA x:=λz=>h (bA.inj z)
   have h3:¬x=e.1:=λz=>h z.symm
   simp [h2,h3]
variable {W:Wy}
theorem qdo {r:Str} {l:Wk} (h:x∉kW W):WO (wD W) (.inr x) (.tup [.str r,lD l])=wD (W++[(x,r,l)]):=by
 unfold WO
 have h1:((wD W).any λp=>decide (p.1=(bA x:Key)))=false:=by
  have:=qdn W x
  unfold Gw at this
  rw [this]
  exact decide_eq_false h
 rw [h1,if_neg be]
 unfold wD
 rw [eO]
 rfl
theorem qe4:∀ {W:Wy} {e:Str×Str×Wk},(kW W).Nodup->e∈W->ixD (.dct (wD W)) (.str e.1)=.ok (.tup [.str e.2.1,lD e.2.2])
 | [],e,_,h=>by cases h
 | a::W,e,hn,h=>by
  have hn2:=aM.mp (show (a.1::kW W).Nodup from hn)
  rcases ae.mp h with rfl | h
  ·simp [ixD,wD]
  ·have hne:a.1≠e.1:=λz=>hn2.1 (by rw [z]; exact ai.mpr ⟨e,h,rfl⟩)
   have ih:=qe4 hn2.2 h
   unfold ixD at ih ⊢
   simp only [wD,aD] at ih ⊢
   have h2:¬(bA a.1:Key)=bA e.1:=λz=>hne (bA.inj z)
   rw [bB (by simpa using h2)]
   exact ih
inductive Path (seen:List Pr) (r:Str):Wk->Str->Prop
 | nil:Path seen r [] r
 | snoc {l:Wk} {x y:Str} {k:Nat} {p:Pr}:Path seen r l x->seen[k]?=g6 p->(p=(x,y)\/p=(y,x))->Path seen r (l++[k]) y
variable {seen:List Pr}
theorem Path.lt {r:Str} {l:Wk} (h:Path seen r l x):∀ k∈l,k < seen.length:=by
 induction h with
 | nil=>simp
 | snoc _ e _ ih=>
  intro k hk
  rcases ao.mp hk with hk | hk
  ·exact ih k hk
  ·rw [am.mp hk]
   exact (aC.mp e).1
structure WI (seen:List Pr) (W:Wy):Prop where
 nd:(kW W).Nodup
 sub:∀ x∈kW W,x∈LS seen
 path:∀ e∈W,Path seen e.2.1 e.2.2 e.1
 len:∀ e∈W,e.2.2.length < W.length
theorem wP (W V:Wy):kW (W++V)=kW W++kW V:=by simp [kW]
theorem WI.add (h:WI seen W) {r:Str} {l:Wk} (hx:x∉kW W) (hm:x∈LS seen) (hp:Path seen r l x) (hl:l.length<=W.length):WI seen (W++[(x,r,l)]) where
 nd:=by
  rw [wP]
  refine dA.mpr ⟨h.nd,by simp [kW],λa ha b hb=>?_⟩
  rw [show kW [(x,r,l)]=[x] from rfl] at hb
  rw [am.mp hb]
  exact λz=>hx (z ▸ ha)
 sub:=λy hy=>by
  rw [wP] at hy
  rcases ao.mp hy with hy | hy
  ·exact h.sub y hy
  ·rw [show y=x from am.mp hy]; exact hm
 path:=λe he=>by
  rcases ao.mp he with he | he
  ·exact h.path e he
  ·rw [am.mp he]; exact hp
 len:=λe he=>by
  rw [aj]
  rcases ao.mp he with he | he
  ·have:=h.len e he; simp; omega
  ·rw [am.mp he]; simp; omega
theorem UQ:∀ {a b:List Str},a.Nodup->(∀ x∈a,x∈b)->a.length<=b.length
 | [],b,_,_=>bp _
 | x::a,b,hn,h=>by
  have hn2:=aM.mp hn
  have hx:=h x (af ..)
  have ih:=UQ (b:=b.erase x) hn2.2 λy hy=>(List.mem_erase_of_ne (λz=>hn2.1 (by rw [<-z]; exact hy))).mpr (h y (aa _ hy))
  rw [List.length_erase_of_mem hx] at ih
  have:=ce hx
  rw [ap]
  omega
theorem WI.le (h:WI seen W):W.length<=(LS seen).length:=by
 have:=UQ h.nd h.sub
 simpa [kW] using this
noncomputable def oth (p:Pr) (x:Str):Str:=if x=p.1 then p.2 else p.1
theorem qcE (p:Pr) (x:Str):kQ [pD p,.str x]=.ok (.str (oth p x),[.non,.non]):=by
 sleep 1
 unfold oth
 by_cases h:x=p.1 <;> simp [wv,qw,qv,ixD,at0,at1,eqD,eqN,eqS,h]
theorem qe5 (p:Pr) (x:Str):inA (.str x) (pD p)=.ok (.bl (decide (x=p.1\/x=p.2))):=by
 have h:=xV x [p.1,p.2]
 simp only [aD,bU] at h
 show (inD (.str x) (pD p)).bind (λb=>Out.ok (D.bl b))=_
 unfold inD
 simp only [h]
 simp
theorem Xh (W:Wy) (x:Str):gf (.str x) (.dct (wD W))=.ok (.bl (!decide (x∈kW W))):=by
 unfold gf
 simp only [JX]
 rw [qdn]
theorem qgY {p:Pr} (hp:p∈seen) (x:Str):oth p x∈LS seen:=by
 rw [mem_LS]
 refine ⟨p,hp,?_⟩
 unfold oth
 split
 ·exact .inr rfl
 ·exact .inl rfl
abbrev spB:Sl->Out (Fl×Sl):=(qW (jQ 7 (qt [.vl,.vl] kQ (qc (qd 6) (qc (qd 4) qD))))
  (sIf (qea (qV (d2 inA (qd 4) (qd 6))) (qV (d2 gf (qd 7) (qd 2)))) (qW (Kj 2 (yJ (qc (qd 1) (qc (d2 kE (d2 ixD (d2O 2 ixD (qd 4)) (dC (.int 1))) (zE (qc (qd 5) qD))) qD))) (qd 7))
  (vd (JU 3 VN (qd 7)))) jV))
theorem qcF {f g:Sl->Out (Fl×Sl)} (h:f ρ=.ok (.nx,ρ1)):qW f g ρ=g ρ1:=by
 rw [Uo,h]
 rfl
variable {fb:Sl->Out (Fl×Sl)} {ρ2:Sl}
theorem yd {g:D->Sl->Out Sl} (h1:g d ρ=.ok ρ1) (h2:fb ρ1=.ok (.nx,ρ2)):wA g fb (d::ds) ρ=wA g fb ds ρ2:=by
 rw [wA,h1]
 simp only [Out.plain,kY]
 rw [h2]
 rfl
theorem qgZ {g:D->Sl->Out Sl} {v:D} (h1:g d ρ=.ok ρ1) (h2:fb ρ1=.ok (.rt v,ρ2)):wA g fb (d::ds) ρ=.ok (.rt v,ρ2):=by
 rw [wA,h1]
 simp only [Out.plain,kY]
 rw [h2]
 rfl
variable {root y:Str} {ly:Wk}
theorem qe6 (hs:(LS seen).length<=20) (hW:WI seen W) (hy:(y,root,ly)∈W) {k:Nat} {p:Pr} (hk:seen[k]?=g6 p) (Q:List Str) (hQ:Q.length<=1000) (sd x7:Option D) :
  ∃ (M:Wy) (rch:Option D),WI seen (W++M)/\(∀ e∈M,e.2.1=root)/\M.length<=1/\((y=p.1\/y=p.2)->oth p y∈kW (W++M)) /\
   spB [sd,g6 (.str root),g6 (.dct (wD W)),g6 (.lst (Q.map D.str)),g6 (.str y),g6 (.int (k:Nat)),g6 (pD p),x7]=.ok (.nx,[sd,g6 (.str root),g6 (.dct (wD (W++M))),g6 (.lst ((Q++kW M).map D.str)),g6 (.str y),g6 (.int (k:Nat)),g6 (pD p),rch]):=by
 have h1:=qcE p y
 have h2:=qe5 p y
 have h3:=Xh W (oth p y)
 have hle:=hW.le
 have hbg:=big
 have hll:=hW.len _ hy
 have hpm:p∈seen:=aV hk
 by_cases q:(y=p.1\/y=p.2)/\oth p y∉kW W
 ·refine ⟨[(oth p y,root,ly++[k])],g6 (.str (oth p y)),hW.add q.2 (qgY hpm y) (.snoc (hW.path _ hy) hk ?_) (by rw [aj]; simp; simp at hll; omega),by simp,by simp,λ_=>by rw [wP]; exact ao.mpr (.inr (by simp [kW])),?_⟩
  ·obtain ⟨p1,p2⟩:=p
   unfold oth
   rcases q.1 with e | e
   ·have e:y=p1:=e
    subst e
    simp
   ·have e:y=p2:=e
    subst e
    by_cases z:y=p1
    ·subst z; simp
    ·simp [z]
  ·unfold spB
   rw [qcF (ρ1:=[sd,g6 (.str root),g6 (.dct (wD W)),g6 (.lst (Q.map D.str)),g6 (.str y),g6 (.int (k:Nat)),g6 (pD p),g6 (.str (oth p y))]) (by simp [qA,ji,h1])]
   have hb1:decide (y=p.1\/y=p.2)=true:=decide_eq_true q.1
   have hb2:(!decide (oth p y∈kW W))=true:=by rw [decide_eq_false q.2]; rfl
   rw [hb1] at h2
   rw [hb2] at h3
   have hix:=qe4 hW.nd hy
   simp only [] at hix
   have hix2:ixD (.tup [.str root,lD ly]) (.int 1)=.ok (lD ly):=by simp [ixD,at1]
   have hput:=qdo (W:=W) (x:=oth p y) (r:=root) (l:=ly++[k]) q.2
   have hl:(inL ly).length+1<=sizeLine:=by simp [inL]; simp at hll; omega
   have z1:1<=sizeLine:=by omega
   have z2:2<=sizeLine:=by omega
   have hwl:(wD W).length < sizeLine:=by simp [wD]; omega
   have hql:Q.length < sizeLine:=by omega
   have hin:inL ly++[.int (k:Nat)]=inL (ly++[k]):=by simp [inL]
   rw [qgD,show qea (qV (d2 inA (qd 4) (qd 6))) (qV (d2 gf (qd 7) (qd 2))) [sd,g6 (.str root),g6 (.dct (wD W)),g6 (.lst (Q.map D.str)),g6 (.str y),g6 (.int (k:Nat)),g6 (pD p),g6 (.str (oth p y))]=.ok (hZ,[sd,g6 (.str root),g6 (.dct (wD W)),g6 (.lst (Q.map D.str)),g6 (.str y),g6 (.int (k:Nat)),g6 (pD p),g6 (.str (oth p y))]) by simp [h2,h3]]
   simp only [kY,if_true]
   rw [qcF (ρ1:=[sd,g6 (.str root),g6 (.dct (wD (W++[(oth p y,root,ly++[k])]))),g6 (.lst (Q.map D.str)),g6 (.str y),g6 (.int (k:Nat)),g6 (pD p),g6 (.str (oth p y))]) (by
    simp [Kj,d2O,hix,hix2,kE,z1,z2,hl,hin,JX,hwl,hput])]
   simp [yY,VN,hql,kW]
 ·refine ⟨[],g6 (.str (oth p y)),by simpa using hW,by simp,by simp,λz=>?_,?_⟩
  ·rw [bg]
   exact bK λw=>q ⟨z,w⟩
  ·unfold spB
   rw [qcF (ρ1:=[sd,g6 (.str root),g6 (.dct (wD W)),g6 (.lst (Q.map D.str)),g6 (.str y),g6 (.int (k:Nat)),g6 (pD p),g6 (.str (oth p y))]) (by simp [qA,ji,h1])]
   by_cases z:y=p.1\/y=p.2
   ·have hb1:decide (y=p.1\/y=p.2)=true:=decide_eq_true z
    have hm:oth p y∈kW W:=bK λw=>q ⟨z,w⟩
    have hb2:(!decide (oth p y∈kW W))=false:=by rw [decide_eq_true hm]; rfl
    rw [hb1] at h2
    rw [hb2] at h3
    simp [h2,h3,kW]
   ·have hb1:decide (y=p.1\/y=p.2)=false:=decide_eq_false z
    rw [hb1] at h2
    simp [h2,kW]
noncomputable def en (k0:Nat) (rest:List Pr):List D:=(rest.zipIdx k0).map λp=>.tup [.int (p.2:Nat),pD p.1]
theorem qg0 (seen:List Pr):xa (jA seen)=en 0 seen:=by
 unfold xa en jA
 rw [List.zipIdx_map,bb]
 rfl
theorem qdp (hs:(LS seen).length<=20) (sd:Option D):∀ (rest:List Pr) (k0:Nat) (W:Wy) (Q:List Str) (x5 x6 x7:Option D),seen.drop k0=rest->WI seen W->(y,root,ly)∈W->Q.length+rest.length<=500 ->
  ∃ (M:Wy) (y5 y6 y7:Option D),WI seen (W++M)/\(∀ e∈M,e.2.1=root)/\(∀ p∈rest,(y=p.1\/y=p.2)->oth p y∈kW (W++M))/\M.length<=rest.length /\
   wA (kU 2 (qL (gNm 5) (qL (gNm 6) kT))) spB (en k0 rest) [sd,g6 (.str root),g6 (.dct (wD W)),g6 (.lst (Q.map D.str)),g6 (.str y),x5,x6,x7]=.ok (.nx,[sd,g6 (.str root),g6 (.dct (wD (W++M))),g6 (.lst ((Q++kW M).map D.str)),g6 (.str y),y5,y6,y7])
 | [],k0,W,Q,x5,x6,x7,_,hW,_,_=>⟨[],x5,x6,x7,by simpa using hW,by simp,by simp,by simp,by simp [en,wA,kW]⟩
 | p::rest,k0,W,Q,x5,x6,x7,hd,hW,hy,hQ=>by
  rw [ap] at hQ
  have hk:seen[k0]?=g6 p:=by
   have:=congrArg List.head? hd
   rw [List.head?_drop] at this
   simpa using this
  have hd2:seen.drop (k0+1)=rest:=by
   have:=congrArg List.tail hd
   rw [List.tail_drop] at this
   simpa using this
  obtain ⟨M1,r1,a1,a2,a3,a4,a5⟩:=qe6 hs hW hy hk Q 'a' sd x7
  have hm1:(kW M1).length<=1:=by simpa [kW] using a3
  obtain ⟨M2,y5,y6,y7,b1,b2,b3,b4,b5⟩:=qdp hs sd rest (k0+1) (W++M1) (Q++kW M1) (g6 (.int (k0:Nat))) (g6 (pD p)) r1 hd2 a1 (ao.mpr (.inl hy)) (by rw [aj]; omega)
  refine ⟨M1++M2,y5,y6,y7,by rw [<-aP]; exact b1,λe he=>?_,λp' hp' hz=>?_,by rw [aj,ap]; omega,?_⟩
  ·rcases ao.mp he with he | he
   ·exact a2 e he
   ·exact b2 e he
  ·rw [<-aP,wP]
   rcases ae.mp hp' with rfl | hp'
   ·exact ao.mpr (.inl (a4 hz))
   ·have:=b3 p' hp' hz
    rw [wP] at this
    exact this
  ·rw [wP,<-aP,<-aP]
   refine cL ?_ b5
   have e0:en k0 (p::rest)=.tup [.int (k0:Nat),pD p]::en (k0+1) rest:=by simp [en,fC]
   rw [e0]
   exact yd rfl a5
theorem Xi (h1:ft ρ=.ok (hZ,ρ1)) (h2:fb ρ1=.ok (.nx,ρ2)):jz ft fb (n+1) ρ=jz ft fb n ρ2:=by
 rw [jz,h1]
 simp only [kY,if_true]
 rw [h2]
 rfl
theorem Wz (h1:ft ρ=.ok (hJ,ρ1)):jz ft fb (n+1) ρ=.ok (.nx,ρ1):=by
 rw [jz,h1]
 rfl
abbrev spC:Sl->Out (Bool×Sl):=qV (d2 gtD (d1 jy (qd 3)) 'k')
abbrev spW:Sl->Out (Fl×Sl):=(qW (jQ 4 (GS 3)) (VF (Za (qd 0)) (kU 2 (qL (gNm 5) (qL (gNm 6) kT))) spB))
abbrev sD (seen:List Pr):D:=.lst (jA seen)
theorem Xj (hn:seen.length<=10) (hs:(LS seen).length<=20) (root:Str):∀ (n:Nat) (W:Wy) (Q:List Str) (x4 x5 x6 x7:Option D),n<=100->WI seen W->(∀ x∈Q,∃ l,(x,root,l)∈W)->Q.length+((LS seen).length - W.length) < n ->
  ∃ (M:Wy) (y4 y5 y6 y7:Option D),WI seen (W++M)/\(∀ e∈M,e.2.1=root)/\(∀ x,x∈Q\/x∈kW M->∀ p∈seen,(x=p.1\/x=p.2)->oth p x∈kW (W++M)) /\
   jz spC spW n [g6 'j',g6 (.str root),g6 (.dct (wD W)),g6 (.lst (Q.map D.str)),x4,x5,x6,x7]=.ok (.nx,[g6 'j',g6 (.str root),g6 (.dct (wD (W++M))),g6 (.lst []),y4,y5,y6,y7])
 | 0,W,Q,x4,x5,x6,x7,_,_,_,h=>absurd h (Nat.not_lt_zero _)
 | n+1,W,[],x4,x5,x6,x7,_,hW,_,_=>⟨[],x4,x5,x6,x7,by simpa using hW,by simp,by simp [kW],by
  rw [bg]
  exact Wz (by simp [jy,gtD,uz])⟩
 | n+1,W,y::Q,x4,x5,x6,x7,h100,hW,hQ,hm=>by
  obtain ⟨ly,hy⟩:=hQ y (af ..)
  rw [ap] at hm
  obtain ⟨M1,y5,y6,y7,a1,a2,a3,a4,a5⟩:=qdp hs (g6 'j') seen 0 W Q x5 x6 x7 'h' hW hy 'a'
  have hle:=a1.le
  rw [aj] at hle
  obtain ⟨M2,z4,z5,z6,z7,b1,b2,b3,b4⟩:=Xj hn hs root n (W++M1) (Q++kW M1) (g6 (.str y)) y5 y6 y7 'a' a1 (λx hx=>by
   rcases ao.mp hx with hx | hx
   ·obtain ⟨l,hl⟩:=hQ x (aa _ hx)
    exact ⟨l,ao.mpr (.inl hl)⟩
   ·obtain ⟨e,he,rfl⟩:=ai.mp hx
    refine ⟨e.2.2,ao.mpr (.inr ?_)⟩
    rw [<-a2 e he]
    exact he) (by
   rw [aj,aj,show (kW M1).length=M1.length by simp [kW]]
   omega)
  refine ⟨M1++M2,z4,z5,z6,z7,by rw [<-aP]; exact b1,λe he=>?_,λx hx p hp hz=>?_,?_⟩
  ·rcases ao.mp he with he | he
   ·exact a2 e he
   ·exact b2 e he
  ·rw [<-aP]
   by_cases q:x=y
   ·subst q
    rw [wP]
    exact ao.mpr (.inl (a3 p hp hz))
   ·refine b3 x ?_ p hp hz
    rcases hx with hx | hx
    ·rcases ae.mp hx with e | hx
     ·exact absurd e q
     ·exact .inl (ao.mpr (.inl hx))
    ·rw [wP] at hx
     rcases ao.mp hx with hx | hx
     ·exact .inl (ao.mpr (.inr hx))
     ·exact .inr hx
  ·rw [<-aP]
   refine cL ?_ b4
   refine Xi (ρ1:=[g6 'j',g6 (.str root),g6 (.dct (wD W)),g6 (.lst ((y::Q).map D.str)),x4,x5,x6,x7]) (by
    have:(0:Int) < (Q.length:Int)+1:=by omega
    simp [jy,gtD,uz,this]) ?_
   unfold spW
   rw [qcF (ρ1:=[g6 'j',g6 (.str root),g6 (.dct (wD W)),g6 (.lst (Q.map D.str)),g6 (.str y),x5,x6,x7]) (by simp [GS])]
   rw [wu,show Za (qd 0) [g6 'j',g6 (.str root),g6 (.dct (wD W)),g6 (.lst (Q.map D.str)),g6 (.str y),x5,x6,x7]=.ok (xa (jA seen),[g6 'j',g6 (.str root),g6 (.dct (wD W)),g6 (.lst (Q.map D.str)),g6 (.str y),x5,x6,x7]) from rfl,kY,qg0]
   exact a5
theorem qaJ (hn:seen.length<=6) (hs:(LS seen).length<=12) (hW:WI seen W) (hr:root∉kW W) (hm:root∈LS seen) :
  ∃ M:Wy,WI seen (W++M)/\(∀ e∈M,e.2.1=root)/\(root,root,[])∈M/\(∀ x∈kW M,∀ p∈seen,(x=p.1\/x=p.2)->oth p x∈kW (W++M))/\gl [sD seen,.str root,.dct (wD W)]=.ok (.non,[.non,.non,.dct (wD (W++M))]):=by
 have hW1:=hW.add hr hm (r:=root) (l:=[]) .nil (bp _)
 have hle:=hW1.le
 have hle0:=hW.le
 have hbg:=big
 obtain ⟨M,y4,y5,y6,y7,a1,a2,a3,a4⟩:=Xj 'a' 'a' root 20 (W++[(root,root,[])]) [root] g7 g7 g7 g7 'a' hW1 (λx hx=>⟨[],by rw [am.mp hx]; exact ao.mpr (.inr (am.mpr rfl))⟩) (by simp; omega)
 rw [aP] at a1 a3 a4
 refine ⟨[(root,root,[])]++M,a1,λe he=>?_,ao.mpr (.inl (am.mpr rfl)),λx hx p hp hz=>a3 x ?_ p hp hz,?_⟩
 ·rcases ao.mp he with he | he
  ·rw [am.mp he]
  ·exact a2 e he
 ·rw [wP] at hx
  rcases ao.mp hx with hx | hx
  ·exact .inl hx
  ·exact .inr hx
 ·sleep 1
  unfold Ky
  rw [show qw Kw [sD seen,.str root,.dct (wD W)]=[g6 'j',g6 (.str root),g6 (.dct (wD W)),g7,g7,g7,g7,g7] from rfl]
  have hput:=qdo (W:=W) (x:=root) (r:=root) (l:=[]) hr
  rw [show lD []=.lst [] from rfl] at hput
  have z2:2<=sizeLine:=by omega
  have z1:1<=sizeLine:=by omega
  have hwl:(wD W).length < sizeLine:=by simp [wD]; omega
  refine (qx (ρ1:=[g6 'j',g6 (.str root),g6 (.dct (wD (W++[(root,root,[])]))),g7,g7,g7,g7,g7]) (by simp [Kj,z2,JX,hwl,hput])).trans ?_
  refine (qx (ρ1:=[g6 'j',g6 (.str root),g6 (.dct (wD (W++[(root,root,[])]))),g6 (.lst [.str root]),g7,g7,g7,g7]) (by simp [z1])).trans ?_
  exact (congrArg (XW [.val,.val,.io]) a4).trans rfl
def CI (seen:List Pr) (W:Wy):Prop:=∀ e∈W,∀ p∈seen,(e.1=p.1\/e.1=p.2)->∃ e'∈W,e'.1=oth p e.1/\e'.2.1=e.2.1
def RI (W:Wy):Prop:=∀ e∈W,(e.2.1,e.2.1,[])∈W
theorem qe7 {p:Pr} (h:x=p.1\/x=p.2):oth p (oth p x)=x/\(oth p x=p.1\/oth p x=p.2):=by
 obtain ⟨a,b⟩:=p
 unfold oth
 simp only []
 by_cases q:x=a
 ·subst q
  simp only [if_true]
  by_cases q2:b=x
  ·subst q2; simp
  ·simp [q2]
 ·have:x=b:=by rcases h with h | h; exact absurd h q; exact h
  subst this
  simp [q]
theorem gz:∀ {W:Wy},(kW W).Nodup->∀ {e e':Str×Str×Wk},e∈W->e'∈W->e.1=e'.1->e=e'
 | [],_,e,e',h,_,_=>by cases h
 | a::W,hn,e,e',h,h',q=>by
  have hn2:=aM.mp (show (a.1::kW W).Nodup from hn)
  rcases ae.mp h with h1 | h1
  ·rcases ae.mp h' with h2 | h2
   ·rw [h1,h2]
   ·exact absurd (show a.1∈kW W from ai.mpr ⟨e',h2,by rw [<-q,h1]⟩) hn2.1
  ·rcases ae.mp h' with h2 | h2
   ·exact absurd (show a.1∈kW W from ai.mpr ⟨e,h1,by rw [q,h2]⟩) hn2.1
   ·exact gz hn2.2 h1 h2 q
abbrev woB:Sl->Out (Fl×Sl):=(sIf (qV (d2 gf (qd 2) (qd 1))) (vd (qt [.vl,.vl,.sl 1] gl (qc (qd 0) (qc (qd 2) (kG qD))))) jV)
theorem QH (hn:seen.length<=6) (hs:(LS seen).length<=12):∀ (xs:List Str) (W:Wy) (x:Option D),(∀ x∈xs,x∈LS seen)->WI seen W->CI seen W->RI W ->
  ∃ (M:Wy) (x':Option D),WI seen (W++M)/\CI seen (W++M)/\RI (W++M)/\(∀ x∈xs,x∈kW (W++M))/\wA (gNm 2) woB (xs.map D.str) [g6 'j',g6 (.dct (wD W)),x]=.ok (.nx,[g6 'j',g6 (.dct (wD (W++M))),x'])
 | [],W,x,_,hW,hC,hR=>⟨[],x,by simpa using hW,by simpa using hC,by simpa using hR,by simp,by simp [wA]⟩
 | y::xs,W,x,hx,hW,hC,hR=>by
  have h3:=Xh W y
  by_cases q:y∈kW W
  ·obtain ⟨M,x',a1,a2,a3,a4,a5⟩:=QH hn hs xs W (g6 (.str y)) (λz hz=>hx z (aa _ hz)) hW hC hR
   refine ⟨M,x',a1,a2,a3,λz hz=>?_,?_⟩
   ·rcases ae.mp hz with rfl | hz
    ·rw [wP]; exact ao.mpr (.inl q)
    ·exact a4 z hz
   ·refine cL (yd (ρ1:=[g6 'j',g6 (.dct (wD W)),g6 (.str y)]) rfl ?_) a5
    rw [decide_eq_true q] at h3
    simp [h3]
  ·obtain ⟨M1,b1,b2,b3,b4,b5⟩:=qaJ hn hs hW q (hx y (af ..))
   have hR1:RI (W++M1):=λe he=>by
    rcases ao.mp he with he | he
    ·exact ao.mpr (.inl (hR e he))
    ·rw [b2 e he]
     exact ao.mpr (.inr b3)
   have hC1:CI seen (W++M1):=λe he p hp hz=>by
    rcases ao.mp he with he | he
    ·obtain ⟨e',h1,h2⟩:=hC e he p hp hz
     exact ⟨e',ao.mpr (.inl h1),h2⟩
    ·have hk:=b4 e.1 (ai.mpr ⟨e,he,rfl⟩) p hp hz
     obtain ⟨e',h1,h2⟩:=ai.mp hk
     refine ⟨e',h1,h2,?_⟩
     rcases ao.mp h1 with h1' | h1'
     ·exfalso
      obtain ⟨o1,o2⟩:=qe7 hz
      rw [<-h2] at o1 o2
      obtain ⟨e2,h4,h5,_⟩:=hC e' h1' p hp o2
      rw [o1] at h5
      have:=gz b1.nd (ao.mpr (.inl h4)) (ao.mpr (.inr he)) h5
      subst this
      have hnd:=b1.nd
      rw [wP] at hnd
      exact (dA.mp hnd).2.2 e2.1 (ai.mpr ⟨e2,h4,rfl⟩) e2.1 (ai.mpr ⟨e2,he,rfl⟩) rfl
     ·rw [b2 e' h1',b2 e he]
   obtain ⟨M2,x',a1,a2,a3,a4,a5⟩:=QH hn hs xs (W++M1) (g6 (.str y)) (λz hz=>hx z (aa _ hz)) b1 hC1 hR1
   rw [aP] at a1 a2 a3 a4 a5
   refine ⟨M1++M2,x',a1,a2,a3,λz hz=>?_,?_⟩
   ·rcases ae.mp hz with rfl | hz
    ·rw [wP,wP]
     exact ao.mpr (.inr (ao.mpr (.inl (ai.mpr ⟨_,b3,rfl⟩))))
    ·exact a4 z hz
   ·refine cL (yd (ρ1:=[g6 'j',g6 (.dct (wD W)),g6 (.str y)]) rfl ?_) a5
    rw [decide_eq_false q] at h3
    simp [h3,qA,ji,b5]
theorem JG (hn:seen.length<=6) (hs:(LS seen).length<=12) :
  ∃ W:Wy,WI seen W/\CI seen W/\RI W/\(∀ x∈LS seen,x∈kW W)/\wJ [sD seen]=.ok (.dct (wD W),[.non]):=by
 obtain ⟨W,x',a1,a2,a3,a4,a5⟩:=QH hn hs (LS seen) [] g7 (λ_ h=>h) ⟨by simp [kW],by simp [kW],by simp,by simp⟩ (λe he=>by cases he) (λe he=>by cases he)
 rw [ci] at a1 a2 a3 a4 a5
 refine ⟨W,a1,a2,a3,a4,?_⟩
 have hlo:=xY (l:=seen) 'a'
 sleep 1
 unfold Qp
 rw [show qw Qo [sD seen]=[g6 'j',g7,g7] from rfl]
 refine (qx (ρ1:=[g6 'j',g6 (.dct []),g7]) 'h').trans ?_
 refine (qx (ρ1:=[g6 'j',g6 (.dct (wD W)),x']) (by
  rw [wu,show jY (qt [.vl] jT (qc (qd 0) qD)) [g6 'j',g6 (.dct []),g7]=.ok ((LS seen).map D.str,[g6 'j',g6 (.dct []),g7]) by simp [qA,ji,hlo,jI],kY]
  exact a5)).trans ?_
 simp [qv]
noncomputable def qR (W:Wy) (x:Str):Str×Wk:=((W.find? λe=>decide (e.1=x)).map (·.2)).getD (⟨#[]⟩,[])
theorem jF (h:x∈kW W):(x,qR W x)∈W:=by
 unfold qR
 cases q:W.find? λe=>decide (e.1=x) with
 | none=>
  obtain ⟨e,he,rfl⟩:=ai.mp h
  have:=dm.mp q e he
  simp at this
 | some e=>
  have h1:=bM q
  have h2:e.1=x:=by simpa using fI q
  rw [<-h2]
  exact h1
theorem KZ (hn:(kW W).Nodup) (h:x∈kW W):ixD (.dct (wD W)) (.str x)=.ok (.tup [.str (qR W x).1,lD (qR W x).2]):=qe4 hn (jF h)
theorem qiD:ixD (.tup [a,b]) (.int 0)=.ok a:=by simp [ixD,at0]
theorem qiE:ixD (.tup [a,b]) (.int 1)=.ok b:=by simp [ixD,at1]
theorem qe8 (a b:Wk):inL a++inL b=inL (a++b):=by simp [inL]
theorem ul (a:Wk):(inL a).length=a.length:=by simp [inL]
theorem qg1 (l:Wk):xG (lD l)=.ok (lD l.reverse):=by simp [xG,inL]
theorem qaK {a b:Wk} (h:a.length+b.length<=2000):kE (lD a) (lD b)=.ok (lD (a++b)):=by
 have hz:(inL a).length+(inL b).length<=sizeLine:=by rw [ul,ul]; exact jB h
 show (if (inL a).length+(inL b).length<=sizeLine then Out.ok (D.lst (inL a++inL b)) else .bad)=_
 rw [if_pos hz,qe8]
abbrev Ci:=Str×Wk
noncomputable def cd (c:Ci):D:=.tup [.str c.1,lD c.2]
noncomputable def cD (C:List Ci):List D:=C.map cd
noncomputable def UR (W:Wy) (p:Pr) (k:Nat):Ci:=((qR W p.1).1,(qR W p.1).2++[k]++(qR W p.2).2.reverse)
noncomputable def CL (W:Wy) (k0:Nat) (rest:List Pr):List Ci:=(rest.zipIdx k0).map λp=>UR W p.1 p.2
abbrev ciB:Sl->Out (Fl×Sl):=(qW (jQ 5 (d1 xG (d2 ixD (d2 ixD (qd 1) (d2 ixD (qd 4) (dC (.int 1)))) (dC (.int 1)))))
  (vd (JU 2 VN (yJ (qc (d2 ixD (d2 ixD (qd 1) (d2 ixD (qd 4) 'k')) 'k') (qc (d2 kE (d2 kE (d2 ixD (d2 ixD (qd 1) (d2 ixD (qd 4) 'k')) (dC (.int 1))) (zE (qc (qd 3) qD))) (qd 5)) qD))))))
theorem qe9 (hs:(LS seen).length<=20) (hW:WI seen W) {p:Pr} (h1:p.1∈kW W) (h2:p.2∈kW W) {k:Nat} {acc:List D} (ha:acc.length < 1000) (sd x5:Option D) :
  ∃ y5,ciB [sd,g6 (.dct (wD W)),g6 (.lst acc),g6 (.int (k:Nat)),g6 (pD p),x5]=.ok (.nx,[sd,g6 (.dct (wD W)),g6 (.lst (acc++[cd (UR W p k)])),g6 (.int (k:Nat)),g6 (pD p),y5]):=by
 have i1:=KZ hW.nd h1
 have i2:=KZ hW.nd h2
 have l1:=hW.len _ (jF h1)
 have l2:=hW.len _ (jF h2)
 have hle:=hW.le
 have hbg:=big
 simp only [] at l1 l2
 have z1:1<=sizeLine:=by omega
 have z2:2<=sizeLine:=by omega
 have hal:acc.length < sizeLine:=by omega
 have a1:=qaK (a:=(qR W p.1).2) (b:=[k]) (by simp; omega)
 have a2:=qaK (a:=(qR W p.1).2++[k]) (b:=(qR W p.2).2.reverse) (by simp; omega)
 have a1:kE (lD (qR W p.1).2) (.lst [.int (k:Nat)])=.ok (lD ((qR W p.1).2++[k])):=a1
 have r2:=qg1 (qR W p.2).2
 refine ⟨g6 (lD (qR W p.2).2.reverse),?_⟩
 unfold ciB UR cd
 rw [qcF (ρ1:=[sd,g6 (.dct (wD W)),g6 (.lst acc),g6 (.int (k:Nat)),g6 (pD p),g6 (lD (qR W p.2).2.reverse)]) (by simp [qiE,i2,r2])]
 simp [yY,qiD,qiE,i1,a1,a2,z1,z2,VN,hal]
theorem qaL (hs:(LS seen).length<=20) (hW:WI seen W) (sd:Option D):∀ (rest:List Pr) (k0:Nat) (acc:List Ci) (x3 x4 x5:Option D),(∀ p∈rest,p.1∈kW W/\p.2∈kW W)->acc.length+rest.length<=500 ->
  ∃ y3 y4 y5,wA (kU 2 (qL (gNm 3) (qL (gNm 4) kT))) ciB (en k0 rest) [sd,g6 (.dct (wD W)),g6 (.lst (cD acc)),x3,x4,x5]=.ok (.nx,[sd,g6 (.dct (wD W)),g6 (.lst (cD (acc++CL W k0 rest))),y3,y4,y5])
 | [],k0,acc,x3,x4,x5,_,_=>⟨x3,x4,x5,by simp [en,CL,wA]⟩
 | p::rest,k0,acc,x3,x4,x5,h,hl=>by
  rw [ap] at hl
  obtain ⟨h1,h2⟩:=h p (af ..)
  obtain ⟨r5,e⟩:=qe9 hs hW h1 h2 (k:=k0) (acc:=cD acc) (by simp [cD]; omega) sd x5
  obtain ⟨y3,y4,y5,ih⟩:=qaL hs hW sd rest (k0+1) (acc++[UR W p k0]) (g6 (.int (k0:Nat))) (g6 (pD p)) r5 (λq hq=>h q (aa _ hq)) (by rw [aj]; simp; omega)
  refine ⟨y3,y4,y5,?_⟩
  have e0:en k0 (p::rest)=.tup [.int (k0:Nat),pD p]::en (k0+1) rest:=by simp [en,fC]
  have e1:acc++CL W k0 (p::rest)=(acc++[UR W p k0])++CL W (k0+1) rest:=by simp [CL,fC]
  rw [e0,e1]
  refine cL (yd rfl e) ?_
  rw [show cD acc++[cd (UR W p k0)]=cD (acc++[UR W p k0]) by simp [cD]]
  exact ih
theorem vN (ha:∀ x∈LS seen,x∈kW W):∀ p∈seen,p.1∈kW W/\p.2∈kW W:=λp hp=>⟨ha _ (mem_LS.mpr ⟨p,hp,.inl rfl⟩),ha _ (mem_LS.mpr ⟨p,hp,.inr rfl⟩)⟩
theorem JH (hn:seen.length<=6) (hs:(LS seen).length<=20) (hW:WI seen W) (ha:∀ x∈LS seen,x∈kW W):wf [sD seen,.dct (wD W)]=.ok (.lst (cD (CL W 0 seen)),[.non,.non]):=by
 obtain ⟨y3,y4,y5,e⟩:=qaL hs hW (g6 'j') seen 0 [] g7 g7 g7 (vN ha) (by simp; omega)
 rw [ci] at e
 sleep 1
 unfold uW
 rw [show qw uV [sD seen,.dct (wD W)]=[g6 'j',g6 (.dct (wD W)),g7,g7,g7,g7] from rfl]
 refine (qx (ρ1:=[g6 'j',g6 (.dct (wD W)),g6 (.lst []),g7,g7,g7]) 'h').trans ?_
 refine (qx (ρ1:=[g6 'j',g6 (.dct (wD W)),g6 (.lst (cD (CL W 0 seen))),y3,y4,y5]) (by
  rw [wu,show Za (qd 0) [g6 'j',g6 (.dct (wD W)),g6 (.lst []),g7,g7,g7]=.ok (xa (jA seen),[g6 'j',g6 (.dct (wD W)),g6 (.lst []),g7,g7,g7]) from rfl,kY,qg0]
  exact e)).trans ?_
 simp [qv]
theorem qg2 (hW:WI seen W) (ha:∀ x∈LS seen,x∈kW W):∀ c∈CL W 0 seen,∀ k∈c.2,k < seen.length:=by
 intro c hc k hk
 obtain ⟨q,hq,rfl⟩:=ai.mp hc
 obtain ⟨p,j⟩:=q
 have hj:=List.mem_zipIdx hq
 have hp:p∈seen:=by rw [hj.2.2]; exact bG _
 obtain ⟨h1,h2⟩:=vN ha p hp
 unfold UR at hk
 simp only [ao,List.mem_reverse,am] at hk
 rcases hk with (hk | hk) | hk
 ·exact (hW.path _ (jF h1)).lt k hk
 ·have:=hj.2.1
  omega
 ·exact (hW.path _ (jF h2)).lt k hk
noncomputable def fD (F:List Ci):List (Key×D):=F.map λc=>(.inr c.1,lD c.2)
noncomputable def kF (F:List Ci):List Str:=F.map (·.1)
theorem qdq (F:List Ci) (x:Str):Gw (fD F) (.inr x)=decide (x∈kF F):=by
 unfold Gw fD kF
 induction F with
 | nil=>rfl
 | cons e F ih=>
  rw [aD,cG,ih]
  by_cases h:e.1=x
  ·subst h; simp
  ·have h2:¬(bA e.1:Key)=bA x:=λz=>h (bA.inj z)
   have h3:¬x=e.1:=λz=>h z.symm
   simp [h2,h3]
variable {F:List Ci}
theorem qg3 {l:Wk} (h:x∉kF F):WO (fD F) (.inr x) (lD l)=fD (F++[(x,l)]):=by
 unfold WO
 have h1:((fD F).any λp=>decide (p.1=(bA x:Key)))=false:=by
  have:=qdq F x
  unfold Gw at this
  rw [this]
  exact decide_eq_false h
 rw [h1,if_neg be]
 unfold fD
 rw [eO]
 rfl
noncomputable def yF (F:List Ci) (x:Str):Wk:=((F.find? λc=>decide (c.1=x)).map (·.2)).getD []
theorem US:∀ (F:List Ci) (x:Str),(fD F).find? (λkv=>decide (kv.1=(bA x:Key)))=(F.find? λc=>decide (c.1=x)).map λc=>(bA c.1,lD c.2)
 | [],x=>rfl
 | c::F,x=>by
  have ih:=US F x
  unfold fD at ih ⊢
  rw [aD]
  by_cases h:c.1=x
  ·rw [bI (by simp [h]),bI (by simp [h])]
   rfl
  ·have h2:¬(bA c.1:Key)=bA x:=λz=>h (bA.inj z)
   rw [bB (by simpa using h2),bB (by simpa using h),ih]
theorem qiF (h:x∈kF F):ixD (.dct (fD F)) (.str x)=.ok (lD (yF F x)):=by
 unfold ixD yF
 simp only [US]
 cases q:F.find? λc=>decide (c.1=x) with
 | none=>
  obtain ⟨e,he,rfl⟩:=ai.mp h
  have:=dm.mp q e he
  simp at this
 | some c=>rfl
theorem qg4 (F:List Ci) (x:Str):qhH (fD F) (.inr x) (.lst [])=lD (yF F x):=by
 unfold qhH yF
 rw [US]
 cases F.find? λc=>decide (c.1=x) <;> rfl
noncomputable def FO:List Ci->List Ci->List Ci
 | F,[]=>F
 | F,c::C=>FO (if odd c.2=hZ/\c.1∉kF F then F++[c] else F) C
theorem QI:∀ (C F:List Ci),(∀ c∈FO F C,c∈F\/c∈C)/\(∀ x∈kF F,x∈kF (FO F C))/\(∀ c∈C,odd c.2=hZ->c.1∈kF (FO F C))/\(FO F C).length<=F.length+C.length
 | [],F=>⟨λc h=>.inl h,λx h=>h,by simp,by simp [FO]⟩
 | c::C,F=>by
  unfold FO
  by_cases q:odd c.2=hZ/\c.1∉kF F
  ·rw [if_pos q]
   obtain ⟨a,b,d,e⟩:=QI C (F++[c])
   refine ⟨λy hy=>?_,λx hx=>b x (by simp [kF] at hx ⊢; exact .inl hx),λy hy ho=>?_,by rw [aj] at e; simp at e ⊢; omega⟩
   ·rcases a y hy with h | h
    ·rcases ao.mp h with h | h
     ·exact .inl h
     ·exact .inr (by rw [am.mp h]; exact af ..)
    ·exact .inr (aa _ h)
   ·rcases ae.mp hy with rfl | hy
    ·exact b _ (by simp [kF])
    ·exact d y hy ho
  ·rw [if_neg q]
   obtain ⟨a,b,d,e⟩:=QI C F
   refine ⟨λy hy=>?_,b,λy hy ho=>?_,by simp at e ⊢; omega⟩
   ·rcases a y hy with h | h
    ·exact .inl h
    ·exact .inr (aa _ h)
   ·rcases ae.mp hy with rfl | hy
    ·exact b _ (bK λw=>q ⟨ho,w⟩)
    ·exact d y hy ho
abbrev foB:Sl->Out (Fl×Sl):=(sIf (qea (xq (qt [.vl] wY (qc (qd 3) qD))) (qV (d2 gf (qd 2) (qd 1)))) (Kj 1 (qd 3) (qd 2)) jV)
theorem qg5 (F:List Ci) (x:Str):gf (.str x) (.dct (fD F))=.ok (.bl (!decide (x∈kF F))):=by
 unfold gf
 simp only [JX]
 rw [qdq]
theorem UT (cd0:Option D):∀ (C F:List Ci) (x2 x3:Option D),F.length+C.length<=500->∃ y2 y3,wA (kU 2 (qL (gNm 2) (qL (gNm 3) kT))) foB (cD C) [cd0,g6 (.dct (fD F)),x2,x3]=.ok (.nx,[cd0,g6 (.dct (fD (FO F C))),y2,y3])
 | [],F,x2,x3,_=>⟨x2,x3,rfl⟩
 | c::C,F,x2,x3,hl=>by
  rw [ap] at hl
  have h1:=QG c.2
  have h2:=qg5 F c.1
  have hwl:(fD F).length < sizeLine:=aI (by simp [fD]; omega) big
  unfold FO
  by_cases q:odd c.2=hZ/\c.1∉kF F
  ·rw [if_pos q]
   obtain ⟨y2,y3,ih⟩:=UT cd0 C (F++[c]) (g6 (.str c.1)) (g6 (lD c.2)) (by rw [aj]; simp; omega)
   refine ⟨y2,y3,cL (yd (d:=cd c) (ρ1:=[cd0,g6 (.dct (fD F)),g6 (.str c.1),g6 (lD c.2)]) rfl ?_) ih⟩
   rw [q.1] at h1
   rw [decide_eq_false q.2] at h2
   have hp:=qg3 (F:=F) (x:=c.1) (l:=c.2) q.2
   simp [qA,ji,h1,wQ,h2,Kj,JX,hwl,hp]
  ·rw [if_neg q]
   obtain ⟨y2,y3,ih⟩:=UT cd0 C F (g6 (.str c.1)) (g6 (lD c.2)) 'a'
   refine ⟨y2,y3,cL (yd (d:=cd c) (ρ1:=[cd0,g6 (.dct (fD F)),g6 (.str c.1),g6 (lD c.2)]) rfl ?_) ih⟩
   cases q1:odd c.2 with
   | false=>
    rw [q1] at h1
    simp [qA,ji,h1,wQ]
   | true=>
    rw [q1] at h1
    have:c.1∈kF F:=bK λw=>q ⟨q1,w⟩
    rw [decide_eq_true this] at h2
    simp [qA,ji,h1,wQ,h2]
theorem Xk (C:List Ci) (hl:C.length<=400):ud [.lst (cD C)]=.ok (.dct (fD (FO [] C)),[.non]):=by
 obtain ⟨y2,y3,e⟩:=UT (g6 (.lst (cD C))) C [] g7 g7 (by simp; omega)
 sleep 1
 unfold xc
 rw [show qw xb [.lst (cD C)]=[g6 (.lst (cD C)),g7,g7,g7] from rfl]
 refine (qx (ρ1:=[g6 (.lst (cD C)),g6 (.dct []),g7,g7]) 'h').trans ?_
 refine (qx (ρ1:=[g6 (.lst (cD C)),g6 (.dct (fD (FO [] C))),y2,y3]) (by
  rw [wu,show jY (qd 0) [g6 (.lst (cD C)),g6 (.dct []),g7,g7]=.ok (cD C,[g6 (.lst (cD C)),g6 (.dct []),g7,g7]) from rfl,kY]
  exact e)).trans ?_
 simp [qv]
noncomputable def JN (F C:List Ci):List Ci:=(C.filter λc=>odd c.2).map λc=>(c.1,yF F c.1++c.2)
abbrev joT:Sl->Out (Bool×Sl):=xq (qt [.vl] wY (qc (qd 1) qD))
abbrev joE:Sl->Out (D×Sl):=yJ (qc (qd 0) (qc (d2 kE (d2 ixD (qd 2) (qd 0)) (qd 1)) qD))
theorem qaM (hF:∀ c∈F,c.2.length<=100):∀ (C:List Ci) (x y:Option D),(∀ c∈C,c.2.length<=100)->(∀ c∈C,odd c.2=hZ->c.1∈kF F) ->
  ∃ x' y',jH (kU 2 (qL (gNm 0) (qL (gNm 1) kT))) joT joE (cD C) [x,y,g6 (.dct (fD F))]=.ok (cD (JN F C),[x',y',g6 (.dct (fD F))])
 | [],x,y,_,_=>⟨x,y,rfl⟩
 | c::C,x,y,hl,hk=>by
  obtain ⟨x',y',ih⟩:=qaM hF C (g6 (.str c.1)) (g6 (lD c.2)) (λd hd=>hl d (aa _ hd)) λd hd=>hk d (aa _ hd)
  refine ⟨x',y',?_⟩
  have h1:=QG c.2
  have z2:2<=sizeLine:=jB 'a'
  have e0:cD (c::C)=.tup [.str c.1,lD c.2]::cD C:=rfl
  cases q:odd c.2 with
  | false=>
   rw [q] at h1
   have e1:JN F (c::C)=JN F C:=by simp [JN,q]
   rw [e0,e1]
   simp [jH,yX,kU,qL,kT,qA,ji,h1,wQ,ih]
  | true=>
   rw [q] at h1
   have e1:JN F (c::C)=(c.1,yF F c.1++c.2)::JN F C:=by simp [JN,q]
   have hm:=hk c (af ..) q
   have i1:=qiF hm
   have hg:(yF F c.1).length<=100:=by
    unfold yF
    cases w:F.find? λd=>decide (d.1=c.1) with
    | none=>simp
    | some d=>exact hF d (bM w)
   have hcl:=hl c (af ..)
   have a1:=qaK (a:=yF F c.1) (b:=c.2) 'a'
   rw [e0,e1]
   simp [jH,yX,kU,qL,kT,qA,ji,h1,wQ,i1,a1,z2,ih]
   simp [cD,cd]
theorem za {nt:Nat} {g:D->Sl->Out Sl} {es:List D} (h:fi ρ=.ok (ds,ρ1)) (hl:ds.length<=sizeLine) (hc:jH g ft fe ds (vf nt cap ρ1)=.ok (es,ρ2)):jg own nt cap fi g ft fe ρ=.ok (.lst es,jS own ρ2 nt cap ρ1):=by
 unfold jg
 rw [h]
 simp only [kY]
 rw [if_pos hl,hc]
 rfl
abbrev baB:Sl->Out (Fl×Sl):=(sIf (xq (qt [.vl,.vl,.vl] YU (qc (qd 7) (qc (qd 1) (qc (qd 2) qD))))) (jR (yJ (qc (qd 6) (qc (qd 7) qD)))) jV)
theorem qaN (hnd:qe2 nd ns) (hr:1<=r) (a b c d:Option D):∀ (L:List Ci) (x y:Option D),(∀ w∈L,∀ k∈w.2,k < ns.length)->∃ ρ,wA (kU 2 (qL (gNm 6) (qL (gNm 7) kT))) baB (cD L) [a,g6 'l',g6 nd,b,c,d,x,y]=.ok (match L.find? λw=>Zq w.2 r ns with | some w=>.rt (cd w) | none=>.nx,ρ)
 | [],x,y,_=>⟨_,rfl⟩
 | w::L,x,y,h=>by
  have h1:=qe3 hnd (h w (af ..)) hr
  have z2:2<=sizeLine:=jB 'a'
  cases q:Zq w.2 r ns with
  | true=>
   rw [q] at h1
   refine ⟨[a,g6 'l',g6 nd,b,c,d,g6 (.str w.1),g6 (lD w.2)],?_⟩
   rw [bI (by simpa using q)]
   exact qgZ (d:=cd w) (ρ1:=[a,g6 'l',g6 nd,b,c,d,g6 (.str w.1),g6 (lD w.2)]) rfl (by simp [qA,ji,h1,wQ,z2,cd])
  | false=>
   rw [q] at h1
   obtain ⟨ρ,ih⟩:=qaN hnd hr a b c d L (g6 (.str w.1)) (g6 (lD w.2)) λv hv=>h v (aa _ hv)
   refine ⟨ρ,?_⟩
   rw [bB (by simpa using q)]
   exact cL (yd (d:=cd w) (ρ1:=[a,g6 'l',g6 nd,b,c,d,g6 (.str w.1),g6 (lD w.2)]) rfl (by simp [qA,ji,h1,wQ])) ih
noncomputable def BO (W:Wy) (seen:List Pr) (r:Int) (ns:List Int):Option Ci:=(CL W 0 seen++JN (FO [] (CL W 0 seen)) (CL W 0 seen)).find? λw=>Zq w.2 r ns
theorem qg6 (hs:(LS seen).length<=20) (hW:WI seen W) (ha:∀ x∈LS seen,x∈kW W):∀ c∈CL W 0 seen,c.2.length<=100:=by
 intro c hc
 obtain ⟨q,hq,rfl⟩:=ai.mp hc
 obtain ⟨p,j⟩:=q
 have hj:=List.mem_zipIdx hq
 have hp:p∈seen:=by rw [hj.2.2]; exact bG _
 obtain ⟨h1,h2⟩:=vN ha p hp
 have l1:=hW.len _ (jF h1)
 have l2:=hW.len _ (jF h2)
 have hle:=hW.le
 simp only [] at l1 l2
 unfold UR
 simp
 omega
theorem qaO (W:Wy) (k0:Nat) (seen:List Pr):(CL W k0 seen).length=seen.length:=by simp [CL]
structure Sn (seen:List Pr) (W:Wy):Prop where
 n:seen.length<=6
 s:(LS seen).length<=12
 w:WI seen W
 C:CI seen W
 R:RI W
 a:∀ x∈LS seen,x∈kW W
 e:wJ [sD seen]=.ok (.dct (wD W),[.non])
 z:∀ x∈LS seen,x.length<=2000
theorem QJ (S:Sn seen W) (hnd:qe2 nd ns) (hns:ns.length=seen.length) (hr:1<=r) :
  xO [sD seen,.int r,nd]=.ok (match BO W seen r ns with | some w=>cd w | none=>.non,[.non,.non,.non]):=by
 have hs:(LS seen).length<=20:=by have:=S.s; omega
 have h1:=JH S.n hs S.w S.a
 have hcl:=qaO W 0 seen
 have hn:=S.n
 have h2:=Xk (CL W 0 seen) 'a'
 have hlen:=qg6 hs S.w S.a
 have hlt:=qg2 S.w S.a
 obtain ⟨f1,_,f3,f4⟩:=QI (CL W 0 seen) []
 have hF:∀ c∈FO [] (CL W 0 seen),c∈CL W 0 seen:=λc hc=>by
  rcases f1 c hc with h | h
  ·cases h
  ·exact h
 unfold BO
 generalize hC:CL W 0 seen=C at h1 h2 hcl hlen hlt f3 hF
 generalize hFo:FO [] C=F at h2 f3 hF
 obtain ⟨x',y',jc⟩:=qaM (F:=F) (λc hc=>hlen c (hF c hc)) C g7 g7 hlen f3
 sleep 1
 unfold KA
 rw [show qw gm [sD seen,.int r,nd]=[g6 'j',g6 'l',g6 (nd),g7,g7,g7,g7,g7] from rfl]
 have hw:=S.e
 refine (qx (ρ1:=[g6 'j',g6 'l',g6 (nd),g6 (.lst (cD C)),g7,g7,g7,g7]) (by simp [qA,ji,hw,h1])).trans ?_
 refine (qx (ρ1:=[g6 'j',g6 'l',g6 (nd),g6 (.lst (cD C)),g6 (.dct (fD F)),g7,g7,g7]) (by simp [qA,ji,h2])).trans ?_
 have jd:=za (own:=[]) (cap:=[4]) (nt:=2) (fi:=jY (qd 3)) (g:=kU 2 (qL (gNm 0) (qL (gNm 1) kT))) (ft:=joT) (fe:=joE) (ρ:=[g6 'j',g6 'l',g6 (nd),g6 (.lst (cD C)),g6 (.dct (fD F)),g7,g7,g7]) (ρ1:=[g6 'j',g6 'l',g6 (nd),g6 (.lst (cD C)),g6 (.dct (fD F)),g7,g7,g7]) (ds:=cD C) rfl (by simp [cD]; exact jB 'a') jc
 refine (qx (ρ1:=[g6 'j',g6 'l',g6 (nd),g6 (.lst (cD C)),g6 (.dct (fD F)),g6 (.lst (cD (JN F C))),g7,g7]) (by rw [wt,jd]; rfl)).trans ?_
 have hjl:(JN F C).length<=6:=by
  unfold JN
  rw [aA]
  have:=ck (λc:Ci=>odd c.2) C
  omega
 have hz:(cD C).length+(cD (JN F C)).length<=sizeLine:=by simp [cD]; exact jB 'a'
 have hall:∀ w∈C++JN F C,∀ k∈w.2,k < ns.length:=λw hw k hk=>by
  rw [hns]
  rcases ao.mp hw with h | h
  ·exact hlt w h k hk
  ·obtain ⟨c,hc,rfl⟩:=ai.mp h
   have hc:=(aF.mp hc).1
   rcases ao.mp hk with h | h
   ·unfold yF at h
    cases w:F.find? λd=>decide (d.1=c.1) with
    | none=>rw [w] at h; cases h
    | some d=>
     rw [w] at h
     exact hlt d (hF d (bM w)) k h
   ·exact hlt c hc k h
 obtain ⟨ρ,e⟩:=qaN hnd hr (g6 'j') (g6 (.lst (cD C))) (g6 (.dct (fD F))) (g6 (.lst (cD (JN F C)))) (C++JN F C) g7 g7 hall
 have hfor:VF (jY (d2 kE (qd 3) (qd 5))) (kU 2 (qL (gNm 6) (qL (gNm 7) kT))) baB [g6 'j',g6 'l',g6 (nd),g6 (.lst (cD C)),g6 (.dct (fD F)),g6 (.lst (cD (JN F C))),g7,g7]=wA (kU 2 (qL (gNm 6) (qL (gNm 7) kT))) baB (cD (C++JN F C)) [g6 'j',g6 'l',g6 (nd),g6 (.lst (cD C)),g6 (.dct (fD F)),g6 (.lst (cD (JN F C))),g7,g7]:=by
  rw [wu,show jY (d2 kE (qd 3) (qd 5)) [g6 'j',g6 'l',g6 (nd),g6 (.lst (cD C)),g6 (.dct (fD F)),g6 (.lst (cD (JN F C))),g7,g7]=.ok (cD (C++JN F C),[g6 'j',g6 'l',g6 (nd),g6 (.lst (cD C)),g6 (.dct (fD F)),g6 (.lst (cD (JN F C))),g7,g7]) by
   simp [kE,hz,jI]
   simp [cD]]
  rfl
 cases q:(C++JN F C).find? λw=>Zq w.2 r ns with
 | some w=>
  rw [q] at e
  rw [Uo,hfor.trans e]
  rfl
 | none=>
  rw [q] at e
  refine (qx (hfor.trans e)).trans ?_
  rfl
theorem Xl (hw:jM ws) (hl:Vk p q):zo [Wd ws,Ld p q]=.ok (sD (qy ws p q),[.non,.non]):=Xd hw hl
def qI (n:Nat) (r:Int) (ns:List Int):Prop:=ns.length=n/\∀ i∈ns,0<=i/\i < r
theorem Va (h:qI n r ns) (hn:n<=50):uQ [nD ns,.int (n:Nat),.int r]=.ok (.bl hZ,[.non,.non,.non]):=by
 have ht:=qaB (d:=nD ns) trivial
 have e:=wl (cap:=[2]) (fi:=jY (qd 0)) (ρ:=[g6 (nD ns),g6 (.int (n:Nat)),g6 'l']) (ρ1:=[g6 (nD ns),g6 (.int (n:Nat)),g6 'l']) (ds:=ns.map D.int) (fe:=qt [.vl,.vl,.vl] jJ (qc (qd 0) (qc 'k' (qc (d2 Vy (qd 1) (dC (.int 1))) qD)))) (λd=>.bl (KW 0 (r - 1) d)) (by simp [jI]) (by rw [aA,h.1]; exact jB 'a') (λd hd=>by
  obtain ⟨i,hi,rfl⟩:=ai.mp hd
  have h1:=kC (d:=.int i) trivial 0 (r - 1)
  simp [qA,ji,Vy,uz,h1])
 have ha:=xX (KW 0 (r - 1)) (ns.map D.int)
 have hall:(ns.map D.int).all (KW 0 (r - 1))=true:=by
  rw [aS]
  intro d hd
  obtain ⟨i,hi,rfl⟩:=ai.mp hd
  have:=h.2 i hi
  simp [KW]
  omega
 rw [hall] at ha
 have hlen:(ns.map D.int).length=n:=by rw [aA,h.1]
 sleep 1
 simp [-bb,uP,qw,qv,ht,Jf,wQ,jy,neD,eqN,eqS,h.1,e,ha]
theorem zZ (h:qI n r ns) (hn:n<=50):vI [nD ns,.int (n:Nat),.int r]=.ok (.non,[.non,.non,.non]):=by
 have h1:=Va h hn
 sleep 1
 simp [vH,qw,qv,qA,ji,h1,wQ]
theorem Vb (hw:jM ws) (hl:Vk p q) (h0:1<=r) (h1:r<=99) (hn:qI ws.length r ns):ki [Wd ws,Ld p q,.int r,nD ns]=.ok (sD (qy ws p q),[.non,.non,.non,.non]):=by
 have e1:=Xl hw hl
 have e2:=xZ (d:=.int r) trivial
 rw [if_pos (by simp [KW]; exact ⟨h0,h1⟩)] at e2
 have e3:=zZ hn (by have:=hw.2.1; omega)
 sleep 1
 simp [uS,qw,qv,qA,ji,e1,e2,jy,e3]
theorem qiG (hw:jM ws) (p q:Int):∃ W,Sn (qy ws p q) W:=by
 have h1:(qy ws p q).length<=6:=by simp [qy]; exact hw.2.1
 have h2:=qaH hw p q
 obtain ⟨W,a,b,c,d,e⟩:=JG h1 h2
 exact ⟨W,h1,h2,a,b,c,d,e,λx hx=>by
  obtain ⟨k,_,rfl⟩:=qgX hw p q x hx
  show 1<=2000
  omega⟩
theorem qg7 (hw:jM ws) (hl:Vk p q) (h0:1<=r) (h1:r<=99) (hn:qI ws.length r ns) (S:Sn (qy ws p q) W) :
  qeR [Wd ws,Ld p q,.int r,nD ns]=.ok (match BO W (qy ws p q) r ns with | some w=>cd w | none=>.non,[.non,.non,.non,.non]):=by
 have e1:=Vb hw hl h0 h1 hn
 have e2:=QJ S (qaI ns) (by rw [hn.1]; simp [qy]) h0
 sleep 1
 simp [qeQ,qw,qv,qA,ji,e1,e2]
noncomputable def zb (t r:Int):Int:=if t % r % 2=0 then t % r / 2 else (t % r+r) / 2
theorem qfa (t:Int) (hr:1<=r):qai [.int t,.int r]=.ok (.int (zb t r),[.non,.non]):=by
 have h0:0 < r:=by omega
 have hc:∀ i,qfT i 2:=λi=>⟨by omega,by omega⟩
 unfold zb
 sleep 1
 by_cases q:t % r % 2=0 <;> simp [qah,qw,qv,zd,uz,h0,eqD,eqN,eqS,XG,hc,kE,q]
noncomputable def rW (l:Wk) (r:Int) (ns:List Int):List Int:=if l=[] then (aE r.toNat).map λ(j:Nat)=>(j:Int) else if r % 2=0 then [zb (qQ ns 0 l) r,zb (qQ ns 0 l) r+r / 2] else [zb (qQ ns 0 l) r]
abbrev iD (xs:List Int):D:=.lst (xs.map D.int)
theorem Ji {l:Wk} (h:∀ k∈l,k < ns.length) (hr:1<=r) (h9:r<=99):vo [lD l,.int r,nD ns]=.ok (iD (rW l r ns),[.non,.non,.non]):=by
 have z2:2<=sizeLine:=jB 'a'
 have z1:1<=sizeLine:=jB 'a'
 have hc:∀ i,qfT i 2:=λi=>⟨by omega,by omega⟩
 sleep 1
 unfold rW
 cases l with
 | nil=>
  have c1:qb9 0 r/\r - 0<=1000000:=⟨⟨⟨by omega,by omega⟩,by omega,by omega⟩,by omega⟩
  have e:xF 'l'=.ok (.lst ((aE r.toNat).map λ(j:Nat)=>.int (j:Int))):=by
   unfold xF
   dsimp only
   rw [if_pos c1,Int.sub_zero]
   simp [yU]
  rw [if_pos rfl,show iD ((aE r.toNat).map λ(j:Nat)=>(j:Int))=.lst ((aE r.toNat).map λ(j:Nat)=>.int (j:Int)) by simp [iD]]
  simp [kz,qw,qv,jy,inL,eqD,eqN,eqS,e]
 | cons a l=>
  have h1:=xh (qaI ns) h 0
  have h2:=qfa (qQ ns 0 (a::l)) hr
  have hlen:¬inL (a::l)=[]:=by simp [inL]
  rw [if_neg 'h']
  generalize hx:qQ ns 0 (a::l)=t at h1 h2
  generalize hy:zb t r=w at h2
  generalize hz:lD (a::l)=ld at h1
  have hlen2:jy ld=.ok (.int ((inL (a::l)).length:Int)):=by rw [<-hz]; rfl
  by_cases q:r % 2=0
  ·rw [if_pos q]
   simp [kz,qw,qv,hlen2,eqD,eqN,eqS,hlen,qA,ji,h1,h2,zd,uz,q,XG,hc,kE,z2]
  ·rw [if_neg q]
   simp [kz,qw,qv,hlen2,eqD,eqN,eqS,hlen,qA,ji,h1,h2,zd,uz,q,z1]
noncomputable def RT (W:Wy):List Str:=(jW (kW W)).filter λx=>decide ((qR W x).1=x)
abbrev Rt:=Str×List Int
noncomputable def rd (x:Rt):D:=.tup [.str x.1,iD x.2]
noncomputable def RO (W:Wy) (seen:List Pr) (r:Int) (ns:List Int):List Rt:=(RT W).map λx=>(x,rW (yF (FO [] (CL W 0 seen)) x) r ns)
theorem UU:∀ W:Wy,Up (wD W)=g6 (kW W)
 | []=>rfl
 | e::W=>by
  have ih:=UU W
  show (Up (wD W)).map (e.1::·)=_
  rw [ih]
  rfl
theorem UV (S:Sn seen W) (hns:ns.length=seen.length) (hr:1<=r) (h9:r<=99) :
  wL [sD seen,.int r,nD ns]=.ok (.lst ((RO W seen r ns).map rd),[.non,.non,.non]):=by
 have hs:(LS seen).length<=20:=by have:=S.s; omega
 have h1:=JH S.n hs S.w S.a
 have hcl:=qaO W 0 seen
 have hn:=S.n
 have h2:=Xk (CL W 0 seen) 'a'
 have hlt:=qg2 S.w S.a
 obtain ⟨f1,_,f3,f4⟩:=QI (CL W 0 seen) []
 have hF:∀ c∈FO [] (CL W 0 seen),c∈CL W 0 seen:=λc hc=>by
  rcases f1 c hc with h | h
  ·cases h
  ·exact h
 unfold RO
 generalize hC:CL W 0 seen=C at h1 h2 hcl hlt f3 hF
 generalize hFo:FO [] C=F at h2 f3 hF
 have hle:=S.w.le
 have hs12:=S.s
 have hk64:(kW W).length < 64:=by simp [kW]; omega
 have hkz:((kW W).all λy=>decide (y.length<=sizeLine))=true:=by
  rw [aS]
  intro y hy
  exact decide_eq_true (jB (S.z y (S.w.sub y hy)))
 have hso:kt (.dct (wD W))=.ok (.lst ((jW (kW W)).map D.str)):=by
  unfold kt
  simp only [UU]
  rw [if_pos ⟨hk64,hkz⟩]
 have hsm:∀ x∈jW (kW W),x∈kW W:=λx hx=>(qK _).mem_iff.mp hx
 have hsl:(jW (kW W)).length<=12:=by rw [(qK _).length_eq]; simp [kW]; omega
 sleep 1
 unfold zr
 rw [show qw wK [sD seen,.int r,nD ns]=[g6 'j',g6 'l',g6 (nD ns),g7,g7,g7] from rfl]
 have hw:=S.e
 refine (qx (ρ1:=[g6 'j',g6 'l',g6 (nD ns),g6 (.dct (wD W)),g7,g7]) (by simp [qA,ji,hw])).trans ?_
 refine (qx (ρ1:=[g6 'j',g6 'l',g6 (nD ns),g6 (.dct (wD W)),g6 (.dct (fD F)),g7]) (by simp [qA,ji,h1,h2])).trans ?_
 have c1:=Ww (own:=[]) (cap:=[3]) (fi:=jY (d1 kt (qd 3))) (ft:=qV (d2 eqD (d2 ixD (d2 ixD (qd 1) (qd 0)) 'k') (qd 0))) (fe:=qd 0) (ρ:=[g6 'j',g6 'l',g6 (nD ns),g6 (.dct (wD W)),g6 (.dct (fD F)),g7]) (ρ1:=[g6 'j',g6 'l',g6 (nD ns),g6 (.dct (wD W)),g6 (.dct (fD F)),g7]) (ds:=(jW (kW W)).map D.str) (λd=>match d with | .str x=>decide ((qR W x).1=x) | _=>hJ) (λd=>d) 'h' (by simp [hso,jI]) (by rw [aA]; exact jB 'a') (λd hd=>by
  obtain ⟨x,hx,rfl⟩:=ai.mp hd
  have i1:=KZ S.w.nd (hsm x hx)
  simp [i1,qiD,eqD,eqN,eqS]
  rfl) (λd hd _=>by simp)
 have e1:(((jW (kW W)).map D.str).filter λd=>match d with | .str x=>decide ((qR W x).1=x) | _=>hJ).map (λd=>d)=(RT W).map D.str:=by
  rw [eV,eQ]
  rfl
 rw [e1] at c1
 refine (qx (ρ1:=[g6 'j',g6 'l',g6 (nD ns),g6 (.dct (wD W)),g6 (.dct (fD F)),g6 (.lst ((RT W).map D.str))]) (by rw [wt,c1]; rfl)).trans ?_
 have hRl:(RT W).length<=12:=by
  have:=ck (λx=>decide ((qR W x).1=x)) (jW (kW W))
  unfold RT
  omega
 have z2:2<=sizeLine:=jB 'a'
 have c2:=wl (cap:=[1,2,4]) (fi:=jY (qd 5)) (fe:=yJ (qc (qd 0) (qc (qt [.vl,.vl,.vl] vo (qc (qcb (qd 3) (qd 0) (zE qD)) (qc (qd 1) (qc (qd 2) qD)))) qD))) (ρ:=[g6 'j',g6 'l',g6 (nD ns),g6 (.dct (wD W)),g6 (.dct (fD F)),g6 (.lst ((RT W).map D.str))]) (ρ1:=[g6 'j',g6 'l',g6 (nD ns),g6 (.dct (wD W)),g6 (.dct (fD F)),g6 (.lst ((RT W).map D.str))]) (ds:=(RT W).map D.str) (λd=>match d with | .str x=>rd (x,rW (yF F x) r ns) | d=>d) (by simp [jI]) (by rw [aA]; exact jB 'a') (λd hd=>by
  obtain ⟨x,hx,rfl⟩:=ai.mp hd
  have g1:=qg4 F x
  have hgl:∀ k∈yF F x,k < ns.length:=λk hk=>by
   unfold yF at hk
   cases w:F.find? λd=>decide (d.1=x) with
   | none=>rw [w] at hk; cases hk
   | some d=>
    rw [w] at hk
    rw [hns]
    exact hlt d (hF d (bM w)) k hk
  have h3:=Ji hgl hr h9
  simp [qcb,JX,g1,qA,ji,h3,z2,rd])
 have e2:((RT W).map D.str).map (λd=>match d with | .str x=>rd (x,rW (yF F x) r ns) | d=>d)=((RT W).map λx=>(x,rW (yF F x) r ns)).map rd:=by
  rw [bb,bb]
  rfl
 rw [e2] at c2
 rw [gY,c2]
 rfl
noncomputable def HM (W:Wy) (seen:List Pr) (r:Int) (ns:List Int):Int:=match BO W seen r ns with
 | some _=>0
 | none=>(RO W seen r ns).foldl (λa x=>a * (x.2.length:Int)) 1
theorem Zr (l:List Pr):(LS l).Nodup:=(qK _).nodup_iff.mpr (wO _ [] cx).1
theorem Xm (h:(qX l).Nodup):Qc (.lst (prL l))=.ok (.dct (bk l)):=by
 have:=UP l [] h 'h'
 unfold Qc
 simp only [QF]
 rw [this]
 rfl
noncomputable def ju (l:List (Str×Int)) (s:List Pr) (r:Int):List Int:=s.map λx=>(jE l x.1+jE l x.2) % r
theorem Xn (l:List (Str×Int)) (s:List Pr) (r:Int):qdm l s r=(ju l s r).map D.int:=by
 unfold qdm ju
 rw [bb]
 rfl
theorem iR0 {f:Sl->Out (D×Sl)} {k:Int} (h0:0<=k) (h1:k<=2000) (h:f ρ=.ok (.int k,ρ1)):jD f ρ=.ok (yU 0 k.toNat,ρ1):=by
 have c1:-(2 ^ 62:Int)<=k/\k < 2 ^ 62:=by omega
 simp [jD,h,-Int.reducePow,c1]
noncomputable def sg (l:Wk):Int:=if odd l=hZ then -1 else 1
theorem qcG (k:Nat) (l:Wk):odd (k::l)=!odd l:=by
 unfold odd
 rw [ap]
 by_cases h:l.length % 2=1
 ·rw [decide_eq_true h,decide_eq_false 'a']; rfl
 ·rw [decide_eq_false h,decide_eq_true 'a']; rfl
theorem qfb (k:Nat) (l:Wk):sg (k::l)=- sg l:=by
 unfold sg
 rw [qcG]
 cases odd l <;> rfl
theorem ye (ns:List Int) (t:Int) (a b:Wk):qQ ns t (a++b)=qQ ns (qQ ns t a) b:=fh ..
theorem zz (ns:List Int) (t:Int) (k:Nat) (l:Wk):qQ ns t (k::l)=qQ ns (nI ns k - t) l:=rfl
theorem um (ns:List Int):∀ (l:Wk) (t:Int),qQ ns t l=qQ ns 0 l+sg l * t
 | [],t=>by simp [qQ,sg,odd]
 | k::l,t=>by
  have h1:=um ns l (nI ns k - t)
  have h2:=um ns l (nI ns k - 0)
  rw [zz,zz,h1,h2,qfb,fZ,fZ,Int.neg_mul]
  simp
  omega
theorem WA (ns:List Int):∀ (l:Wk) (s:Int),qQ ns (qQ ns s l) l.reverse=s
 | [],s=>rfl
 | k::l,s=>by
  have h:=WA ns l (nI ns k - s)
  rw [zz,dq,ye,h]
  show nI ns k - (nI ns k - s)=s
  omega
theorem qcH (l:Wk):sg l=1\/sg l=-1:=by
 unfold sg
 split
 ·exact .inr rfl
 ·exact .inl rfl
theorem qg8 {a:Int} (l:Wk):r ∣ sg l * a↔r ∣ a:=by
 rcases qcH l with h | h
 ·rw [h,fM]
 ·rw [h,Int.neg_one_mul,Int.dvd_neg]
theorem mod_iff {a b:Int}:a % r=b % r↔r ∣ a - b:=by rw [Int.emod_eq_emod_iff_emod_sub_eq_zero,Int.dvd_iff_emod_eq_zero]
theorem qcI {a b:Int} (h:r ∣ a - b) (a0:0<=a) (a1:a < r) (b0:0<=b) (b1:b < r):a=b:=by
 have:=mod_iff.mpr h
 rwa [bi a0 a1,bi b0 b1] at this
def Sol (seen:List Pr) (r:Int) (ns:List Int) (v:Str->Int):Prop:=∀ (k:Nat) (p:Pr),seen[k]?=g6 p->r ∣ v p.1+v p.2 - nI ns k
variable {v:Str->Int}
theorem Path.val (hS:Sol seen r ns v) {ρ:Str} {l:Wk} (h:Path seen ρ l x):r ∣ v x - qQ ns (v ρ) l:=by
 induction h with
 | nil=>
  show r ∣ v ρ - v ρ
  rw [Int.sub_self]
  exact ⟨0,by simp⟩
 | snoc hp e hq ih=>
  rename_i l x y k p
  have hk:=hS k p e
  have hsum:r ∣ v x+v y - nI ns k:=by
   rcases hq with rfl | rfl
   ·exact hk
   ·rw [Int.add_comm (v x)]; exact hk
  rw [ye]
  show r ∣ v y - (nI ns k - qQ ns (v ρ) l)
  have e1:v y - (nI ns k - qQ ns (v ρ) l)=(v x+v y - nI ns k) - (v x - qQ ns (v ρ) l):=by omega
  rw [e1]
  exact dE hsum ih
def okS (r:Int) (ns:List Int) (c:Wk) (s:Int):Prop:=r ∣ qQ ns s c - s
variable {c:Wk}
theorem Vc (h:odd c=hJ) (s:Int):okS r ns c s↔r ∣ qQ ns 0 c:=by
 unfold okS
 rw [um,show sg c=1 by unfold sg; rw [h]; rfl,fM,Int.add_sub_cancel]
theorem Vd (h:odd c=hZ) (s:Int):okS r ns c s↔r ∣ qQ ns 0 c - 2 * s:=by
 unfold okS
 rw [um,show sg c=-1 by unfold sg; rw [h]; rfl,show qQ ns 0 c + -1 * s - s=qQ ns 0 c - 2 * s by omega]
theorem qaP (W:Wy) (p:Pr) (k:Nat) (r:Int) (ns:List Int) (s:Int):okS r ns (UR W p k).2 s↔r ∣ qQ ns s (qR W p.1).2+qQ ns s (qR W p.2).2 - nI ns k:=by
 unfold okS UR
 simp only []
 rw [ye,ye]
 have h1:=WA ns (qR W p.2).2 s
 generalize qQ ns s (qR W p.1).2=A
 generalize qQ ns s (qR W p.2).2=B at h1
 generalize (qR W p.2).2.reverse=L at h1
 show r ∣ qQ ns (nI ns k - A) L - s↔_
 have e:qQ ns (nI ns k - A) L - s=sg L * (nI ns k - A - B):=by
  have h2:=um ns L (nI ns k - A)
  have h3:=um ns L B
  rw [h1] at h3
  rw [h2,fZ (sg L) (nI ns k - A) B]
  omega
 rw [e,qg8,show nI ns k - A - B=-(A+B - nI ns k) by omega,Int.dvd_neg]
theorem qg9 {k:Nat} {p:Pr} (h:seen[k]?=g6 p):UR W p k∈CL W 0 seen:=ai.mpr ⟨(p,k),List.mem_zipIdx_iff_getElem?.mpr h,rfl⟩
theorem qfc {c:Ci} (h:c∈CL W 0 seen):∃ (k:Nat) (p:Pr),seen[k]?=g6 p/\c=UR W p k:=by
 obtain ⟨q,hq,rfl⟩:=ai.mp h
 obtain ⟨p,k⟩:=q
 exact ⟨k,p,List.mem_zipIdx_iff_getElem?.mp hq,rfl⟩
theorem qfd (p:Pr):oth p p.1=p.2:=by unfold oth; rw [if_pos rfl]
theorem WB (S:Sn seen W) {p:Pr} (hp:p∈seen):(qR W p.1).1=(qR W p.2).1:=by
 obtain ⟨h1,h2⟩:=vN S.a p hp
 obtain ⟨e',he,e1,e2⟩:=S.C _ (jF h1) p hp (.inl rfl)
 simp only [] at e1 e2
 rw [qfd] at e1
 have:=gz S.w.nd he (jF h2) e1
 rw [this] at e2
 exact e2.symm
theorem qdr (S:Sn seen W) (hS:Sol seen r ns v):∀ c∈CL W 0 seen,okS r ns c.2 (v c.1):=by
 intro c hc
 obtain ⟨k,p,hk,rfl⟩:=qfc hc
 have hp:=aV hk
 obtain ⟨h1,h2⟩:=vN S.a p hp
 have v1:=(S.w.path _ (jF h1)).val hS
 have v2:=(S.w.path _ (jF h2)).val hS
 simp only [] at v1 v2
 rw [<-WB S hp] at v2
 show okS r ns (UR W p k).2 (v (qR W p.1).1)
 rw [qaP]
 have hs:=hS k p hk
 generalize qQ ns (v (qR W p.1).1) (qR W p.1).2=A at v1
 generalize qQ ns (v (qR W p.1).1) (qR W p.2).2=B at v2
 have e:A+B - nI ns k=(v p.1+v p.2 - nI ns k) - (v p.1 - A) - (v p.2 - B):=by omega
 rw [e]
 exact dE (dE hs v1) v2
noncomputable def vO (W:Wy) (r:Int) (ns:List Int) (σ:Str->Int) (x:Str):Int:=qQ ns (σ (qR W x).1) (qR W x).2 % r
theorem qds (S:Sn seen W) {σ:Str->Int} (h:∀ c∈CL W 0 seen,okS r ns c.2 (σ c.1)):Sol seen r ns (vO W r ns σ):=by
 intro k p hk
 have hp:=aV hk
 have h1:=h _ (qg9 hk)
 have h1:okS r ns (UR W p k).2 (σ (qR W p.1).1):=h1
 rw [qaP] at h1
 unfold vO
 rw [<-WB S hp]
 generalize qQ ns (σ (qR W p.1).1) (qR W p.1).2=A at h1
 generalize qQ ns (σ (qR W p.1).1) (qR W p.2).2=B at h1
 have d1:r ∣ A - A % r:=cm
 have d2:r ∣ B - B % r:=cm
 have e:A % r+B % r - nI ns k=(A+B - nI ns k) - (A - A % r) - (B - B % r):=by omega
 rw [e]
 exact dE (dE h1 d1) d2
theorem qaQ:∀ (C F:List Ci),∀ c∈FO F C,c∈F\/(c∈C/\odd c.2=hZ)
 | [],F,c,h=>.inl h
 | d::C,F,c,h=>by
  unfold FO at h
  by_cases q:odd d.2=hZ/\d.1∉kF F
  ·rw [if_pos q] at h
   rcases qaQ C _ c h with h | h
   ·rcases ao.mp h with h | h
    ·exact .inl h
    ·rw [am.mp h]
     exact .inr ⟨af ..,q.1⟩
   ·exact .inr ⟨aa _ h.1,h.2⟩
  ·rw [if_neg q] at h
   rcases qaQ C _ c h with h | h
   ·exact .inl h
   ·exact .inr ⟨aa _ h.1,h.2⟩
theorem Ve (h:x∈kF F):(x,yF F x)∈F:=by
 unfold yF
 cases q:F.find? λc=>decide (c.1=x) with
 | none=>
  obtain ⟨e,he,rfl⟩:=ai.mp h
  have:=dm.mp q e he
  simp at this
 | some c=>
  have h1:=bM q
  have h2:c.1=x:=by simpa using fI q
  rw [<-h2]
  exact h1
theorem qcJ (h:x∉kF F):yF F x=[]:=by
 unfold yF
 cases q:F.find? λc=>decide (c.1=x) with
 | none=>rfl
 | some c=>
  have h1:=bM q
  have h2:c.1=x:=by simpa using fI q
  exact absurd (ai.mpr ⟨c,h1,h2⟩) h
theorem qaR (a b:Wk):odd (a++b)=(odd a != odd b):=by
 unfold odd
 rw [aj]
 by_cases h1:a.length % 2=1 <;> by_cases h2:b.length % 2=1
 ·rw [decide_eq_true h1,decide_eq_true h2,decide_eq_false 'a']; rfl
 ·rw [decide_eq_true h1,decide_eq_false h2,decide_eq_true 'a']; rfl
 ·rw [decide_eq_false h1,decide_eq_true h2,decide_eq_true 'a']; rfl
 ·rw [decide_eq_false h1,decide_eq_false h2,decide_eq_false 'a']; rfl
theorem gA (h:odd c=hJ):Zq c r ns=hJ↔r ∣ qQ ns 0 c:=by
 unfold Zq
 rw [h,if_neg be,Int.dvd_iff_emod_eq_zero]
 simp
theorem qaS (h:odd c=hZ):Zq c r ns=hJ↔¬(r % 2=0/\qQ ns 0 c % 2=1):=by
 unfold Zq
 rw [h,if_pos rfl]
 simp
theorem qdt (ns:List Int) (f c:Wk) (h:odd c=hZ):qQ ns 0 (f++c)=qQ ns 0 c - qQ ns 0 f:=by
 rw [ye,um,show sg c=-1 by unfold sg; rw [h]; rfl]
 omega
section
abbrev FF (W:Wy) (seen:List Pr):List Ci:=FO [] (CL W 0 seen)
theorem qaT {c:Ci} (h:c∈FF W seen):c∈CL W 0 seen/\odd c.2=true:=by
 rcases qaQ _ _ c h with h | h
 ·cases h
 ·exact h
theorem bo_none:BO W seen r ns=g7↔∀ c∈CL W 0 seen,(odd c.2=hJ->r ∣ qQ ns 0 c.2)/\(odd c.2=hZ->¬(r % 2=0/\qQ ns 0 c.2 % 2=1)/\r ∣ qQ ns 0 c.2 - qQ ns 0 (yF (FF W seen) c.1)):=by
 unfold BO
 rw [dm]
 have hk:∀ c∈CL W 0 seen,odd c.2=hZ->odd (yF (FF W seen) c.1)=true:=λc hc ho=>(qaT (Ve ((QI _ _).2.2.1 c hc ho))).2
 constructor
 ·intro h c hc
  have h1:Zq c.2 r ns=false:=by simpa using h c (ao.mpr (.inl hc))
  refine ⟨λho=>(gA ho).mp h1,λho=>⟨(qaS ho).mp h1,?_⟩⟩
  have h2:Zq (yF (FF W seen) c.1++c.2) r ns=false:=by
   have:=h (c.1,yF (FF W seen) c.1++c.2) (ao.mpr (.inr (ai.mpr ⟨c,aF.mpr ⟨hc,by simpa using ho⟩,rfl⟩)))
   simpa using this
  rw [gA (by rw [qaR,hk c hc ho,ho]; rfl),qdt _ _ _ ho] at h2
  exact h2
 ·intro h w hw
  rcases ao.mp hw with hw | hw
  ·cases ho:odd w.2 with
   | false=>simpa using (gA ho).mpr ((h w hw).1 ho)
   | true=>simpa using (qaS ho).mpr ((h w hw).2 ho).1
  ·obtain ⟨c,hc,rfl⟩:=ai.mp hw
   obtain ⟨hc,ho⟩:=aF.mp hc
   have ho:odd c.2=true:=by simpa using ho
   have:Zq (yF (FF W seen) c.1++c.2) r ns=false:=by
    rw [gA (by rw [qaR,hk c hc ho,ho]; rfl),qdt _ _ _ ho]
    exact ((h c hc).2 ho).2
   simpa using this
theorem qfe (S:Sn seen W) (hS:Sol seen r ns v):BO W seen r ns=none:=by
 have hok:=qdr S hS
 rw [bo_none]
 intro c hc
 refine ⟨λho=>(Vc ho _).mp (hok c hc),λho=>?_⟩
 have h1:=(Vd ho _).mp (hok c hc)
 have hm:=Ve ((QI (CL W 0 seen) []).2.2.1 c hc ho)
 obtain ⟨f1,f2⟩:=qaT hm
 have h2:=(Vd f2 _).mp (hok _ f1)
 refine ⟨λ⟨e1,e2⟩=>?_,?_⟩
 ·obtain ⟨m,hm⟩:=h1
  obtain ⟨j,hj⟩:=d4 e1
  rw [hj,fq] at hm
  omega
 ·simp only [] at h2
  have e:qQ ns 0 c.2 - qQ ns 0 (yF (FF W seen) c.1)=(qQ ns 0 c.2 - 2 * v c.1) - (qQ ns 0 (yF (FF W seen) c.1) - 2 * v c.1):=by omega
  rw [e]
  exact dE h1 h2
end
theorem qaU {t s:Int} (hr:1<=r) (s0:0<=s) (s1:s < r) (hp:¬(r % 2=0/\t % 2=1)):r ∣ t - 2 * s↔s∈(if r % 2=0 then [zb t r,zb t r+r / 2] else [zb t r]):=by
 have h0:0 < r:=by omega
 have t0:=bV t (show r≠0 by omega)
 have t1:=bC t h0
 have hd:r ∣ t - t % r:=cm
 have hpar:r % 2=0->t % r % 2=0:=λe=>by
  obtain ⟨m,hm⟩:=hd
  obtain ⟨j,hj⟩:=d4 e
  have:t % 2=0:=by
   have:=Int.emod_two_eq t
   rcases this with h | h
   ·exact h
   ·exact absurd ⟨e,h⟩ hp
  have e2:r * m=2 * (j * m):=by rw [hj,fq]
  generalize t % r=u at hm ⊢
  omega
 have key:r ∣ t - 2 * s↔(t % r - 2 * s=0\/t % r - 2 * s=-r):=by
  constructor
  ·intro h
   have h2:r ∣ t % r - 2 * s:=by
    have e:t % r - 2 * s=(t - 2 * s) - (t - t % r):=by omega
    rw [e]
    exact dE h hd
   generalize t % r=u at *
   by_cases q:2 * s<=u
   ·refine .inl ?_
    have:=df h2
    rwa [bi 'a' 'a'] at this
   ·by_cases q2:2 * s<=u+r
    ·refine .inr ?_
     have h3:r ∣ u - 2 * s+r:=d6 h2 ⟨1,by simp⟩
     have:=df h3
     rw [bi 'a' 'a'] at this
     omega
    ·exfalso
     have h3:r ∣ u - 2 * s+r+r:=d6 (d6 h2 ⟨1,by simp⟩) ⟨1,by simp⟩
     have:=df h3
     rw [bi 'a' 'a'] at this
     omega
  ·intro h
   have e:t - 2 * s=(t - t % r)+(t % r - 2 * s):=by omega
   rw [e]
   refine d6 hd ?_
   rcases h with h | h
   ·rw [h]; exact ⟨0,by simp⟩
   ·rw [h]; exact ⟨-1,by simp⟩
 rw [key]
 unfold zb
 by_cases q:r % 2=0
 ·have hu:=hpar q
  rw [if_pos q,if_pos hu]
  generalize t % r=u at *
  simp only [ae,aK,or_false]
  constructor
  ·rintro (h | h)
   ·exact .inl 'a'
   ·exact .inr 'a'
  ·rintro (h | h)
   ·exact .inl 'a'
   ·exact .inr 'a'
 ·rw [if_neg q]
  generalize t % r=u at *
  rw [am]
  by_cases q2:u % 2=0
  ·rw [if_pos q2]
   constructor
   ·rintro (h | h) <;> omega
   ·intro h; exact .inl 'a'
  ·rw [if_neg q2]
   constructor
   ·rintro (h | h) <;> omega
   ·intro h; exact .inr 'a'
theorem qff {t:Int} (hr:1<=r):0<=zb t r/\zb t r < r/\(r % 2=0->t % r % 2=0->zb t r+r / 2 < r):=by
 have t0:=bV t (show r≠0 by omega)
 have t1:=bC t (show 0 < r by omega)
 unfold zb
 generalize t % r=u at *
 split <;> refine ⟨by omega,by omega,λh h2=>by omega⟩
section
abbrev ch (W:Wy) (seen:List Pr) (r:Int) (ns:List Int) (x:Str):List Int:=rW (yF (FF W seen) x) r ns
theorem qha (hr:1<=r) (hb:BO W seen r ns=g7) (x:Str) (s:Int):s∈ch W seen r ns x↔(0<=s/\s < r)/\∀ c∈CL W 0 seen,c.1=x->okS r ns c.2 s:=by
 have hb':=bo_none.mp hb
 unfold ch rW
 by_cases q:x∈kF (FF W seen)
 ·have hm:=Ve q
  obtain ⟨f1,f2⟩:=qaT hm
  simp only [] at f2
  have hne:yF (FF W seen) x≠[]:=λz=>by rw [z] at f2; exact absurd f2 'c'
  have hf:=(hb' _ f1).2 f2
  simp only [] at hf
  rw [if_neg hne]
  have hT:∀ s,(∀ c∈CL W 0 seen,c.1=x->okS r ns c.2 s)↔r ∣ qQ ns 0 (yF (FF W seen) x) - 2 * s:=λs=>by
   constructor
   ·intro h
    exact (Vd f2 s).mp (h _ f1 rfl)
   ·intro h c hc he
    cases ho:odd c.2 with
    | false=>exact (Vc ho s).mpr ((hb' c hc).1 ho)
    | true=>
     have h1:=((hb' c hc).2 ho).2
     rw [he] at h1
     rw [Vd ho]
     have e:qQ ns 0 c.2 - 2 * s=(qQ ns 0 c.2 - qQ ns 0 (yF (FF W seen) x))+(qQ ns 0 (yF (FF W seen) x) - 2 * s):=by omega
     rw [e]
     exact d6 h1 h
  rw [hT s]
  generalize qQ ns 0 (yF (FF W seen) x)=t at hf
  have hin:=qff (t:=t) hr
  have hpar:r % 2=0->t % r % 2=0:=λe=>by
   obtain ⟨m,hm⟩:r ∣ t - t % r:=cm
   obtain ⟨j,hj⟩:=d4 e
   have:t % 2=0:=by
    rcases Int.emod_two_eq t with h | h
    ·exact h
    ·exact absurd ⟨e,h⟩ hf.1
   have e2:r * m=2 * (j * m):=by rw [hj,fq]
   generalize t % r=u at hm ⊢
   omega
  constructor
  ·intro h
   have hs:0<=s/\s < r:=by
    by_cases q2:r % 2=0
    ·rw [if_pos q2] at h
     simp only [ae,aK,or_false] at h
     have:=hin.2.2 q2 (hpar q2)
     rcases h with rfl | rfl
     ·exact ⟨hin.1,hin.2.1⟩
     ·exact ⟨by omega,this⟩
    ·rw [if_neg q2] at h
     rw [am.mp h]
     exact ⟨hin.1,hin.2.1⟩
   exact ⟨hs,(qaU hr hs.1 hs.2 hf.1).mpr h⟩
  ·rintro ⟨hs,h⟩
   exact (qaU hr hs.1 hs.2 hf.1).mp h
 ·rw [qcJ q,if_pos rfl]
  constructor
  ·intro h
   obtain ⟨j,hj,rfl⟩:=ai.mp h
   have:=aL.mp hj
   refine ⟨⟨by omega,by omega⟩,λc hc he=>?_⟩
   cases ho:odd c.2 with
   | false=>exact (Vc ho _).mpr ((hb' c hc).1 ho)
   | true=>
    exact absurd (by rw [<-he]; exact (QI (CL W 0 seen) []).2.2.1 c hc ho) q
  ·rintro ⟨⟨s0,s1⟩,_⟩
   exact ai.mpr ⟨s.toNat,aL.mpr 'a',by omega⟩
theorem qiH (hr:1<=r) (x:Str):(ch W seen r ns x).Nodup:=by
 unfold ch rW
 split
 ·have:(aE r.toNat).Nodup:=List.nodup_range
  exact fj _ (λa b h=>by omega) this
 ·split
  ·refine aM.mpr ⟨λh=>?_,by simp⟩
   have:=am.mp h
   omega
  ·simp
end
abbrev Ln:=List (Str×Int)
noncomputable def evS (r:Int) (x:Str) (rows:List Ln):List Ln:=rows.flatMap λl=>(aE r.toNat).map λ(j:Nat)=>l++[(x,(j:Int))]
noncomputable def EV (r:Int) (rows:List Ln):List Str->List Ln
 | []=>rows
 | x::L=>EV r (evS r x rows) L
variable {rows:List Ln}
theorem qaV (hr:1<=r) {l:Ln}:l∈evS r x rows↔∃ l0∈rows,∃ i:Int,0<=i/\i < r/\l=l0++[(x,i)]:=by
 unfold evS
 rw [cJ]
 constructor
 ·rintro ⟨l0,h0,h⟩
  obtain ⟨j,hj,rfl⟩:=ai.mp h
  have:=aL.mp hj
  exact ⟨l0,h0,j,by omega,by omega,rfl⟩
 ·rintro ⟨l0,h0,i,i0,i1,rfl⟩
  exact ⟨l0,h0,ai.mpr ⟨i.toNat,aL.mpr 'a',by rw [Int.toNat_of_nonneg i0]⟩⟩
theorem qdu (hr:1<=r):∀ (L:List Str) (rows:List Ln) (l:Ln),l∈EV r rows L↔∃ l0∈rows,∃ m:Ln,l=l0++m/\qX m=L/\∀ e∈m,0<=e.2/\e.2 < r
 | [],rows,l=>by
  constructor
  ·intro h
   exact ⟨l,h,[],by simp,rfl,by simp⟩
  ·rintro ⟨l0,h0,m,rfl,hk,_⟩
   have:m=[]:=by cases m with
    | nil=>rfl
    | cons a m=>cases hk
   subst this
   rw [bg]
   exact h0
 | x::L,rows,l=>by
  show l∈EV r (evS r x rows) L↔_
  rw [qdu hr L]
  constructor
  ·rintro ⟨l1,h1,m,rfl,hk,hm⟩
   obtain ⟨l0,h0,i,i0,i1,rfl⟩:=(qaV hr).mp h1
   refine ⟨l0,h0,(x,i)::m,by simp,by simp [qX] at hk ⊢; exact hk,λe he=>?_⟩
   rcases ae.mp he with rfl | he
   ·exact ⟨i0,i1⟩
   ·exact hm e he
  ·rintro ⟨l0,h0,m,rfl,hk,hm⟩
   cases m with
   | nil=>cases hk
   | cons a m=>
    obtain ⟨y,i⟩:=a
    have hk:y::qX m=x::L:=hk
    injection hk with h1 h2
    subst h1
    have:=hm (y,i) (af ..)
    exact ⟨l0++[(y,i)],(qaV hr).mpr ⟨l0,h0,i,this.1,this.2,rfl⟩,m,by simp,h2,λe he=>hm e (aa _ he)⟩
theorem qhb (h:rows.Nodup):(evS r x rows).Nodup:=by
 unfold evS
 unfold aJ
 rw [List.pairwise_flatMap]
 constructor
 ·intro l hl
  have:(aE r.toNat).Nodup:=List.nodup_range
  exact fj _ (λa b h=>λz=>by
   have:=List.append_cancel_left z
   simp at this
   exact h 'a') this
 ·refine List.Pairwise.imp (λ{a b} hab=>?_) h
  intro y hy z hz e
  obtain ⟨i,_,rfl⟩:=ai.mp hy
  obtain ⟨j,_,rfl⟩:=ai.mp hz
  exact hab (List.append_inj_left' e rfl)
theorem qhc:∀ (L:List Str) (rows:List Ln),rows.Nodup->(EV r rows L).Nodup
 | [],rows,h=>h
 | x::L,rows,h=>qhc L _ (qhb h)
abbrev EV0 (r:Int) (L:List Str):List Ln:=EV r [[]] L
theorem QK (hr:1<=r) {L:List Str} {l:Ln}:l∈EV0 r L↔qX l=L/\∀ e∈l,0<=e.2/\e.2 < r:=by
 rw [qdu hr]
 constructor
 ·rintro ⟨l0,h0,m,rfl,h⟩
  rw [am.mp h0,ci]
  exact h
 ·intro h
  exact ⟨[],am.mpr rfl,l,rfl,h⟩
theorem kM (f:Str->Int):∀ {L:List Str} {x:Str},x∈L->jE (L.map λx=>(x,f x)) x=f x
 | [],x,h=>by cases h
 | y::L,x,h=>by
  unfold jE
  rw [aD]
  by_cases q:y=x
  ·subst q
   rw [bI 'h']
   rfl
  ·rw [bB (by simpa using q)]
   rcases ae.mp h with h | h
   ·exact absurd h.symm q
   ·exact kM f h
theorem QL:∀ {l:Ln},(qX l).Nodup->l=(qX l).map λx=>(x,jE l x)
 | [],_=>rfl
 | (y,i)::l,h=>by
  have hn:=aM.mp (show (y::qX l).Nodup from h)
  have ih:=QL hn.2
  show (y,i)::l=(y,jE ((y,i)::l) y)::(qX l).map λx=>(x,jE ((y,i)::l) x)
  have e1:jE ((y,i)::l) y=i:=by unfold jE; rw [bI 'h']; rfl
  have e2:((qX l).map λx=>(x,jE ((y,i)::l) x))=(qX l).map λx=>(x,jE l x):=by
   refine cE λx hx=>?_
   have:y≠x:=λz=>hn.1 (z ▸ hx)
   show (x,jE ((y,i)::l) x)=_
   unfold jE
   rw [bB (by simpa using this)]
  rw [e1,e2,<-ih]
theorem uo (f:Str->Int) (L:List Str):qX (L.map λx=>(x,f x))=L:=by
 unfold qX
 rw [bb]
 exact eV L
theorem gB {α:Type} [DecidableEq α]:∀ {a b:List α},a.Nodup->(∀ x∈a,x∈b)->a.length<=b.length
 | [],b,_,_=>bp _
 | x::a,b,hn,h=>by
  have hn2:=aM.mp hn
  have hx:=h x (af ..)
  have ih:=gB (b:=b.erase x) hn2.2 λy hy=>(List.mem_erase_of_ne (λz=>hn2.1 (by rw [<-z]; exact hy))).mpr (h y (aa _ hy))
  rw [List.length_erase_of_mem hx] at ih
  have:=ce hx
  rw [ap]
  omega
theorem qaW {β:Type} [DecidableEq β] {A:List α} {B:List β} (f:α->β) (hA:A.Nodup) (hf:∀ a∈A,f a∈B) (hi:∀ a∈A,∀ b∈A,f a=f b->a=b):A.length<=B.length:=by
 have hm:(A.map f).Nodup:=by
  unfold aJ
  rw [List.pairwise_map]
  refine List.Pairwise.imp_of_mem (λ{a b} ha hb hab=>λz=>hab (hi a ha b hb z)) hA
 have:=gB hm (b:=B) λx hx=>by
  obtain ⟨a,ha,rfl⟩:=ai.mp hx
  exact hf a ha
 rwa [aA] at this
noncomputable def PV (c:Str->List Int):List Str->List Ln
 | []=>[[]]
 | x::R=>(c x).flatMap λs=>(PV c R).map λl=>(x,s)::l
theorem qdv {β γ:Type} (P:List β) (g:α->β->γ):∀ c:List α,(c.flatMap λs=>P.map (g s)).length=c.length * P.length
 | []=>by simp
 | a::c=>by
  rw [et,aj,qdv P g c,aA,ap,Nat.succ_mul]
  omega
theorem qaX (c:Str->List Int):∀ (R:List Str) (t:Int),(R.map λx=>((x,c x):Rt)).foldl (λa x=>a * (x.2.length:Int)) t=t * ((PV c R).length:Int)
 | [],t=>by simp [PV]
 | x::R,t=>by
  rw [aD,cg,qaX c R,show PV c (x::R)=(c x).flatMap λs=>(PV c R).map λl=>(x,s)::l from rfl,qdv,Int.natCast_mul,fq]
theorem yR (c:Str->List Int):∀ {R:List Str} {l:Ln},l∈PV c R↔qX l=R/\∀ e∈l,e.2∈c e.1
 | [],l=>by
  constructor
  ·intro h
   rw [am.mp h]
   exact ⟨rfl,by simp⟩
  ·rintro ⟨h,_⟩
   cases l with
   | nil=>exact am.mpr rfl
   | cons a l=>cases h
 | x::R,l=>by
  unfold PV
  rw [cJ]
  constructor
  ·rintro ⟨s,hs,h⟩
   obtain ⟨l',hl,rfl⟩:=ai.mp h
   obtain ⟨h1,h2⟩:=(yR c).mp hl
   refine ⟨by show x::qX l'=_; rw [h1],λe he=>?_⟩
   rcases ae.mp he with rfl | he
   ·exact hs
   ·exact h2 e he
  ·rintro ⟨h1,h2⟩
   cases l with
   | nil=>cases h1
   | cons a l=>
    obtain ⟨y,s⟩:=a
    have h1:y::qX l=x::R:=h1
    injection h1 with h3 h4
    subst h3
    exact ⟨s,h2 _ (af ..),ai.mpr ⟨l,(yR c).mpr ⟨h4,λe he=>h2 e (aa _ he)⟩,rfl⟩⟩
theorem qhd (c:Str->List Int) (hc:∀ x,(c x).Nodup):∀ R:List Str,(PV c R).Nodup
 | []=>by simp [PV]
 | x::R=>by
  unfold PV
  unfold aJ
  rw [List.pairwise_flatMap]
  constructor
  ·intro s hs
   exact fj _ (λa b h=>λz=>by injection z with _ z; exact h z) (qhd c hc R)
  ·refine List.Pairwise.imp (λ{a b} hab=>?_) (hc x)
   intro y hy z hz e
   obtain ⟨l,_,rfl⟩:=ai.mp hy
   obtain ⟨m,_,rfl⟩:=ai.mp hz
   injection e with e _
   injection e with _ e
   exact hab e
section
theorem gC (hn:qI seen.length r ns) (l:Ln):ju l seen r=ns↔Sol seen r ns (jE l):=by
 have hk:∀ k p,seen[k]?=g6 p->∃ i,ns[k]?=g6 i/\nI ns k=i/\0<=i/\i < r:=λk p h=>by
  have hlt:k < ns.length:=by rw [hn.1]; exact (aC.mp h).1
  refine ⟨ns[k],ah hlt,by unfold nI; rw [ah hlt]; rfl,hn.2 _ (bG hlt)⟩
 constructor
 ·intro h k p hp
  obtain ⟨i,e1,e2,i0,i1⟩:=hk k p hp
  rw [<-h] at e1
  unfold ju at e1
  rw [aG,hp] at e1
  have e1:(jE l p.1+jE l p.2) % r=i:=by simpa using e1
  rw [e2]
  apply mod_iff.mp
  rw [e1,bi i0 i1]
 ·intro h
  apply eh
  intro k
  unfold ju
  rw [aG]
  cases hp:seen[k]? with
  | none=>
   have:ns[k]?=none:=by
    rw [bJ] at hp ⊢
    rw [hn.1]
    exact hp
   rw [this]
   rfl
  | some p=>
   obtain ⟨i,e1,e2,i0,i1⟩:=hk k p hp
   have:=mod_iff.mpr (h k p hp)
   rw [e2,bi i0 i1] at this
   rw [e1,<-this]
   rfl
theorem QM (S:Sn seen W) (hy:y∈kW W):(qR W y).1∈kW W/\qR W (qR W y).1=((qR W y).1,[]):=by
 have h1:=S.R _ (jF hy)
 have h2:(qR W y).1∈kW W:=ai.mpr ⟨_,h1,rfl⟩
 have:=gz S.w.nd (jF h2) h1 rfl
 refine ⟨h2,?_⟩
 injection this
theorem mem_RT:x∈RT W↔x∈kW W/\(qR W x).1=x:=by
 unfold RT
 rw [aF,(qK _).mem_iff]
 simp
theorem qfg (S:Sn seen W):(RT W).Nodup:=((qK _).nodup_iff.mpr S.w.nd).filter _
theorem qcK (S:Sn seen W) (hr:1<=r) (hn:qI seen.length r ns):HM W seen r ns=(((EV0 r (LS seen)).filter λl=>decide (ju l seen r=ns)).length:Int)/\(BO W seen r ns=g7↔0 < ((EV0 r (LS seen)).filter λl=>decide (ju l seen r=ns)).length):=by
 have hA:∀ l,l∈(EV0 r (LS seen)).filter (λl=>decide (ju l seen r=ns))↔(qX l=LS seen/\∀ e∈l,0<=e.2/\e.2 < r)/\Sol seen r ns (jE l):=λl=>by
  rw [aF,QK hr,decide_eq_true_eq,gC hn]
 have hAn:((EV0 r (LS seen)).filter λl=>decide (ju l seen r=ns)).Nodup:=(qhc _ _ 'h').filter _
 generalize (EV0 r (LS seen)).filter (λl=>decide (ju l seen r=ns))=A at hA hAn
 have hval:∀ l∈A,∀ x∈LS seen,0<=jE l x/\jE l x < r:=λl hl x hx=>by
  obtain ⟨⟨h1,h2⟩,_⟩:=(hA l).mp hl
  exact h2 _ (uj (by rw [h1]; exact hx)).1
 unfold HM
 cases hb:BO W seen r ns with
 | some c=>
  have:A=[]:=by
   cases A with
   | nil=>rfl
   | cons l A=>
    have:=qfe S ((hA l).mp (af ..)).2
    rw [hb] at this
    cases this
  rw [this]
  simp
 | none=>
  have hch:=qha hr hb
  have hRL:∀ x∈RT W,x∈LS seen:=λx hx=>S.w.sub x (mem_RT.mp hx).1
  have hCk:∀ c∈CL W 0 seen,c.1∈RT W:=λc hc=>by
   obtain ⟨k,p,hk,rfl⟩:=qfc hc
   have hp:=(vN S.a p (aV hk)).1
   obtain ⟨h1,h2⟩:=QM S hp
   exact mem_RT.mpr ⟨h1,by show (qR W (qR W p.1).1).1=_; rw [h2]; rfl⟩
  have le1:A.length<=(PV (ch W seen r ns) (RT W)).length:=by
   refine qaW (λl=>(RT W).map λx=>(x,jE l x)) hAn (λl hl=>?_) (λa ha b hb2 e=>?_)
   ·refine (yR _).mpr ⟨uo _ _,λe he=>?_⟩
    obtain ⟨x,hx,rfl⟩:=ai.mp he
    refine (hch x _).mpr ⟨hval l hl x (hRL x hx),λc hc hcx=>?_⟩
    have:=qdr S ((hA l).mp hl).2 c hc
    rw [hcx] at this
    exact this
   ·obtain ⟨⟨a1,a2⟩,a3⟩:=(hA a).mp ha
    obtain ⟨⟨b1,b2⟩,b3⟩:=(hA b).mp hb2
    have hroot:∀ x∈RT W,jE a x=jE b x:=λx hx=>by
     have h1:=kM (jE a) hx
     have h2:=kM (jE b) hx
     rw [<-h1,<-h2]
     exact congrArg (λl=>jE l x) e
    have hall:∀ y∈LS seen,jE a y=jE b y:=λy hy=>by
     have hyk:=S.a y hy
     obtain ⟨r1,r2⟩:=QM S hyk
     have hr':(qR W y).1∈RT W:=mem_RT.mpr ⟨r1,by rw [r2]⟩
     have v1:=(S.w.path _ (jF hyk)).val a3
     have v2:=(S.w.path _ (jF hyk)).val b3
     simp only [] at v1 v2
     rw [hroot _ hr'] at v1
     have h1:=hval a ha y hy
     have h2:=hval b hb2 y hy
     refine qcI ?_ h1.1 h1.2 h2.1 h2.2
     have e1:jE a y - jE b y=(jE a y - qQ ns (jE b (qR W y).1) (qR W y).2) - (jE b y - qQ ns (jE b (qR W y).1) (qR W y).2):=by omega
     rw [e1]
     exact dE v1 v2
    have hnd:(qX a).Nodup:=by rw [a1]; exact Zr _
    have hnd2:(qX b).Nodup:=by rw [b1]; exact Zr _
    rw [QL hnd,QL hnd2,a1,b1]
    exact cE λy hy=>by rw [hall y hy]
  have le2:(PV (ch W seen r ns) (RT W)).length<=A.length:=by
   refine qaW (λl=>(LS seen).map λx=>(x,vO W r ns (jE l) x)) (qhd _ (λx=>qiH hr x) _) (λl hl=>?_) (λa ha b hb2 e=>?_)
   ·obtain ⟨l1,l2⟩:=(yR _).mp hl
    have hok:∀ c∈CL W 0 seen,okS r ns c.2 (jE l c.1):=λc hc=>by
     have:=l2 _ (uj (by rw [l1]; exact hCk c hc)).1
     exact ((hch _ _).mp this).2 c hc rfl
    have hs:=qds S hok
    refine (hA _).mpr ⟨⟨uo _ _,λe he=>?_⟩,λk p hk=>?_⟩
    ·obtain ⟨x,_,rfl⟩:=ai.mp he
     exact ⟨bV _ 'a',bC _ 'a'⟩
    ·have hp:=aV hk
     have m1:p.1∈LS seen:=mem_LS.mpr ⟨p,hp,.inl rfl⟩
     have m2:p.2∈LS seen:=mem_LS.mpr ⟨p,hp,.inr rfl⟩
     rw [kM (vO W r ns (jE l)) m1,kM (vO W r ns (jE l)) m2]
     exact hs k p hk
   ·obtain ⟨a1,a2⟩:=(yR _).mp ha
    obtain ⟨b1,b2⟩:=(yR _).mp hb2
    have hrt:∀ x∈RT W,jE a x=jE b x:=λx hx=>by
     have m:=hRL x hx
     have h1:=kM (vO W r ns (jE a)) m
     have h2:=kM (vO W r ns (jE b)) m
     have h3:vO W r ns (jE a) x=vO W r ns (jE b) x:=by
      rw [<-h1,<-h2]
      exact congrArg (λl=>jE l x) e
     obtain ⟨k1,k2⟩:=mem_RT.mp hx
     obtain ⟨_,r2⟩:=QM S k1
     rw [k2] at r2
     unfold vO at h3
     rw [r2] at h3
     have h3:jE a x % r=jE b x % r:=h3
     have c1:=((hch x _).mp (a2 _ (uj (by rw [a1]; exact hx)).1)).1
     have c2:=((hch x _).mp (b2 _ (uj (by rw [b1]; exact hx)).1)).1
     rwa [bi c1.1 c1.2,bi c2.1 c2.2] at h3
    have hnd:(qX a).Nodup:=by rw [a1]; exact qfg S
    have hnd2:(qX b).Nodup:=by rw [b1]; exact qfg S
    rw [QL hnd,QL hnd2,a1,b1]
    exact cE λy hy=>by rw [hrt y hy]
  have heq:A.length=(PV (ch W seen r ns) (RT W)).length:=fH le1 le2
  have hpos:0 < (PV (ch W seen r ns) (RT W)).length:=by
   have hl:((RT W).map λx=>(x,((ch W seen r ns x).head?).getD 0))∈PV (ch W seen r ns) (RT W):=(yR _).mpr ⟨uo _ _,λe he=>by
    obtain ⟨x,_,rfl⟩:=ai.mp he
    show ((ch W seen r ns x).head?).getD 0∈ch W seen r ns x
    have hne:ch W seen r ns x≠[]:=by
     unfold ch rW
     split
     ·intro z
      have:=congrArg fK z
      simp at this
      omega
     ·split <;> simp
    cases hc:ch W seen r ns x with
    | nil=>exact absurd hc hne
    | cons a l=>exact af ..⟩
   exact ce hl
  refine ⟨?_,λ_=>by rw [heq]; exact hpos,λ_=>rfl⟩
  have:=qaX (ch W seen r ns) (RT W) 1
  rw [fM,<-heq] at this
  exact this
end
noncomputable def sub (l:List α) (ks:Wk):List α:=ks.filterMap λk=>l[k]?
noncomputable def kept (n:Nat) (g:Wk):Wk:=(aE n).filter λk=>decide (k∉g)
abbrev gD (g:Wk):D:=.tup (inL g)
theorem Vf {l:List α} {ks:Wk} {x:α} (h:x∈sub l ks):x∈l:=by
 obtain ⟨k,_,hk⟩:=dO.mp h
 exact aV hk
theorem gE {l:List α} {k:Nat} {x:α} (h:l[k]?=g6 x) (ks:Wk):sub l (k::ks)=x::sub l ks:=by
 unfold sub
 rw [cW h]
theorem kN (l:List α):∀ ks:Wk,(∀ k∈ks,k < l.length)->(sub l ks).length=ks.length
 | [],_=>rfl
 | k::ks,h=>by
  have hk:=h k (af ..)
  rw [gE (ah hk),ap,kN l ks (λj hj=>h j (aa _ hj)),ap]
variable {g:Wk}
theorem UW:∀ k∈kept n g,k < n:=λk hk=>aL.mp (aF.mp hk).1
theorem Xo (n:Nat) (g:Wk):(kept n g).length<=n:=by
 have:=ck (λk=>decide (k∉g)) (aE n)
 rw [bO] at this
 exact this
theorem WC (k:Nat):∀ g:Wk,JP 7 (.int (k:Nat)) (inL g)=g6 (decide (k∈g))
 | []=>by simp [JP,inL]
 | a::g=>by
  have ih:=WC k g
  simp only [inL,aD,JP] at ih ⊢
  rw [ih]
  by_cases h:a=k
  ·subst h; simp [eqN,eqS]
  ·have h2:¬(a:Int)=(k:Int):=by omega
   have h3:¬k=a:=λz=>h z.symm
   simp [eqN,eqS,h2,h3]
theorem Xp (k:Nat) (g:Wk):gf (.int (k:Nat)) (gD g)=.ok (.bl (!decide (k∈g))):=by
 show (inD (.int (k:Nat)) (gD g)).bind (λb=>Out.ok (D.bl (!b)))=_
 unfold inD
 simp only [WC]
 rfl
theorem qhe {k:Nat} {p:Pr} (h:seen[k]?=g6 p):ixD 'j' (.int (k:Nat))=.ok (pD p):=by
 unfold ixD
 simp only []
 unfold jA
 rw [wp,aG,h]
 rfl
noncomputable def slv (r:Int) (seen:List Pr) (ns:List Int):List Ln:=(EV0 r (LS seen)).filter λl=>decide (ju l seen r=ns)
noncomputable def okB (r:Int) (seen:List Pr) (ns:List Int) (g:Wk):Bool:=decide (0 < (slv r (sub seen (kept seen.length g)) (sub ns (kept seen.length g))).length)
theorem qiI (l:List Pr):(LS l).length<=2 * l.length:=by
 have:=UQ (a:=LS l) (b:=l.map (·.1)++l.map (·.2)) (Zr l) λx hx=>by
  obtain ⟨p,hp,h⟩:=mem_LS.mp hx
  rcases h with rfl | rfl
  ·exact ao.mpr (.inl (ai.mpr ⟨p,hp,rfl⟩))
  ·exact ao.mpr (.inr (ai.mpr ⟨p,hp,rfl⟩))
 rw [aj,aA,aA] at this
 omega
theorem qdw (S:Sn seen W) (ks:Wk) (hk:ks.length<=6):∃ W',Sn (sub seen ks) W':=by
 have hn:(sub seen ks).length<=6:=by
  unfold sub
  exact br (List.length_filterMap_le ..) hk
 have hs:(LS (sub seen ks)).length<=12:=by have:=qiI (sub seen ks); omega
 obtain ⟨W',a,b,c,d,e⟩:=JG hn hs
 exact ⟨W',hn,hs,a,b,c,d,e,λx hx=>by
  obtain ⟨p,hp,h⟩:=mem_LS.mp hx
  exact S.z x (mem_LS.mpr ⟨p,Vf hp,h⟩)⟩
theorem qhf (S:Sn seen W) (hr:1<=r) (hn:qI seen.length r ns) (g:Wk) (hg:g.length<=2000) :
  jq [sD seen,.int r,nD ns,gD g]=.ok (.bl (okB r seen ns g),[.non,.non,.non,.non]):=by
 have h6:=S.n
 have hkl:=Xo seen.length g
 have hlt:=UW (n:=seen.length) (g:=g)
 have hri:jD (d1 jy (qd 0)) [g6 'j',g6 'l',g6 (nD ns),g6 (gD g),g7]=.ok ((aE seen.length).map λ(j:Nat)=>.int j,[g6 'j',g6 'l',g6 (nD ns),g6 (gD g),g7]):=by
  rw [iR0 (k:=(seen.length:Int)) (ρ1:=[g6 'j',g6 'l',g6 (nD ns),g6 (gD g),g7]) 'a' 'a' (by simp [jy,jA]),bZ]
  simp [yU]
 have c1:=Ww (own:=[]) (cap:=[3]) (fi:=jD (d1 jy (qd 0))) (ft:=qV (d2 gf (qd 0) (qd 1))) (fe:=qd 0) (λd=>match d with | .int i=>decide (i.toNat∉g) | _=>hJ) (λd=>d) 'h' hri (by simp; exact jB 'a') (λd hd=>by
  obtain ⟨j,hj,rfl⟩:=ai.mp hd
  have:=Xp j g
  simp [this]) (λd hd _=>by simp)
 have e1:(((aE seen.length).map λ(j:Nat)=>D.int j).filter λd=>match d with | .int i=>decide (i.toNat∉g) | _=>hJ).map (λd=>d)=inL (kept seen.length g):=by
  rw [eV,eQ]
  unfold inL kept
  congr 1
 rw [e1] at c1
 generalize hks:kept seen.length g=ks at c1 hkl hlt
 have c2:=wl (cap:=[0]) (fi:=jY (qd 4)) (fe:=d2 ixD (qd 1) (qd 0)) (ρ:=[g6 'j',g6 'l',g6 (nD ns),g6 (gD g),g6 (.lst (inL ks))]) (ρ1:=[g6 'j',g6 'l',g6 (nD ns),g6 (gD g),g6 (.lst (inL ks))]) (ds:=inL ks) (λd=>match d with | .int i=>pD ((seen[i.toNat]?).getD (⟨#[]⟩,⟨#[]⟩)) | d=>d) (by simp [jI]) (by rw [ul]; exact jB 'a') (λd hd=>by
  obtain ⟨j,hj,rfl⟩:=ai.mp hd
  have hjl:=hlt j hj
  have:=qhe (ah hjl)
  simp [this,ah hjl])
 have e2:(inL ks).map (λd=>match d with | .int i=>pD ((seen[i.toNat]?).getD (⟨#[]⟩,⟨#[]⟩)) | d=>d)=jA (sub seen ks):=by
  unfold inL jA sub
  rw [bb,eY]
  have:∀ l:Wk,(∀ k∈l,k < seen.length)->l.map ((λd=>match d with | .int i=>pD ((seen[i.toNat]?).getD (⟨#[]⟩,⟨#[]⟩)) | d=>d) ∘ λ(k:Nat)=>D.int (k:Nat))=l.filterMap λk=>(seen[k]?).map λx=>.tup [.str x.1,.str x.2]:=λl=>by
   induction l with
   | nil=>intro _; rfl
   | cons k l ih=>
    intro h
    have hk:=h k (af ..)
    rw [aD,ih (λj hj=>h j (aa _ hj)),cW (by rw [ah hk]; rfl)]
    simp [ah hk]
  exact this ks hlt
 rw [e2] at c2
 have c3:=wl (cap:=[2]) (fi:=jY (qd 4)) (fe:=d2 ixD (qd 1) (qd 0)) (ρ:=[g6 'j',g6 'l',g6 (nD ns),g6 (gD g),g6 (.lst (inL ks))]) (ρ1:=[g6 'j',g6 'l',g6 (nD ns),g6 (gD g),g6 (.lst (inL ks))]) (ds:=inL ks) (λd=>match d with | .int i=>.int (nI ns i.toNat) | d=>d) (by simp [jI]) (by rw [ul]; exact jB 'a') (λd hd=>by
  obtain ⟨j,hj,rfl⟩:=ai.mp hd
  have:=Xf (ns:=ns) (k:=j) (by rw [hn.1]; exact hlt j hj)
  simp [this])
 have e3:(inL ks).map (λd=>match d with | .int i=>D.int (nI ns i.toNat) | d=>d)=(sub ns ks).map D.int:=by
  unfold inL sub
  rw [bb,eY]
  have:∀ l:Wk,(∀ k∈l,k < ns.length)->l.map ((λd=>match d with | .int i=>D.int (nI ns i.toNat) | d=>d) ∘ λ(k:Nat)=>D.int (k:Nat))=l.filterMap λk=>(ns[k]?).map D.int:=λl=>by
   induction l with
   | nil=>intro _; rfl
   | cons k l ih=>
    intro h
    have hk:=h k (af ..)
    rw [aD,ih (λj hj=>h j (aa _ hj)),cW (by rw [ah hk]; rfl)]
    simp [nI,ah hk]
  exact this ks λk hk=>by rw [hn.1]; exact hlt k hk
 rw [e3] at c3
 obtain ⟨W',S'⟩:=qdw S ks 'a'
 have hn':qI (sub seen ks).length r (sub ns ks):=⟨by rw [kN seen ks hlt,kN ns ks (λk hk=>by rw [hn.1]; exact hlt k hk)],λi hi=>hn.2 i (Vf hi)⟩
 have hb:=QJ S' (Xg (sub ns ks)) hn'.1 hr
 obtain ⟨_,cnt⟩:=qcK S' hr hn'
 have hbo:jq [sD seen,.int r,nD ns,gD g]=.ok (.bl (decide (BO W' (sub seen ks) r (sub ns ks)=g7)),[.non,.non,.non,.non]):=by
  sleep 1
  unfold kL
  rw [show qw jp [sD seen,.int r,nD ns,gD g]=[g6 'j',g6 'l',g6 (nD ns),g6 (gD g),g7] from rfl]
  refine (qx (ρ1:=[g6 'j',g6 'l',g6 (nD ns),g6 (gD g),g6 (.lst (inL ks))]) (by rw [wt,c1]; rfl)).trans ?_
  cases q:BO W' (sub seen ks) r (sub ns ks) with
  | none=>
   rw [q] at hb
   simp [c2,c3,qA,ji,hb,qed,qv]
  | some c=>
   rw [q] at hb
   simp [c2,c3,qA,ji,hb,qed,cd,qv]
 have e5:okB r seen ns g=decide (BO W' (sub seen ks) r (sub ns ks)=g7):=by
  unfold okB slv
  rw [hks]
  exact (decide_eq_decide.mpr cnt).symm
 rw [hbo,e5]
noncomputable def stt (g:Wk):Nat:=match g.getLast? with
 | some k=>k+1
 | none=>0
noncomputable def OL1 (n:Nat) (g:Wk):List Wk:=(f7 (stt g) (n - stt g)).map λk=>g++[k]
noncomputable def OL (n:Nat) (cs:List Wk):List Wk:=cs.flatMap (OL1 n)
noncomputable def gR (cs:List Wk):List D:=cs.map gD
theorem iR2 {fa fb:Sl->Out (D×Sl)} {i j:Int} (h0:-100<=i) (h1:i<=1000) (k0:-100<=j) (k1:j<=1000) (h:fa ρ=.ok (.int i,ρ1)) (h':fb ρ1=.ok (.int j,ρ2)):zj fa fb ρ=.ok (yU i (j - i).toNat,ρ2):=by
 have c1:qb9 i j:=⟨⟨by omega,by omega⟩,by omega,by omega⟩
 simp [zj,h,h',c1]
abbrev olB:Sl->Out (Fl×Sl):=(qW (jQ 4 (dIf (qV (d2 gtD (d1 jy (qd 3)) 'k')) (d2 kE (d2 ixD (qd 3) (d1 qfy (dC (.int 1)))) (dC (.int 1))) 'k'))
  (vd (JU 2 qeu (jg [2] 1 [3] (zj (qd 4) (qd 1)) (gNm 0) ftT (d2 kE (qd 1) (yJ (qc (qd 0) qD)))))))
theorem qfh (g:Wk) (k:Nat):ixD (gD (g++[k])) (.int (-1))=.ok (.int (k:Nat)):=by
 unfold ixD
 simp only []
 unfold atI ixN
 rw [ul,aj]
 simp only [ap,bc]
 rw [if_neg 'a',if_pos 'a']
 have:(-1+((g.length+(0+1):Nat):Int)).toNat=g.length:=by omega
 rw [this]
 simp [inL]
theorem qfi (hn:n<=6) (g:Wk) (hg:g.length<=50) (hb:∀ k∈g,k < n) (acc:List Wk) (ha:acc.length<=1000000) (a x4:Option D) :
  ∃ y4,olB [a,g6 (.int (n:Nat)),g6 (.lst (gR acc)),g6 (gD g),x4]=.ok (.nx,[a,g6 (.int (n:Nat)),g6 (.lst (gR (acc++OL1 n g))),g6 (gD g),y4]):=by
 have z1:1<=sizeLine:=jB 'a'
 have hst:stt g<=n:=by
  unfold stt
  cases q:g.getLast? with
  | none=>simp
  | some k=>
   have:=hb k (List.mem_of_getLast? q)
   simp
   omega
 have e4:dIf (qV (d2 gtD (d1 jy (qd 3)) 'k')) (d2 kE (d2 ixD (qd 3) (d1 qfy (dC (.int 1)))) (dC (.int 1))) 'k' [a,g6 (.int (n:Nat)),g6 (.lst (gR acc)),g6 (gD g),x4]=.ok (.int (stt g:Nat),[a,g6 (.int (n:Nat)),g6 (.lst (gR acc)),g6 (gD g),x4]):=by
  unfold stt
  cases q:g.getLast? with
  | none=>
   have hg0:g=[]:=List.getLast?_eq_none_iff.mp q
   subst hg0
   simp [inL,jy,gtD,uz]
  | some k=>
   obtain ⟨g',rfl⟩:=List.getLast?_eq_some_iff.mp q
   have hl:=qfh g' k
   have hlen:jy (gD (g'++[k]))=.ok (.int ((g'.length+1:Nat):Int)):=by simp [jy,inL]
   have hpos:(0:Int) < ((g'.length+1:Nat):Int):=by omega
   generalize gD (g'++[k])=gd at hl hlen
   simp [hlen,gtD,uz,qfy,hl,kE]
 refine ⟨g6 (.int (stt g:Nat)),?_⟩
 unfold olB
 rw [qcF (ρ1:=[a,g6 (.int (n:Nat)),g6 (.lst (gR acc)),g6 (gD g),g6 (.int (stt g:Nat))]) (by rw [wt,e4]; rfl)]
 have hri:=iR2 (fa:=qd 4) (fb:=qd 1) (ρ:=[a,g6 (.int (n:Nat)),g6 (.lst (gR acc)),g6 (gD g),g6 (.int (stt g:Nat))]) (ρ1:=[a,g6 (.int (n:Nat)),g6 (.lst (gR acc)),g6 (gD g),g6 (.int (stt g:Nat))]) (ρ2:=[a,g6 (.int (n:Nat)),g6 (.lst (gR acc)),g6 (gD g),g6 (.int (stt g:Nat))]) (i:=(stt g:Nat)) (j:=(n:Nat)) 'a' 'a' 'a' 'a' rfl rfl
 have hr2:yU (stt g:Nat) (((n:Nat):Int) - (stt g:Nat)).toNat=(f7 (stt g) (n - stt g)).map λ(k:Nat)=>D.int (k:Nat):=by
  unfold yU
  rw [List.range'_eq_map_range,bb,show (((n:Nat):Int) - (stt g:Nat)).toNat=n - stt g by omega]
  refine cE λk _=>?_
  show D.int ((stt g:Nat)+(k:Nat))=D.int ((stt g+k:Nat):Int)
  rw [Int.natCast_add]
 rw [hr2] at hri
 have hz:g.length+1<=sizeLine:=jB 'a'
 have c1:=UN (own:=[2]) (cap:=[3]) (fi:=zj (qd 4) (qd 1)) (fe:=d2 kE (qd 1) (yJ (qc (qd 0) qD))) (λd=>match d with | .int k=>.tup (inL g++[.int k]) | d=>d) 'c' hri (by rw [aA,List.length_range']; exact jB 'a') (λd hd=>by
  obtain ⟨j,hj,rfl⟩:=ai.mp hd
  have hz2:(inL g).length+1<=sizeLine:=by rw [ul]; exact hz
  simp [kE,z1,hz2])
 have e1:((f7 (stt g) (n - stt g)).map λ(k:Nat)=>D.int (k:Nat)).map (λd=>match d with | .int k=>.tup (inL g++[.int k]) | d=>d)=gR (OL1 n g):=by
  unfold gR OL1
  rw [bb,bb]
  refine cE λk _=>?_
  show D.tup (inL g++[.int (k:Nat)])=gD (g++[k])
  simp [inL]
 rw [e1] at c1
 have hs:(gR acc).length+(gR (OL1 n g)).length<=sizeLine:=by
  have:(OL1 n g).length<=6:=by simp [OL1]; omega
  unfold gR
  rw [aA,aA]
  exact br 'a' (show 1100000<=sizeLine by rw [ij]; decide)
 have hA:gR (acc++OL1 n g)=gR acc++gR (OL1 n g):=by simp [gR]
 rw [hA]
 generalize gR (OL1 n g)=G at c1 hs
 have hi:yY ([a,g6 (.int (n:Nat)),g6 (.lst (gR acc)),g6 (gD g),g6 (.int (stt g:Nat))]:Sl)[2]?=true:=rfl
 rw [qb7,qeD,if_pos hi,c1,kY]
 simp only [c9,dZ]
 simp [qeu,hs]
theorem qaY (hn:n<=6) (g:Wk):(OL1 n g).length<=6:=by simp [OL1]; omega
theorem qaZ (hn:n<=6) (a:Option D):∀ (cs acc:List Wk) (x3 x4:Option D),(∀ g∈cs,g.length<=50/\∀ k∈g,k < n)->acc.length+6 * cs.length<=1000000 ->
  ∃ y3 y4,wA (gNm 3) olB (gR cs) [a,g6 (.int (n:Nat)),g6 (.lst (gR acc)),x3,x4]=.ok (.nx,[a,g6 (.int (n:Nat)),g6 (.lst (gR (acc++OL n cs))),y3,y4])
 | [],acc,x3,x4,_,_=>⟨x3,x4,by simp [gR,OL,wA]⟩
 | g::cs,acc,x3,x4,h,hl=>by
  rw [ap] at hl
  obtain ⟨h1,h2⟩:=h g (af ..)
  obtain ⟨z4,e⟩:=qfi hn g h1 h2 acc 'a' a x4
  have hol:=qaY hn g
  obtain ⟨y3,y4,ih⟩:=qaZ hn a cs (acc++OL1 n g) (g6 (gD g)) z4 (λm hm=>h m (aa _ hm)) (by rw [aj]; omega)
  refine ⟨y3,y4,cL (yd (d:=gD g) (ρ1:=[a,g6 (.int (n:Nat)),g6 (.lst (gR acc)),g6 (gD g),x4]) rfl e) (cL ih ?_)⟩
  rw [show OL n (g::cs)=OL1 n g++OL n cs from et,aP]
variable {cs:List Wk}
theorem Vg (hn:n<=6) (h:∀ g∈cs,g.length<=50/\∀ k∈g,k < n) (hl:cs.length<=100000):kZ [.lst (gR cs),.int (n:Nat)]=.ok (.lst (gR (OL n cs)),[.non,.non]):=by
 obtain ⟨y3,y4,e⟩:=qaZ hn (g6 (.lst (gR cs))) cs [] g7 g7 h (by simp; omega)
 sleep 1
 unfold yc
 rw [show qw wk [.lst (gR cs),.int (n:Nat)]=[g6 (.lst (gR cs)),g6 (.int (n:Nat)),g7,g7,g7] from rfl]
 refine (qx (ρ1:=[g6 (.lst (gR cs)),g6 (.int (n:Nat)),g6 (.lst []),g7,g7]) 'h').trans ?_
 refine (qx (ρ1:=[g6 (.lst (gR cs)),g6 (.int (n:Nat)),g6 (.lst (gR (OL n cs))),y3,y4]) (by
  rw [wu,show jY (qd 0) [g6 (.lst (gR cs)),g6 (.int (n:Nat)),g6 (.lst []),g7,g7]=.ok (gR cs,[g6 (.lst (gR cs)),g6 (.int (n:Nat)),g6 (.lst []),g7,g7]) from rfl,kY]
  exact e)).trans ?_
 simp [qv]
noncomputable def FW (n:Nat) (P:Wk->Bool):Nat->List Wk->List Wk
 | 0,cs=>cs.filter P
 | m+1,cs=>if cs.filter P=[] then FW n P m (OL n cs) else cs.filter P
theorem qa0 (h:g∈OL n cs):∃ g0∈cs,∃ k,k < n/\g=g0++[k]:=by
 obtain ⟨g0,h0,h1⟩:=cJ.mp h
 obtain ⟨k,hk,rfl⟩:=ai.mp h1
 have:=ez.mp hk
 exact ⟨g0,h0,k,by omega,rfl⟩
variable {i:Nat}
theorem qfj (hi:i < n) (h:aE i∈cs):aE (i+1)∈OL n cs:=by
 refine cJ.mpr ⟨_,h,ai.mpr ⟨i,?_,by rw [List.range_succ]⟩⟩
 have:stt (aE i)=i:=by
  unfold stt
  cases i with
  | zero=>rfl
  | succ j=>rw [List.range_succ,List.getLast?_append]; simp
 rw [this]
 exact ez.mpr ⟨ax _,by omega⟩
theorem qa1 (hn:n<=6):∀ cs:List Wk,(OL n cs).length<=6 * cs.length
 | []=>by simp [OL]
 | g::cs=>by
  have ih:=qa1 hn cs
  have:=qaY hn g
  rw [show OL n (g::cs)=OL1 n g++OL n cs from et,aj,ap]
  omega
abbrev fwC:Sl->Out (Bool×Sl):=qV (d2 eqD (d1 jy (qd 4)) 'k')
abbrev fwT (G:List D->Out 'i'):Sl->Out (Bool×Sl):=xq (qt [.vl,.vl,.vl,.vl] G (qc (qd 1) (qc (qd 2) (qc (qd 3) (qc (qd 0) qD)))))
abbrev fwB (G O:List D->Out 'i'):Sl->Out (Fl×Sl):=(qW (jQ 4 (jg [] 1 [0,1,2] (jY (qd 3)) (gNm 0) (fwT G) (qd 0)))
  (jQ 3 (qt [.vl,.vl] O (qc (qd 3) (qc (d1 jy (qd 0)) qD)))))
variable {P:Wk->Bool}
theorem qa2 {c:D} (hG:∀ g:Wk,g.length<=50->G [a,b,c,gD g]=.ok (.bl (P g),[.non,.non,.non,.non])):∀ (cs:List Wk) (x:Option D),(∀ g∈cs,g.length<=50) ->
  ∃ x',jH (gNm 0) (fwT G) (qd 0) (gR cs) [x,g6 a,g6 b,g6 c]=.ok (gR (cs.filter P),[x',g6 a,g6 b,g6 c])
 | [],x,_=>⟨x,rfl⟩
 | g::cs,x,h=>by
  have h1:=hG g (h g (af ..))
  obtain ⟨x',ih⟩:=qa2 hG cs (g6 (gD g)) λm hm=>h m (aa _ hm)
  refine ⟨x',?_⟩
  have e0:gR (g::cs)=gD g::gR cs:=rfl
  rw [e0]
  cases q:P g with
  | true=>
   rw [List.filter_cons_of_pos q]
   rw [q] at h1
   simp [jH,yX,qA,ji,h1,wQ,ih]
   rfl
  | false=>
   rw [List.filter_cons_of_neg (by rw [q]; exact be)]
   rw [q] at h1
   simp [jH,yX,qA,ji,h1,wQ,ih]
theorem qfk:okB r seen ns (aE seen.length)=true:=by
 have hk:kept seen.length (aE seen.length)=[]:=by
  unfold kept
  rw [List.filter_eq_nil_iff]
  intro k hk
  simp at hk ⊢
  exact hk
 unfold okB
 rw [hk]
 show decide (0 < (slv r (sub seen []) (sub ns [])).length)=hZ
 have:slv r (sub seen []) (sub ns [])=[[]]:=by
  show (EV0 r (LS [])).filter _=_
  have hl:LS []=[]:=by decide +kernel
  rw [hl]
  rfl
 rw [this]
 rfl
theorem qcL {O:List D->Out 'i'} (h6:seen.length<=6) {c:D} (hG:∀ g:Wk,g.length<=50->G [sD seen,b,c,gD g]=.ok (.bl (P g),[.non,.non,.non,.non]))
  (hO:∀ cs:List Wk,(∀ g∈cs,g.length<=50/\∀ k∈g,k < seen.length)->cs.length<=100000->O [.lst (gR cs),.int (seen.length:Nat)]=.ok (.lst (gR (OL seen.length cs)),[.non,.non])) (hP:P (aE seen.length)=hZ):∀ (m i:Nat) (cs:List Wk),m+i=seen.length->aE i∈cs->(∀ g∈cs,g.length<=i/\∀ k∈g,k < seen.length)->cs.length<=6 ^ i ->
  ∃ y3 f0 fs,FW seen.length P m cs=f0::fs/\∀ fuel:Nat,m+2<=fuel->jz fwC (fwB G O) fuel [g6 'j',g6 b,g6 c,g6 (.lst (gR cs)),g6 (.lst [])]=.ok (.nx,[g6 'j',g6 b,g6 c,y3,g6 (.lst (gR (f0::fs)))]):=by
 intro m
 have hlen:jy 'j'=.ok (.int (seen.length:Nat)):=by simp [jy,jA]
 have step:∀ (i:Nat) (cs:List Wk),i<=6->(∀ g∈cs,g.length<=i/\∀ k∈g,k < seen.length)->cs.length<=6 ^ i->∀ fu,jz fwC (fwB G O) (fu+1) [g6 'j',g6 b,g6 c,g6 (.lst (gR cs)),g6 (.lst [])]=jz fwC (fwB G O) fu [g6 'j',g6 b,g6 c,g6 (.lst (gR (OL seen.length cs))),g6 (.lst (gR (cs.filter P)))]:=λi cs hi hb hl fu=>by
  obtain ⟨x',c1⟩:=qa2 hG cs g7 (λg hg=>by have:=(hb g hg).1; omega)
  have hpow:6 ^ i<=46656:=br (Nat.pow_le_pow_right 'a' hi) 'c'
  have h1:=hO cs (λg hg=>⟨by have:=(hb g hg).1; omega,(hb g hg).2⟩) 'a'
  have d1:=za (own:=[]) (cap:=[0,1,2]) (nt:=1) (fi:=jY (qd 3)) (g:=gNm 0) (ft:=fwT G) (fe:=qd 0) (ρ:=[g6 'j',g6 b,g6 c,g6 (.lst (gR cs)),g6 (.lst [])]) (ρ1:=[g6 'j',g6 b,g6 c,g6 (.lst (gR cs)),g6 (.lst [])]) (ds:=gR cs) rfl (by unfold gR; rw [aA]; exact br 'a' (show 1100000<=sizeLine by rw [ij]; decide)) c1
  refine Xi (ρ1:=[g6 'j',g6 b,g6 c,g6 (.lst (gR cs)),g6 (.lst [])]) (by simp [jy,eqD,eqN,eqS]) ?_
  unfold fwB
  rw [qcF (ρ1:=[g6 'j',g6 b,g6 c,g6 (.lst (gR cs)),g6 (.lst (gR (cs.filter P)))]) (by rw [wt,d1]; rfl)]
  simp [qA,ji,hlen,h1]
 have stop:∀ (y3:Option D) (f0:Wk) (fs:List Wk) (fu:Nat),jz fwC (fwB G O) (fu+1) [g6 'j',g6 b,g6 c,y3,g6 (.lst (gR (f0::fs)))]=.ok (.nx,[g6 'j',g6 b,g6 c,y3,g6 (.lst (gR (f0::fs)))]):=λy3 f0 fs fu=>by
  refine Wz ?_
  have hne:¬((fs.length:Int)+1=0):=by omega
  simp [jy,gR,eqD,eqN,eqS,hne]
 induction m with
 | zero=>
  intro i cs hi hf hb hl
  have hi:i=seen.length:=by omega
  have hne:cs.filter P≠[]:=List.ne_nil_of_mem (aF.mpr ⟨by rw [hi] at hf; exact hf,hP⟩)
  cases hF:cs.filter P with
  | nil=>exact absurd hF hne
  | cons f0 fs=>
   refine ⟨g6 (.lst (gR (OL seen.length cs))),f0,fs,hF,λfuel hfu=>?_⟩
   obtain ⟨fu,rfl⟩:∃ fu,fuel=fu+1+1:=⟨fuel - 2,by omega⟩
   rw [step i cs 'a' hb hl,hF]
   exact stop _ _ _ _
 | succ m ih=>
  intro i cs hi hf hb hl
  cases hF:cs.filter P with
  | nil=>
   obtain ⟨y3,f0,fs,e1,e2⟩:=ih (i+1) (OL seen.length cs) 'a' (qfj 'a' hf) (λg hg=>by
    obtain ⟨g0,h0,k,hk,rfl⟩:=qa0 hg
    obtain ⟨b1,b2⟩:=hb g0 h0
    refine ⟨by rw [aj]; simp; omega,λj hj=>?_⟩
    rcases ao.mp hj with hj | hj
    ·exact b2 j hj
    ·rw [am.mp hj]; exact hk) (by
    have:=qa1 h6 cs
    rw [Nat.pow_succ]
    omega)
   refine ⟨y3,f0,fs,?_,λfuel hfu=>?_⟩
   ·unfold FW
    rw [if_pos hF]
    exact e1
   ·obtain ⟨fu,rfl⟩:∃ fu,fuel=fu+1:=⟨fuel - 1,by omega⟩
    rw [step i cs 'a' hb hl,hF]
    exact e2 fu 'a'
  | cons f0 fs=>
   refine ⟨g6 (.lst (gR (OL seen.length cs))),f0,fs,?_,λfuel hfu=>?_⟩
   ·unfold FW
    rw [if_neg (by rw [hF]; simp)]
    exact hF
   ·obtain ⟨fu,rfl⟩:∃ fu,fuel=fu+1+1:=⟨fuel - 2,by omega⟩
    rw [step i cs 'a' hb hl,hF]
    exact stop _ _ _ _
theorem qfl (S:Sn seen W) (h0:1<=r) (hn:qI seen.length r ns) :
  ∃ y3 f0 fs,FW seen.length (okB r seen ns) seen.length [[]]=f0::fs/\∀ fuel:Nat,seen.length+2<=fuel->jz fwC (fwB jq kZ) fuel [g6 'j',g6 'l',g6 (nD ns),g6 (.lst (gR [[]])),g6 (.lst [])]=.ok (.nx,[g6 'j',g6 'l',g6 (nD ns),y3,g6 (.lst (gR (f0::fs)))]):=
 qcL S.n (λg hg=>qhf S h0 hn g 'a') (λcs h1 h2=>Vg S.n h1 h2) qfk seen.length 0 [[]] rfl 'h' 'h' 'h'
theorem WD (S:Sn seen W) (h0:1<=r) (hn:qI seen.length r ns) :
  ∃ f0 fs,FW seen.length (okB r seen ns) seen.length [[]]=f0::fs/\gu [sD seen,.int r,nD ns]=.ok (.lst (gR (f0::fs)),[.non,.non,.non]):=by
 obtain ⟨y3,f0,fs,a1,a2⟩:=qfl S h0 hn
 have hsn:=S.n
 have a3:=a2 20 'a'
 refine ⟨f0,fs,a1,?_⟩
 have z1:1<=sizeLine:=jB 'a'
 sleep 1
 unfold KH
 generalize hG:jq=G at a3
 generalize hO:kZ=O at a3
 rw [show qw gt [sD seen,.int r,nD ns]=[g6 'j',g6 'l',g6 (nD ns),g7,g7] from rfl]
 refine (qx (ρ1:=[g6 'j',g6 'l',g6 (nD ns),g6 (.lst (gR [[]])),g7]) (by simp [z1,gR,inL])).trans ?_
 refine (qx (ρ1:=[g6 'j',g6 'l',g6 (nD ns),g6 (.lst (gR [[]])),g6 (.lst [])]) 'h').trans ?_
 generalize (20:Nat)=fu at a3
 refine (qx a3).trans ?_
 simp [qv]
variable {sd:D}
theorem qcM {T:List D->Out 'i'} {c x:D} {ls:List D} (hT:T [a,b,c,d]=.ok (sd,[.non,.non,.non,.non])) (hG:G [sd,c,d]=.ok (.lst (x::ls),[.non,.non,.non])) :
  XW [.val,.val,.val,.val] ((qW (jQ 4 (qt [.vl,.vl,.vl,.vl] T (qc (qd 0) (qc (qd 1) (qc (qd 2) (qc (qd 3) qD)))))) (jR (d2 ixD (qt [.vl,.vl,.vl] G (qc (qd 4) (qc (qd 2) (qc (qd 3) qD)))) 'k'))) [g6 a,g6 b,g6 c,g6 d,g7])=.ok (x,[.non,.non,.non,.non]):=by
 have hix:ixD (.lst (x::ls)) (.int 0)=.ok x:=by simp [ixD,at0]
 simp [qv,qA,ji,hT,hG,hix]
theorem QN (hw:jM ws) (hl:Vk p q) (h0:1<=r) (h9:r<=99) (hn:qI ws.length r ns) (S:Sn (qy ws p q) W) :
  ∃ f0 fs,FW ws.length (okB r (qy ws p q) ns) ws.length [[]]=f0::fs/\yw [Wd ws,Ld p q,.int r,nD ns]=.ok (gD f0,[.non,.non,.non,.non]):=by
 have hsl:(qy ws p q).length=ws.length:=by simp [qy]
 have e1:=Vb hw hl h0 h9 hn
 obtain ⟨f0,fs,a1,hf⟩:=WD S h0 (ns:=ns) (by rw [hsl]; exact hn)
 rw [hsl] at a1
 exact ⟨f0,fs,a1,runD_ap.trans (qcM e1 hf)⟩
theorem qa3 (hr:1<=r) (hn:qI seen.length r ns) (l:Ln):l∈slv r seen ns↔(qX l=LS seen/\∀ e∈l,0<=e.2/\e.2 < r)/\Sol seen r ns (jE l):=by
 unfold slv
 rw [aF,QK hr,decide_eq_true_eq,gC hn]
theorem qfm (hr:1<=r) (hn:qI seen.length r ns):0 < (slv r seen ns).length↔∃ v,Sol seen r ns v:=by
 constructor
 ·intro h
  obtain ⟨l,hl⟩:=List.exists_mem_of_length_pos h
  exact ⟨_,((qa3 hr hn l).mp hl).2⟩
 ·rintro ⟨v,hv⟩
  refine ce (a:=(LS seen).map λx=>(x,v x % r)) ((qa3 hr hn _).mpr ⟨⟨uo _ _,λe he=>?_⟩,λk p hk=>?_⟩)
  ·obtain ⟨x,_,rfl⟩:=ai.mp he
   exact ⟨bV _ 'a',bC _ 'a'⟩
  ·have hp:=aV hk
   have m1:p.1∈LS seen:=mem_LS.mpr ⟨p,hp,.inl rfl⟩
   have m2:p.2∈LS seen:=mem_LS.mpr ⟨p,hp,.inr rfl⟩
   rw [kM (λx=>v x % r) m1,kM (λx=>v x % r) m2]
   have d0:=hv k p hk
   have d1:r ∣ v p.1 % r - v p.1:=Int.dvd_emod_sub_self
   have d2:r ∣ v p.2 % r - v p.2:=Int.dvd_emod_sub_self
   have e:v p.1 % r+v p.2 % r - nI ns k=(v p.1+v p.2 - nI ns k)+(v p.1 % r - v p.1)+(v p.2 % r - v p.2):=by omega
   rw [e]
   exact d6 (d6 d0 d1) d2
def cnd (seen:List Pr) (r:Int) (ns:List Int) (v:Str->Int) (k:Nat):Prop:=∀ p,seen[k]?=g6 p->r ∣ v p.1+v p.2 - nI ns k
theorem UX {seen:List Pr} {r:Int} {ns:List Int} (hl:ns.length=seen.length) {v:Str->Int}:∀ ks:Wk,(∀ k∈ks,k < seen.length)->(Sol (sub seen ks) r (sub ns ks) v↔∀ k∈ks,cnd seen r ns v k)
 | [],_=>⟨λ_ k hk=>(nomatch hk),λ_ k p hk=>(by simp [sub] at hk)⟩
 | k::ks,h=>by
  have hk:=h k (af ..)
  have ih:=UX (v:=v) (r:=r) hl ks λj hj=>h j (aa _ hj)
  have e1:seen[k]?=g6 seen[k]:=ah hk
  have e2:ns[k]?=g6 (nI ns k):=by unfold nI; rw [ah (by rw [hl]; exact hk)]; rfl
  rw [gE e1,gE e2]
  constructor
  ·intro hS j hj
   rcases ae.mp hj with rfl | hj
   ·intro p hp
    rw [e1] at hp
    cases hp
    exact hS 0 _ rfl
   ·exact (ih.mp λi p hp=>hS (i+1) p hp) j hj
  ·intro hc i p hp
   cases i with
   | zero=>
    have hp:g6 seen[k]=g6 p:=hp
    cases hp
    exact hc k (af ..) _ e1
   | succ i=>exact (ih.mpr λj hj=>hc j (aa _ hj)) i p hp
theorem xi (hr:1<=r) (hn:qI seen.length r ns) (g:Wk):okB r seen ns g=hZ↔∃ v,∀ k,k < seen.length->k∉g->cnd seen r ns v k:=by
 unfold okB
 have hlt:=UW (n:=seen.length) (g:=g)
 have hmem:∀ k,k∈kept seen.length g↔k < seen.length/\k∉g:=λk=>by
  unfold kept
  rw [aF,aL]
  simp
 generalize kept seen.length g=ks at hlt hmem
 have hn':qI (sub seen ks).length r (sub ns ks):=⟨by rw [kN seen ks hlt,kN ns ks (λk hk=>by rw [hn.1]; exact hlt k hk)],λi hi=>hn.2 i (Vf hi)⟩
 rw [decide_eq_true_eq,qfm hr hn']
 constructor
 ·rintro ⟨v,hv⟩
  exact ⟨v,λk h1 h2=>(UX hn.1 ks hlt).mp hv k ((hmem k).mpr ⟨h1,h2⟩)⟩
 ·rintro ⟨v,hv⟩
  exact ⟨v,(UX hn.1 ks hlt).mpr λk hk=>hv k ((hmem k).mp hk).1 ((hmem k).mp hk).2⟩
def Inc (n:Nat) (g:Wk):Prop:=g.Pairwise (· < ·)/\∀ k∈g,k < n
theorem qdx (h:∀ g,Inc n g->g.length=i->g∈cs):∀ g,Inc n g->g.length=i+1->g∈OL n cs:=by
 intro g hg hl
 have hne:g≠[]:=λz=>by rw [z] at hl; cases hl
 have hd:=List.dropLast_concat_getLast hne
 generalize hk:g.getLast hne=k at hd
 generalize hg0:g.dropLast=g0 at hd
 subst hd
 have hp:=eN.mp hg.1
 have h0:Inc n g0:=⟨hp.1,λj hj=>hg.2 j (ao.mpr (.inl hj))⟩
 have hkn:k < n:=hg.2 k (ao.mpr (.inr (am.mpr rfl)))
 refine cJ.mpr ⟨g0,h g0 h0 (by rw [aj] at hl; simpa using hl),ai.mpr ⟨k,ez.mpr ?_,rfl⟩⟩
 have:stt g0<=k:=by
  unfold stt
  cases q:g0.getLast? with
  | none=>simp
  | some j=>
   have:=hp.2.2 j (List.mem_of_getLast? q) k (am.mpr rfl)
   simp
   omega
 omega
theorem qfn (h:Inc n g):g.length<=n:=by
 have hnd:g.Nodup:=h.1.imp λhab=>aB hab
 have:=gB hnd (b:=aE n) λx hx=>aL.mpr (h.2 x hx)
 rwa [bO] at this
theorem qdy:∀ (m i:Nat) (cs:List Wk) (f0:Wk) (fs:List Wk),m+i=n->(∀ g∈cs,g.length=i)->(∀ g,Inc n g->g.length=i->g∈cs)->FW n P m cs=f0::fs ->
  P f0=hZ/\f0.length<=n/\∀ g,Inc n g->P g=hZ->i<=g.length->f0.length<=g.length
 | 0,i,cs,f0,fs,hi,hs,hc,hF=>by
  have h1:f0∈cs.filter P:=by
   have hF:cs.filter P=f0::fs:=hF
   rw [hF]; exact af ..
  obtain ⟨a,b⟩:=aF.mp h1
  have:=hs f0 a
  exact ⟨b,by omega,λg hg hp hl=>by omega⟩
 | m+1,i,cs,f0,fs,hi,hs,hc,hF=>by
  unfold FW at hF
  by_cases q:cs.filter P=[]
  ·rw [if_pos q] at hF
   obtain ⟨a,b,c⟩:=qdy m (i+1) (OL n cs) f0 fs 'a' (λg hg=>by
    obtain ⟨g0,h0,k,_,rfl⟩:=qa0 hg
    rw [aj,hs g0 h0]
    rfl) (qdx hc) hF
   refine ⟨a,b,λg hg hp hl=>c g hg hp ?_⟩
   by_cases e:g.length=i
   ·have:=aF.mpr ⟨hc g hg e,hp⟩
    rw [q] at this
    cases this
   ·omega
  ·rw [if_neg q] at hF
   have h1:f0∈cs.filter P:=by rw [hF]; exact af ..
   obtain ⟨a,b⟩:=aF.mp h1
   have:=hs f0 a
   exact ⟨b,by omega,λg hg hp hl=>by omega⟩
variable {f0:Wk}
theorem qa4 {fs:List Wk} (h:FW n P n [[]]=f0::fs):P f0=hZ/\f0.length<=n/\∀ g,Inc n g->P g=hZ->f0.length<=g.length:=by
 obtain ⟨a,b,c⟩:=qdy n 0 [[]] f0 fs 'a' (λg hg=>by rw [am.mp hg]; rfl) (λg _ hl=>by rw [bP hl]; exact am.mpr rfl) h
 exact ⟨a,b,λg hg hp=>c g hg hp (bp _)⟩
theorem qa5:(1100000:Nat)<=sizeLine:=by rw [ij]; decide
theorem QO:∀ (a b:List Int),wz (eqN 7) (a.map D.int) (b.map D.int)=g6 (decide (a.take (min a.length b.length)=b.take (min a.length b.length)))
 | [],b=>by simp [wz]
 | a::l,[]=>by simp [wz]
 | a::l,b::m=>by
  have ih:=QO l m
  simp only [aD,wz,ih,eqN,eqS,ap,Nat.succ_eq_add_one,show min (l.length+1) (m.length+1)=min l.length m.length+1 by omega,eS]
  by_cases h:a=b <;> simp [h]
theorem qcN (a b:List Int):eqD (nD a) (nD b)=.ok (.bl (decide (a=b))):=by
 by_cases h:a.length=b.length
 ·have e:=QO a b
  rw [h,fW,cI,<-h,cI] at e
  simp [eqD,eqN,h,e]
 ·have hne:a≠b:=λz=>h (by rw [z])
  simp [eqD,eqN,h,hne,QO]
noncomputable def ltW:Wk->Wk->Bool
 | x::xs,y::ys=>if x=y then ltW xs ys else decide (x < y)
 | [],_::_=>hZ
 | _,[]=>hJ
theorem qhg (h:∀ g∈cs,Inc n g):∀ g∈OL n cs,Inc n g:=λg hg=>by
 obtain ⟨g0,h0,hg⟩:=cJ.mp hg
 obtain ⟨k,hk,rfl⟩:=ai.mp hg
 have hk:=ez.mp hk
 have hi:=h g0 h0
 refine ⟨eN.mpr ⟨hi.1,by simp,λa ha b hb=>?_⟩,λx hx=>?_⟩
 ·rw [am.mp hb]
  have hne:g0≠[]:=λz=>by rw [z] at ha; cases ha
  have hd:=List.dropLast_concat_getLast hne
  generalize g0.getLast hne=c at hd
  generalize g0.dropLast=g1 at hd
  subst hd
  have hst:stt (g1++[c])=c+1:=by simp [stt]
  rw [hst] at hk
  rcases ao.mp ha with ha | ha
  ·have:=(eN.mp hi.1).2.2 a ha c (am.mpr rfl)
   omega
  ·rw [am.mp ha]
   omega
 ·rcases ao.mp hx with hx | hx
  ·exact hi.2 x hx
  ·rw [am.mp hx]
   omega
noncomputable def LT (g h:Wk):Bool:=if g.length=h.length then (if g=h then hJ else ltW g h) else decide (g.length < h.length)
theorem qa6:∀ a b:Wk,a.Pairwise (· < ·)->b.Pairwise (· < ·)->(∀ x∈a,x∈b)->b.length<=a.length->a=b
 | [],b,_,_,_,hl=>(bP (by simpa using hl)).symm
 | x::a,[],_,_,h,_=>by have:=h x (af ..); cases this
 | x::a,y::b,ha,hb,h,hl=>by
  have ha2:=aY.mp ha
  have hb2:=aY.mp hb
  by_cases q:x=y
  ·subst q
   rw [qa6 a b ha2.2 hb2.2 (λz hz=>by
    rcases ae.mp (h z (aa _ hz)) with e | e
    ·have:=ha2.1 z hz
     omega
    ·exact e) (by simpa using hl)]
  ·have hx:x∈b:=by
    rcases ae.mp (h x (af ..)) with e | e
    ·exact absurd e q
    ·exact e
   have hyx:=hb2.1 x hx
   have hnd:(x::a).Nodup:=ha.imp λhab=>aB hab
   have:=gB hnd (b:=b) λz hz=>by
    rcases ae.mp (h z hz) with e | e
    ·rcases ae.mp hz with e2 | e2
     ·omega
     ·have:=ha2.1 z e2
      omega
    ·exact e
   rw [ap] at hl this
   rw [ap] at hl
   omega
noncomputable def wr (n:Nat) (ms ns:List Int):Wk:=(aE n).filter λk=>decide (nI ms k≠nI ns k)
theorem WE (n:Nat) (ms ns:List Int):Inc n (wr n ms ns):=⟨(List.pairwise_lt_range ..).filter _,λk hk=>aL.mp (aF.mp hk).1⟩
theorem qa7 {l:Ln} {k:Nat} {p:Pr} (h:seen[k]?=g6 p):nI (ju l seen r) k=(jE l p.1+jE l p.2) % r:=by
 unfold nI ju
 rw [aG,h]
 rfl
theorem qhh (hn:qI n r ns) {k:Nat} (hk:k < n):0<=nI ns k/\nI ns k < r:=by
 have hk':k < ns.length:=by rw [hn.1]; exact hk
 have e:nI ns k=ns[k]:=by unfold nI; rw [ah hk']; rfl
 rw [e]
 exact hn.2 _ (bG hk')
theorem qcO (hr:1<=r) (hn:qI seen.length r ns) (l:Ln):okB r seen ns (wr seen.length (ju l seen r) ns)=true:=by
 refine (xi hr hn _).mpr ⟨jE l,λk hk hg p hp=>?_⟩
 have e:nI (ju l seen r) k=nI ns k:=bz λz=>hg (aF.mpr ⟨aL.mpr hk,decide_eq_true z⟩)
 rw [qa7 hp] at e
 rw [<-e]
 exact cm
theorem qiJ (hr:1<=r) (hn:qI seen.length r ns) (hg:okB r seen ns g=hZ):∃ l∈EV0 r (LS seen),∀ k∈wr seen.length (ju l seen r) ns,k∈g:=by
 obtain ⟨v,hv⟩:=(xi hr hn g).mp hg
 refine ⟨(LS seen).map λx=>(x,v x % r),(QK hr).mpr ⟨uo _ _,λe he=>?_⟩,λk hk=>?_⟩
 ·obtain ⟨x,_,rfl⟩:=ai.mp he
  exact ⟨bV _ 'a',bC _ 'a'⟩
 ·obtain ⟨h1,h2⟩:=aF.mp hk
  have h1:=aL.mp h1
  refine bz λhng=>of_decide_eq_true h2 ?_
  have hp:=ah h1
  have d:=hv k h1 hng _ hp
  have m1:seen[k].1∈LS seen:=mem_LS.mpr ⟨_,bG h1,.inl rfl⟩
  have m2:seen[k].2∈LS seen:=mem_LS.mpr ⟨_,bG h1,.inr rfl⟩
  rw [qa7 hp,kM (λx=>v x % r) m1,kM (λx=>v x % r) m2,<-Int.add_emod]
  obtain ⟨b0,b1⟩:=qhh hn h1
  rw [<-bi b0 b1]
  exact Int.emod_eq_emod_iff_emod_sub_eq_zero.mpr (df d)
theorem Xq:∀ a b:List Int,ltZ a b=hZ->ltZ b a=hJ
 | [],[],h=>by simp [ltZ] at h
 | [],_::_,_=>rfl
 | _::_,[],h=>by simp [ltZ] at h
 | x::a,y::b,h=>by
  unfold ltZ at h ⊢
  by_cases q:x=y
  ·rw [if_pos q] at h
   rw [if_pos q.symm]
   exact Xq a b h
  ·rw [if_neg q] at h
   rw [if_neg λz=>q z.symm]
   have:=of_decide_eq_true h
   exact decide_eq_false 'a'
theorem WF:∀ a b:List Int,ltZ a b=hJ->a=b\/ltZ b a=hZ
 | [],[],_=>.inl rfl
 | [],_::_,h=>by simp [ltZ] at h
 | _::_,[],_=>.inr rfl
 | x::a,y::b,h=>by
  unfold ltZ at h
  by_cases q:x=y
  ·rw [if_pos q] at h
   rcases WF a b h with e | e
   ·exact .inl (by rw [q,e])
   ·refine .inr ?_
    unfold ltZ
    rw [if_pos q.symm]
    exact e
  ·rw [if_neg q] at h
   refine .inr ?_
   unfold ltZ
   rw [if_neg λz=>q z.symm]
   have:=of_decide_eq_false h
   exact decide_eq_true 'a'
theorem zc:∀ a b c:List Int,ltZ a b=hZ->ltZ b c=hZ->ltZ a c=hZ
 | [],[],_,h,_=>by simp [ltZ] at h
 | _::_,[],_,h,_=>by simp [ltZ] at h
 | _,_::_,[],_,h=>by simp [ltZ] at h
 | [],_::_,_::_,_,_=>rfl
 | x::a,y::b,z::c,h,h'=>by
  unfold ltZ at h h' ⊢
  by_cases q:x=y
  ·rw [if_pos q] at h
   by_cases q2:y=z
   ·rw [if_pos q2] at h'
    rw [if_pos (q.trans q2)]
    exact zc a b c h h'
   ·rw [if_neg q2] at h'
    rw [q,if_neg q2]
    exact h'
  ·rw [if_neg q] at h
   have h1:=of_decide_eq_true h
   by_cases q2:y=z
   ·rw [if_neg 'a']
    exact decide_eq_true 'a'
   ·rw [if_neg q2] at h'
    have h2:=of_decide_eq_true h'
    rw [if_neg 'a']
    exact decide_eq_true 'a'
theorem qdz:∀ (k:Nat) (a b:List Int),k < a.length->k < b.length->(∀ i,i < k->nI a i=nI b i)->nI a k < nI b k->ltZ a b=hZ
 | _,[],_,h,_,_,_=>by simp at h
 | _,_,[],_,h,_,_=>by simp at h
 | 0,x::a,y::b,_,_,_,h=>by
  have h:x < y:=h
  unfold ltZ
  rw [if_neg 'a']
  exact decide_eq_true h
 | k+1,x::a,y::b,h1,h2,hi,h=>by
  have e:x=y:=hi 0 'a'
  unfold ltZ
  rw [if_pos e]
  exact qdz k a b (by simpa using h1) (by simpa using h2) (λi hik=>hi (i+1) 'a') h
theorem UY:∀ (ts:List (List Int)) (t:List Int),Uq t ts∈t::ts/\∀ x∈t::ts,x=Uq t ts\/ltZ (Uq t ts) x=hZ
 | [],t=>⟨am.mpr rfl,λx hx=>.inl (am.mp hx)⟩
 | u::ts,t=>by
  show Uq (if ltZ u t then u else t) ts∈_/\∀ x∈_,x=Uq (if ltZ u t then u else t) ts\/ltZ (Uq (if ltZ u t then u else t) ts) x=hZ
  by_cases q:ltZ u t=hZ
  ·rw [if_pos q]
   obtain ⟨a,b⟩:=UY ts u
   refine ⟨aa _ a,λx hx=>?_⟩
   rcases ae.mp hx with rfl | hx
   ·rcases b u (af ..) with e | e
    ·exact .inr (by rw [<-e]; exact q)
    ·exact .inr (zc _ _ _ e q)
   ·exact b x hx
  ·rw [if_neg q]
   obtain ⟨a,b⟩:=UY ts t
   refine ⟨?_,λx hx=>?_⟩
   ·rcases ae.mp a with e | e
    ·rw [e]; exact af ..
    ·exact aa _ (aa _ e)
   ·rcases ae.mp hx with rfl | hx
    ·exact b _ (af ..)
    ·rcases ae.mp hx with rfl | hx
     ·rcases WF x t (by simpa using q) with e | e
      ·rw [e]; exact b t (af ..)
      ·rcases b t (af ..) with e2 | e2
       ·exact .inr (by rw [<-e2]; exact e)
       ·exact .inr (zc _ _ _ e2 e)
     ·exact b x (aa _ hx)
noncomputable def lv (r:Int) (seen:List Pr) (fs:List Int) (k:Nat) (g:Wk):Nat:=((aE r.toNat).find? λv=>okB r seen (fs.set k (v:Nat)) g).getD 0
noncomputable def lw (r:Int) (seen:List Pr):List Int->Wk->List Int
 | fs,[]=>fs
 | fs,k::g=>lw r seen (fs.set k (lv r seen fs k g:Nat)) g
theorem QP {fs:List Int} {k:Nat} (hk:k < fs.length) (x:Int) (i:Nat):nI (fs.set k x) i=if i=k then x else nI fs i:=by
 unfold nI
 rw [List.getElem?_set]
 by_cases q:i=k
 ·rw [if_pos q.symm,if_pos q,if_pos hk]
  rfl
 ·rw [if_neg λz=>q z.symm,if_neg q]
theorem WG {fs:List Int} (h:qI n r fs) {x:Int} (h0:0<=x) (h1:x < r) (k:Nat):qI n r (fs.set k x):=by
 refine ⟨by rw [cA]; exact h.1,λi hi=>?_⟩
 rcases List.mem_or_eq_of_mem_set hi with h' | rfl
 ·exact h.2 i h'
 ·exact ⟨h0,h1⟩
variable {ms:List Int}
section
variable (hr:1<=r)
include hr
theorem qcP {fs:List Int} (hn:qI seen.length r fs) (hm:qI seen.length r ms) {g':Wk} (h:okB r seen fs g=hZ) (he:∀ k,k < seen.length->k∉g'->k∉g/\nI ms k=nI fs k):okB r seen ms g'=true:=by
 obtain ⟨v,hv⟩:=(xi hr hn g).mp h
 refine (xi hr hm g').mpr ⟨v,λk hk hg p hp=>?_⟩
 obtain ⟨a,b⟩:=he k hk hg
 rw [b]
 exact hv k hk a p hp
theorem qhi {fs:List Int} (hn:qI seen.length r fs) {k:Nat} (hk:k < seen.length) (h:okB r seen fs (k::g)=hZ) :
  (lv r seen fs k g:Int) < r/\okB r seen (fs.set k (lv r seen fs k g:Nat)) g=hZ/\∀ v:Nat,v < lv r seen fs k g->okB r seen (fs.set k (v:Nat)) g=false:=by
 obtain ⟨v,hv⟩:=(xi hr hn _).mp h
 have hp:=ah hk
 have b0:0<=(v seen[k].1+v seen[k].2) % r:=bV _ 'a'
 have b1:(v seen[k].1+v seen[k].2) % r < r:=bC _ 'a'
 obtain ⟨x,hx⟩:=db b0
 have hok:okB r seen (fs.set k (x:Nat)) g=true:=by
  refine (xi hr (WG hn 'a' 'a' k) g).mpr ⟨v,λi hi hg p hpi=>?_⟩
  rw [QP (by rw [hn.1]; exact hk)]
  by_cases q:i=k
  ·subst q
   rw [hp] at hpi
   cases hpi
   rw [if_pos rfl,<-hx]
   exact cm
  ·rw [if_neg q]
   exact hv i hi (λz=>by rcases ae.mp z with e | e; exact q e; exact hg e) p hpi
 have hmem:x∈aE r.toNat:=aL.mpr 'a'
 unfold lv
 cases q:(aE r.toNat).find? λv=>okB r seen (fs.set k (v:Nat)) g with
 | none=>
  have:=dm.mp q x hmem
  exact absurd hok this
 | some y=>
  obtain ⟨hy,as,bs,hs,hall⟩:=List.find?_eq_some_iff_append.mp q
  have hyr:y < r.toNat:=aL.mp (by rw [hs]; exact aO _ (af ..))
  refine ⟨by show (y:Int) < r; omega,hy,λv hvy=>?_⟩
  have hvy:v < y:=hvy
  have hva:v∈as:=by
   have hlen:as.length=y:=by
    have h1:(aE r.toNat)[as.length]?=g6 y:=by rw [hs]; simp
    have hal:as.length < r.toNat:=by
     have:=congrArg fK hs
     rw [bO,aj,ap] at this
     omega
    rw [eR hal] at h1
    exact aU.inj h1
   have h2:as[v]?=g6 v:=by
    have h3:(aE r.toNat)[v]?=g6 v:=eR 'a'
    rw [hs,cO 'a'] at h3
    exact h3
   exact aV h2
  have:=hall v hva
  simpa using this
theorem qhj:∀ (g:Wk) (fs:List Int),qI seen.length r fs->g.Pairwise (· < ·)->(∀ k∈g,k < seen.length)->okB r seen fs g=hZ ->
  qI seen.length r (lw r seen fs g)/\okB r seen (lw r seen fs g) []=hZ/\(∀ i,i∉g->nI (lw r seen fs g) i=nI fs i)/\∀ ms,qI seen.length r ms->okB r seen ms []=hZ->(∀ i,i < seen.length->i∉g->nI ms i=nI fs i)->ms=lw r seen fs g\/ltZ (lw r seen fs g) ms=hZ
 | [],fs,hn,_,_,h=>⟨hn,h,λ_ _=>rfl,λms hm _ he=>.inl (by
  refine List.ext_getElem (by rw [hm.1,show lw r seen fs []=fs from rfl,hn.1]) λi h1 h2=>?_
  have h2':i < fs.length:=h2
  have:=he i (by rw [<-hm.1]; exact h1) 'h'
  unfold nI at this
  rw [ah h1,ah h2'] at this
  exact this)⟩
 | k::g,fs,hn,hs,hb,h=>by
  have hs2:=aY.mp hs
  have hk:=hb k (af ..)
  have hkf:k < fs.length:=by rw [hn.1]; exact hk
  obtain ⟨l1,l2,l3⟩:=qhi hr hn hk h
  generalize hv:lv r seen fs k g=x at l1 l2 l3
  have hn1:=WG hn (x:=(x:Nat)) 'a' l1 k
  obtain ⟨a,b,c,d⟩:=qhj g (fs.set k (x:Nat)) hn1 hs2.2 (λi hi=>hb i (aa _ hi)) l2
  have e:lw r seen fs (k::g)=lw r seen (fs.set k (x:Nat)) g:=by show lw r seen (fs.set k (lv r seen fs k g:Nat)) g=_; rw [hv]
  rw [e]
  have hkg:k∉g:=λz=>bQ _ (hs2.1 k z)
  refine ⟨a,b,λi hi=>?_,λms hm ho he=>?_⟩
  ·have hik:i≠k:=λz=>hi (by rw [z]; exact af ..)
   rw [c i λz=>hi (aa _ z),QP hkf,if_neg hik]
  ·have hmk:=qhh hm hk
   obtain ⟨y,hy⟩:=db hmk.1
   have hoy:okB r seen (fs.set k (y:Nat)) g=true:=qcP hr hm (WG hn 'a' 'a' k) ho λi hi hig=>by
    refine ⟨by simp,?_⟩
    rw [QP hkf]
    by_cases q:i=k
    ·rw [if_pos q,q,hy]
    ·rw [if_neg q]
     exact (he i hi (λz=>by rcases ae.mp z with e | e; exact q e; exact hig e)).symm
   have hxy:x<=y:=bz λz=>by
    have:=l3 y 'a'
    rw [hoy] at this
    cases this
   by_cases q:x=y
   ·refine d ms hm ho λi hi hig=>?_
    rw [QP hkf]
    by_cases q2:i=k
    ·rw [if_pos q2,q2,hy,q]
    ·rw [if_neg q2]
     exact he i hi λz=>by rcases ae.mp z with e | e; exact q2 e; exact hig e
   ·refine .inr (qdz k _ _ (by rw [a.1]; exact hk) (by rw [hm.1]; exact hk) (λi hik=>?_) ?_)
    ·have hig:i∉g:=λz=>by have:=hs2.1 i z; omega
     rw [c i hig,QP hkf,if_neg 'a',he i 'a' λz=>by rcases ae.mp z with e | e; omega; exact hig e]
    ·rw [c k hkg,QP hkf,if_pos rfl,hy]
     have:x < y:=by omega
     exact Int.ofNat_lt.mpr this
end
theorem qdA {fs:List Wk}:∀ (m i:Nat) (cs:List Wk),(∀ g,g∈cs↔Inc n g/\g.length=i)->FW n P m cs=f0::fs->∀ g,g∈f0::fs↔Inc n g/\g.length=f0.length/\P g=hZ
 | 0,i,cs,hc,hF=>by
  have hF:cs.filter P=f0::fs:=hF
  have h0:f0∈cs.filter P:=by rw [hF]; exact af ..
  have hl:=((hc f0).mp (aF.mp h0).1).2
  intro g
  rw [<-hF,aF,hc,hl,and_assoc]
 | m+1,i,cs,hc,hF=>by
  unfold FW at hF
  by_cases q:cs.filter P=[]
  ·rw [if_pos q] at hF
   refine qdA m (i+1) (OL n cs) (λg=>⟨λhg=>⟨qhg (λg hg=>((hc g).mp hg).1) g hg,?_⟩,λhg=>qdx (λg h1 h2=>(hc g).mpr ⟨h1,h2⟩) g hg.1 hg.2⟩) hF
   obtain ⟨g0,h0,k,_,rfl⟩:=qa0 hg
   rw [aj,((hc g0).mp h0).2]
   rfl
  ·rw [if_neg q] at hF
   have h0:f0∈cs.filter P:=by rw [hF]; exact af ..
   have hl:=((hc f0).mp (aF.mp h0).1).2
   intro g
   rw [<-hF,aF,hc,hl,and_assoc]
theorem qa8 {fs:List Wk} (h:FW n P n [[]]=f0::fs):∀ g,g∈f0::fs↔Inc n g/\g.length=f0.length/\P g=true:=
 qdA n 0 [[]] (λg=>⟨λhg=>by rw [am.mp hg]; exact ⟨⟨.nil,λk hk=>by cases hk⟩,rfl⟩,λhg=>by rw [bP hg.2]; exact am.mpr rfl⟩) h
theorem gF (l:Ln) (seen:List Pr) (r:Int):(ju l seen r).length=seen.length:=by
 unfold ju
 rw [aA]
theorem QQ (l:Ln) (seen:List Pr) (hr:1<=r):qI seen.length r (ju l seen r):=⟨gF l seen r,λi hi=>by
 obtain ⟨p,_,rfl⟩:=ai.mp hi
 exact ⟨bV _ 'a',bC _ 'a'⟩⟩
theorem JI (l:Ln) (seen:List Pr) (hr:1<=r):okB r seen (ju l seen r) []=true:=(xi hr (QQ l seen hr) []).mpr ⟨jE l,λk _ _ p hp=>(gC (QQ l seen hr) l).mp rfl k p hp⟩
theorem qdB {a b:List Int} (hl:a.length=b.length) (h:∀ i,i < a.length->nI a i=nI b i):a=b:=by
 refine List.ext_getElem hl λi h1 h2=>?_
 have:=h i h1
 unfold nI at this
 rw [ah h1,ah h2] at this
 exact this
theorem qa9 (hr:1<=r) (hm:qI seen.length r ms) (h:okB r seen ms []=hZ):∃ l∈EV0 r (LS seen),ju l seen r=ms:=by
 obtain ⟨l,hl,hs⟩:=qiJ hr hm h
 refine ⟨l,hl,qdB (by rw [gF,hm.1]) λi hi=>bz λz=>?_⟩
 have:=hs i (aF.mpr ⟨aL.mpr (by rw [gF] at hi; exact hi),decide_eq_true z⟩)
 cases this
abbrev Nm:=Nat×List Int
noncomputable def LT2 (a b:Nm):Bool:=if a.1=b.1 then (if a.2=b.2 then hJ else ltZ a.2 b.2) else decide (a.1 < b.1)
noncomputable def wn (seen:List Pr) (r:Int) (ns:List Int) (l:Ln):Nm:=((wr seen.length (ju l seen r) ns).length,ju l seen r)
noncomputable def MD (r:Int) (seen:List Pr) (ns:List Int) (f0:Wk) (fs:List Wk):List Int:=Uq (lw r seen ns f0) (fs.map (lw r seen ns))
theorem WH (hr:1<=r) (hn:qI seen.length r ns) {fs:List Wk} (h:FW seen.length (okB r seen ns) seen.length [[]]=f0::fs) :
  (∃ l∈EV0 r (LS seen),wn seen r ns l=(f0.length,MD r seen ns f0 fs))/\∀ l,wn seen r ns l≠(f0.length,MD r seen ns f0 fs)->LT2 (f0.length,MD r seen ns f0 fs) (wn seen r ns l)=hZ/\LT2 (wn seen r ns l) (f0.length,MD r seen ns f0 fs)=false:=by
 have hF:=qa8 h
 obtain ⟨_,_,hmin⟩:=qa4 h
 obtain ⟨ma,mb⟩:=UY (fs.map (lw r seen ns)) (lw r seen ns f0)
 have hmap:lw r seen ns f0::fs.map (lw r seen ns)=(f0::fs).map (lw r seen ns):=rfl
 rw [hmap] at ma mb
 have hM:Uq (lw r seen ns f0) (fs.map (lw r seen ns))=MD r seen ns f0 fs:=rfl
 rw [hM] at ma mb
 have hlw:∀ g∈f0::fs,_:=λg hg=>qhj hr g ns hn ((hF g).mp hg).1.1 ((hF g).mp hg).1.2 ((hF g).mp hg).2.2
 refine ⟨?_,λl hne=>?_⟩
 ·obtain ⟨g,hg,e⟩:=ai.mp ma
  obtain ⟨a,b,c,_⟩:=hlw g hg
  obtain ⟨l,hl,hnl⟩:=qa9 hr a b
  refine ⟨l,hl,?_⟩
  unfold wn
  rw [hnl]
  have hw:wr seen.length (lw r seen ns g) ns=g:=qa6 _ _ (WE _ _ _).1 ((hF g).mp hg).1.1 (λk hk=>bz λz=>of_decide_eq_true (aF.mp hk).2 (c k z)) (by
   rw [((hF g).mp hg).2.1]
   refine hmin _ (WE _ _ _) ?_
   rw [<-hnl]
   exact qcO hr hn l)
  rw [hw,((hF g).mp hg).2.1,e]
 ·have hle:=hmin _ (WE _ (ju l seen r) ns) (qcO hr hn l)
  unfold wn at hne ⊢
  generalize hg:wr seen.length (ju l seen r) ns=g at hle hne ⊢
  unfold LT2
  by_cases q:g.length=f0.length
  ·have hgF:g∈f0::fs:=(hF g).mpr ⟨by rw [<-hg]; exact WE _ _ _,q,by rw [<-hg]; exact qcO hr hn l⟩
   obtain ⟨_,_,_,d⟩:=hlw g hgF
   have hd:=d (ju l seen r) (QQ l seen hr) (JI l seen hr) λi hi hig=>bz λz=>hig (by rw [<-hg]; exact aF.mpr ⟨aL.mpr hi,decide_eq_true z⟩)
   have hmg:=mb _ (ai.mpr ⟨g,hgF,rfl⟩)
   have hnm:ju l seen r≠MD r seen ns f0 fs:=λz=>hne (by rw [q,z])
   have hlt:ltZ (MD r seen ns f0 fs) (ju l seen r)=true:=by
    rcases hd with e | e
    ·rcases hmg with e2 | e2
     ·exact absurd (e.trans e2) hnm
     ·rw [e]; exact e2
    ·rcases hmg with e2 | e2
     ·rw [<-e2]; exact e
     ·exact zc _ _ _ e2 e
   have hnm':MD r seen ns f0 fs≠ju l seen r:=λz=>hnm z.symm
   simp only [q,if_true,if_neg hnm,if_neg hnm']
   exact ⟨hlt,Xq _ _ hlt⟩
  ·have q':¬f0.length=g.length:=λz=>q z.symm
   simp only [if_neg q,if_neg q']
   exact ⟨decide_eq_true 'a',decide_eq_false 'a'⟩
theorem Xr:∀ (ks:Wk) (x:Option D),(∀ k∈ks,k < ms.length)->∃ x',jH (gNm 0) ftT (d2O 1 ixD (qd 0)) (inL ks) [x,g6 (iD ms)]=.ok ((sub ms ks).map D.int,[x',g6 (iD ms)])
 | [],x,_=>⟨x,rfl⟩
 | k::ks,x,h=>by
  have hk:=h k (af ..)
  have i1:=Xg ms k hk
  obtain ⟨x',ih⟩:=Xr ks (g6 (.int (k:Nat))) λj hj=>h j (aa _ hj)
  refine ⟨x',?_⟩
  have e:sub ms (k::ks)=nI ms k::sub ms ks:=by
   rw [gE (ah hk)]
   unfold nI
   rw [ah hk]
   rfl
  rw [e]
  show jH _ _ _ (.int (k:Nat)::inL ks) _=_
  simp [jH,yX,d2O,i1,ih]
theorem qfo (S:Sn seen W) (hr:1<=r) (hn:qI seen.length r ns) (g:Wk) (hg:g.length<=2000) :
  qP [sD seen,.int r,iD ns,gD g]=.ok (.bl (okB r seen ns g),[.non,.non,iD ns,.non]):=by
 have h6:=S.n
 have hkl:=Xo seen.length g
 have hlt:=UW (n:=seen.length) (g:=g)
 have hri:jD (d1 jy (qd 0)) [g6 'j',g6 'l',g6 (iD ns),g6 (gD g),g7]=.ok ((aE seen.length).map λ(j:Nat)=>.int j,[g6 'j',g6 'l',g6 (iD ns),g6 (gD g),g7]):=by
  rw [iR0 (k:=(seen.length:Int)) (ρ1:=[g6 'j',g6 'l',g6 (iD ns),g6 (gD g),g7]) 'a' 'a' (by simp [jy,jA]),bZ]
  simp [yU]
 have c1:=Ww (own:=[2]) (cap:=[3]) (fi:=jD (d1 jy (qd 0))) (ft:=qV (d2 gf (qd 0) (qd 1))) (fe:=qd 0) (λd=>match d with | .int i=>decide (i.toNat∉g) | _=>hJ) (λd=>d) 'c' hri (by simp; exact jB 'a') (λd hd=>by
  obtain ⟨j,hj,rfl⟩:=ai.mp hd
  have:=Xp j g
  simp [this]) (λd hd _=>by simp)
 have e1:(((aE seen.length).map λ(j:Nat)=>D.int j).filter λd=>match d with | .int i=>decide (i.toNat∉g) | _=>hJ).map (λd=>d)=inL (kept seen.length g):=by
  rw [eV,eQ]
  unfold inL kept
  congr 1
 rw [e1] at c1
 generalize hks:kept seen.length g=ks at c1 hkl hlt
 have c2:=UN (own:=[2]) (cap:=[0]) (fi:=jY (qd 4)) (fe:=d2 ixD (qd 1) (qd 0)) (ρ:=[g6 'j',g6 'l',g6 (iD ns),g6 (gD g),g6 (.lst (inL ks))]) (ρ1:=[g6 'j',g6 'l',g6 (iD ns),g6 (gD g),g6 (.lst (inL ks))]) (ds:=inL ks) (λd=>match d with | .int i=>pD ((seen[i.toNat]?).getD (⟨#[]⟩,⟨#[]⟩)) | d=>d) 'c' (by simp [jI]) (by rw [ul]; exact jB 'a') (λd hd=>by
  obtain ⟨j,hj,rfl⟩:=ai.mp hd
  have hjl:=hlt j hj
  have:=qhe (ah hjl)
  simp [this,ah hjl])
 have e2:(inL ks).map (λd=>match d with | .int i=>pD ((seen[i.toNat]?).getD (⟨#[]⟩,⟨#[]⟩)) | d=>d)=jA (sub seen ks):=by
  unfold inL jA sub
  rw [bb,eY]
  have:∀ l:Wk,(∀ k∈l,k < seen.length)->l.map ((λd=>match d with | .int i=>pD ((seen[i.toNat]?).getD (⟨#[]⟩,⟨#[]⟩)) | d=>d) ∘ λ(k:Nat)=>D.int (k:Nat))=l.filterMap λk=>(seen[k]?).map λx=>.tup [.str x.1,.str x.2]:=λl=>by
   induction l with
   | nil=>intro _; rfl
   | cons k l ih=>
    intro h
    have hk:=h k (af ..)
    rw [aD,ih (λj hj=>h j (aa _ hj)),cW (by rw [ah hk]; rfl)]
    simp [ah hk]
  exact this ks hlt
 rw [e2] at c2
 have hltn:∀ k∈ks,k < ns.length:=λk hk=>by rw [hn.1]; exact hlt k hk
 obtain ⟨x',pc⟩:=Xr (ms:=ns) ks g7 hltn
 have c3:=za (own:=[2]) (cap:=[2]) (nt:=1) (fi:=jY (qd 4)) (g:=gNm 0) (ft:=ftT) (fe:=d2O 1 ixD (qd 0)) (ρ:=[g6 'j',g6 'l',g6 (iD ns),g6 (gD g),g6 (.lst (inL ks))]) (ρ1:=[g6 'j',g6 'l',g6 (iD ns),g6 (gD g),g6 (.lst (inL ks))]) (ds:=inL ks) (by simp [jI]) (by rw [ul]; exact jB 'a') pc
 have hout:jS [2] [x',g6 (iD ns)] 1 [2] [g6 'j',g6 'l',g6 (iD ns),g6 (gD g),g6 (.lst (inL ks))]=[g6 'j',g6 'l',g6 (iD ns),g6 (gD g),g6 (.lst (inL ks))]:=rfl
 rw [hout] at c3
 obtain ⟨W',S'⟩:=qdw S ks 'a'
 have hn':qI (sub seen ks).length r (sub ns ks):=⟨by rw [kN seen ks hlt,kN ns ks hltn],λi hi=>hn.2 i (Vf hi)⟩
 have hb:=QJ S' (Xg (sub ns ks)) hn'.1 hr
 obtain ⟨_,cnt⟩:=qcK S' hr hn'
 have hbo:qP [sD seen,.int r,iD ns,gD g]=.ok (.bl (decide (BO W' (sub seen ks) r (sub ns ks)=g7)),[.non,.non,iD ns,.non]):=by
  sleep 1
  unfold kA
  rw [show qw jf [sD seen,.int r,iD ns,gD g]=[g6 'j',g6 'l',g6 (iD ns),g6 (gD g),g7] from rfl]
  refine (qx (ρ1:=[g6 'j',g6 'l',g6 (iD ns),g6 (gD g),g6 (.lst (inL ks))]) (by rw [wt,c1]; rfl)).trans ?_
  cases q:BO W' (sub seen ks) r (sub ns ks) with
  | none=>
   rw [q] at hb
   simp [c2,c3,qA,ji,hb,qed,qv]
  | some c=>
   rw [q] at hb
   simp [c2,c3,qA,ji,hb,qed,cd,qv]
 have e5:okB r seen ns g=decide (BO W' (sub seen ks) r (sub ns ks)=g7):=by
  unfold okB slv
  rw [hks]
  exact (decide_eq_decide.mpr cnt).symm
 rw [hbo,e5]
variable {j:Nat}
theorem qfp {xs:List D} (h6:xs.length<=6) (hj:j<=6):slD (g6 ((j:Int)+1)) g7 g7 (.tup xs)=.ok (.tup (xs.drop (j+1))):=by
 have hj':j=0\/j=1\/j=2\/j=3\/j=4\/j=5\/j=6:=by omega
 match xs,h6 with
 | [],_=>rcases hj' with rfl | rfl | rfl | rfl | rfl | rfl | rfl <;> kernel_rfl
 | [_],_=>rcases hj' with rfl | rfl | rfl | rfl | rfl | rfl | rfl <;> kernel_rfl
 | [_,_],_=>rcases hj' with rfl | rfl | rfl | rfl | rfl | rfl | rfl <;> kernel_rfl
 | [_,_,_],_=>rcases hj' with rfl | rfl | rfl | rfl | rfl | rfl | rfl <;> kernel_rfl
 | [_,_,_,_],_=>rcases hj' with rfl | rfl | rfl | rfl | rfl | rfl | rfl <;> kernel_rfl
 | [_,_,_,_,_],_=>rcases hj' with rfl | rfl | rfl | rfl | rfl | rfl | rfl <;> kernel_rfl
 | [_,_,_,_,_,_],_=>rcases hj' with rfl | rfl | rfl | rfl | rfl | rfl | rfl <;> kernel_rfl
 | _::_::_::_::_::_::_::_,h=>simp at h
abbrev lwC (G:List D->Out 'i'):Sl->Out (Bool×Sl):=(QV (xq (qt [.vl,.vl,.sl 4,.vl] G (qc (qd 0) (qc (qd 1) (kG (qc (YD (qd 3) (g6 (d2 kE (qd 5) (dC (.int 1)))) g7 g7) qD)))))))
abbrev lwS:Sl->Out (Fl×Sl):=(yL 4 (d2 kE (d2O 4 ixD (qd 6)) (dC (.int 1))) (qd 6))
theorem qdC {rd:D} (h6:g.length<=6) {k:Nat} (hi:i<=6) {b:Bool} {n:Option D} (hG:G [sd,rd,iD ms,gD (g.drop (i+1))]=.ok (.bl b,[.non,.non,iD ms,.non])) :
  lwC G [g6 sd,g6 rd,n,g6 (gD g),g6 (iD ms),g6 (.int (i:Nat)),g6 (.int (k:Nat))]=.ok (!b,[g6 sd,g6 rd,n,g6 (gD g),g6 (iD ms),g6 (.int (i:Nat)),g6 (.int (k:Nat))]):=by
 have hs:slD (g6 ((i:Int)+1)) g7 g7 (gD g)=.ok (gD (g.drop (i+1))):=by
  have h:=qfp (xs:=inL g) (by rw [ul]; exact h6) hi
  have e:(inL g).drop (i+1)=inL (g.drop (i+1)):=by unfold inL; rw [List.map_drop]
  rw [e] at h
  exact h
 generalize gD (g.drop (i+1))=Y at hG hs
 generalize gD g=T at hs ⊢
 simp [YD,JV,kE,uz,hs,qA,ji,hG,wQ,yY]
theorem qhk {k:Nat} (hk:k < ms.length) {a b c d e:Option D}:lwS [a,b,c,d,g6 (iD ms),e,g6 (.int (k:Nat))]=.ok (.nx,[a,b,c,d,g6 (iD (ms.set k (nI ms k+1))),e,g6 (.int (k:Nat))]):=by
 have i3:=Xg ms k hk
 have hix:ixN (ms.map D.int).length (k:Nat)=g6 k:=by
  unfold ixN
  rw [aA,if_pos 'a',if_pos 'a',bZ]
 have hset:(ms.map D.int).set k (.int (nI ms k+1))=(ms.set k (nI ms k+1)).map D.int:=by rw [fX]
 simp only [lwS,yL]
 simp [d2O,i3,kE,uz]
 simp at hix hset
 simp [hix,hset]
theorem Xu {G:List D->Out 'i'} {sd rd:D} {g:Wk} (h6:g.length<=6) {i k:Nat} (hi:i<=6) {fs:List Int} (hk:k < fs.length) {x:Nat} {n:Option D}
  (hG:∀ v:Nat,v<=x->G [sd,rd,iD (fs.set k (v:Nat)),gD (g.drop (i+1))]=.ok (.bl (decide (v=x)),[.non,.non,iD (fs.set k (v:Nat)),.non])):∀ (m v fuel:Nat),v+m=x->m < fuel ->
  jz (lwC G) lwS fuel [g6 sd,g6 rd,n,g6 (gD g),g6 (iD (fs.set k (v:Nat))),g6 (.int (i:Nat)),g6 (.int (k:Nat))]=.ok (.nx,[g6 sd,g6 rd,n,g6 (gD g),g6 (iD (fs.set k (x:Nat))),g6 (.int (i:Nat)),g6 (.int (k:Nat))])
 | _,_,0,_,h=>by omega
 | 0,v,fuel+1,hv,_=>by
  have e:v=x:=by omega
  subst e
  have hc:=qdC (n:=n) (k:=k) h6 hi (hG v (ax _))
  rw [decide_eq_true rfl] at hc
  rw [jz,hc]
  rfl
 | m+1,v,fuel+1,hv,hm=>by
  have hc:=qdC (n:=n) (k:=k) h6 hi (hG v 'a')
  rw [decide_eq_false 'a'] at hc
  have hs:=qhk (ms:=fs.set k (v:Nat)) (k:=k) (by rw [cA]; exact hk) (a:=g6 sd) (b:=g6 rd) (c:=n) (d:=g6 (gD g)) (e:=g6 (.int (i:Nat)))
  have e:(fs.set k (v:Nat)).set k (nI (fs.set k (v:Nat)) k+1)=fs.set k ((v+1:Nat):Int):=by
   rw [List.set_set,QP hk,if_pos rfl]
   rfl
  rw [e] at hs
  have ih:=Xu h6 hi hk hG (n:=n) m (v+1) fuel 'a' 'a'
  rw [jz,hc,kY]
  simp only [Bool.not_false,if_true]
  rw [hs,kY]
  exact ih
abbrev lwT (G:List D->Out 'i'):Sl->Out (Fl×Sl):=(qW (yL 4 'k' (qd 6)) (jz (lwC G) lwS 20))
theorem qfq {G:List D->Out 'i'} {sd rd:D} (h6:g.length<=6) {k:Nat} (hi:i<=6) {fs:List Int} (hk:k < fs.length) {x:Nat} (hx:x < 19) {n:Option D}
  (hG:∀ v:Nat,v<=x->G [sd,rd,iD (fs.set k (v:Nat)),gD (g.drop (i+1))]=.ok (.bl (decide (v=x)),[.non,.non,iD (fs.set k (v:Nat)),.non])) :
  lwT G [g6 sd,g6 rd,n,g6 (gD g),g6 (iD fs),g6 (.int (i:Nat)),g6 (.int (k:Nat))]=.ok (.nx,[g6 sd,g6 rd,n,g6 (gD g),g6 (iD (fs.set k (x:Nat))),g6 (.int (i:Nat)),g6 (.int (k:Nat))]):=by
 have hix:ixN (fs.map D.int).length (k:Nat)=g6 k:=by
  unfold ixN
  rw [aA,if_pos 'a',if_pos 'a',bZ]
 have hset:(fs.map D.int).set k (.int 0)=(fs.set k ((0:Nat):Int)).map D.int:=by rw [fX]; rfl
 have hw:=Xu h6 hi hk hG (n:=n) x 0 20 'a' 'a'
 unfold lwT
 rw [qcF (ρ1:=[g6 sd,g6 rd,n,g6 (gD g),g6 (iD (fs.set k ((0:Nat):Int))),g6 (.int (i:Nat)),g6 (.int (k:Nat))]) (by
  simp only [yL]
  simp
  simp at hix hset
  simp [hix,hset])]
 exact hw
theorem qdD {seen:List Pr} {W:Wy} (S:Sn seen W) {r:Int} (hr:1<=r) (h9:r<=18) {g:Wk} (h6:g.length<=6) {n:Option D}:∀ (suf:Wk) (i:Nat) (fs:List Int) (x5 x6:Option D),g.drop i=suf->i+suf.length<=6->qI seen.length r fs->(∀ k∈suf,k < seen.length)->okB r seen fs suf=hZ ->
  ∃ x5' x6',wA (kU 2 (qL (gNm 5) (qL (gNm 6) kT))) (lwT qP) (((inL suf).zipIdx i).map λp=>.tup [.int (p.2:Nat),p.1]) [g6 'j',g6 'l',n,g6 (gD g),g6 (iD fs),x5,x6]
   = .ok (.nx,[g6 'j',g6 'l',n,g6 (gD g),g6 (iD (lw r seen fs suf)),x5',x6'])
 | [],i,fs,x5,x6,_,_,_,_,_=>⟨x5,x6,rfl⟩
 | k::rest,i,fs,x5,x6,hd,hl,hn,hb,ho=>by
  rw [ap] at hl
  have hk:=hb k (af ..)
  obtain ⟨l1,l2,l3⟩:=qhi hr hn hk ho
  have hd2:g.drop (i+1)=rest:=by rw [<-List.drop_drop,hd]; rfl
  have hrl:rest.length<=2000:=by omega
  generalize hv:lv r seen fs k rest=x at l1 l2 l3
  have t:=qfq (G:=qP) (sd:=sD seen) (rd:=.int r) h6 (i:=i) (k:=k) 'a' (fs:=fs) (by rw [hn.1]; exact hk) (x:=x) 'a' (n:=n) λv hvx=>by
   have hc:=qfo S hr (WG hn (x:=(v:Nat)) 'a' 'a' k) rest hrl
   rw [hd2,hc]
   by_cases q:v=x
   ·rw [decide_eq_true q,q,l2]
   ·rw [decide_eq_false q,l3 v 'a']
  obtain ⟨x5',x6',ih⟩:=qdD S hr h9 h6 (n:=n) rest (i+1) (fs.set k (x:Nat)) (g6 (.int (i:Nat))) (g6 (.int (k:Nat))) hd2 'a' (WG hn 'a' l1 k) (λj hj=>hb j (aa _ hj)) l2
  refine ⟨x5',x6',?_⟩
  have e:lw r seen fs (k::rest)=lw r seen (fs.set k (x:Nat)) rest:=by show lw r seen (fs.set k (lv r seen fs k rest:Nat)) rest=_; rw [hv]
  rw [e]
  show wA _ _ (.tup [.int (i:Nat),.int (k:Nat)]::((inL rest).zipIdx (i+1)).map λp=>.tup [.int (p.2:Nat),p.1]) _=_
  generalize qP=G at t ih
  exact cL (yd (ρ1:=[g6 'j',g6 'l',n,g6 (gD g),g6 (iD fs),g6 (.int (i:Nat)),g6 (.int (k:Nat))]) rfl t) ih
theorem qcQ (S:Sn seen W) (hr:1<=r) (h9:r<=18) (hn:qI seen.length r ns) (hg:Inc seen.length g) (ho:okB r seen ns g=hZ):vM [sD seen,.int r,nD ns,gD g]=.ok (nD (lw r seen ns g),[.non,.non,.non,.non]):=by
 have h6:=S.n
 have hgl:g.length<=6:=br (qfn hg) h6
 obtain ⟨x5,x6,e⟩:=qdD S hr h9 hgl (n:=g6 (nD ns)) g 0 ns g7 g7 rfl 'a' hn hg.2 ho
 sleep 1
 unfold vL
 rw [show qw vK [sD seen,.int r,nD ns,gD g]=[g6 'j',g6 'l',g6 (nD ns),g6 (gD g),g7,g7,g7] from rfl]
 generalize qP=G at e
 refine (qx (ρ1:=[g6 'j',g6 'l',g6 (nD ns),g6 (gD g),g6 (iD ns),g7,g7]) (by simp [VP])).trans ?_
 refine (qx (ρ1:=[g6 'j',g6 'l',g6 (nD ns),g6 (gD g),g6 (iD (lw r seen ns g)),x5,x6]) (by
  rw [wu,show qaa (qd 3) [g6 'j',g6 'l',g6 (nD ns),g6 (gD g),g6 (iD ns),g7,g7]=.ok (xa (inL g),[g6 'j',g6 'l',g6 (nD ns),g6 (gD g),g6 (iD ns),g7,g7]) from rfl,kY]
  exact e)).trans ?_
 simp [wC,qv]
variable {L:List D->Out 'i'}
theorem WJ {c:D} (f:Wk->List Int):∀ (gs:List Wk) (x:Option D),(∀ g∈gs,L [a,b,c,gD g]=.ok (nD (f g),[.non,.non,.non,.non])) ->
  ∃ x',jH (gNm 0) ftT (qt [.vl,.vl,.vl,.vl] L (qc (qd 1) (qc (qd 2) (qc (qd 3) (qc (qd 0) qD))))) (gR gs) [x,g6 a,g6 b,g6 c]=.ok (gs.map λg=>nD (f g),[x',g6 a,g6 b,g6 c])
 | [],x,_=>⟨x,rfl⟩
 | g::gs,x,h=>by
  have h1:=h g (af ..)
  obtain ⟨x',ih⟩:=WJ f gs (g6 (gD g)) λj hj=>h j (aa _ hj)
  refine ⟨x',?_⟩
  show jH _ _ _ (gD g::gR gs) _=_
  generalize gD g=Y at h1 ih
  simp [jH,yX,qA,ji,h1,ih]
theorem xH:∀ l:List Int,gZ (l.map D.int)=g6 l
 | []=>rfl
 | x::l=>by
  have ih:=xH l
  simp [gZ,ih]
theorem Xv (f:Wk->List Int):∀ gs:List Wk,Ja (gs.map λg=>nD (f g))=g6 (gs.map f)
 | []=>rfl
 | g::gs=>by
  have ih:=Xv f gs
  have h:=xH (f g)
  simp only [aD,Ja,h,ih]
  rfl
theorem qcR {T F:List D->Out 'i'} {c:D} {f:Wk->List Int} {fs:List Wk} (hz:(f0::fs).length<=sizeLine) (h1:T [a,b,c,d]=.ok (sd,[.non,.non,.non,.non])) (h2:F [sd,c,d]=.ok (.lst (gR (f0::fs)),[.non,.non,.non])) (h3:∀ g∈f0::fs,L [sd,c,d,gD g]=.ok (nD (f g),[.non,.non,.non,.non])) :
  XW [.val,.val,.val,.val] ((qW (jQ 4 (qt [.vl,.vl,.vl,.vl] T (qc (qd 0) (qc (qd 1) (qc (qd 2) (qc (qd 3) qD))))))
  (jR (d1 qcj (jg [] 1 [4,2,3] (jY (qt [.vl,.vl,.vl] F (qc (qd 4) (qc (qd 2) (qc (qd 3) qD))))) (gNm 0) ftT (qt [.vl,.vl,.vl,.vl] L (qc (qd 1) (qc (qd 2) (qc (qd 3) (qc (qd 0) qD))))))))) [g6 a,g6 b,g6 c,g6 d,g7])=.ok (nD (Uq (f f0) (fs.map f)),[.non,.non,.non,.non]):=by
 obtain ⟨x',cc⟩:=WJ (a:=sd) (b:=c) (c:=d) f (f0::fs) g7 h3
 have c3:=za (own:=[]) (cap:=[4,2,3]) (nt:=1) (fi:=jY (qt [.vl,.vl,.vl] F (qc (qd 4) (qc (qd 2) (qc (qd 3) qD))))) (g:=gNm 0) (ft:=ftT) (fe:=qt [.vl,.vl,.vl,.vl] L (qc (qd 1) (qc (qd 2) (qc (qd 3) (qc (qd 0) qD))))) (ρ:=[g6 a,g6 b,g6 c,g6 d,g6 sd]) (ρ1:=[g6 a,g6 b,g6 c,g6 d,g6 sd]) (ds:=gR (f0::fs)) (by simp [qA,ji,h2,jI]) (by unfold gR; rw [aA]; exact hz) cc
 have hout:jS [] [x',g6 sd,g6 c,g6 d] 1 [4,2,3] [g6 a,g6 b,g6 c,g6 d,g6 sd]=[g6 a,g6 b,g6 c,g6 d,g6 sd]:=rfl
 rw [hout] at c3
 have hm:qcj (.lst ((f0::fs).map λg=>nD (f g)))=.ok (nD (Uq (f f0) (fs.map f))):=by
  have:=Xv f (f0::fs)
  show (match Ja ((f0::fs).map λg=>nD (f g)) with | some (t::ts)=>Out.ok (D.tup ((Uq t ts).map D.int)) | _=>.bad)=_
  rw [this]
  rfl
 refine (qx (ρ1:=[g6 a,g6 b,g6 c,g6 d,g6 sd]) (by simp [qA,ji,h1])).trans ?_
 generalize hG:(f0::fs).map (λg=>nD (f g))=Gs at c3 hm
 simp [c3,hm,qv]
theorem qdE {n:Nat} (hn:n<=6) {P:Wk->Bool}:∀ (m:Nat) (cs:List Wk),(FW n P m cs).length<=6 ^ m * cs.length
 | 0,cs=>by
  show (cs.filter P).length<=6 ^ 0 * cs.length
  rw [Nat.pow_zero,Nat.one_mul]
  exact ck _ _
 | m+1,cs=>by
  have ih:=qdE hn (P:=P) m (OL n cs)
  have h2:=qa1 hn cs
  have h3:6 ^ m * (OL n cs).length<=6 ^ m * (6 * cs.length):=Nat.mul_le_mul_left _ h2
  have h4:6 ^ m * (6 * cs.length)=6 ^ (m+1) * cs.length:=by rw [Nat.pow_succ,Nat.mul_assoc]
  unfold FW
  split
  ·omega
  ·have h5:=ck P cs
   have h6:1 * cs.length<=6 ^ (m+1) * cs.length:=Nat.mul_le_mul_right _ (Nat.one_le_pow _ _ 'a')
   omega
theorem QR (hw:jM ws) (hl:Vk p q) (h0:1<=r) (h9:r<=18) (hn:qI ws.length r ns) (S:Sn (qy ws p q) W) :
  ∃ f0 fs,FW (qy ws p q).length (okB r (qy ws p q) ns) (qy ws p q).length [[]]=f0::fs/\xU [Wd ws,Ld p q,.int r,nD ns]=.ok (nD (MD r (qy ws p q) ns f0 fs),[.non,.non,.non,.non]):=by
 have hsl:(qy ws p q).length=ws.length:=by simp [qy]
 have hn':qI (qy ws p q).length r ns:=by rw [hsl]; exact hn
 have e1:=Vb hw hl h0 'a' hn
 obtain ⟨f0,fs,a1,hf⟩:=WD S h0 hn'
 have hF:=qa8 a1
 have hlen:=qdE S.n (P:=okB r (qy ws p q) ns) (qy ws p q).length [[]]
 rw [a1] at hlen
 have h66:6 ^ (qy ws p q).length<=6 ^ 6:=Nat.pow_le_pow_right 'a' S.n
 have hz:(f0::fs).length<=sizeLine:=by
  refine br ?_ qa5
  have:(6:Nat) ^ 6=46656:=by decide
  rw [List.length_singleton] at hlen
  omega
 exact ⟨f0,fs,a1,runD_ap.trans (qcR hz e1 hf λg hg=>qcQ S h0 h9 hn' ((hF g).mp hg).1 ((hF g).mp hg).2.2)⟩
theorem Xw (k:Nat):∀ (a b:List Int),eqN (k+1) (nD a) (nD b)=g6 (decide (a=b)):=by
 have h:∀ (a b:List Int),wz (eqN k) (a.map D.int) (b.map D.int)=g6 (decide (a.take (min a.length b.length)=b.take (min a.length b.length))):=by
  intro a
  induction a with
  | nil=>intro b; simp [wz]
  | cons x a ih=>
   intro b
   cases b with
   | nil=>simp [wz]
   | cons y b=>
    have e:eqN k (.int x) (.int y)=g6 (decide (x=y)):=by
     cases k <;> (by_cases q:x=y <;> simp [eqN,eqS,q])
    simp only [aD,wz,ih b,e,ap,show min (a.length+1) (b.length+1)=min a.length b.length+1 by omega,eS]
    by_cases q:x=y <;> simp [q]
 intro a b
 by_cases hl:a.length=b.length
 ·have e:=h a b
  rw [hl,fW,cI,<-hl,cI] at e
  simp [eqN,hl,e]
 ·have hne:a≠b:=λz=>hl (by rw [z])
  simp [eqN,hl,hne,h]
noncomputable def bl (W:Wy) (r:Int) (ns:List Int) (L:List Str) (l:Ln):Ln:=L.map λx=>(x,vO W r ns (jE l) x)
section
theorem qiK (S:Sn seen W) (hr:1<=r) (hn:qI seen.length r ns) (hb:BO W seen r ns=g7) {l:Ln} (hl:l∈PV (ch W seen r ns) (RT W)):bl W r ns (LS seen) l∈(EV0 r (LS seen)).filter λl=>decide (ju l seen r=ns):=by
 have hch:=qha hr hb
 have hCk:∀ c∈CL W 0 seen,c.1∈RT W:=λc hc=>by
  obtain ⟨k,p,hk,rfl⟩:=qfc hc
  have hp:=(vN S.a p (aV hk)).1
  obtain ⟨h1,h2⟩:=QM S hp
  exact mem_RT.mpr ⟨h1,by show (qR W (qR W p.1).1).1=_; rw [h2]; rfl⟩
 obtain ⟨l1,l2⟩:=(yR _).mp hl
 have hok:∀ c∈CL W 0 seen,okS r ns c.2 (jE l c.1):=λc hc=>by
  have:=l2 _ (uj (by rw [l1]; exact hCk c hc)).1
  exact ((hch _ _).mp this).2 c hc rfl
 have hs:=qds S hok
 rw [aF,QK hr,decide_eq_true_eq,gC hn]
 unfold bl
 refine ⟨⟨uo _ _,λe he=>?_⟩,λk p hk=>?_⟩
 ·obtain ⟨x,_,rfl⟩:=ai.mp he
  exact ⟨bV _ 'a',bC _ 'a'⟩
 ·have hp:=aV hk
  have m1:p.1∈LS seen:=mem_LS.mpr ⟨p,hp,.inl rfl⟩
  have m2:p.2∈LS seen:=mem_LS.mpr ⟨p,hp,.inr rfl⟩
  rw [kM (vO W r ns (jE l)) m1,kM (vO W r ns (jE l)) m2]
  exact hs k p hk
end
theorem qba (S:Sn seen W):jW (kW W)=LS seen:=by
 refine wG ?_ (jn _) (by unfold LS; exact jn _)
 exact (qK _).trans (QE S.w.nd (Zr _) λx=>⟨λh=>S.w.sub x h,λh=>S.a x h⟩)
abbrev wfB:Sl->Out (Fl×Sl):=(qW (jQ 7 (d2 ixD (qd 3) (d2 ixD (d2 ixD (qd 4) (qd 6)) 'k')))
  (vd (JU 5 VN (yJ (qc (qd 6) (qc (d2 zd (qt [.vl,.vl,.vl] vx (qc (d2 ixD (d2 ixD (qd 4) (qd 6)) (dC (.int 1))) (qc (qd 2) (qc (qd 7) qD)))) (qd 1)) qD))))))
variable {st:Ln}
theorem qbb (S:Sn seen W) (hr:1<=r) (hns:ns.length=seen.length) (hst:∀ y∈kW W,(qR W y).1∈qX st) (a:Option D):∀ (L:List Str) (acc:Ln) (x y:Option D),(∀ z∈L,z∈kW W)->acc.length+L.length<=100 ->
  ∃ x' y',wA (gNm 6) wfB (L.map D.str) [a,g6 'l',g6 (nD ns),g6 (.dct (bk st)),g6 (.dct (wD W)),g6 (.lst (prL acc)),x,y]=.ok (.nx,[a,g6 'l',g6 (nD ns),g6 (.dct (bk st)),g6 (.dct (wD W)),g6 (.lst (prL (acc++bl W r ns L st))),x',y'])
 | [],acc,x,y,_,_=>⟨x,y,by simp [wA,bl]⟩
 | z::L,acc,x,y,hL,hl=>by
  rw [ap] at hl
  have hz:=hL z (af ..)
  have i1:=KZ S.w.nd hz
  have i2:=qaF (hst z hz)
  have hlt:∀ k∈(qR W z).2,k < ns.length:=λk hk=>by
   rw [hns]
   exact (S.w.path _ (jF hz)).lt k hk
  have i3:=xh (qaI ns) hlt (jE st (qR W z).1)
  obtain ⟨x',y',ih⟩:=qbb S hr hns hst a L (acc++[(z,vO W r ns (jE st) z)]) (g6 (.str z)) (g6 (.int (jE st (qR W z).1))) (λw hw=>hL w (aa _ hw)) (by rw [aj]; simp; omega)
  have hr0:0 < r:=by omega
  have z2:2<=sizeLine:=jB 'a'
  have hzz:(prL acc).length < sizeLine:=aI (by simp [prL]; omega) big
  have e:acc++[(z,vO W r ns (jE st) z)]++bl W r ns L st=acc++bl W r ns (z::L) st:=by simp [bl]
  rw [e] at ih
  have e2:prL (acc++[(z,vO W r ns (jE st) z)])=prL acc++[.tup [.str z,.int (qQ ns (jE st (qR W z).1) (qR W z).2 % r)]]:=by simp [prL,vO]
  refine ⟨x',y',cL (yd (d:=.str z) (ρ1:=[a,g6 'l',g6 (nD ns),g6 (.dct (bk st)),g6 (.dct (wD W)),g6 (.lst (prL acc)),g6 (.str z),y]) rfl ?_) ih⟩
  rw [e2]
  unfold wfB
  rw [qcF (ρ1:=[a,g6 'l',g6 (nD ns),g6 (.dct (bk st)),g6 (.dct (wD W)),g6 (.lst (prL acc)),g6 (.str z),g6 (.int (jE st (qR W z).1))]) (by
   generalize D.dct (bk st)=Y at i2 ⊢
   generalize D.dct (wD W)=Z at i1 ⊢
   simp [i1,qiD,i2])]
  have hi:yY ([a,g6 'l',g6 (nD ns),g6 (.dct (bk st)),g6 (.dct (wD W)),g6 (.lst (prL acc)),g6 (.str z),g6 (.int (jE st (qR W z).1))]:Sl)[5]?=true:=rfl
  generalize D.dct (bk st)=Y at i2 hi ⊢
  generalize D.dct (wD W)=Z at i1 hi ⊢
  generalize hl2:lD (qR W z).2=U at i1 i3
  simp [i1,qiE,qA,ji,i3,zd,uz,hr0,z2,VN,hzz,yY]
theorem qfr (S:Sn seen W) (hr:1<=r) (hns:ns.length=seen.length) (hst:∀ y∈kW W,(qR W y).1∈qX st):ug [sD seen,.int r,nD ns,.dct (bk st)]=.ok (.tup (prL (bl W r ns (LS seen) st)),[.non,.non,.non,.non]):=by
 have hle:=S.w.le
 have hs12:=S.s
 have hk64:(kW W).length < 64:=by simp [kW]; omega
 have hkz:((kW W).all λy=>decide (y.length<=sizeLine))=true:=by
  rw [aS]
  intro y hy
  exact decide_eq_true (jB (S.z y (S.w.sub y hy)))
 have hso:kt (.dct (wD W))=.ok (.lst ((LS seen).map D.str)):=by
  unfold kt
  simp only [UU]
  rw [if_pos ⟨hk64,hkz⟩,qba S]
 obtain ⟨x',y',e⟩:=qbb S hr hns hst (g6 'j') (LS seen) [] g7 g7 (λz hz=>S.a z hz) (by simp; omega)
 rw [ci] at e
 have hw:=S.e
 sleep 1
 unfold uf
 rw [show qw ue [sD seen,.int r,nD ns,.dct (bk st)]=[g6 'j',g6 'l',g6 (nD ns),g6 (.dct (bk st)),g7,g7,g7,g7] from rfl]
 refine (qx (ρ1:=[g6 'j',g6 'l',g6 (nD ns),g6 (.dct (bk st)),g6 (.dct (wD W)),g7,g7,g7]) (by simp [qA,ji,hw])).trans ?_
 refine (qx (ρ1:=[g6 'j',g6 'l',g6 (nD ns),g6 (.dct (bk st)),g6 (.dct (wD W)),g6 (.lst []),g7,g7]) 'h').trans ?_
 refine (qx (ρ1:=[g6 'j',g6 'l',g6 (nD ns),g6 (.dct (bk st)),g6 (.dct (wD W)),g6 (.lst (prL (bl W r ns (LS seen) st))),x',y']) (by
  rw [wu,show jY (d1 kt (qd 4)) [g6 'j',g6 'l',g6 (nD ns),g6 (.dct (bk st)),g6 (.dct (wD W)),g6 (.lst []),g7,g7]=.ok ((LS seen).map D.str,[g6 'j',g6 'l',g6 (nD ns),g6 (.dct (bk st)),g6 (.dct (wD W)),g6 (.lst []),g7,g7]) by simp [hso,jI],kY]
  exact e)).trans ?_
 simp [wC,qv]
def qiL (d:D):Prop:=Pl d/\∀ xs,d=.tup xs->∀ x∈xs,Pl x
noncomputable def qbc (room:Int):D->Bool
 | .tup [a,b]=>qaC a&&KW 0 (room - 1) b
 | _=>hJ
theorem UZ (h:qiL d) (room:Int):yp [d,.int room]=.ok (.bl (qbc room d),[.non,.non]):=by
 sleep 1
 have ht:=qaB h.1
 cases d with
 | tup xs=>
  have hp:=h.2 xs rfl
  match xs,hp with
  | [],_=>simp [kJ,qw,qv,ht,Jf,wQ,jy,neD,eqN,eqS,qbc]
  | [a],_=>simp [kJ,qw,qv,ht,Jf,wQ,jy,neD,eqN,eqS,qbc]
  | [a,b],hp=>
   have h1:=zQ (hp a 'h')
   have h2:=kC (hp b 'h') 0 (room - 1)
   cases hb:qaC a <;> simp [kJ,qw,qv,ht,Jf,wQ,jy,neD,eqN,eqS,qbc,ixD,at0,at1,qA,ji,h1,h2,hb,Vy,uz]
  | a::b::c::l,_=>
   have hne:¬((l.length:Int)+1+1+1=2):=by omega
   simp [kJ,qw,qv,ht,Jf,wQ,jy,neD,eqN,eqS,qbc,hne]
 | _=>first | exact h.1.elim | simp [kJ,qw,qv,ht,Jf,wQ,qbc]
def OkW (room:Int) (l:List (Str×Int)):Prop:=∀ x∈l,qaC (.str x.1)=hZ/\0<=x.2/\x.2 < room
theorem qfs (h:OkW room l):(prL l).all (qbc room)=true:=by
 rw [aS]
 intro d hd
 obtain ⟨x,hx,rfl⟩:=ai.mp hd
 obtain ⟨h1,h2,h3⟩:=h x hx
 simp [qbc,h1,KW,h2]
 omega
theorem WK:∀ (a b:List Str),wz (eqN 7) (a.map D.str) (b.map D.str)=g6 (decide (a.take (min a.length b.length)=b.take (min a.length b.length)))
 | [],b=>by simp [wz]
 | a::l,[]=>by simp [wz]
 | a::l,b::m=>by
  have ih:=WK l m
  simp only [aD,wz,ih,eqN,eqS,ap,Nat.succ_eq_add_one,show min (l.length+1) (m.length+1)=min l.length m.length+1 by omega,eS]
  by_cases h:a=b <;> simp [h]
theorem qcS (a b:List Str):eqD (.lst (a.map D.str)) (.lst (b.map D.str))=.ok (.bl (decide (a=b))):=by
 by_cases h:a.length=b.length
 ·have e:=WK a b
  rw [h,fW,cI,<-h,cI] at e
  simp [eqD,eqN,h,e]
 ·have hne:a≠b:=λz=>h (by rw [z])
  simp [eqD,eqN,h,hne]
noncomputable def Yb (l:List (Str×Int)):Bool:=decide (qX l=jW ((qX l).foldl kX []))
theorem WL (h:∀ d∈ds,qiL d) (hl:ds.length<=50) (room:Int):(ds.all (qbc room)=hJ->kK [.tup ds,.int room]=.ok (.bl hJ,[.non,.non]))/\∀ l,ds=prL l->OkW room l->kK [.tup ds,.int room]=.ok (.bl (Yb l),[.non,.non]):=by
 have hz:ds.length<=sizeLine:=jB 'a'
 have ht:=qaB (d:=.tup ds) trivial
 have e1:=wl (cap:=[1]) (fi:=jY (qd 0)) (ρ:=[g6 (.tup ds),g6 (.int room),g7]) (ρ1:=[g6 (.tup ds),g6 (.int room),g7]) (ds:=ds) (fe:=qt [.vl,.vl] yp (qc (qd 0) (qc (qd 1) qD))) (λd=>.bl (qbc room d)) (by simp [jI]) hz (λd hd=>by
   have h1:=UZ (h d hd) room
   simp [qA,ji,h1])
 have ha:=xX (qbc room) ds
 constructor
 ·intro hb
  sleep 1
  simp [ui,qw,qv,ht,Jf,wQ,e1,ha,hb]
 ·rintro l rfl hw
  sleep 1
  have hb:=qfs hw
  have e2:=wl (cap:=[]) (fi:=jY (qd 0)) (ρ:=[g6 (.tup (prL l)),g6 (.int room),g7]) (ρ1:=[g6 (.tup (prL l)),g6 (.int room),g7]) (ds:=prL l) (fe:=d2 ixD (qd 0) 'k') (λd=>match d with | .tup [a,b]=>a | d=>d) (by simp [jI]) hz (λd hd=>by
   obtain ⟨x,hx,rfl⟩:=ai.mp hd
   simp [ixD,at0])
  have f2:(prL l).map (λd=>match d with | .tup [a,b]=>a | d=>d)=(qX l).map D.str:=by simp [prL,qX]
  rw [f2] at e2
  have h64:(qX l).length < 64:=by
   simp [qX]
   simp [prL] at hl
   omega
  have ee:=qcS (qX l) (jW ((qX l).foldl kX []))
  simp [ui,qw,qv,ht,Jf,wQ,e1,ha,hb,e2,vV,xE,wN,h64,ee,Yb]
noncomputable def Yc:List Str->Bool
 | x::y::l=>vP x y&&Yc (y::l)
 | _=>hZ
theorem qiM (h:vP x y=hZ):leS x y/\x≠y:=by
 unfold vP at h
 have h:=of_decide_eq_true h
 constructor
 ·exact List.le_of_lt h
 ·rintro rfl
  exact List.lt_irrefl _ h
theorem qiN (h:leS x y) (n:x≠y):vP x y=true:=by
 cases e:vP x y with
 | true=>rfl
 | false=>exact absurd (Ke h (strLt_false.mp e)) n
theorem Yd:∀ (l:List Str),Yc l=hZ->l.Pairwise (λx y=>leS x y/\x≠y)
 | [],_=>d9
 | [x],_=>dY _ _
 | x::y::l,h=>by
  have h:(vP x y&&Yc (y::l))=true:=h
  rw [aT] at h
  have ih:=Yd (y::l) h.2
  have hxy:=qiM h.1
  refine aY.mpr ⟨λz hz=>?_,ih⟩
  rcases ae.mp hz with rfl | hz
  ·exact hxy
  ·have hyz:=(aY.mp ih).1 z hz
   refine ⟨gS hxy.1 hyz.1,λe=>?_⟩
   subst e
   exact hxy.2 (Ke hxy.1 hyz.1)
theorem qbd:∀ (l:List Str),l.Pairwise (λx y=>leS x y/\x≠y)->Yc l=hZ
 | [],_=>rfl
 | [x],_=>rfl
 | x::y::l,h=>by
  have h1:=aY.mp h
  have hxy:=h1.1 y (af ..)
  show (vP x y&&Yc (y::l))=hZ
  rw [qiN hxy.1 hxy.2,qbd (y::l) h1.2]
  rfl
theorem Xx {l:List Str} (h:l.Pairwise (λx y=>leS x y/\x≠y)):l.Nodup:=h.imp λh=>h.2
theorem qcT (L:List Str):decide (L=jW (L.foldl kX []))=Yc L:=by
 cases e:Yc L with
 | true=>
  have p:=Yd L e
  have hn:=Xx p
  have hf:L.foldl kX []=L:=by rw [xg L [] hn 'h']; simp
  rw [hf]
  exact decide_eq_true (wG (qK L).symm (p.imp λh=>h.1) (jn L))
 | false=>
  refine decide_eq_false λz=>?_
  have hn:(jW (L.foldl kX [])).Nodup:=(qK _).nodup_iff.mpr (wO L [] cx).1
  have hs:=jn (L.foldl kX [])
  rw [<-z] at hn hs
  have p:L.Pairwise (λx y=>leS x y/\x≠y):=hs.and hn
  rw [qbd L p] at e
  cases e
theorem Zs (h:Yb l=hZ):(qX l).Nodup:=by
 unfold Yb at h
 rw [qcT] at h
 exact Xx (Yd _ h)
theorem qhl (l:List (Str×Int)) (x:Str):Gw (bk l) (.inr x)=decide (x∈qX l):=by
 unfold Gw bk qX
 rw [List.any_map]
 induction l with
 | nil=>simp
 | cons a l ih=>
  simp only [cG,aD,ae,ih]
  by_cases h:a.1=x
  ·simp [h]
  ·simp [h,bf h]
theorem qdF (hw:OkW room l) (h:x∈qX l):0<=jE l x/\jE l x < room:=(hw _ (uj h).1).2
theorem QS {b:Bool} (h:kK [d,.int room]=.ok (.bl b,[.non,.non])):wx [d,.int room]=if b=hZ then .ok (.non,[.non,.non]) else .exc "NoWorths" [g6 .non,g6 .non]:=by
 sleep 1
 cases b <;> simp [ww,qw,qv,qA,ji,h,wQ,vB]
theorem qbe (t room:Int):gq [.int t,.int room]=.ok (.int (if room<=t then t - room else t),[.non,.non]):=by
 sleep 1
 by_cases h:room<=t <;> simp [KD,qw,qv,geD,uz,Vy,h]
theorem qjL {a b:Int} (ha:0<=a/\a < r) (hb:0<=b/\b < r):(if r<=a+b then a+b - r else a+b)=(a+b) % r:=by
 split
 ·rw [<-Int.sub_emod_right,bi 'a' 'a']
 ·rw [bi 'a' 'a']
theorem Ye (hw:jM ws) (hl:Vk p q) (hr:KW 1 99 'l'=hZ) (ho:OkW r l) (hs:Yb l=hZ) (h:kK [.tup (prL l),.int r]=.ok (.bl hZ,[.non,.non])) :
  yt [Wd ws,Ld p q,.int r,.tup (prL l)]=if (LS (qy ws p q)).all (λx=>decide (x∈qX l))=hZ then .ok (.tup (qdm l (qy ws p q) r),[.non,.non,.non,.non]) else .exc "NoWorths" nn4:=by
 sleep 1
 have h1:=Xd hw hl
 have h2:=xZ (d:=.int r) trivial
 rw [hr] at h2
 have h3:=QS h
 have h4:=qe1 (Zs hs)
 have hn:(qy ws p q).length<=6:=by simp [qy]; exact hw.2.1
 have h5:=xY (l:=qy ws p q) 'a'
 have hLn:(LS (qy ws p q)).length<=2000:=by
  unfold LS
  rw [(qK _).length_eq]
  have:=uH ((qy ws p q).map (·.1)++(qy ws p q).map (·.2)) []
  simp only [aj,aA,bc] at this
  omega
 have e1:=wl (cap:=[5]) (fi:=jY (qt [.vl] jT (qc (qd 4) qD))) (ρ:=[g6 (Wd ws),g6 (Ld p q),g6 'l',g6 (.tup (prL l)),g6 (.lst (jA (qy ws p q))),g6 (.dct (bk l))]) (ρ1:=[g6 (Wd ws),g6 (Ld p q),g6 'l',g6 (.tup (prL l)),g6 (.lst (jA (qy ws p q))),g6 (.dct (bk l))]) (ds:=(LS (qy ws p q)).map D.str)
  (fe:=d2 inA (qd 0) (qd 1)) (λd=>match d with | .str x=>.bl (decide (x∈qX l)) | d=>d) (by simp [qA,ji,h5,jI]) (by rw [aA]; exact jB hLn) (λd hd=>by
   obtain ⟨x,hx,rfl⟩:=ai.mp hd
   simp [inA,JX,qhl])
 rw [bb] at e1
 have ha:=xX (λx=>decide (x∈qX l)) (LS (qy ws p q))
 have e1':jg [] 1 [5] (jY (qt [.vl] jT (qc (qd 4) qD))) (gNm 0) ftT (d2 inA (qd 0) (qd 1)) [g6 (Wd ws),g6 (Ld p q),g6 'l',g6 (.tup (prL l)),g6 (.lst (jA (qy ws p q))),g6 (.dct (bk l))]=.ok (.lst ((LS (qy ws p q)).map λx=>.bl (decide (x∈qX l))),[g6 (Wd ws),g6 (Ld p q),g6 'l',g6 (.tup (prL l)),g6 (.lst (jA (qy ws p q))),g6 (.dct (bk l))]):=e1
 cases hA:(LS (qy ws p q)).all (λx=>decide (x∈qX l)) with
 | false=>
  rw [hA] at ha
  simp [yr,qw,qv,qA,ji,h1,h2,h3,h4,e1',ha,wQ,vB]
 | true=>
  rw [hA] at ha
  have hin:∀ x∈qy ws p q,x.1∈qX l/\x.2∈qX l:=λx hx=>by
   rw [aS] at hA
   exact ⟨of_decide_eq_true (hA x.1 (mem_LS.mpr ⟨x,hx,.inl rfl⟩)),of_decide_eq_true (hA x.2 (mem_LS.mpr ⟨x,hx,.inr rfl⟩))⟩
  have e2:=wl (cap:=[2,5]) (fi:=jY (qd 4)) (ρ:=[g6 (Wd ws),g6 (Ld p q),g6 'l',g6 (.tup (prL l)),g6 (.lst (jA (qy ws p q))),g6 (.dct (bk l))]) (ρ1:=[g6 (Wd ws),g6 (Ld p q),g6 'l',g6 (.tup (prL l)),g6 (.lst (jA (qy ws p q))),g6 (.dct (bk l))]) (ds:=jA (qy ws p q))
   (fe:=qt [.vl,.vl] gq (qc (d2 kE (d2 ixD (qd 2) (d2 ixD (qd 0) 'k')) (d2 ixD (qd 2) (d2 ixD (qd 0) (dC (.int 1))))) (qc (qd 1) qD))) (λd=>match d with | .tup [.str a,.str b]=>.int ((jE l a+jE l b) % r) | d=>d) (by simp [jI]) (by simp [jA]; exact jB 'a') (λd hd=>by
    obtain ⟨x,hx,rfl⟩:=ai.mp hd
    obtain ⟨i1,i2⟩:=hin x hx
    have j1:=qaF i1
    have j2:=qaF i2
    have wr:=qjL (qdF ho i1) (qdF ho i2)
    have wi:=qbe (jE l x.1+jE l x.2) r
    rw [wr] at wi
    have k0:ixD (.tup [.str x.1,.str x.2]) (.int 0)=.ok (.str x.1):=by simp [ixD,at0]
    have k1:ixD (.tup [.str x.1,.str x.2]) (.int 1)=.ok (.str x.2):=by simp [ixD,at1]
    simp [qA,ji,k0,k1,j1,j2,kE,wi])
  have f2:(jA (qy ws p q)).map (λd=>match d with | .tup [.str a,.str b]=>.int ((jE l a+jE l b) % r) | d=>d)=qdm l (qy ws p q) r:=by simp [jA,qdm]
  rw [f2] at e2
  simp [yr,qw,qv,qA,ji,h1,h2,h3,h4,e1',ha,wQ,e2,wC]
noncomputable def hd0 (l:List Int):Int:=(l.head?).getD 0
theorem qhm (S:Sn seen W) (hr:1<=r) (hn:qI seen.length r ns) (hb:BO W seen r ns=g7):∀ x∈RT W,ch W seen r ns x≠[]:=by
 obtain ⟨c1,c2⟩:=qcK S hr hn
 have hpos:=c2.mp hb
 have hH:HM W seen r ns=((PV (ch W seen r ns) (RT W)).length:Int):=by
  unfold HM
  rw [hb]
  have:=qaX (ch W seen r ns) (RT W) 1
  rw [fM] at this
  exact this
 have hp:0 < (PV (ch W seen r ns) (RT W)).length:=by omega
 intro x hx z
 obtain ⟨l,hl⟩:=List.exists_mem_of_length_pos hp
 obtain ⟨k1,k2⟩:=(yR _).mp hl
 have:=k2 _ (uj (by rw [k1]; exact hx)).1
 rw [show ch W seen r ns (x,jE l x).1=[] from z] at this
 cases this
theorem qbf (hw:jM ws) (hl:Vk p q) (h0:1<=r) (h9:r<=99) (hn:qI ws.length r ns) (S:Sn (qy ws p q) W) (hb:BO W (qy ws p q) r ns=g7) :
  ∃ l∈slv r (qy ws p q) ns,KC [Wd ws,Ld p q,.int r,nD ns]=.ok (.tup (prL l),[.non,.non,.non,.non]):=by
 have hsl:(qy ws p q).length=ws.length:=by simp [qy]
 have hn':qI (qy ws p q).length r ns:=by rw [hsl]; exact hn
 have e1:=qg7 hw hl h0 h9 hn S
 rw [hb] at e1
 have e2:=Xl hw hl
 have e3:=UV S hn'.1 h0 h9
 have hne:=qhm S h0 hn' hb
 generalize qy ws p q=seen at *
 have hRO:(RO W seen r ns).map rd=((RT W).map λx=>(D.str x,iD (ch W seen r ns x))).map λp=>.tup [p.1,p.2]:=by
  unfold RO
  rw [bb,bb]
  rfl
 rw [hRO] at e3
 have hRl:(RT W).length<=100:=by
  have h5:=ck (λx=>decide ((qR W x).1=x)) (jW (kW W))
  have h6:(jW (kW W)).length=(LS seen).length:=by rw [qba S]
  have:=S.s
  unfold RT
  omega
 have hk:qX ((RT W).map λx=>(x,hd0 (ch W seen r ns x)))=RT W:=uo _ _
 have hz2:2<=sizeLine:=jB 'a'
 have e4:=qaA (own:=[]) (cap:=[]) (fi:=jY (qt [.vl,.vl,.vl] wL (qc (qd 4) (qc (qd 2) (qc (qd 3) qD))))) (ft:=ftT) (fe:=yJ (qc (qd 0) (qc (d2 ixD (qd 1) 'k') qD))) (ρ:=[g6 (Wd ws),g6 (Ld p q),g6 'l',g6 (nD ns),g6 'j',g7]) (ρ1:=[g6 (Wd ws),g6 (Ld p q),g6 'l',g6 (nD ns),g6 'j',g7])
  (ps:=(RT W).map λx=>(D.str x,iD (ch W seen r ns x))) (λ_=>hZ) (λp=>match p.2 with | .lst (d::_)=>.tup [p.1,d] | d=>d) 'h' (by
   generalize ((RT W).map λx=>(D.str x,iD (ch W seen r ns x))).map (λp=>D.tup [p.1,p.2])=Z at e3 ⊢
   generalize nD ns=Y at e3 ⊢
   generalize sD seen=U at e3 ⊢
   simp [qA,ji,e3,jI]) (by rw [aA]; exact jB 'a') 'f' (λp hp _=>by
   obtain ⟨x,hx,rfl⟩:=ai.mp hp
   have:=hne x hx
   generalize ch W seen r ns x=c at this ⊢
   cases c with
   | nil=>exact absurd rfl this
   | cons y c=>
    simp [ixD,at0,hz2]
    rfl)
 have f4:(((RT W).map λx=>(D.str x,iD (ch W seen r ns x))).filter λ_=>hZ).map (λp=>match p.2 with | .lst (d::_)=>.tup [p.1,d] | d=>d)=prL ((RT W).map λx=>(x,hd0 (ch W seen r ns x))):=by
  rw [dH.mpr λ_ _=>rfl,bb]
  unfold prL
  rw [bb]
  refine cE λx hx=>?_
  have:=hne x hx
  show (match iD (ch W seen r ns x) with | .lst (d::_)=>D.tup [.str x,d] | d=>d)=.tup [.str x,.int (hd0 (ch W seen r ns x))]
  generalize ch W seen r ns x=c at this ⊢
  cases c with
  | nil=>exact absurd rfl this
  | cons y c=>rfl
 rw [f4] at e4
 have hd:=Xm (l:=(RT W).map λx=>(x,hd0 (ch W seen r ns x))) (by rw [hk]; exact qfg S)
 have hin:((RT W).map λx=>(x,hd0 (ch W seen r ns x)))∈PV (ch W seen r ns) (RT W):=(yR _).mpr ⟨hk,λe he=>by
  obtain ⟨x,hx,rfl⟩:=ai.mp he
  have:=hne x hx
  show hd0 (ch W seen r ns x)∈ch W seen r ns x
  generalize ch W seen r ns x=c at this ⊢
  cases c with
  | nil=>exact absurd rfl this
  | cons y c=>exact af ..⟩
 have e5:=qfr S h0 hn'.1 (st:=(RT W).map λx=>(x,hd0 (ch W seen r ns x))) λy hy=>by
  rw [hk]
  obtain ⟨r1,r2⟩:=QM S hy
  exact mem_RT.mpr ⟨r1,by rw [r2]⟩
 refine ⟨_,qiK S h0 hn' hb hin,?_⟩
 sleep 1
 generalize prL (bl W r ns (LS seen) ((RT W).map λx=>(x,hd0 (ch W seen r ns x))))=V at e5 ⊢
 have hD:d1 Qc (jg [] 2 [] (jY (qt [.vl,.vl,.vl] wL (qc (qd 4) (qc (qd 2) (qc (qd 3) qD))))) (kU 2 (qL (gNm 0) (qL (gNm 1) kT))) ftT (yJ (qc (qd 0) (qc (d2 ixD (qd 1) 'k') qD)))) [g6 (Wd ws),g6 (Ld p q),g6 'l',g6 (nD ns),g6 'j',g7]=.ok (.dct (bk ((RT W).map λx=>(x,hd0 (ch W seen r ns x)))),[g6 (Wd ws),g6 (Ld p q),g6 'l',g6 (nD ns),g6 'j',g7]):=by
  rw [Um,e4,kY]
  simp only []
  rw [hd]
  rfl
 generalize D.dct (bk ((RT W).map λx=>(x,hd0 (ch W seen r ns x))))=U at hD e5
 unfold KB
 rw [show qw gn [Wd ws,Ld p q,.int r,nD ns]=[g6 (Wd ws),g6 (Ld p q),g6 'l',g6 (nD ns),g7,g7] from rfl]
 refine (qx (ρ1:=[g6 (Wd ws),g6 (Ld p q),g6 'l',g6 (nD ns),g7,g7]) (by simp [qA,ji,e1,qee])).trans ?_
 refine (qx (ρ1:=[g6 (Wd ws),g6 (Ld p q),g6 'l',g6 (nD ns),g6 'j',g7]) (by simp [qA,ji,e2])).trans ?_
 refine (qx (ρ1:=[g6 (Wd ws),g6 (Ld p q),g6 'l',g6 (nD ns),g6 'j',g6 U]) (by rw [wt,hD]; rfl)).trans ?_
 generalize nD ns=Y at e5 ⊢
 generalize sD seen=Q at e5 ⊢
 simp [qA,ji,e5,qv]
theorem qcU (l:List (Str×Int)):∀ d∈prL l,qiL d:=λd hd=>by
 obtain ⟨x,_,rfl⟩:=ai.mp hd
 refine ⟨?_,λxs e y hy=>?_⟩
 ·trivial
 ·cases e
  rcases ae.mp hy with rfl | hy
  ·trivial
  ·rw [am.mp hy]
   trivial
theorem qft (l:List Pr):LS l=jW ((LS l).foldl kX []):=by
 have h1:=wO (LS l) [] cx
 refine wG ?_ (by unfold LS; exact jn _) (jn _)
 refine (QE (Zr l) h1.1 λx=>?_).trans (qK _).symm
 rw [h1.2]
 simp
theorem Zu {ca:Str->Addr} (hw:jM ws) (hl:Vk p q) (h0:1<=r) (h9:r<=99) (hn:qI ws.length r ns) {l:Ln} (hm:l∈slv r (qy ws p q) ns) :
  yb ca [Wd ws,Ld p q,.int r,nD ns,.tup (prL l)]=.ok (.bl hZ,[.non,.non,.non,.non,.non]):=by
 have e1:=Vb hw hl h0 h9 hn
 obtain ⟨hE,hN⟩:=aF.mp hm
 have hN:=of_decide_eq_true hN
 obtain ⟨hk,hb⟩:=(QK h0).mp hE
 have hlen:l.length<=50:=by
  have h1:=qaH hw p q
  rw [<-hk] at h1
  simp [qX] at h1
  omega
 have ho:OkW r l:=λx hx=>by
  have hxk:x.1∈LS (qy ws p q):=by rw [<-hk]; exact ai.mpr ⟨x,hx,rfl⟩
  obtain ⟨c,hc,e⟩:=qgX hw p q x.1 hxk
  exact ⟨by rw [e]; exact qdl hc,hb x hx⟩
 have hri:Yb l=true:=by
  unfold Yb
  rw [hk]
  exact decide_eq_true (qft _)
 have e2:=(WL (qcU l) (by simp [prL]; exact hlen) r).2 l rfl ho
 rw [hri] at e2
 have e3:=Ye hw hl (by simp [KW]; omega) ho hri e2
 rw [if_pos (aS.mpr λx hx=>decide_eq_true (by rw [hk]; exact hx)),Xn,hN] at e3
 have e4:=qcN ns ns
 rw [decide_eq_true rfl] at e4
 sleep 1
 unfold ya
 rw [show qw uZ [Wd ws,Ld p q,.int r,nD ns,.tup (prL l)]=[g6 (Wd ws),g6 (Ld p q),g6 'l',g6 (nD ns),g6 (.tup (prL l)),g7] from rfl]
 refine (qx (ρ1:=[g6 (Wd ws),g6 (Ld p q),g6 'l',g6 (nD ns),g6 (.tup (prL l)),g7]) (by simp [qA,ji,e1])).trans ?_
 refine (qx (ρ1:=[g6 (Wd ws),g6 (Ld p q),g6 'l',g6 (nD ns),g6 (.tup (prL l)),g6 (nD ns)]) (by
  have e3:yt [Wd ws,Ld p q,.int r,.tup (prL l)]=.ok (nD ns,[.non,.non,.non,.non]):=e3
  generalize D.tup (prL l)=Z at e3 ⊢
  generalize nD ns=Y at e3 ⊢
  simp [qfx,qA,ji,e3])).trans ?_
 generalize nD ns=Y at e4 ⊢
 simp [e4,qv]
theorem qhn {a b:List Int} (ha:a.length=n) (hb:b.length=n):(wr n a b).length=0↔a=b:=by
 constructor
 ·intro h
  refine qdB 'a' λi hi=>?_
  refine bz λz=>?_
  have:i∈wr n a b:=aF.mpr ⟨aL.mpr 'a',decide_eq_true z⟩
  rw [bP h] at this
  cases this
 ·rintro rfl
  unfold wr
  simp
theorem QT (hr:1<=r) (hn:qI seen.length r ns) {fs:List Wk} (h:FW seen.length (okB r seen ns) seen.length [[]]=f0::fs) {l:Ln} (hl:ju l seen r=ns):f0=[]/\MD r seen ns f0 fs=ns:=by
 have ho:okB r seen ns []=true:=by
  have:=JI l seen hr
  rw [hl] at this
  exact this
 have h0:f0.length=0:=by
  have:=(qa4 h).2.2 [] ⟨.nil,λk hk=>by cases hk⟩ ho
  simpa using this
 have hf:f0=[]:=bP h0
 refine ⟨hf,?_⟩
 obtain ⟨⟨l',_,e⟩,_⟩:=WH hr hn h
 have e1:=congrArg Prod.fst e
 have e2:=congrArg Prod.snd e
 have e1:(wr seen.length (ju l' seen r) ns).length=f0.length:=e1
 have e2:ju l' seen r=MD r seen ns f0 fs:=e2
 rw [h0] at e1
 rw [<-e2]
 exact (qhn (gF l' seen r) hn.1).mp e1
theorem qiO (a:List Int):neD (nD a) (nD a)=.ok (.bl hJ):=by
 have:=Xw 7 a a
 simp [neD,this]
theorem qiP (a:List Int):eqD (nD a) (nD a)=.ok (.bl hZ):=by
 have:=Xw 7 a a
 simp [eqD,this]
abbrev st6:Sl->Out (Fl×Sl):=yL 8 (qt [.vl,.sl 1,.vl] jZ (qc (qd 0) (kG (qc (qd 3) qD)))) (qt [.vl,.sl 1,.vl] jZ (qc (qd 0) (kG (qc (d1 jy (qd 8)) qD))))
theorem Xy (ns0:List Int) (hn:1<=n) (hr:1<=r) (a b c d e:Option D):∀ (ks:List D) (town:List D) (ns:List Int) (x:Option D),town.length+2 * ks.length < 900->qI n r ns ->
  ∃ (town':List D) (ns':List Int) (x':Option D),qI n r ns'/\wA (gNm 9) st6 ks [g6 (scr ns0),g6 (.lst town),a,g6 'l',b,c,d,e,g6 (iD ns),x,g7,g7,g7,g7]=.ok (.nx,[g6 (scr ns0),g6 (.lst town'),a,g6 'l',b,c,d,e,g6 (iD ns'),x',g7,g7,g7,g7])
 | [],town,ns,x,_,h=>⟨town,ns,x,h,rfl⟩
 | k::ks,town,ns,x,ht,h=>by
  rw [ap] at ht
  obtain ⟨v,v0,v1,g1⟩:=wy ns0 town (many:=r) 'a' 'a'
  obtain ⟨i,i0,i1,g2⟩:=wy ns0 (town++[.int 0]) (many:=(ns.length:Int)) (by rw [h.1]; omega) (by rw [aj]; simp; omega)
  obtain ⟨j,rfl⟩:=db i0
  have hj:j < ns.length:=by omega
  have h':qI n r (ns.set j v):=⟨by rw [cA]; exact h.1,λy hy=>by
   rcases List.mem_or_eq_of_mem_set hy with hy | rfl
   ·exact h.2 y hy
   ·exact ⟨v0,v1⟩⟩
  obtain ⟨town',ns',x',b2,b3⟩:=Xy ns0 hn hr a b c d e ks (town++[.int 0]++[.int 0]) (ns.set j v) (g6 k) (by rw [aj,aj]; simp; omega) h'
  refine ⟨town',ns',x',b2,cL (yd (ρ1:=[g6 (scr ns0),g6 (.lst town),a,g6 'l',b,c,d,e,g6 (iD ns),g6 k,g7,g7,g7,g7]) rfl ?_) b3⟩
  have hix:ixN (ns.map D.int).length (j:Int)=g6 j:=by
   unfold ixN
   rw [aA,if_pos 'a',if_pos 'a',bZ]
  have hset:(ns.map D.int).set j (.int v)=(ns.set j v).map D.int:=by rw [fX]
  have hlen:jy (iD ns)=.ok (.int (ns.length:Int)):=by simp [jy]
  simp only [st6,yL]
  simp only [qb8,qb5,qb6,qeC,GJ,Um,c9,dZ,kY]
  simp [qA,ji,g1,hlen,g2]
  simp at hix hset
  simp [hix,hset]
theorem qbg (hn:n<=100) {a b:List Int} (ha:a.length=n) (hb:b.length=n) (hi:i∉own) (hj:j∉own) (h1:(ρ[i]?).getD g7=g6 (nD a)) (h2:(ρ[j]?).getD g7=g6 (nD b)) (h5:jD (d1 jy (qd 5)) ρ=.ok (yU 0 n,ρ)) :
  jg own 1 [i,j] (jD (d1 jy (qd 5))) (gNm 0) (qV (d2 neD (d2 ixD (qd 1) (qd 0)) (d2 ixD (qd 2) (qd 0)))) (qd 0) ρ=.ok (lD (wr n a b),ρ):=by
 have hr:yU 0 n=inL (aE n):=by simp [yU,inL]
 rw [hr] at h5
 have e:=Ww (own:=own) (cap:=[i,j]) (fi:=jD (d1 jy (qd 5))) (ρ:=ρ) (ρ1:=ρ) (ds:=inL (aE n)) (ft:=qV (d2 neD (d2 ixD (qd 1) (qd 0)) (d2 ixD (qd 2) (qd 0)))) (fe:=qd 0) (λd=>match d with | .int k=>decide (nI a k.toNat≠nI b k.toNat) | _=>hJ) (λd=>d) (by
   intro k hk
   rcases ae.mp hk with rfl | hk
   ·exact hi
   ·rw [am.mp hk]; exact hj) h5 (by simp [inL]; exact jB 'a') (λd hd=>by
   obtain ⟨k,hk,rfl⟩:=ai.mp hd
   have hk:=aL.mp hk
   have i1:=Xf (ns:=a) (k:=k) 'a'
   have i2:=Xf (ns:=b) (k:=k) 'a'
   simp only [aD,bU,h1,h2]
   generalize nD a=A at i1 ⊢
   generalize nD b=B at i2 ⊢
   by_cases q:nI a k=nI b k <;> simp [i1,i2,neD,eqN,eqS,q]) (λ_ _ _=>rfl)
 rw [e]
 congr 2
 rw [eV]
 unfold wr inL
 rw [eQ]
 rfl
def qiQ (ca:Str->Addr):Prop:=∀ x∈CS,∀ y∈CS,ca x=ca y->x=y
theorem qho {ca:Str->Addr} (hca:qiQ ca) (ns0:List Int):qcA ca [scr ns0]=.ok (.bl hZ,[.non]):=by
 sleep 1
 obtain ⟨tm,m0,m1,g1⟩:=wy ns0 [] (many:=4) 'a' 'h'
 obtain ⟨r',r0,r1,g2⟩:=wy ns0 ([]++[.int 0]) (many:=9) 'a' 'h'
 obtain ⟨p,q,t3,hl,ht3,g3⟩:=qe0 ns0 ([]++[.int 0]++[.int 0]) 'h'
 simp at ht3
 obtain ⟨ws,t4,hw,_,ht4,g4⟩:=qcD ns0 t3 'a'
 have hLn:=qaH hw p q
 obtain ⟨es,t5,x5,k5,b5,ht5,c5⟩:=JE ns0 (room:=1+r') 'a' (LS (qy ws p q)) t4 g7 'a'
 have hnd:(qX es).Nodup:=by rw [k5]; exact Zr _
 have hd:=Xm hnd
 have hll:=Jh hw hl
 have hby:=qaG hw hl (r:=1+r') 'a' (l:=es) (by rw [k5]; exact λx hx=>hx)
 rw [Xn] at hby
 have hsl:(qy ws p q).length=ws.length:=by simp [qy]
 generalize hR:1+r'=r at *
 have hr:1<=r:=by omega
 have h18:r<=18:=by omega
 have h99:r<=99:=by omega
 have h6:=hw.2.1
 have hn0:qI (qy ws p q).length r (ju es (qy ws p q) r):=QQ es _ hr
 have hn0':qI ws.length r (ju es (qy ws p q) r):=by rw [<-hsl]; exact hn0
 have hrl:(yU 0 tm.toNat).length=tm.toNat:=by simp [yU]
 obtain ⟨t6,ns,x6,hns,e6⟩:=Xy ns0 (n:=ws.length) hw.1 hr (g6 (.int tm)) (g6 (Ld p q)) (g6 (Wd ws)) (g6 (.dct (bk es))) (g6 (nD (ju es (qy ws p q) r))) (yU 0 tm.toNat) t5 _ g7 (by rw [hrl]; omega) hn0'
 have hns':qI (qy ws p q).length r ns:=by rw [hsl]; exact hns
 obtain ⟨W,S⟩:=qiG hw p q
 obtain ⟨d1',x1,y1,p1⟩:=QR hw hl hr h18 hn0' S
 obtain ⟨f1,u1,a1,o1⟩:=QN hw hl hr h99 hn0' S
 rw [(QT hr hn0 y1 rfl).2] at p1
 rw [<-hsl] at a1
 rw [(QT hr hn0 a1 rfl).1] at o1
 obtain ⟨d0,x0,y0,p0⟩:=QR hw hl hr h18 hns S
 obtain ⟨f0,u0,a0,o0⟩:=QN hw hl hr h99 hns S
 rw [<-hsl,y0] at a0
 obtain ⟨rfl,rfl⟩:=List.cons.inj a0
 obtain ⟨⟨lm,hlm,wm⟩,_⟩:=WH hr hns' y0
 have wm1:(wr (qy ws p q).length (ju lm (qy ws p q) r) ns).length=d0.length:=congrArg Prod.fst wm
 have wm2:ju lm (qy ws p q) r=MD r (qy ws p q) ns d0 x0:=congrArg Prod.snd wm
 have hle:=(qa4 y0).2.2 _ (WE _ (ju es (qy ws p q) r) ns) (qcO hr hns' es)
 rw [<-wm2] at p0
 have hmk:qI (qy ws p q).length r (ju lm (qy ws p q) r):=QQ lm _ hr
 have hmk':qI ws.length r (ju lm (qy ws p q) r):=by rw [<-hsl]; exact hmk
 have hsv:lm∈slv r (qy ws p q) (ju lm (qy ws p q) r):=aF.mpr ⟨hlm,decide_eq_true rfl⟩
 have hbo:BO W (qy ws p q) r (ju lm (qy ws p q) r)=none:=(qcK S hr hmk).2.mpr (ce hsv)
 obtain ⟨l2,hl2,wo⟩:=qbf hw hl hr h99 hmk' S hbo
 have te:=Zu (ca:=ca) hw hl hr h99 hmk' hl2
 obtain ⟨d2',x2,y2,p2⟩:=QR hw hl hr h18 hmk' S
 rw [(QT hr hmk y2 rfl).2] at p2
 rw [hsl] at wm1 hle
 have hrt:(ju es (qy ws p q) r).length=ws.length:=hn0'.1
 have hmt:(ju lm (qy ws p q) r).length=ws.length:=hmk'.1
 have hnt:=hns.1
 generalize ju lm (qy ws p q) r=mk at *
 generalize hRT:ju es (qy ws p q) r=rt at *
 have hlen:jy (Wd ws)=.ok (.int ws.length):=by simp [jy]
 have hI:∀ ρ:Sl,(ρ[5]?)=g6 (g6 (Wd ws))->jD (d1 jy (qd 5)) ρ=.ok (yU 0 ws.length,ρ):=λρ h=>by
  rw [iR0 (k:=(ws.length:Int)) (ρ1:=ρ) 'a' 'a' (by
   generalize Wd ws=Z at hlen h
   simp [h,hlen]),bZ]
 have w1:=qbg (n:=ws.length) 'a' hmt hnt (own:=[1]) (i:=10) (j:=8) 'h' 'h' (ρ:=[g6 (scr ns0),g6 (.lst t6),g6 (.int tm),g6 'l',g6 (Ld p q),g6 (Wd ws),g6 (.dct (bk es)),g6 (nD rt),g6 (nD ns),x6,g6 (nD mk),g6 (gD d0),g7,g7]) rfl rfl (hI _ rfl)
 have w2:=qbg (n:=ws.length) 'a' hrt hnt (own:=[12,1]) (i:=7) (j:=8) 'h' 'h' (ρ:=[g6 (scr ns0),g6 (.lst t6),g6 (.int tm),g6 'l',g6 (Ld p q),g6 (Wd ws),g6 (.dct (bk es)),g6 (nD rt),g6 (nD ns),x6,g6 (nD mk),g6 (gD d0),g6 (lD (wr ws.length mk ns)),g7]) rfl rfl (hI _ rfl)
 have n1:jy (lD (wr ws.length mk ns))=.ok (.int d0.length):=by simp [jy,inL,wm1]
 have n2:jy (gD d0)=.ok (.int d0.length):=by simp [jy,inL]
 have n3:jy (lD (wr ws.length rt ns))=.ok (.int (wr ws.length rt ns).length):=by simp [jy,inL]
 have hgt:gtD (.int (d0.length:Int)) (.int ((wr ws.length rt ns).length:Int))=.ok (.bl hJ):=by
  have:¬((wr ws.length rt ns).length:Int) < (d0.length:Int):=by omega
  show Out.ok (D.bl (decide (((wr ws.length rt ns).length:Int) < (d0.length:Int))))=_
  rw [decide_eq_false this]
 have q1:=qiO rt
 have q2:neD (gD []) (.tup [])=.ok (.bl hJ):=rfl
 have q3:=qiP mk
 have hz2:2<=sizeLine:=jB 'a'
 unfold qeW
 rw [show qw Zn [scr ns0]=[g6 (scr ns0),g7,g7,g7,g7,g7,g7,g7,g7,g7,g7,g7,g7,g7] from rfl]
 refine (qx (ρ1:=[g6 (scr ns0),g6 (.lst []),g7,g7,g7,g7,g7,g7,g7,g7,g7,g7,g7,g7]) 'h').trans ?_
 refine (qx (ρ1:=[g6 (scr ns0),g6 (.lst ([]++[.int 0])),g6 (.int tm),g7,g7,g7,g7,g7,g7,g7,g7,g7,g7,g7]) (by simp [qA,ji,g1])).trans ?_
 refine (qx (ρ1:=[g6 (scr ns0),g6 (.lst ([]++[.int 0]++[.int 0])),g6 (.int tm),g6 'l',g7,g7,g7,g7,g7,g7,g7,g7,g7,g7]) (by
  simp only [aP,eG,ci] at g2 ⊢
  simp [qA,ji,g2,kE,hR])).trans ?_
 refine (qx (ρ1:=[g6 (scr ns0),g6 (.lst t3),g6 (.int tm),g6 'l',g6 (Ld p q),g7,g7,g7,g7,g7,g7,g7,g7,g7]) (by
  simp only [aP,eG,ci] at g3 ⊢
  simp [qA,ji,g3])).trans ?_
 refine (qx (ρ1:=[g6 (scr ns0),g6 (.lst t4),g6 (.int tm),g6 'l',g6 (Ld p q),g6 (Wd ws),g7,g7,g7,g7,g7,g7,g7,g7]) (by simp [qA,ji,g4])).trans ?_
 have d5:=za (own:=[1]) (cap:=[0,1,3]) (nt:=1) (fi:=jY (qt [.vl,.vl] yB (qc (qd 5) (qc (qd 4) qD)))) (g:=gNm 0) (ft:=ftT) (fe:=yJ (qc (qd 0) (qc (qt [.vl,.sl 2,.vl] jZ (qc (qd 1) (kG (qc (qd 3) qD)))) qD))) (ρ:=[g6 (scr ns0),g6 (.lst t4),g6 (.int tm),g6 'l',g6 (Ld p q),g6 (Wd ws),g7,g7,g7,g7,g7,g7,g7,g7]) (ρ1:=[g6 (scr ns0),g6 (.lst t4),g6 (.int tm),g6 'l',g6 (Ld p q),g6 (Wd ws),g7,g7,g7,g7,g7,g7,g7,g7]) (ds:=(LS (qy ws p q)).map D.str) (by simp [qA,ji,hll,jI]) (by rw [aA]; exact jB 'a') c5
 refine (qx (ρ1:=[g6 (scr ns0),g6 (.lst t5),g6 (.int tm),g6 'l',g6 (Ld p q),g6 (Wd ws),g6 (.dct (bk es)),g7,g7,g7,g7,g7,g7,g7]) (by
  rw [wt,Um,d5,kY]
  simp only []
  rw [hd]
  rfl)).trans ?_
 generalize D.dct (bk es)=BK at *
 refine (qx (ρ1:=[g6 (scr ns0),g6 (.lst t5),g6 (.int tm),g6 'l',g6 (Ld p q),g6 (Wd ws),g6 BK,g6 (nD rt),g7,g7,g7,g7,g7,g7]) (by simp [qA,ji,hby])).trans ?_
 refine (qx (ρ1:=[g6 (scr ns0),g6 (.lst t5),g6 (.int tm),g6 'l',g6 (Ld p q),g6 (Wd ws),g6 BK,g6 (nD rt),g7,g7,g7,g7,g7,g7]) (by
  generalize nD rt=Y at p1 o1 q1 ⊢
  generalize gD []=G at o1 q2
  simp [qA,ji,p1,q1,o1,q2])).trans ?_
 refine (qx (ρ1:=[g6 (scr ns0),g6 (.lst t5),g6 (.int tm),g6 'l',g6 (Ld p q),g6 (Wd ws),g6 BK,g6 (nD rt),g6 (iD rt),g7,g7,g7,g7,g7]) (by simp [VP])).trans ?_
 refine (qx (ρ1:=[g6 (scr ns0),g6 (.lst t6),g6 (.int tm),g6 'l',g6 (Ld p q),g6 (Wd ws),g6 BK,g6 (nD rt),g6 (iD ns),x6,g7,g7,g7,g7]) (by
  rw [wu,iR0 (k:=tm) (ρ1:=[g6 (scr ns0),g6 (.lst t5),g6 (.int tm),g6 'l',g6 (Ld p q),g6 (Wd ws),g6 BK,g6 (nD rt),g6 (iD rt),g7,g7,g7,g7,g7]) m0 'a' rfl,kY]
  exact e6)).trans ?_
 refine (qx (ρ1:=[g6 (scr ns0),g6 (.lst t6),g6 (.int tm),g6 'l',g6 (Ld p q),g6 (Wd ws),g6 BK,g6 (nD rt),g6 (nD ns),x6,g7,g7,g7,g7]) (by simp [wC])).trans ?_
 refine (qx (ρ1:=[g6 (scr ns0),g6 (.lst t6),g6 (.int tm),g6 'l',g6 (Ld p q),g6 (Wd ws),g6 BK,g6 (nD rt),g6 (nD ns),x6,g6 (nD mk),g7,g7,g7]) (by
  generalize nD ns=Y at p0 ⊢
  simp [qA,ji,p0])).trans ?_
 refine (qx (ρ1:=[g6 (scr ns0),g6 (.lst t6),g6 (.int tm),g6 'l',g6 (Ld p q),g6 (Wd ws),g6 BK,g6 (nD rt),g6 (nD ns),x6,g6 (nD mk),g6 (gD d0),g7,g7]) (by
  generalize nD ns=Y at o0 ⊢
  simp [qA,ji,o0])).trans ?_
 refine (qx (ρ1:=[g6 (scr ns0),g6 (.lst t6),g6 (.int tm),g6 'l',g6 (Ld p q),g6 (Wd ws),g6 BK,g6 (nD rt),g6 (nD ns),x6,g6 (nD mk),g6 (gD d0),g6 (lD (wr ws.length mk ns)),g7]) (by rw [wt,w1]; rfl)).trans ?_
 refine (qx (ρ1:=[g6 (scr ns0),g6 (.lst t6),g6 (.int tm),g6 'l',g6 (Ld p q),g6 (Wd ws),g6 BK,g6 (nD rt),g6 (nD ns),x6,g6 (nD mk),g6 (gD d0),g6 (lD (wr ws.length mk ns)),g6 (lD (wr ws.length rt ns))]) (by rw [wt,w2]; rfl)).trans ?_
 generalize lD (wr ws.length mk ns)=L1 at *
 generalize lD (wr ws.length rt ns)=L2 at *
 generalize gD d0=G0 at *
 refine (qx (ρ1:=[g6 (scr ns0),g6 (.lst t6),g6 (.int tm),g6 'l',g6 (Ld p q),g6 (Wd ws),g6 BK,g6 (nD rt),g6 (nD ns),x6,g6 (nD mk),g6 G0,g6 L1,g6 L2]) (by simp [n1,n2,n3,neD,eqN,eqS,hgt])).trans ?_
 generalize nD mk=Y at *
 generalize D.tup (prL l2)=Z at *
 refine (qx (ρ1:=[g6 (scr ns0),g6 (.lst t6),g6 (.int tm),g6 'l',g6 (Ld p q),g6 (Wd ws),g6 BK,g6 (nD rt),g6 (nD ns),x6,g6 Y,g6 G0,g6 L1,g6 L2]) (by simp [qA,ji,wo,te,wQ])).trans ?_
 simp [qA,ji,p2,q3,qv]
end Kx
namespace Kx
open PySem PySem.Spec PyProof.Rows L2 L2.D2
variable {us:List g9} {P:List g9->Prop}
theorem qjj (hl:us.length=0) (h:P []):P us:=dW.mp hl ▸ h
theorem qhp {n:Nat} (hl:us.length=n+1):∃ a l,us=a::l/\l.length=n:=by
 cases us with
 | nil=>cases hl
 | cons a l=>exact ⟨a,l,rfl,Nat.succ.inj hl⟩
theorem qjk (hl:us.length=1) (h:∀ a,P [a]):P us:=by
 obtain ⟨a,l,rfl,e⟩:=qhp hl
 exact qjj (P:=λl=>P (a::l)) e (h a)
theorem qjl (hl:us.length=2) (h:∀ a b,P [a,b]):P us:=by
 obtain ⟨a,l,rfl,e⟩:=qhp hl
 exact qjk (P:=λl=>P (a::l)) e (h a)
theorem qjm (hl:us.length=3) (h:∀ a b c,P [a,b,c]):P us:=by
 obtain ⟨a,l,rfl,e⟩:=qhp hl
 exact qjl (P:=λl=>P (a::l)) e (h a)
theorem qjn (hl:us.length=4) (h:∀ a b c d,P [a,b,c,d]):P us:=by
 obtain ⟨a,l,rfl,e⟩:=qhp hl
 exact qjm (P:=λl=>P (a::l)) e (h a)
theorem qjM (hl:us.length=5) (h:∀ a b c d e,P [a,b,c,d,e]):P us:=by
 obtain ⟨a,l,rfl,e⟩:=qhp hl
 exact qjn (P:=λl=>P (a::l)) e (h a)
variable {K:Frag} {h:Heap} {mg:Str->Option g9}
theorem qfu (X:K.In h) (G:h.Ns mainGlobals mg) {x:Str} {st:Stmt} {ps:List Str} {f:Addr} {oc:g9} {od an:Option Addr} {osl:Array (Option g9)} {kV doc pm cdv ct:g9}
  (a:nsIn K mainGlobals x=g6 (g6 (.ref f))) (l:K.lookup f=g6 ⟨oc,od,.func (cF x x (uy st) (wq st) (qe st) .none kV doc pm an cdv ct),osl⟩) (c:codeIn K cdv x=hZ) (k:keepIn K (.ref f)=hZ)
  (hb:∀ (kV doc pm:g9) (an:Option Addr) (cdv ct:g9) (us:List g9),us.length=ps.length->bindArgs (cF x x (uy st) (wq st) (qe st) .none kV doc pm an cdv ct) ⟨us,[]⟩=pure (ps.zip us)):jb K mg x st ps:=
 ⟨f,_,ZN l c k,k7 X G a,(ZN l c k).binds hb⟩
variable {x:Str}
theorem qbh {l:List Str} {f:Str->Addr} (nd:(l.map f).Nodup) {y:Str} (hx:x∈l) (hy:y∈l) (e:f x=f y):x=y:=by
 obtain ⟨i,hi,rfl⟩:=eM.mp hx
 obtain ⟨j,hj,rfl⟩:=eM.mp hy
 have q:=(fz (h₀:=by simpa using hi) (h₁:=by simpa using hj) nd).mp (show (l.map f)[i]'(by simpa using hi)=(l.map f)[j]'(by simpa using hj) by simpa using e)
 subst q
 rfl
noncomputable def caT (T:List (Str×Addr)) (x:Str):Addr:=(T.lookup x).getD 0
noncomputable def qcV (K:Frag) (Cs:List Addr) (W:Addr):Bool:=decide Cs.Nodup&&Cs.all λc=>xcB K c&&decide (bS K (.ref c) (.ref W)=g6 hZ)&&decide (cw K (.ref c) (.type "ValueError")=g6 hZ)&&dL K c bmV "ValueError.__new__"&&Cs.all λd=>decide (cw K (.ref c) (.ref d)=g6 (decide (c=d)))
theorem qcW {Cs:List Addr} {W:Addr} (h:qcV K Cs W=hZ):Cs.Nodup/\∀ c∈Cs,xcB K c=hZ/\bS K (.ref c) (.ref W)=g6 hZ/\cw K (.ref c) (.type "ValueError")=g6 hZ/\dL K c bmV "ValueError.__new__"=hZ/\∀ d∈Cs,cw K (.ref c) (.ref d)=g6 (decide (c=d)):=by
 unfold qcV at h
 rw [aT,aS] at h
 refine ⟨of_decide_eq_true h.1,λc hc=>?_⟩
 have q:=h.2 c hc
 simp only [aT,decide_eq_true_eq,aS] at q
 exact ⟨q.1.1.1.1,q.1.1.1.2,q.1.1.2,q.1.2,q.2⟩
theorem qhq {c:Str} (h:c∈CS):c = "NoWords"\/c = "NoLook"\/c = "NoNumbers"\/c = "NoRoom"\/c = "NoWorths"\/c = "Never":=by simpa [CS] using h
theorem qiR (X:K.In h) (G:h.Ns mainGlobals mg) {CW C0 C1 C2 C3 C4 C5:Addr}  {t_LEAST_PLACE t_MOST_LETTERS t_MOST_PLACE t_MOST_ROOM t_MOST_WORDS:Tok}
    (aW:nsIn K mainGlobals "WordError"=g6 (g6 (.ref CW)))
    (a0:nsIn K mainGlobals "NoWords"=g6 (g6 (.ref C0)))
    (a1:nsIn K mainGlobals "NoLook"=g6 (g6 (.ref C1)))
    (a2:nsIn K mainGlobals "NoNumbers"=g6 (g6 (.ref C2)))
    (a3:nsIn K mainGlobals "NoRoom"=g6 (g6 (.ref C3)))
    (a4:nsIn K mainGlobals "NoWorths"=g6 (g6 (.ref C4)))
    (a5:nsIn K mainGlobals "Never"=g6 (g6 (.ref C5)))
    (z_all:nsIn K mainGlobals "all"=g6 g7)
    (z_bool:nsIn K mainGlobals "bool"=g6 g7)
    (z_dict:nsIn K mainGlobals "dict"=g6 g7)
    (z_enumerate:nsIn K mainGlobals "enumerate"=g6 g7)
    (z_int:nsIn K mainGlobals "int"=g6 g7)
    (z_isinstance:nsIn K mainGlobals "isinstance"=g6 g7)
    (z_len:nsIn K mainGlobals "len"=g6 g7)
    (z_list:nsIn K mainGlobals "list"=g6 g7)
    (z_max:nsIn K mainGlobals "max"=g6 g7)
    (z_min:nsIn K mainGlobals "min"=g6 g7)
    (z_range:nsIn K mainGlobals "range"=g6 g7)
    (z_reversed:nsIn K mainGlobals "reversed"=g6 g7)
    (z_set:nsIn K mainGlobals "set"=g6 g7)
    (z_sorted:nsIn K mainGlobals "sorted"=g6 g7)
    (z_str:nsIn K mainGlobals "str"=g6 g7)
    (z_tuple:nsIn K mainGlobals "tuple"=g6 g7)
    (c_LEAST_PLACE:nsIn K mainGlobals "LEAST_PLACE"=g6 (g6 (.int (-3) t_LEAST_PLACE)))
    (c_MOST_LETTERS:nsIn K mainGlobals "MOST_LETTERS"=g6 (g6 (.int 6 t_MOST_LETTERS)))
    (c_MOST_PLACE:nsIn K mainGlobals "MOST_PLACE"=g6 (g6 (.int 2 t_MOST_PLACE)))
    (c_MOST_ROOM:nsIn K mainGlobals "MOST_ROOM"=g6 (g6 (.int 99 t_MOST_ROOM)))
    (c_MOST_WORDS:nsIn K mainGlobals "MOST_WORDS"=g6 (g6 (.int 6 t_MOST_WORDS)))
    (ex:qcV K [C0,C1,C2,C3,C4,C5] CW=hZ)
    (sx4:bS K (.ref C4) (.ref C4)=g6 hZ)
     :
    Zt K mg (λx=>.ref (caT [("WordError",CW),("NoWords",C0),("NoLook",C1),("NoNumbers",C2),("NoRoom",C3),("NoWorths",C4),("Never",C5)] x)) (caT [("WordError",CW),("NoWords",C0),("NoLook",C1),("NoNumbers",C2),("NoRoom",C3),("NoWorths",C4),("Never",C5)])/\qiQ (caT [("WordError",CW),("NoWords",C0),("NoLook",C1),("NoNumbers",C2),("NoRoom",C3),("NoWorths",C4),("Never",C5)]):=by
  obtain ⟨nd,al⟩:=qcW ex
  generalize hT:([("WordError",CW),("NoWords",C0),("NoLook",C1),("NoNumbers",C2),("NoRoom",C3),("NoWorths",C4),("Never",C5)]:List (Str×Addr))=T
  have eW:caT T "WordError"=CW:=by subst hT; kernel_rfl
  have e0:caT T "NoWords"=C0:=by subst hT; kernel_rfl
  have e1:caT T "NoLook"=C1:=by subst hT; kernel_rfl
  have e2:caT T "NoNumbers"=C2:=by subst hT; kernel_rfl
  have e3:caT T "NoRoom"=C3:=by subst hT; kernel_rfl
  have e4:caT T "NoWorths"=C4:=by subst hT; kernel_rfl
  have e5:caT T "Never"=C5:=by subst hT; kernel_rfl
  have hm:CS.map (caT T)=[C0,C1,C2,C3,C4,C5]:=by
    unfold CS
    simp only [aD,bU,e0,e1,e2,e3,e4,e5]
  have hin:∀ c∈CS,caT T c∈[C0,C1,C2,C3,C4,C5]:=λc hc=>hm ▸ ai.mpr ⟨c,hc,rfl⟩
  refine ⟨⟨⟨λc hc=>rfl,λc hc=>?_,λc hc=>(al _ (hin c hc)).1,λc hc d hd=>(al _ (hin c hc)).2.2.2.2 _ (hin d hd),λc hc=>(al _ (hin c hc)).2.2.1⟩,λc hc=>?_,λc hc=>(al _ (hin c hc)).2.2.2.1,λx hx=>absurd hx (by simp [FS]),iu X G z_all,iu X G z_bool,iu X G z_dict,iu X G z_enumerate,iu X G z_int,iu X G z_isinstance,iu X G z_len,iu X G z_list,iu X G z_max,iu X G z_min,iu X G z_range,iu X G z_reversed,iu X G z_set,iu X G z_sorted,iu X G z_str,iu X G z_tuple,⟨_,k7 X G c_LEAST_PLACE⟩,⟨_,k7 X G c_MOST_LETTERS⟩,⟨_,k7 X G c_MOST_PLACE⟩,⟨_,k7 X G c_MOST_ROOM⟩,⟨_,k7 X G c_MOST_WORDS⟩,?sX4⟩,λx hx y hy e=>?_⟩
  case sX4=>rw [e4]; exact sx4
  · show bS K (.ref (caT T c)) (.ref (caT T "WordError"))=g6 hZ
    rw [eW]
    exact (al _ (hin c hc)).2.1
  · rcases qhq hc with rfl | rfl | rfl | rfl | rfl | rfl
    · rw [e0]; exact k7 X G a0
    · rw [e1]; exact k7 X G a1
    · rw [e2]; exact k7 X G a2
    · rw [e3]; exact k7 X G a3
    · rw [e4]; exact k7 X G a4
    · rw [e5]; exact k7 X G a5
  ·
    rw [<-hm] at nd
    exact qbh nd hx hy e
structure Tx (K:Frag) (mg:Str->Option g9) (ca:Str->Addr):Prop where
 x_is_letter:jb K mg "is_letter" wS ["thing"]
 x_is_word:jb K mg "is_word" wH ["thing"]
 x_is_words:jb K mg "is_words" vw ["thing"]
 x_check_words:jb K mg "check_words" vm ["thing"]
 x_is_between:jb K mg "is_between" vW ["thing", "least", "most"]
 x_is_look:jb K mg "is_look" wI ["thing"]
 x_check_look:jb K mg "check_look" vY ["thing"]
 x_letter_at:jb K mg "letter_at" wV ["word", "place"]
 x_pairs:jb K mg "pairs" zn ["words", "look"]
 x_check_room:jb K mg "check_room" vZ ["thing"]
 x_is_numbers:jb K mg "is_numbers" kh ["thing", "count", "room"]
 x_check_numbers:jb K mg "check_numbers" kx ["thing", "count", "room"]
 x_told_pairs:jb K mg "told_pairs" wb ["words", "look", "room", "numbers"]
 x_is_odd:jb K mg "is_odd" gi ["walk"]
 x_comes_to:jb K mg "comes_to" yk ["walk", "numbers", "start"]
 x_bars:jb K mg "bars" YS ["walk", "room", "numbers"]
 x_letters_of:jb K mg "letters_of" jK ["seen"]
 x_other_letter:jb K mg "other_letter" kP ["pair", "letter"]
 x_spread:jb K mg "spread" gk ["seen", "root", "ways"]
 x_ways_of:jb K mg "ways_of" xN ["seen"]
 x_circles_of:jb K mg "circles_of" we ["seen", "ways"]
 x_first_odd:jb K mg "first_odd" uc ["circles"]
 x_bar_of:jb K mg "bar_of" ym ["seen", "room", "numbers"]
 x_bar:jb K mg "bar" qco ["words", "look", "room", "numbers"]
 x_half:jb K mg "half" YV ["total", "room"]
 x_root_worths:jb K mg "root_worths" vn ["walk", "room", "numbers"]
 x_roots_of:jb K mg "roots_of" kj ["seen", "room", "numbers"]
 x_worths_from:jb K mg "worths_from" vp ["seen", "room", "numbers", "starts"]
 x_worths:jb K mg "worths" yn ["words", "look", "room", "numbers"]
 x_is_worth:jb K mg "is_worth" yo ["thing", "room"]
 x_is_worths:jb K mg "is_worths" jU ["thing", "room"]
 x_check_worths:jb K mg "check_worths" kR ["thing", "room"]
 x_within:jb K mg "within" gp ["total", "room"]
 x_numbered:jb K mg "numbered" kl ["words", "look", "room", "worths"]
 x_is_telling:jb K mg "is_telling" wg ["words", "look", "room", "numbers", "thing"]
 x_can_be_left_out:jb K mg "can_be_left_out" qG ["seen", "room", "numbers", "gone"]
 x_one_longer:jb K mg "one_longer" km ["choices", "count"]
 x_fewest:jb K mg "fewest" yu ["seen", "room", "numbers"]
 x_left_out:jb K mg "left_out" yv ["words", "look", "room", "numbers"]
 x_least_without:jb K mg "least_without" kB ["seen", "room", "numbers", "gone"]
 x_mended:jb K mg "mended" yx ["words", "look", "room", "numbers"]
 x_Lcell_at:jb K mg "_law_cell_at" yy ["_law_script", "_law_k"]
 x_Lmixed:jb K mg "_law_mixed" gx ["_law_script", "_law_k", "_law_many"]
 x_Ldraw:jb K mg "_law_draw" KL ["_law_script", "_law_town", "_law_many"]
 x_Lpick:jb K mg "_law_pick" KM ["_law_script", "_law_town", "_law_some"]
 x_Lword:jb K mg "_law_word" zu ["_law_script", "_law_town", "_law_letters_here", "_law_most"]
 x_Lwords:jb K mg "_law_words" gy ["_law_script", "_law_town", "_law_most"]
 x_Llook:jb K mg "_law_look" KR ["_law_script", "_law_town"]
 x_Lat:jb K mg "_law_at" Zl ["_law_word_here", "_law_place"]
 x_Lseen:jb K mg "_law_seen" zv ["_law_words_here", "_law_look_here"]
 x_Lletters:jb K mg "_law_letters" yA ["_law_words_here", "_law_look_here"]
 x_Lby:jb K mg "_law_by" Zm ["_law_words_here", "_law_look_here", "_law_room", "_law_book"]
variable {cv:Str->g9} {ca:Str->Addr}
theorem qhr {P:h8} {w:ib} {base:Heap} {f:Addr} {fd:iP} (Z:Zt K mg cv ca) (T:Tx K mg ca) (F:Fun K "law" "law" QB f fd):FnOk P w K mg base (CXk P w) 9 f fd ["_law_script"] (spD K cv [.val] .sh (qcA ca)):=by
 have o_is_letter:=Wj (P:=P) (w:=w) (base:=base) Z T.x_is_letter 
 have o_is_word:=Zh (P:=P) (w:=w) (base:=base) Z T.x_is_word o_is_letter
 have o_is_words:=Uu (P:=P) (w:=w) (base:=base) Z T.x_is_words o_is_word
 have o_check_words:=Jc (P:=P) (w:=w) (base:=base) Z T.x_check_words o_is_words
 have o_is_between:=Km (P:=P) (w:=w) (base:=base) Z T.x_is_between 
 have o_is_look:=Zj (P:=P) (w:=w) (base:=base) Z T.x_is_look o_is_between
 have o_check_look:=Ko (P:=P) (w:=w) (base:=base) Z T.x_check_look o_is_look
 have o_letter_at:=Wl (P:=P) (w:=w) (base:=base) Z T.x_letter_at 
 have o_pairs:=qcn (P:=P) (w:=w) (base:=base) Z T.x_pairs o_check_words o_check_look o_letter_at
 have o_check_room:=Kq (P:=P) (w:=w) (base:=base) Z T.x_check_room o_is_between
 have o_is_numbers:=Ks (P:=P) (w:=w) (base:=base) Z T.x_is_numbers o_is_between
 have o_check_numbers:=zX (P:=P) (w:=w) (base:=base) Z T.x_check_numbers o_is_numbers
 have o_told_pairs:=Kt (P:=P) (w:=w) (base:=base) Z T.x_told_pairs o_check_room o_check_numbers o_pairs
 have o_is_odd:=qad (P:=P) (w:=w) (base:=base) Z T.x_is_odd 
 have o_comes_to:=Ux (P:=P) (w:=w) (base:=base) Z T.x_comes_to 
 have o_bars:=qeP (P:=P) (w:=w) (base:=base) Z T.x_bars o_comes_to o_is_odd
 have o_letters_of:=Kv (P:=P) (w:=w) (base:=base) Z T.x_letters_of 
 have o_other_letter:=Qn (P:=P) (w:=w) (base:=base) Z T.x_other_letter 
 have o_spread:=qaf (P:=P) (w:=w) (base:=base) Z T.x_spread o_other_letter
 have o_ways_of:=Zk (P:=P) (w:=w) (base:=base) Z T.x_ways_of o_letters_of o_spread
 have o_circles_of:=Kz (P:=P) (w:=w) (base:=base) Z T.x_circles_of 
 have o_first_odd:=Wn (P:=P) (w:=w) (base:=base) Z T.x_first_odd o_is_odd
 have o_bar_of:=qag (P:=P) (w:=w) (base:=base) Z T.x_bar_of o_is_odd o_bars o_ways_of o_circles_of o_first_odd
 have o_bar:=qgO (P:=P) (w:=w) (base:=base) Z T.x_bar o_told_pairs o_bar_of
 have o_half:=qeS (P:=P) (w:=w) (base:=base) Z T.x_half 
 have o_root_worths:=Jd (P:=P) (w:=w) (base:=base) Z T.x_root_worths o_comes_to o_half
 have o_roots_of:=Uy (P:=P) (w:=w) (base:=base) Z T.x_roots_of o_ways_of o_circles_of o_first_odd o_root_worths
 have o_worths_from:=Je (P:=P) (w:=w) (base:=base) Z T.x_worths_from o_comes_to o_ways_of
 have o_worths:=qak (P:=P) (w:=w) (base:=base) Z T.x_worths o_pairs o_bar o_roots_of o_worths_from
 have o_is_worth:=UA (P:=P) (w:=w) (base:=base) Z T.x_is_worth o_is_between o_is_letter
 have o_is_worths:=Wp (P:=P) (w:=w) (base:=base) Z T.x_is_worths o_is_worth
 have o_check_worths:=Qt (P:=P) (w:=w) (base:=base) Z T.x_check_worths o_is_worths
 have o_within:=qam (P:=P) (w:=w) (base:=base) Z T.x_within 
 have o_numbered:=UB (P:=P) (w:=w) (base:=base) Z T.x_numbered o_check_room o_check_worths o_pairs o_letters_of o_within
 have o_is_telling:=KF (P:=P) (w:=w) (base:=base) Z T.x_is_telling o_numbered o_told_pairs
 have o_can_be_left_out:=xS (P:=P) (w:=w) (base:=base) Z T.x_can_be_left_out o_bar_of
 have o_one_longer:=KG (P:=P) (w:=w) (base:=base) Z T.x_one_longer 
 have o_fewest:=qan (P:=P) (w:=w) (base:=base) Z T.x_fewest o_can_be_left_out o_one_longer
 have o_left_out:=UC (P:=P) (w:=w) (base:=base) Z T.x_left_out o_told_pairs o_fewest
 have o_can_be_left_outL:=xf (P:=P) (w:=w) (base:=base) Z T.x_can_be_left_out o_bar_of
 have o_least_without:=zY (P:=P) (w:=w) (base:=base) Z T.x_least_without o_can_be_left_outL
 have o_mended:=qao (P:=P) (w:=w) (base:=base) Z T.x_mended o_told_pairs o_fewest o_least_without
 have o_Lcell_at:=UE (P:=P) (w:=w) (base:=base) Z T.x_Lcell_at 
 have o_Lmixed:=qap (P:=P) (w:=w) (base:=base) Z T.x_Lmixed o_Lcell_at
 have o_Ldraw:=qcq (P:=P) (w:=w) (base:=base) Z T.x_Ldraw o_Lmixed
 have o_Lpick:=qcs (P:=P) (w:=w) (base:=base) Z T.x_Lpick o_Ldraw
 have o_Lword:=qcu (P:=P) (w:=w) (base:=base) Z T.x_Lword o_Ldraw o_Lpick
 have o_Lwords:=qas (P:=P) (w:=w) (base:=base) Z T.x_Lwords o_Ldraw o_Lpick o_Lword
 have o_Llook:=qcw (P:=P) (w:=w) (base:=base) Z T.x_Llook o_Ldraw
 have o_Lat:=qgQ (P:=P) (w:=w) (base:=base) Z T.x_Lat 
 have o_Lseen:=qcy (P:=P) (w:=w) (base:=base) Z T.x_Lseen o_Lat
 have o_Lletters:=UM (P:=P) (w:=w) (base:=base) Z T.x_Lletters o_Lseen
 have o_Lby:=qgS (P:=P) (w:=w) (base:=base) Z T.x_Lby o_Lseen
 exact qgT Z F o_worths o_is_telling o_left_out o_mended o_Ldraw o_Lwords o_Llook o_Lletters o_Lby
def qcX (K:Frag):Sp:=λvs H Q _=>∃ (a:Addr) (ns:List Int),vs=[.ref a]/\SqL K H a (ns.map V.int)/\∀ H',Q (.bl hZ) H'
theorem Xz {F:Hp}:∀ ns:List Int,IsL K F (ns.map V.int) (ns.map D.int)
 | []=>.nil
 | n::ns=>.cons (.int n) (Xz ns)
theorem qiS (h:qiQ ca) (vs:List V) (H:Hp) (Q:VK) (E:XK) (q:qcX K vs H Q E):spD K cv [.val] .sh (qcA ca) vs H Q E:=by
 obtain ⟨a,ns,rfl,hs,hq⟩:=q
 refine ⟨H,[scr ns],Same.refl _,⟨.lst hs (Xz ns),trivial⟩,cx,?_⟩
 rw [qho h ns]
 intro v F' H' a1 a2 a3 a4
 have a4:Is K F' v (.bl hZ):=a4
 cases a4
 exact hq H'
abbrev NsX (K:Frag) (x:Str) (f:Addr):Prop:=nsIn K mainGlobals x=g6 (g6 (.ref f))
abbrev CdX (K:Frag) (v:g9) (x:Str):Prop:=codeIn K v x=hZ
abbrev KpX (K:Frag) (f:Addr):Prop:=keepIn K (.ref f)=hZ
abbrev LkX (K:Frag) (x:Str) (st:Stmt) (f:Addr) (oc:g9) (od an:Option Addr) (sl:Array (Option g9)) (kV dc pm cd ct:g9):Prop:=K.lookup f=g6 ⟨oc,od,.func (cF x x (uy st) (wq st) (qe st) .none kV dc pm an cd ct),sl⟩
def Dx (K:Frag) (x:Str) (st:Stmt):Prop:=∃ (f:Addr) (oc:g9) (od an:Option Addr) (sl:Array (Option g9)) (kV dc pm cd ct:g9),NsX K x f/\LkX K x st f oc od an sl kV dc pm cd ct/\CdX K cd x/\KpX K f
theorem je (X:K.In h) (G:h.Ns mainGlobals mg) {st:Stmt} {ps:List Str} (q:Dx K x st) (hb:∀ (kV doc pm:g9) (an:Option Addr) (cdv ct:g9) (us:List g9),us.length=ps.length->bindArgs (cF x x (uy st) (wq st) (qe st) .none kV doc pm an cdv ct) ⟨us,[]⟩=pure (ps.zip us):=by
  intro _ _ _ _ _ _ us hl
  first | refine qjj (P:=λus=>bindArgs _ ⟨us,[]⟩=pure (fN _ us)) hl ?_ | refine qjk (P:=λus=>bindArgs _ ⟨us,[]⟩=pure (fN _ us)) hl ?_ | refine qjl (P:=λus=>bindArgs _ ⟨us,[]⟩=pure (fN _ us)) hl ?_ | refine qjm (P:=λus=>bindArgs _ ⟨us,[]⟩=pure (fN _ us)) hl ?_ | refine qjn (P:=λus=>bindArgs _ ⟨us,[]⟩=pure (fN _ us)) hl ?_ | refine qjM (P:=λus=>bindArgs _ ⟨us,[]⟩=pure (fN _ us)) hl ?_
  all_goals intros; rfl):jb K mg x st ps:=by
 obtain ⟨f,oc,od,an,sl,kV,dc,pm,cd,ct,a,l,c,k⟩:=q
 exact qfu X G a l c k hb
theorem qhs {l:fF} {w:ib} {fa:Addr} (X:K.In h) (G:h.Ns mainGlobals mg) (hfa:mg "law"=g6 (.ref fa)) {CW C0 C1 C2 C3 C4 C5:Addr} {t_LEAST_PLACE t_MOST_LETTERS t_MOST_PLACE t_MOST_ROOM t_MOST_WORDS:Tok}
  (aW:nsIn K mainGlobals "WordError"=g6 (g6 (.ref CW)))
  (a0:nsIn K mainGlobals "NoWords"=g6 (g6 (.ref C0)))
  (a1:nsIn K mainGlobals "NoLook"=g6 (g6 (.ref C1)))
  (a2:nsIn K mainGlobals "NoNumbers"=g6 (g6 (.ref C2)))
  (a3:nsIn K mainGlobals "NoRoom"=g6 (g6 (.ref C3)))
  (a4:nsIn K mainGlobals "NoWorths"=g6 (g6 (.ref C4)))
  (a5:nsIn K mainGlobals "Never"=g6 (g6 (.ref C5)))
  (z_all:nsIn K mainGlobals "all"=g6 g7)
  (z_bool:nsIn K mainGlobals "bool"=g6 g7)
  (z_dict:nsIn K mainGlobals "dict"=g6 g7)
  (z_enumerate:nsIn K mainGlobals "enumerate"=g6 g7)
  (z_int:nsIn K mainGlobals "int"=g6 g7)
  (z_isinstance:nsIn K mainGlobals "isinstance"=g6 g7)
  (z_len:nsIn K mainGlobals "len"=g6 g7)
  (z_list:nsIn K mainGlobals "list"=g6 g7)
  (z_max:nsIn K mainGlobals "max"=g6 g7)
  (z_min:nsIn K mainGlobals "min"=g6 g7)
  (z_range:nsIn K mainGlobals "range"=g6 g7)
  (z_reversed:nsIn K mainGlobals "reversed"=g6 g7)
  (z_set:nsIn K mainGlobals "set"=g6 g7)
  (z_sorted:nsIn K mainGlobals "sorted"=g6 g7)
  (z_str:nsIn K mainGlobals "str"=g6 g7)
  (z_tuple:nsIn K mainGlobals "tuple"=g6 g7)
  (c_LEAST_PLACE:nsIn K mainGlobals "LEAST_PLACE"=g6 (g6 (.int (-3) t_LEAST_PLACE)))
  (c_MOST_LETTERS:nsIn K mainGlobals "MOST_LETTERS"=g6 (g6 (.int 6 t_MOST_LETTERS)))
  (c_MOST_PLACE:nsIn K mainGlobals "MOST_PLACE"=g6 (g6 (.int 2 t_MOST_PLACE)))
  (c_MOST_ROOM:nsIn K mainGlobals "MOST_ROOM"=g6 (g6 (.int 99 t_MOST_ROOM)))
  (c_MOST_WORDS:nsIn K mainGlobals "MOST_WORDS"=g6 (g6 (.int 6 t_MOST_WORDS)))
  (ex:qcV K [C0,C1,C2,C3,C4,C5] CW=hZ)
  (sx4:bS K (.ref C4) (.ref C4)=g6 hZ)
  (q0:Dx K "is_letter" wS)
  (q1:Dx K "is_word" wH)
  (q2:Dx K "is_words" vw)
  (q3:Dx K "check_words" vm)
  (q4:Dx K "is_between" vW)
  (q5:Dx K "is_look" wI)
  (q6:Dx K "check_look" vY)
  (q7:Dx K "letter_at" wV)
  (q8:Dx K "pairs" zn)
  (q9:Dx K "check_room" vZ)
  (q10:Dx K "is_numbers" kh)
  (q11:Dx K "check_numbers" kx)
  (q12:Dx K "told_pairs" wb)
  (q13:Dx K "is_odd" gi)
  (q14:Dx K "comes_to" yk)
  (q15:Dx K "bars" YS)
  (q16:Dx K "letters_of" jK)
  (q17:Dx K "other_letter" kP)
  (q18:Dx K "spread" gk)
  (q19:Dx K "ways_of" xN)
  (q20:Dx K "circles_of" we)
  (q21:Dx K "first_odd" uc)
  (q22:Dx K "bar_of" ym)
  (q23:Dx K "bar" qco)
  (q24:Dx K "half" YV)
  (q25:Dx K "root_worths" vn)
  (q26:Dx K "roots_of" kj)
  (q27:Dx K "worths_from" vp)
  (q28:Dx K "worths" yn)
  (q29:Dx K "is_worth" yo)
  (q30:Dx K "is_worths" jU)
  (q31:Dx K "check_worths" kR)
  (q32:Dx K "within" gp)
  (q33:Dx K "numbered" kl)
  (q34:Dx K "is_telling" wg)
  (q35:Dx K "can_be_left_out" qG)
  (q36:Dx K "one_longer" km)
  (q37:Dx K "fewest" yu)
  (q38:Dx K "left_out" yv)
  (q39:Dx K "least_without" kB)
  (q40:Dx K "mended" yx)
  (q41:Dx K "_law_cell_at" yy)
  (q42:Dx K "_law_mixed" gx)
  (q43:Dx K "_law_draw" KL)
  (q44:Dx K "_law_pick" KM)
  (q45:Dx K "_law_word" zu)
  (q46:Dx K "_law_words" gy)
  (q47:Dx K "_law_look" KR)
  (q48:Dx K "_law_at" Zl)
  (q49:Dx K "_law_seen" zv)
  (q50:Dx K "_law_letters" yA)
  (q51:Dx K "_law_by" Zm)
  (q52:Dx K "law" QB) :
  ∃ fd:iP,(∀ (s:hV) (v:g9),lc s fd ⟨[v],[]⟩ [("_law_script",v)])/\∀ base:Heap,K.In base->base.Ns mainGlobals mg->FnOk l.prog w K mg base (CXk l.prog w) 9 fa fd ["_law_script"] (qcX K):=by
 obtain ⟨f52,_,_,_,_,_,_,_,_,_,b_52,l_52,d_52,k_52⟩:=q52
 have e:=hfa.symm.trans (k7 X G b_52)
 cases e
 obtain ⟨Z,cok⟩:=qiR X G aW a0 a1 a2 a3 a4 a5 z_all z_bool z_dict z_enumerate z_int z_isinstance z_len z_list z_max z_min z_range z_reversed z_set z_sorted z_str z_tuple c_LEAST_PLACE c_MOST_LETTERS c_MOST_PLACE c_MOST_ROOM c_MOST_WORDS ex sx4
 have T:Tx K mg (caT [("WordError",CW),("NoWords",C0),("NoLook",C1),("NoNumbers",C2),("NoRoom",C3),("NoWorths",C4),("Never",C5)]):=⟨je X G q0,je X G q1,je X G q2,je X G q3,je X G q4,je X G q5,je X G q6,je X G q7,je X G q8,je X G q9,je X G q10,je X G q11,je X G q12,je X G q13,je X G q14,je X G q15,je X G q16,je X G q17,je X G q18,je X G q19,je X G q20,je X G q21,je X G q22,je X G q23,je X G q24,je X G q25,je X G q26,je X G q27,je X G q28,je X G q29,je X G q30,je X G q31,je X G q32,je X G q33,je X G q34,je X G q35,je X G q36,je X G q37,je X G q38,je X G q39,je X G q40,je X G q41,je X G q42,je X G q43,je X G q44,je X G q45,je X G q46,je X G q47,je X G q48,je X G q49,je X G q50,je X G q51⟩
 have F:=ZN (st:=QB) l_52 d_52 k_52
 exact ⟨_,λs v=>.of_eq rfl,λbase _ _=>(qhr (P:=l.prog) (w:=w) (base:=base) Z T F).imp λvs H Q E q=>qiS cok vs H Q E q⟩
theorem qjN {l:fF} {q:h8} {loose:List Str} {XP:(Str->Option g9)->Heap->Prop} {YP:ib->Heap->Prop} {d:DefRec} {K:Params->Frag} (hn:l.most=g6 63) (hdf:d.params.defaults=[])
  (hY:∀ (w:ib) (h:Heap),YP w h->(K w.params).In h)
  (F:∀ (w:ib) (mg:Str->Option g9) (fa:Addr) (h:Heap),(K w.params).In h->h.Ns mainGlobals mg->mg d.name=g6 (.ref fa) ->
   ∃ fd:iP,(∀ (s:hV) (u:g9),lc s fd ⟨[u],[]⟩ [("_law_script",u)])/\∀ base:Heap,(K w.params).In base->base.Ns mainGlobals mg->FnOk l.prog w (K w.params) mg base (CXk l.prog w) 9 fa fd ["_law_script"] (qcX (K w.params))) :
  PySem.W.WalkO q loose XP YP l.row.toRowW d [] (λf vs=>f9 f vs):=
 L2.qd2 (n:=63) (k:=9) (x := "_law_script") (CX:=λw=>CXk l.prog w) (sp:=λw=>qcX (K w.params)) hn 'c' hdf ⟨rfl,by decide,by decide⟩ hY F (λ_ _ a ns hl _ hS=>⟨a,ns,rfl,hS,λ_=>rfl⟩) λw H s e s' z=>by
  obtain ⟨ex,T,C,H',_,_,_,_,_,_,_,_,_,_,q⟩:=z
  exact q.elim
end Kx
open PySem PySem.W PyProof.Rows
set_option maxRecDepth 100000 in
set_option maxHeartbeats 0 in
theorem PySem.Challenge.cw_lookwords_k16_whole_near_ones_holds : PySem.Challenge.rw_lookwords_k16_whole_near_ones.Holds := by
  refine Kx.hd ?_
  k_fill
  refine Kx.qjN (l := PySem.Challenge.rw_lookwords_k16_whole_near_ones) rfl rfl (λw h Y => PySem.W.kIn_of Y) ?F
  case F =>
    intro w mg fa h KX G hmg
    refine' Kx.qhs KX G hmg ?_ ?_ ?_ ?_ ?_ ?_ ?_ ?_ ?_ ?_ ?_ ?_ ?_ ?_ ?_ ?_ ?_ ?_ ?_ ?_ ?_ ?_ ?_ ?_ ?_ ?_ ?_ ?_ ?_ ?_ ?_ ?_ ?_ ?_ ?_ ?_ ?_ ?_ ?_ ?_ ?_ ?_ ?_ ?_ ?_ ?_ ?_ ?_ ?_ ?_ ?_ ?_ ?_ ?_ ?_ ?_ ?_ ?_ ?_ ?_ ?_ ?_ ?_ ?_ ?_ ?_ ?_ ?_ ?_ ?_ ?_ ?_ ?_ ?_ ?_ ?_ ?_ ?_ ?_ ?_ ?_ ?_ ?_
    all_goals try first | k_is | exact ⟨_, _, _, _, _, _, _, _, _, _, by unfold Kx.NsX; k_is, by unfold Kx.LkX; k_is, by unfold Kx.CdX; k_is, by unfold Kx.KpX; k_is⟩ | kernel_rfl
