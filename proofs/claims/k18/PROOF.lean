import PyProof.Rows.All
import KE.KTryMore
import KE.KDictOf
import PySem.Challenge.RW_lookwords_k18_whole_best_looks
open Option renaming some→ff,none→fg
open PySem renaming wpAny_bind→fh,Value→fj,Shared→fq,wpAny_pure→fy,Program→fz,World→fA,SetTable→fB,wpAny_setState_of→fC,Around→fD,sizeLine_eq→fE,IsTupleKey→fF,wpAny_newObj_type→fG,wpAny_askSetting→fI,wpAny_truthy_bool→fJ,codeAny_builtin→fK,wpAny_call_entry→fL,wpAny_holding→fM,Keyword→fN,wpAny_isInstance→fO,wpAny_passesOwn→fQ,OsState→fR,wpAny_setEntries_of→fS,NameKind→fU,wpAny_callSpecial?_slot→fV,FuncData→fW,wpAny_setField→fX,codeAny_mono→fY,wpAny_Call_Name_kw→fZ,tupleKind_room_in1→f6,wpAny_pyIter_list→f7,wpAny_storeSet_of→f9,fits_of_scanBound→g0,isSubtype_type→g5,Scope→g6,wpAny_mono→g7,wpAny_forIn_list→g8,plainId_quiet→g9,wpAny_of_eq→hJ,wpAny_execs_nil→hV,wpAny_typeOf→h8,Params→h9,wpAny_fieldsOf→ia,wpAny_seqItems→ib,wpAny_attempt→ig,GenState→ii,concat_meets→im,wpAny_rule→ip,DictEntry→iq,call_meets→ir,BindsTo→iu
open Bool renaming false→fk,true→fm
open PySem.W renaming mg_none_of→fH,boot_heap→fP,boot_drawn→ij
open PyProof.Rows renaming AllBare→hZ,StrsAre→ic
open PySem.Heap renaming get?_push_of_some→aa,get?_push_size→ai,lt_size→au,SameBut→bq,get?_update_self→bx,size_push→bP,get?_update_other→cU
open List renaming mem_cons_of_mem→ac,mem_cons→ae,length_cons→af,length_map→ah,mem_cons_self→aj,getElem?_set_ne→ak,size_toArray→ao,length_append→ap,getElem?_eq_some_iff→aq,getElem?_eq_getElem→aw,map_cons→ax,mem_map→aA,range→aB,getElem?_set_self→aG,mem_singleton→aH,getElem?_map→aJ,mem_range→aK,length_nil→aM,all_eq_true→aO,mem_append_right→aP,length_take→aR,nodup_cons→aU,map_map→bb,getElem?_cons_succ→be,getElem?_cons_zero→bf,length_range→bg,mem_of_getElem?→bh,getElem?_of_mem→bi,pairwise_cons→bj,mem_append→bn,append_nil→bt,map_nil→bv,filter_eq_self→bE,getElem?_eq_none→bG,not_mem_nil→bH,mem_filter→bL,getElem?_append_right→bQ,getD_eq_getElem?_getD→bS,take_append_drop→bT,pairwise_iff_getElem→bU,getElem?_zip_eq_some→bV,replicate_zero→bZ,replicate→b4,filter_cons_of_pos→b6,find?_cons→ce,append_assoc→cg,take_add_one→ci,mem_append_left→cj,mem_iff_getElem→cq,lookup_cons→cw,getElem_mem→cx,getElem?_append_left→cz,filterMap_cons→cA,any_cons→cF,map_append→cI,mem_filterMap→cJ,set_cons_zero→cL,set_cons_succ→cM,getElem?_replicate→cO,take_of_length_le→cX,foldl_append→cY,length_replicate→c6,getElem?_toArray→c7,length_filter_le→c8,length_drop→db,length_set→dk,nil_append→dq,toList_toArray→dv,nodup_nil→dE,getElem?_drop→dH,nodup_append→dL,ext_getElem?→dN,flatMap_cons→dO,all_cons→dQ,getElem_inj→dU,nodup_range→dY,mem_flatMap→dZ,of_mem_zip→d6,foldl_cons→d8,filter_map→ei,length→eI,zip→eU
open Nat renaming le_refl→am,lt_of_lt_of_le→aC,ne_of_lt→aF,lt_irrefl→aX,zero_le→aZ,le_trans→bu,lt_succ_of_lt→cf,le_add_right→cy,le_of_lt→cR,le_of_eq→cS,lt_succ_self→da,mod_lt→de,not_lt_zero→dn,lt_trans→dw,sub_self→dA,ne_of_gt→d4,succ_pos→d5,le_succ→e6
open Array renaming length_toList→ay,getElem?_toList→aD,getElem?_eq_some_iff→aQ,getElem?_eq_getElem→bw,getElem?_eq_none→b9,replicate→eh,mk→eu,getD→eZ
open PySem.SetTable renaming below→aE,grown→bK,probe→eJ,laid→eX
open Option renaming some→aI,map_eq_some_iff→aL,bind_eq_some_iff→bz,isSome_map→dJ,getD_some→dW,map_some→et
open PySem.F renaming called_set→aN,args_tuple_add_2→cC,entry_tuple_add→cP,plainAttrs_list→cQ,slot_tuple_add→cT
open PySem.Builtin.Frozenset renaming updateFrom→aS,isAnySet→bR
open Bool renaming and_eq_true→aT,false_eq_true→aY,false_ne_true→b8,not_true→dg
open PySem.Heap.SameBut renaming update→aV
open PySem.Str renaming ofString→ba,length→eY
open PySem.NameKind renaming free→bo
open Ne renaming symm→bp
open PySem.PassesOwn renaming leaving→br
open PySem.Around renaming under_plainId→bA
open PyProof.Rows.F renaming plain_set_update_loop→bB,entry_set_update_loop→b5
open PySem.W renaming emptyDict→bC,hideAll→bF,kitOne→bI,fnOf→bO,instObj→bW,kia_one→bX,excIn→cG,exmOne→cW,hideAll_none→dh,hideAll_get→dt,methodObj→dI,OpenLaw→d7,lookIn→eG
open PySem.Value renaming isStrOf_shape→bD,bool→b7,str→cr,ref→cu,isStrOf→cB,none→c9,int→dB,type→e7
open List.Perm renaming refl→bJ,swap→cZ
open ForInStep renaming yield→bM
open PyProof.Rows renaming callWith_type1→bN
open PySem renaming mem_of_lookup→bY,call→e8
open Or renaming inl→cc,inr→dF
open True renaming intro→ck
open False renaming elim→cm
open PySem.Builtin.List renaming listTooLong→cE
open Sum renaming inr→cH,inl→df
open PySem.Obj renaming putSet→cK,mapSeq→dD
open List.Pairwise renaming nil→cV
open PySem.Calls renaming evalArgs_plain→dj
open Int renaming emod_lt_of_pos→dG,emod_nonneg→d9
open PySem.Paired renaming length→dP
open PySem.Shared renaming TypeIs→dR
open Prod renaming ext→dS
open PySem.Txt renaming join→dX
open PySem.IsRange renaming new→e5
open PySem.Walks renaming list→e9
noncomputable section
open PySem.W (Frag nsIn keepIn codeIn mg_of mg_none_of)
set_option Elab.async false
set_option linter.all false
set_option maxRecDepth 100000
namespace Kx
noncomputable section
open PySem PySem.W PySem.Calls PyProof.Rows
noncomputable def zP:Pos:=⟨0,0,0,0⟩
noncomputable def anV:Option fj:=ff (.ref 6)
noncomputable def hA (P:h9):List Obj:=(fP P).objs.toList++[⟨.type "tuple",fg,.seq #[] 0,#[]⟩,⟨.none,fg,.fields #[],#[]⟩,
 ⟨.type "code",fg,.fields #[.str "<module>" 182,.str "<module>" 183,.str "/claim/cut.py" 184,.int 1 0,.int 0 0,.int 0 0,.int 0 0,.int 0 0,.ref 11,.bool fk,.int 181 0,.ref 12,.none,.none,.none,.none,.int 185 0,.int 1 0,.str "/claim/cut.py" 186],#[]⟩,
 ⟨.type "frame",fg,.plain,#[ff (.ref 13),ff (.ref 3),ff (.ref 3),fg,ff (.str "__main__" 164),fg,ff (.ref 0)]⟩]
noncomputable def enP (p:fz):Env:={ scope:=p.main.scope,locals:=mainNs,globals:=mainNs,cells:=[],code:=.ref 13,frame:=ff 14 }
noncomputable def cdP (p:fz):Code:=.body (behindTheImports p) (enP p)
noncomputable def trA:List Obj->Nat->BT->BT
 | [],_,t=>t
 | o::l,i,t=>trA l (i+1) (t.ins i o)
noncomputable def SA (w:fA) (os:fR):SharedT:=⟨trA (hA w.params) 0 .nil,15,(fP w.params).life,eu [],ij,187,os⟩
noncomputable def kH (P:h9) (s:Str) (t:Nat) (v:fj):iq:=⟨PyData.keyHash P s,.str s t,v⟩
noncomputable def eM:fj:=.str "lookwords.errors" 187
noncomputable def eT (a:List fj):Obj:=⟨.type "tuple",fg,.seq ⟨a⟩ 0,#[]⟩
noncomputable def eF (c:fj) (a:List fj):Obj:=⟨c,fg,.fields ⟨a⟩,#[]⟩
noncomputable def eB:fj:=.type "builtin_function_or_method"
noncomputable def eD (a:List iq) (n:Nat):Obj:=⟨.type "dict",fg,.dict ⟨a⟩ n,#[]⟩
noncomputable def eA (P:h9) (s:Str) (b:fj) (n t l:Nat):List Obj:=[eT [b],eF eB [.builtin "type.__prepare__",.type "type"],
 eD [kH P "__module__" (t+7) eM,kH P "__qualname__" (t+9) (.str s (t+8)),kH P "__firstlineno__" (t+11) (.int l (t+10)),kH P "__static_attributes__" (t+12) (.ref (n+7))] 4,
 eT [],eF .none [],eF (.type "code") [.str s (t+2),.str s (t+3),.str "/claim/cut.py" (t+4),.int l 0,.int 0 0,.int 0 0,.int 0 0,.int 0 0,.ref (n+3),.bool fk,.int 181 0,.ref (n+4),.none,.none,.none,.none,.int ((t+5:Nat):Int) 0,.int l 0,.str "/claim/cut.py" (t+6)],
 ⟨.type "frame",fg,.plain,#[ff (.ref (n+5)),ff (.ref 3),ff (.ref (n+2)),fg,ff eM,fg,ff (.ref 0)]⟩,eT []]
noncomputable def eC (s:Str) (b:fj) (n t:Nat) (m sub:List fj):Obj:=⟨.type "type",fg,.cls { name:=s,bases:=[b],mro:=.ref (n+9)::m,ns:=n+8,qualname:=s,subclasses:=sub },#[ff (.ref n),fg,ff (.str s t),ff (.str s (t+8)),ff (.builtin "ValueError.__new__"),ff (.bool fm)]⟩
noncomputable def eS (a:Nat):List Obj:=[eF (.type "super") [.ref a,.ref a,.ref a],eF eB [.builtin "object.__init_subclass__",.ref a]]
noncomputable def eK (P:h9) (t l:Nat) (n:Nat):List iq:=[kH P "__module__" (t+7) eM,kH P "__firstlineno__" (t+11) (.int l (t+10)),kH P "__static_attributes__" (t+12) (.ref (n+7))]
noncomputable def eV:List fj:=[.type "ValueError",.type "Exception",.type "BaseException",.type "object"]
noncomputable def eL (P:h9):List Str->Nat->Nat->Nat->List Obj
 | [],_,_,_=>[]
 | s::r,n,t,l=>eA P s (.ref 24) n t l++eD (eK P t l n++[kH P "__doc__" (t+13) .none]) 2::eC s (.ref 24) n t (.ref 24::eV) []::eS (n+9)++eL P r (n+12) (t+16) (l+2)
noncomputable def eE (P:h9):List Str->Nat->Nat->List iq
 | [],_,_=>[]
 | s::r,n,t=>kH P s (t+15) (.ref (n+9))::eE P r (n+12) (t+16)
noncomputable def eR:Nat->Nat->List fj
 | 0,_=>[]
 | k+1,n=>.ref n::eR k (n+12)
noncomputable def eQ:Nat->Nat->Nat->List fj
 | 0,_,_=>[]
 | k+1,n,l=>.int l 0::.int 0 0::.ref n::eQ k (n+12) (l+2)
noncomputable def eO (P:h9) (L:List Str):Obj:=match (boot_o_3 P).data with
 | .dict a _=>eD (kH P "__name__" 165 eM::a.toList.drop 1++kH P "WordError" 206 (.ref 24)::eE P L 28 207) (L.length+10)
 | _=>eT []
noncomputable def hC (P:h9) (L:List Str):List Obj:=(hA P).take 3++eO P L::((hA P).drop 4).take 8++eF .none (.int 2 0::.int 0 0::.ref 20::eQ L.length 33 4)::(hA P).drop 13 ++
 eA P "WordError" (.type "ValueError") 15 189 2++eD (eK P 189 2 15++[kH P "__weakref__" 203 (.ref 25),kH P "__doc__" 204 .none]) 3::eC "WordError" (.type "ValueError") 15 189 eV (eR L.length 37) ::
 eF (.type "getset_descriptor") [.str "__weakref__" 202,.ref 24,.builtin "ExceptionGroup.__weakref__",.none]::eS 24++eL P L 28 207 4
noncomputable def SC (L:List Str) (w:fA) (os:fR):SharedT:=⟨trA (hC w.params L) 0 .nil,12 * L.length+28,(fP w.params).life,eu [],ij,16 * L.length+207,os⟩
noncomputable def zC (L:List Str):Pos:=⟨2 * L.length+2,0,2 * L.length+3,8⟩
noncomputable def VL (L:List Str) (p:fz) (w:fA) (M:Nat) (os:fR):Option (Flow×Code×fq):=
 (segRunT treeTable p w 11 anV 1 M (SC L w os) (piecesOf ((behindTheImports p).drop (L.length+2)) (enP p) (cdP p) (zC L) [topFrame zP])).bind λr=>
  (topRun treeTable p w 11 anV 5 r.2.1.abs (restOf [] (enP p) (cdP p) r.2.2.2 [topFrame zP])).map λs=>(r.1,r.2.2.1,s)
abbrev ZO (p:fz) (w:fA) (x:Flow×Code×fq):=
 (x.1,x.2.1,(staticsOk (importedModules p.main.body) (fP w.params) x.2.2.heap&&namesBound p x.2.2.heap&&gensDone x.2.2&&laidKept (fP w.params) x.2.2.heap))
abbrev gq (p q:fz) (loose:List Str) (Xt:fq->Bool) (x:Flow×Code×fq):=openSeen q loose (importedModules p.main.body) Xt fm x.2.2
theorem left_T {L:List Str} {p q:fz} {loose:List Str} {Xt:fq->Bool} {α:Type} {Yf:fq->α} {Ya:fA->α} {N M:Nat}
  (e:opening p=plainProg p.main.scope.names) (hN:Nat.ble 600 N=fm) (f:∀ s,fenceModules? p s=ff s)
  (size:∀ w:fA,((fP w.params).isNs mainGlobals&&(eu []:Array ii).size == 0,(fP w.params).objs.size,(fP w.params).nsMap mainGlobals "__annotations__")=(fm,11,anV))
  (pre:∀ (w:fA) (os:fR),topGo treeTable p w 11 anV 12 ⟨fP w.params,eu [],ij,boot_toks,os⟩ (topStub p)=ff ((SA w os).abs,⟨denote treeTable (cdP p),cdP p,zP,[topFrame zP]⟩))
  (blk:∀ (w:fA) (os:fR),segRun treeTable p w 11 anV 1 1 (SA w os).abs (blockOf (behindTheImports p) (enP p) (cdP p) zP [topFrame zP])=ff (.next,(SA w os).abs,cdP p,zP))
  (le:Nat.ble (12+(1+(3500+(M+5)))) N=fm)
  (m6:∀ (w:fA) (os:fR),segRunT treeTable p w 11 anV 1 3500 (SA w os) (piecesOf ((behindTheImports p).take (L.length+2)) (enP p) (cdP p) zP [topFrame zP])=ff (.next,SC L w os,cdP p,zC L))
  (m0:∀ (w:fA) (os:fR),(VL L p w M os).map (ZO p w)=ff (.next,cdP p,fm))
  (m1:∀ (w:fA) (os:fR),(VL L p w M os).map (λx=>(gq p q loose Xt x).1)=ff (openGood q loose).1)
  (m3:∀ (w:fA) (os:fR),(VL L p w M os).map (λx=>(gq p q loose Xt x).2.1)=ff (openGood q loose).2.1)
  (m4:∀ (w:fA) (os:fR),(VL L p w M os).map (λx=>(gq p q loose Xt x).2.2.1)=ff (openGood q loose).2.2.1)
  (m5:∀ (w:fA) (os:fR),(VL L p w M os).map (λx=>(gq p q loose Xt x).2.2.2)=ff (openGood q loose).2.2.2)
  (m2:∀ (w:fA) (os:fR),(VL L p w M os).map (λx=>Yf x.2.2)=ff (Ya w)):LeftO p q loose Xt Yf Ya N:=λw=>by
 obtain ⟨⟨h,gs,d,k,os⟩,a,a'⟩:=aL.mp (boot_open e hN f w)
 obtain ⟨rfl,rfl,rfl,rfl⟩:h=fP w.params/\gs=eu []/\d=ij/\k=boot_toks:=by simpa using a'
 obtain ⟨x,hx,hl⟩:=aL.mp (m0 w os)
 have l2:openSeen q loose (importedModules p.main.body) Xt fm x.2.2=openGood q loose:=by
  have a1:=m1 w os
  have a3:=m3 w os
  have a4:=m4 w os
  have a5:=m5 w os
  rw [hx] at a1 a3 a4 a5
  exact dS (aI.inj a1) (dS (aI.inj a3) (dS (aI.inj a4) (aI.inj a5)))
 obtain ⟨y,hy,hY⟩:=aL.mp (m2 w os)
 obtain rfl:y=x:=aI.inj (hy.symm.trans hx)
 obtain ⟨r,hr,hz⟩:=bz.mp hx
 obtain ⟨s,hs,rfl⟩:=aL.mp hz
 obtain ⟨fl,st,co,po⟩:=r
 unfold ZO at hl
 simp only [Prod.mk.injEq] at hl
 obtain ⟨rfl,rfl,l1⟩:=hl
 have t1:=piece_app (rest:=[]) (segRun_of hr) hs
 rw [bt] at t1
 have t1:=piece_app (segRun_of (m6 w os)) t1
 rw [bT] at t1
 have t2:=piece_block (blk w os) t1
 have t3:=topRun_mono (N - (12+(1+(3500+(M+5))))) _ _ _ _ (go_top (pre w os) t2)
 rw [show 12+(1+(3500+(M+5)))+(N - (12+(1+(3500+(M+5)))))=N by have:=Nat.le_of_ble_eq_true le; omega] at t3
 obtain ⟨z1,z2,z3⟩:_/\_/\_:=by simpa only [Prod.mk.injEq] using size w
 have t:topFrom treeTable p w N ⟨fP w.params,eu [],ij,boot_toks,os⟩=ff s:=by
  unfold topFrom
  dsimp only
  rw [z1,z2,z3,t3]
  show (match staticsOk (importedModules p.main.body) (fP w.params) s.heap&&namesBound p s.heap&&gensDone s&&laidKept (fP w.params) s.heap with | true=>_ | false=>_)=_
  rw [l1]
 unfold openEnds
 rw [a]
 show (topFrom treeTable p w N _).map _=_
 rw [t]
 exact congrArg ff (dS l2 hY)
end
end Kx
noncomputable section
open PySem PySem.W PyProof.Rows
noncomputable def Kx.vq:fz:=view PySem.Challenge.pw_lookwords_k18_whole_best_looks [1,2,3,5,6,7,8,9,10,11,12,13,14,15,17,18,19,20,22,23,24,25,26,27,28,29,30,31,33,34,36,37,38,39,40,41,42,43,44,45,46]
noncomputable def Kx.eN:List Str:=["NoWords", "NoLook"]
noncomputable def Kx.xt (s:fq):Bool:=xlAt Kx.vq [] s&&recOk (RowW.records (OpenRow.toRowW (OpenLaw.row PySem.Challenge.rw_lookwords_k18_whole_best_looks))) s
theorem Kx.m6:∀ (w:fA) (os:fR),segRunT treeTable PySem.Challenge.pw_lookwords_k18_whole_best_looks w 11 Kx.anV 1 3500 (Kx.SA w os) (piecesOf ((behindTheImports PySem.Challenge.pw_lookwords_k18_whole_best_looks).take (Kx.eN.length+2)) (Kx.enP PySem.Challenge.pw_lookwords_k18_whole_best_looks) (Kx.cdP PySem.Challenge.pw_lookwords_k18_whole_best_looks) Kx.zP [topFrame Kx.zP])=ff (.next,Kx.SC Kx.eN w os,Kx.cdP PySem.Challenge.pw_lookwords_k18_whole_best_looks,Kx.zC Kx.eN):=by intro w os; kernel_rfl
theorem Kx.m0:∀ (w:fA) (os:fR),(Kx.VL Kx.eN PySem.Challenge.pw_lookwords_k18_whole_best_looks w 15000 os).map (Kx.ZO PySem.Challenge.pw_lookwords_k18_whole_best_looks w)=ff (.next,Kx.cdP PySem.Challenge.pw_lookwords_k18_whole_best_looks,fm):=by intro w os; kernel_rfl
theorem Kx.m1:∀ (w:fA) (os:fR),(Kx.VL Kx.eN PySem.Challenge.pw_lookwords_k18_whole_best_looks w 15000 os).map (λx=>(Kx.gq PySem.Challenge.pw_lookwords_k18_whole_best_looks Kx.vq [] Kx.xt x).1)=ff (openGood Kx.vq []).1:=by intro w os; kernel_rfl
theorem Kx.m3:∀ (w:fA) (os:fR),(Kx.VL Kx.eN PySem.Challenge.pw_lookwords_k18_whole_best_looks w 15000 os).map (λx=>(Kx.gq PySem.Challenge.pw_lookwords_k18_whole_best_looks Kx.vq [] Kx.xt x).2.1)=ff (openGood Kx.vq []).2.1:=by intro w os; kernel_rfl
theorem Kx.m4:∀ (w:fA) (os:fR),(Kx.VL Kx.eN PySem.Challenge.pw_lookwords_k18_whole_best_looks w 15000 os).map (λx=>(Kx.gq PySem.Challenge.pw_lookwords_k18_whole_best_looks Kx.vq [] Kx.xt x).2.2.1)=ff (openGood Kx.vq []).2.2.1:=by intro w os; kernel_rfl
theorem Kx.m5:∀ (w:fA) (os:fR),(Kx.VL Kx.eN PySem.Challenge.pw_lookwords_k18_whole_best_looks w 15000 os).map (λx=>(Kx.gq PySem.Challenge.pw_lookwords_k18_whole_best_looks Kx.vq [] Kx.xt x).2.2.2)=ff (openGood Kx.vq []).2.2.2:=by intro w os; kernel_rfl
local macro_rules | `(tactic| o_head $H) => `(tactic| (refine holds_open (q := Kx.vq) (loose := []) (Xt := Kx.xt) (XP := XL Kx.vq []) (Yf := Hook.obs $H) (Ya := Hook.val $H) (YP := Hook.says $H) (N := 20000) ?hl (Hook.of $H) (Hook.keeps $H) (fun s e => xl_of s (Bool.and_eq_true_iff.mp e).1) XL.keeps (by rfl) (by rfl) (by rfl) (fun s e => recFacts_of (Bool.and_eq_true_iff.mp e).2) (by rfl) (by first | assumption | decide +kernel) (by decide +kernel) ⟨rfl, rfl, rfl, rfl, rfl, by decide +kernel⟩ ?hw ?hc; (case hl => refine Kx.left_T (p := PySem.Challenge.pw_lookwords_k18_whole_best_looks) (M := 15000) ?e rfl ?f ?s ?p ?b rfl Kx.m6 Kx.m0 Kx.m1 Kx.m3 Kx.m4 Kx.m5 ?m; (case e => kernel_rfl); (case f => intro s; kernel_rfl); (case s => intro w; kernel_rfl); (case p => intro w os; kernel_rfl); (case b => intro w os; kernel_rfl); (case m => intro w os; kernel_rfl))))
set_option maxHeartbeats 0 in
open_top Kx.hd for PySem.Challenge.rw_lookwords_k18_whole_best_looks
end
namespace L2
open PySem PySem.Spec PyProof.Rows
abbrev Key:=Sum Int Str
noncomputable def QO:Key->fj->Bool
 | .inl k,v=>Value.isInt k v
 | .inr x,v=>cB x v
noncomputable def qef (w:fA):Key->Int
 | .inl k=>hashInt k
 | .inr x=>hashStr w x
theorem qU:∀ {k:Key} {v:fj},QO k v=fm->(∃ i t,k=df i/\v=dB i t)\/(∃ x t,k=cH x/\v=cr x t)
 | .inl i,v,h=>by obtain ⟨t,e⟩:=Value.isInt_shape (k:=i) (v:=v) h;exact .inl ⟨i,t,rfl,e⟩
 | .inr x,v,h=>by obtain ⟨t,e⟩:=bD (x:=x) (v:=v) h;exact .inr ⟨x,t,rfl,e⟩
theorem gt (i:Int) (t:Tok):QO (.inl i) (.int i t)=true:=by simp [QO,Value.isInt]
theorem gu (x:Str) (t:Tok):QO (.inr x) (.str x t)=true:=by simp [QO,cB]
theorem qaQ (a b:Int):decide ((df a:Key)=df b)=(a == b):=by
 by_cases e:a=b;·subst e; simp
 ·have h:¬(df a:Key)=df b:=λq=>e (df.inj q);rw [decide_eq_false h];exact (beq_eq_false_iff_ne.mpr e).symm
theorem qaR (a b:Str):decide ((cH a:Key)=cH b)=decide (a=b):=by
 by_cases e:a=b;·subst e; simp
 ·have h:¬(cH a:Key)=cH b:=λq=>e (cH.inj q);rw [decide_eq_false h,decide_eq_false e]
theorem qaS (a:Int) (b:Str):decide ((df a:Key)=cH b)=false:=decide_eq_false (λq=>nomatch q)
theorem qaT (a:Str) (b:Int):decide ((cH a:Key)=df b)=false:=decide_eq_false (λq=>nomatch q)
noncomputable def jv (prog:fz) (w:fA):PySem.KeyKind prog w Key where
 is:=QO
 hash:=qef w
 inj:=λv a b g d=>by
  rcases qU g with ⟨i,t,rfl,rfl⟩ | ⟨x,t,rfl,rfl⟩
  ·rcases qU d with ⟨j,u,rfl,e⟩ | ⟨y,u,rfl,e⟩
   ·injection e with e1 _; rw [e1]
   ·exact nomatch e
  ·rcases qU d with ⟨j,u,rfl,e⟩ | ⟨y,u,rfl,e⟩
   ·exact nomatch e
   ·injection e with e1 _; rw [e1]
 byValue:=λk v h=>by rcases qU h with ⟨i,t,rfl,rfl⟩ | ⟨x,t,rfl,rfl⟩ <;> rfl
 pyHash:=λc h=>by
  rcases qU c with ⟨i,t,rfl,rfl⟩ | ⟨x,t,rfl,rfl⟩
  ·exact wpAny_pyHash_int h
  ·exact wpAny_pyHash_str h
 eqBool:=λf c h=>by
  rcases qU f with ⟨i,t,rfl,rfl⟩ | ⟨x,t,rfl,rfl⟩
  ·rcases qU c with ⟨j,u,rfl,rfl⟩ | ⟨y,u,rfl,rfl⟩
   ·rw [qaQ] at h; exact wpAny_eqBool_int h
   ·rw [qaS] at h; exact SeqAt.EqAt.int_str i t y u _ _ _ _ h
  ·rcases qU c with ⟨j,u,rfl,rfl⟩ | ⟨y,u,rfl,rfl⟩
   ·rw [qaT] at h; exact SeqAt.EqAt.str_int x t j u _ _ _ _ h
   ·rw [qaR] at h; exact wpAny_eqBool_str h
 «strs»:=λk x t v h=>by
  rcases qU h with ⟨i,u,rfl,e⟩ | ⟨y,u,rfl,e⟩
  ·exact nomatch e
  ·injection e with e1 _;subst e1;cases v <;> rfl
theorem QP (prog:fz) (w:fA) (i:Int) (t:Tok):(jv prog w).is (.inl i) (.int i t)=true:=gt i t
theorem QQ (prog:fz) (w:fA) (x:Str) (t:Tok):(jv prog w).is (.inr x) (.str x t)=true:=gu x t
inductive V where
 | non | bl (b:Bool) | int (i:Int) | str (x:Str) | byt (b:Array UInt8) | flt (b:UInt64) | ref (a:Addr) | ty (n:String)
 deriving DecidableEq
def RelV:V->fj->Prop
 | .non,u=>u=c9
 | .bl b,u=>u=b7 b
 | .int i,u=>∃ t,u=dB i t
 | .str x,u=>∃ t,u=cr x t
 | .byt b,u=>∃ t,u=Value.bytes b t
 | .flt b,u=>∃ t,u=Value.float b t
 | .ref a,u=>u=cu a
 | .ty n,u=>u=e7 n
abbrev Vals:List V->List fj->Prop:=Paired RelV
variable {xs:List V} {us:List fj}
theorem Vals.length (r:Vals xs us):xs.length=us.length:=dP r
theorem Vals.get:∀ {xs:List V} {us:List fj} {i:Nat} {x:V},Vals xs us->xs[i]?=ff x->∃ u,us[i]?=ff u/\RelV x u
 | _,_,_,_,.nil,e=>by simp at e
 | _,_,0,_,.cons r _,e=>by simp at e; subst e; exact ⟨_,rfl,r⟩
 | _,_,i+1,x,.cons _ t,e=>by obtain ⟨u,h1,h2⟩:=Vals.get (i:=i) (x:=x) t (by simpa using e);exact ⟨u,by simpa using h1,h2⟩
variable {u:fj}
theorem Vals.set {x:V} (r:RelV x u):∀ {xs:List V} {us:List fj} (i:Nat),Vals xs us->Vals (xs.set i x) (us.set i u)
 | _,_,_,.nil=>.nil
 | _,_,0,.cons _ t=>.cons r t
 | _,_,i+1,.cons q t=>.cons q (Vals.set r i t)
theorem Vals.append:∀ {xs ys:List V} {us ws:List fj},Vals xs us->Vals ys ws->Vals (xs++ys) (us++ws)
 | _,_,_,_,.nil,s=>s
 | _,_,_,_,.cons r t,s=>.cons r (Vals.append t s)
theorem Vals.take:∀ {xs:List V} {us:List fj} (n:Nat),Vals xs us->Vals (xs.take n) (us.take n)
 | _,_,0,_=>.nil
 | _,_,_+1,.nil=>.nil
 | _,_,n+1,.cons r t=>.cons r (Vals.take n t)
theorem Vals.drop:∀ {xs:List V} {us:List fj} (n:Nat),Vals xs us->Vals (xs.drop n) (us.drop n)
 | _,_,0,r=>r
 | _,_,_+1,.nil=>.nil
 | _,_,n+1,.cons _ t=>Vals.drop n t
def RelO:Option V->Option fj->Prop
 | some v,ff u=>RelV v u
 | none,fg=>True
 | _,_=>False
def KV {κ:Type}:List (κ×V)->List (κ×fj)->Prop:=Paired λ(p:κ×V) (q:κ×fj)=>p.1=q.1/\RelV p.2 q.2
noncomputable def kV:Key->V
 | .inl i=>.int i
 | .inr x=>.str x
inductive HO where
 /-- a list -/
 | lst (xs:List V)
 /-- a tuple (never changes) -/
 | tup (xs:List V)
 /-- a dict whose keys are ints and texts; one whose keys are tuples of ints and texts (the empty one is both) -/
 | dK (kvs:List (Key×V)) | dT (kvs:List (List Key×V))
 /-- a set of ints: its members,its size -/
 | set (S:Int->Bool) (n:Nat)
 /-- an instance of the class at C,its dict at dx,its attributes -/
 | ins (C dx:Addr) (fs:List (Str×V))
 /-- the dict of the instance at x -/
 | own (x:Addr)
 /-- the dict of an exception -/
 | xd (fs:List (Str×V))
 /-- a bound method,f of x -/
 | met (f x:Addr)
 /-- a range object lo,lo+1,.. below hi -/
 | rng (lo hi:Int)
 /-- a thing that is known to the object (the script; a dict while a loop walks it): read,never written while it is so -/
 | frz (o:Obj) (u:HO)
 /-- a code object's table -/
 | tbl (ps:Array fj)
 /-- any other thing,by what is fm of its one object (a def of one's own: SetO a S n:=HO.ext λh=>..) -/
 | ext (φ:Heap->Prop)
abbrev Hp:=Addr->Option HO
noncomputable def upd (H:Hp) (a:Addr) (o:HO):Hp:=λb=>if b=a then ff o else H b
variable {H:Hp} {a:Addr} {o:HO}
theorem qf:upd H a o a=ff o:=by unfold upd; rw [if_pos rfl]
variable {b:Addr}
theorem qp (h:b≠a):upd H a o b=H b:=by unfold upd; rw [if_neg h]
theorem qcP {u:HO} (h:H a=ff o) (h':H b=ff u) (d:o≠u):a≠b:=by intro e; subst e; rw [h] at h'; exact d (aI.inj h')
theorem qx (h:H a=ff o) (h':H b=fg):a≠b:=by intro e; subst e; rw [h] at h'; cases h'
section
variable (P:fz) (w:fA)
def ObjOk (H:Hp) (h:Heap) (a:Addr):HO->Prop
 | .lst xs=>xs.length<=sizeLine/\∃ (its:List fj) (n:Nat),Vals xs its/\h.get? a=ff { cls:=.type "list",data:=.seq its.toArray n }
 | .tup xs=>(xs.length<=sizeLine/\∃ o,h.get? a=ff o/\o.dict=fg)/\∃ its:List fj,Vals xs its/\IsTup h a its.toArray
 | .dK kvs=>kvs.length<=sizeLine/\(a == sysModules)=fk/\∃ vs,KV kvs vs/\h.DictOf (jv P w) a vs
 | .dT kvs=>kvs.length<=sizeLine/\(a == sysModules)=fk/\∃ xs:List (List Key×Addr×fj),Paired (λ(p:List Key×V) (q:List Key×Addr×fj)=>p.1=q.1/\H q.2.1=ff (.tup (p.1.map kV))/\RelV p.2 q.2.2) kvs xs /\
   ∃ o es ep,h.get? a=ff o/\o.ExactDict/\o.data=.dict es ep/\es.toList=xs.map (entryOfKey (tupleKind (jv P w)))/\(xs.map (·.1)).Nodup
 | .set S n=>h.SetOf (intKind P w) a S n
 | .ins C dx fs=>H dx=ff (.own a)/\fs.length<=1000/\dx≠a/\h.get? a=ff (bW C dx) /\
   ∃ mA,h.Ns1 dx mA/\(∀ f,RelO (fs.lookup f) (mA f))/\PySem.Within mA (fs.map (·.1))
 | .own _=>∃ o,h.get? a=ff o
 | .xd fs=>∃ mA,h.Ns1 a mA/\∀ f,RelO (fs.lookup f) (mA f)
 | .rng lo hi=>∃ t u v,h.get? a=ff { cls:=.type "range",data:=.fields #[.int lo t,.int hi u,.int 1 v] }
 | .frz o u=>h.get? a=ff o/\ObjOk H h a u
 | .tbl ps=>h.get? a=ff { cls:=.none,data:=.fields ps }
 | .met f x=>h.get? a=ff (dI (.ref f) (.ref x))
 | .ext φ=>φ h/\(∃ o,h.get? a=ff o)/\∀ h1 h2:Heap,φ h1->(∀ o,h1.get? a=ff o->h2.get? a=ff o)->φ h2
def HOk (H:Hp) (h:Heap):Prop:=∀ a o,H a=ff o->ObjOk P w H h a o
end
variable {P:fz} {w:fA} {H':Hp} {h h':Heap} {α:Type}
section
theorem ObjOk.lt (x:ObjOk P w H h a o):a < h.objs.size:=by
 cases o with
 | lst xs=>obtain ⟨_,_,_,_,e⟩:=x; exact au e
 | tup xs=>obtain ⟨_,_,_,p⟩:=x; exact p.lt
 | dK kvs=>obtain ⟨_,_,_,_,o,_,_,e,_⟩:=x; exact au e
 | dT kvs=>obtain ⟨_,_,_,_,o,_,_,e,_⟩:=x; exact au e
 | set S n=>obtain ⟨o,_,_,_,e,_⟩:=x; exact au e
 | ins C dx fs=>obtain ⟨_,_,_,e,_⟩:=x; exact au e
 | own y=>obtain ⟨_,e⟩:=x; exact au e
 | xd fs=>obtain ⟨_,⟨_,_,_,e,_⟩,_⟩:=x; exact au e
 | rng lo hi=>obtain ⟨_,_,_,e⟩:=x; exact au e
 | frz b u=>obtain ⟨e,_⟩:=x; exact au e
 | tbl ps=>exact au (show h.get? a=ff _ from x)
 | met f y=>exact au (show h.get? a=ff _ from x)
 | ext φ=>obtain ⟨_,⟨_,e⟩,_⟩:=x; exact au e
theorem Paired.mapP {β:Type} {F G:α->β->Prop}:∀ {c:List α} {l:List β},Paired F c l->(∀ a b,F a b->G a b)->Paired G c l
 | _,_,.nil,_=>.nil
 | _,_,.cons r t,f=>.cons (f _ _ r) (Paired.mapP t f)
theorem ObjOk.stay (x:ObjOk P w H h a o) (k:∀ b u,(b=a\/H b=ff (.own a))->h.get? b=ff u->h'.get? b=ff u)
  (l:∀ b,H b=ff (.own a)->H' b=ff (.own a)) (ht:∀ b xs,H b=ff (.tup xs)->H' b=ff (.tup xs)):ObjOk P w H' h' a o:=by
 induction o with
 | lst xs=>obtain ⟨z,its,n,r,e⟩:=x; exact ⟨z,its,n,r,k _ _ (.inl rfl) e⟩
 | tup xs=>obtain ⟨⟨z,o2,i,d2⟩,its,r,g,e,c⟩:=x; exact ⟨⟨z,o2,k _ _ (.inl rfl) i,d2⟩,its,r,g,k _ _ (.inl rfl) e,c⟩
 | dK kvs=>obtain ⟨z,y,vs,r,g,es,ep,e,c⟩:=x; exact ⟨z,y,vs,r,g,es,ep,k _ _ (.inl rfl) e,c⟩
 | dT kvs=>obtain ⟨z,y,xs,r,g,es,ep,e,c⟩:=x;exact ⟨z,y,xs,Paired.mapP r λp q z=>⟨z.1,ht _ _ z.2.1,z.2.2⟩,g,es,ep,k _ _ (.inl rfl) e,c⟩
 | set S n=>obtain ⟨g,es,ep,t,e,c⟩:=x; exact ⟨g,es,ep,t,k _ _ (.inl rfl) e,c⟩
 | ins C dx fs=>obtain ⟨d,z,ne,e,mA,⟨od,es,ep,i,c⟩,r⟩:=x;exact ⟨l _ d,z,ne,k _ _ (.inl rfl) e,mA,⟨od,es,ep,k _ _ (.inr d) i,c⟩,r⟩
 | own y=>obtain ⟨g,e⟩:=x; exact ⟨g,k _ _ (.inl rfl) e⟩
 | xd fs=>obtain ⟨mA,⟨od,es,ep,e,c⟩,r⟩:=x; exact ⟨mA,⟨od,es,ep,k _ _ (.inl rfl) e,c⟩,r⟩
 | rng lo hi=>obtain ⟨t,u,v,e⟩:=x; exact ⟨t,u,v,k _ _ (.inl rfl) e⟩
 | frz g u j=>obtain ⟨e,q⟩:=x; exact ⟨k _ _ (.inl rfl) e,j q⟩
 | tbl ps=>have e:h.get? a=ff { cls:=.none,data:=.fields ps }:=x;show h'.get? a=ff { cls:=.none,data:=.fields ps };exact k a _ (.inl rfl) e
 | met f y=>have e:h.get? a=ff (dI (.ref f) (.ref y)):=x;show h'.get? a=ff (dI (.ref f) (.ref y));exact k a _ (.inl rfl) e
 | ext φ=>obtain ⟨p,⟨o,e⟩,st⟩:=x; exact ⟨st _ _ p λo q=>k _ _ (.inl rfl) q,⟨o,k _ _ (.inl rfl) e⟩,st⟩
theorem HOk.lt (x:HOk P w H h) (e:H a=ff o):a < h.objs.size:=(x a o e).lt
theorem HOk.fresh (x:HOk P w H h) (e:h.objs.size<=a):H a=none:=by
 cases q:H a with
 | none=>rfl
 | some u=>exact absurd (aC (x.lt q) e) (aX _)
theorem HOk.kept (x:HOk P w H h) (k:∀ b u,h.get? b=ff u->h'.get? b=ff u):HOk P w H h':=λa o e=>
 (x a o e).stay (λb u _ q=>k b u q) (λ_ q=>q) λ_ _ q=>q
theorem HOk.laid (x:HOk P w H h) (k:∀ b u,h.get? b=ff u->h'.get? b=ff u) (hp:h.objs.size<=a) (new:ObjOk P w (upd H a o) h' a o):HOk P w (upd H a o) h':=λb u e=>by
 have n:=x.fresh hp;by_cases d:b=a;·subst d; rw [qf] at e; cases e; exact new
 ·rw [qp d] at e;exact (x b u e).stay (λc v _ q=>k c v q) (λc q=>by rw [qp (qx q n)]; exact q) λc xs q=>by rw [qp (qx q n)]; exact q
end
def Rd (H:Hp) (a:Addr) (u:HO):Prop:=H a=ff u\/∃ o,H a=ff (.frz o u)
theorem Rd.ok {u:HO} (r:Rd H a u) (x:HOk P w H h):ObjOk P w H h a u:=by
 rcases r with r | ⟨o,r⟩
 ·exact x a u r
 ·obtain ⟨_,q⟩:=x a _ r;exact q
def Mut:Option HO->Prop
 | some (.lst _)=>True
 | some (.dK _)=>True
 | some (.dT _)=>True
 | some (.set _ _)=>True
 | some (.ins _ _ _)=>True
 | some (.ext _)=>True
 | _=>False
section
variable {x e:Addr} {o':HO}
theorem HOk.write (ok:HOk P w H h) (m:Mut (H x)) (i:e=x\/H e=ff (.own x)) (k:∀ b u,b≠e->h.get? b=ff u->h'.get? b=ff u) (o:∃ u,h'.get? e=ff u)
  (new:ObjOk P w (upd H x o') h' x o'):HOk P w (upd H x o') h':=λb u q=>by
 have n:∀ c y,H c=ff (.own y)->c≠x:=λc y r z=>by subst z; rw [r] at m; exact m
 have p:∀ c xs,H c=ff (.tup xs)->c≠x:=λc xs r z=>by subst z; rw [r] at m; exact m
 by_cases f:b=x;·subst f; rw [qf] at q; cases q; exact new
 ·rw [qp f] at q;by_cases a:b=e
  ·have g:H b=ff (.own x):=by
    rcases i with z | z;·exact absurd (a.trans z) f
    ·rw [a]; exact z
   rw [q] at g; cases g;obtain ⟨v,j⟩:=o;exact ⟨v,by rw [a]; exact j⟩
  ·refine (ok b u q).stay (λc v d r=>k c v ?_ r) (λc r=>by rw [qp (n c b r)]; exact r) λc xs r=>by rw [qp (p c xs r)]; exact r
   rcases d with rfl | d;·exact a
   ·rintro rfl;rcases i with z | z;·exact n c b d z
    ·rw [d] at z; cases z; exact f rfl
end
structure Un (fs ex:List Addr) (H H':Hp) (h h':Heap):Prop where
 keep:∀ b o,h.get? b=ff o->H b=fg->b∉fs->b∉ex->h'.get? b=ff o
 slot:∀ b o,h.get? b=ff o->H b=fg->b∈fs->b∉ex->∃ sl,h'.get? b=ff { o with slots:=sl }
 free:∀ b o,h.get? b=ff o->H b=fg->b∉ex->H' b=fg
 there:∀ b o,h.get? b=ff o->b∉ex->∃ o',h'.get? b=ff o'
 tups:∀ b xs,H b=ff (.tup xs)->H' b=ff (.tup xs)
 frzs:∀ b o u,H b=ff (.frz o u)->H' b=ff (.frz o u)
 tbls:∀ b ps,H b=ff (.tbl ps)->∃ more,H' b=ff (.tbl (ps++more))
section
variable {fs fs' ex ex':List Addr} {H1 H2:Hp} {h1 h2:Heap} {x e:Addr}
theorem Un.any (u:Un fs ex H H1 h h1) {o:Obj} (q:h.get? b=ff o) (n:H b=fg) (hx:b∉ex):∃ sl,h1.get? b=ff { o with slots:=sl }:=by
 by_cases d:b∈fs;·exact u.slot b o q n d hx
 ·exact ⟨o.slots,u.keep b o q n d hx⟩
theorem Un.kept (k:∀ b u,h.get? b=ff u->h'.get? b=ff u):Un fs ex H H h h':=
 ⟨λb o q _ _ _=>k b o q,λb o q _ _ _=>⟨o.slots,k b o q⟩,λ_ _ _ n _=>n,λb o q _=>⟨o,k b o q⟩,λ_ _ q=>q,λ_ _ _ q=>q,λ_ ps q=>⟨#[],by rw [q]; simp⟩⟩
theorem Un.refl:Un fs ex H H h h:=Un.kept λ_ _ q=>q
theorem Un.laid (k:∀ b u,h.get? b=ff u->h'.get? b=ff u) (hp:h.objs.size<=a) (c:H a=fg):Un fs ex H (upd H a o) h h' where
 keep:=λb u q _ _ _=>k b u q
 slot:=λb u q _ _ _=>⟨u.slots,k b u q⟩
 free:=λb u q n _=>by rw [qp (aF (aC (au q) hp))]; exact n
 there:=λb u q _=>⟨u,k b u q⟩
 tups:=λb xs q=>by rw [qp (qx q c)]; exact q
 frzs:=λb u xs q=>by rw [qp (qx q c)]; exact q
 tbls:=λb ps q=>⟨#[],by rw [qp (qx q c),q]; simp⟩
theorem Un.write (m:Mut (H x)) (i:e=x\/H e=ff (.own x)) (k:∀ b u,b≠e->h.get? b=ff u->h'.get? b=ff u) (d:∃ u,h'.get? e=ff u):Un fs ex H (upd H x o) h h':=by
 have hx:∀ b,H b=fg->b≠x:=λb n z=>by subst z; rw [n] at m; exact m
 have f:∀ b,H b=fg->b≠e:=λb n z=>by
  subst z;rcases i with r | r;·exact hx b n r
  ·rw [n] at r; cases r
 have c:∀ b u,H b=ff u->¬Mut (ff u)->b≠x:=λb u q nm z=>by subst z; rw [q] at m; exact nm m
 refine ⟨λb u q n _ _=>k b u (f b n) q,λb u q n _ _=>⟨u.slots,k b u (f b n) q⟩,λb u q n _=>by rw [qp (hx b n)]; exact n,λb u q _=>?_,λb xs q=>by rw [qp (c b _ q λz=>z)]; exact q,λb u xs q=>by rw [qp (c b _ q λz=>z)]; exact q,λb ps q=>⟨#[],by rw [qp (c b _ q λz=>z),q]; simp⟩⟩;by_cases a:b=e;·subst a; exact d
 ·exact ⟨u,k b u a q⟩
end
noncomputable def trk (h:Heap) (H:Hp):List Addr:=(aB h.objs.size).filter λa=>(H a).isSome
noncomputable def Yq (h:Heap) (H:Hp):Heap:=bF h (trk h H)
theorem VM (h:Heap) (H:Hp):(Yq h H).objs.size=h.objs.size:=PySem.W.hideAll_size _ _
theorem Yr {o:Obj} (e:h.get? b=ff o) (n:H b=fg):(Yq h H).get? b=ff o:=
 dt _ e λc=>by have q:(H b).isSome=true:=(bL.mp c).2;rw [n] at q; simp at q
theorem ZP {o:Obj} (e:(Yq h H).get? b=ff o):h.get? b=ff o/\H b=none:=by
 have a:h.get? b=ff o:=PySem.W.of_hideAll (trk h H) e;refine ⟨a,?_⟩;cases q:H b with
 | none=>rfl
 | some x=>have c:b∈trk h H:=bL.mpr ⟨aK.mpr (au a),by simp [q]⟩;have z:(Yq h H).get? b=none:=dh (trk h H) c;rw [z] at e; cases e
abbrev Pns:=List (Addr×Obj)
noncomputable def ZQ (g h:Heap) (L:Addr):Pns:=(aB h.objs.size).filterMap λa=>if a=L\/(g.get? a).isSome=fm then fg else (h.get? a).map λo=>(a,o)
noncomputable def rest (g h:Heap) (L d:Addr):Pns:=(ZQ g h L).filter λp=>decide (p.1≠d)
structure Mod (K:Frag) (mg:Str->Option fj) (base:Heap):Prop where
 kin:K.In base
 glob:base.Ns mainGlobals mg
 blt:∃ mb,base.Ns builtinsNs mb/\∀ x:Str,x ≠ "__name__"->mb x=bootBuiltins x
 nolimit:base.NoLimit
structure Cx where
 prog:fz
 w:fA
 K:Frag
 mg:Str->Option fj
 base:Heap
 A:fD
 N:List Str
 s₀:fq
 H₀:Hp
 env:Env
 outer:List Env
 stack:List Env
 ex:List Addr
 fn:Str->Bool
 calm:Bool
 pn:Pns
 xe:fj->fq->Prop
noncomputable def frs (l:List Env):List Addr:=l.filterMap (·.frame)
abbrev Cx.fs (X:Cx):List Addr:=frs X.outer
def Vis (sc:g6) (x:Str):Prop:=sc.names.lookup x=ff .local\/sc.names.lookup x=ff .cell\/sc.names.lookup x=ff .free
def Loc (sc:g6) (x:Str):Prop:=sc.names.lookup x=ff .local\/sc.names.lookup x=ff .cell
def Ys (env:Env) (h:Heap) (m:Str->Option fj) (x:Str) (u:fj):Prop:=
 (env.kindOf x=ff .local/\m x=ff u)\/((env.kindOf x=ff .cell\/env.kindOf x=ff .free)/\∃ c,env.cells.lookup x=ff c/\h.IsCell c (ff u))
structure Cx.Ok (X:Cx):Prop where
 mod:Mod X.K X.mg X.base
 kind:X.env.scope.kind=.function
 glob:X.env.globals=mainGlobals
 blt:X.env.builtins=builtinsNs
 above:X.s₀.heap.objs.size<=X.env.locals
 inj:∀ x y c,X.env.cells.lookup x=ff c->X.env.cells.lookup y=ff c->x=y
 has:∀ x,(X.env.kindOf x=ff .cell\/X.env.kindOf x=ff .free)->∃ c,X.env.cells.lookup x=ff c
 cab:∀ x c,X.fn x=fm->X.env.cells.lookup x=ff c->X.s₀.heap.objs.size<=c
 hd:X.calm=fm->X.A.handled=fg
 frames:X.A.frames=ff X.stack
 stk:X.stack=X.outer\/(X.stack=X.env::X.outer/\X.env.frame=ff X.env.locals)
 exf:∀ b∈X.ex,b≠X.env.locals/\∀ x c,X.env.cells.lookup x=ff c->c≠b
 bs:∀ b o,X.base.get? b=ff o->X.s₀.heap.get? b=ff o/\X.H₀ b=fg
 bsz:X.base.objs.size<=X.s₀.heap.objs.size
 noex:∀ b o,X.base.get? b=ff o->b∉X.ex
 exfs:∀ b∈X.ex,b∉X.fs
 funs:X.s₀.heap.FunFrames X.base X.outer
 frf:∀ b∈X.fs,X.H₀ b=fg
structure Inv (X:Cx) (pins:Pns) (σ:List (Option V)) (H:Hp) (s:fq):Prop where
 ok:X.Ok
 os:s.os=X.s₀.os
 bare:hZ s.gens
 base:Un X.fs X.ex X.H₀ H X.s₀.heap s.heap
 loc:∃ m,s.heap.Ns X.env.locals m/\∀ (i:Nat) (x:Str) (v:V),X.N[i]?=ff x->σ[i]?=ff (ff v)->Vis X.env.scope x->∃ u,RelV v u/\Ys X.env s.heap m x u
 cell:∀ x c,X.env.cells.lookup x=ff c->∃ v,s.heap.IsCell c v
 free:H X.env.locals=fg
 freeC:∀ x c,X.env.cells.lookup x=ff c->H c=fg
 pin:∀ p∈X.pn++pins,s.heap.get? p.1=ff p.2/\H p.1=fg/\p.1≠X.env.locals/\p.1∉X.fs/\∀ v,p.2.data≠.cell v
 hok:HOk X.prog X.w H s.heap
 len:σ.length=X.N.length
variable {x:Str} {X:Cx} {pins:Pns} {s s':fq} {t' i:Nat} {ch:List Addr} {it:Addr} {v:V}
section
variable {σ:List (Option V)}
theorem Cx.Ok.nofr (ok:X.Ok) {o:Obj} (e:X.base.get? b=ff o):b∉X.fs:=λd=>by have:=(ok.funs.mem d).1;rw [e] at this; cases this
theorem Inv.bs (I:Inv X pins σ H s):∀ b o,X.base.get? b=ff o->s.heap.get? b=ff o/\H b=none:=λb o e=>
 ⟨I.base.keep b o (I.ok.bs b o e).1 (I.ok.bs b o e).2 (I.ok.nofr e) (I.ok.noex b o e),I.base.free b o (I.ok.bs b o e).1 (I.ok.bs b o e).2 (I.ok.noex b o e)⟩
theorem Inv.bk (I:Inv X pins σ H s):∀ b o,X.base.get? b=ff o->s.heap.get? b=ff o:=λb o e=>(I.bs b o e).1
theorem Inv.mod (I:Inv X pins σ H s):Mod X.K X.mg X.base:=I.ok.mod
theorem Inv.kIn (I:Inv X pins σ H s):X.K.In s.heap:=I.ok.mod.kin.keeps I.bk
theorem Inv.nolimit (I:Inv X pins σ H s):s.heap.NoLimit:=I.ok.mod.nolimit.keeps I.bk
theorem Inv.fr (I:Inv X pins σ H s):∃ m,Fr X.base X.env.locals s.heap m:=
 let ⟨m,n,_⟩:=I.loc
 ⟨m,n,I.bk,bu I.ok.bsz I.ok.above⟩
theorem Inv.lt (I:Inv X pins σ H s):X.env.locals < s.heap.objs.size:=let ⟨_,n,_⟩:=I.loc; n.lt
theorem Inv.sz (I:Inv X pins σ H s):X.s₀.heap.objs.size<=s.heap.objs.size:=bu I.ok.above (cR I.lt)
theorem Inv.nofs (I:Inv X pins σ H s) (h:s.heap.objs.size<=a):a∉X.fs:=λd=>by obtain ⟨_,o,l,_⟩:=I.ok.funs.mem d;exact absurd (aC (au l) (bu I.sz h)) (aX _)
theorem Inv.cne (I:Inv X pins σ H s):∀ x c,X.env.cells.lookup x=ff c->c≠X.env.locals:=λx c e z=>by obtain ⟨v,o,l,hd⟩:=I.cell x c e;obtain ⟨m,⟨o',es,ep,h,a,_⟩,_⟩:=I.loc;rw [z,h] at l; cases l; rw [a] at hd; cases hd
theorem Inv.funs (I:Inv X pins σ H s):s.heap.FunFrames X.base X.outer:=by
 have all:∀ (l:List Env),(∀ b∈frs l,b∈X.fs)->X.s₀.heap.FunFrames X.base l->s.heap.FunFrames X.base l:=by
  intro l
  induction l with
  | nil=>intro _ _; trivial
  | cons env r j=>intro hs hl;obtain ⟨k,⟨L,o,h,n,f,hd⟩,c⟩:=hl;have a:L∈X.fs:=hs L (by unfold frs; rw [cA,h]; exact aj);obtain ⟨sl,e⟩:=I.base.slot L o f (I.ok.frf L a) a λz=>I.ok.exfs L z a;exact ⟨k,⟨L,_,h,n,e,hd⟩,j (λb d=>hs b (by unfold frs; rw [cA,h]; exact ac _ d)) c⟩
 exact all X.outer (λ_ d=>d) I.ok.funs
theorem Inv.stack (I:Inv X pins σ H s):s.heap.FunFrames X.base X.stack:=by
 rcases I.ok.stk with e | ⟨e,hf⟩
 ·rw [e]; exact I.funs
 ·rw [e];obtain ⟨m,n,_⟩:=I.loc;refine .cons (by rw [I.ok.kind]; decide) hf n ?_ I.funs;exact Heap.get?_none_of_le (bu I.ok.bsz I.ok.above)
theorem Inv.stkSub (I:Inv X pins σ H s):∀ b∈frs X.stack,b∈X.env.locals::X.fs:=λb d=>by
 rcases I.ok.stk with e | ⟨e,hf⟩
 ·rw [e] at d; exact ac _ d
 ·rw [e] at d;unfold frs at d;rw [cA,hf] at d;exact d
theorem Inv.stkFree (I:Inv X pins σ H s):∀ b∈frs X.stack,H b=none:=λb d=>by
 rcases ae.mp (I.stkSub b d) with e | d;·rw [e]; exact I.free
 ·obtain ⟨_,o,l,_⟩:=I.ok.funs.mem d;exact I.base.free b o l (I.ok.frf b d) λz=>I.ok.exfs b z d
theorem Inv.step {g':Array ii} {t':Nat} {d':Drawn} {ch:List Addr} (I:Inv X pins σ H s)
  (a:∀ b∈ch,(b∈X.ex\/X.s₀.heap.objs.size<=b)/\b≠X.env.locals/\(∀ x c,X.env.cells.lookup x=ff c->c≠b)/\∀ p∈X.pn++pins,p.1≠b)
  (keep:∀ b o,b≠X.env.locals->b∉X.fs->b∉ch->s.heap.get? b=ff o->H b=fg->h'.get? b=ff o)
  (slot:∀ b o,b≠X.env.locals->b∈X.fs->b∉ch->s.heap.get? b=ff o->H b=fg->∃ sl,h'.get? b=ff { o with slots:=sl }) (free:∀ b o,b∉ch->s.heap.get? b=ff o->H b=fg->H' b=fg)
  (there:∀ b o,b∉ch->s.heap.get? b=ff o->∃ o',h'.get? b=ff o')
  (tups:∀ b xs,H b=ff (.tup xs)->H' b=ff (.tup xs)) (frzs:∀ b o u,H b=ff (.frz o u)->H' b=ff (.frz o u)) (tbls:∀ b ps,H b=ff (.tbl ps)->∃ more,H' b=ff (.tbl (ps++more)))
  (ns:∀ m,s.heap.Ns X.env.locals m->h'.Ns X.env.locals m) (hok:HOk X.prog X.w H' h') (hg:hZ g') :
  Inv X pins σ H' { s with heap:=h',gens:=g',drawn:=d',toks:=t' }:=by
 have L:∀ b o,X.s₀.heap.get? b=ff o->b≠X.env.locals:=λb o e=>aF (aC (au e) I.ok.above);have C:∀ b o,X.s₀.heap.get? b=ff o->b∉X.ex->b∉ch:=λb o e hx f=>by
  rcases (a b f).1 with z | z;·exact hx z
  ·exact absurd (aC (au e) z) (aX _)
 have K:∀ x c,X.env.cells.lookup x=ff c->∀ v,s.heap.IsCell c v->h'.IsCell c v:=λx c e v ⟨o,g,hd⟩=>by
  have h:c∉ch:=λz=>(a c z).2.2.1 x c e rfl;by_cases A:c∈X.fs;·obtain ⟨sl,q⟩:=slot c o (I.cne x c e) A h g (I.freeC x c e);exact ⟨_,q,hd⟩
  ·exact ⟨o,keep c o (I.cne x c e) A h g (I.freeC x c e),hd⟩
 refine ⟨I.ok,I.os,hg,⟨λb o e n f hx=>?_,λb o e n f hx=>?_,λb o e n hx=>?_,λb o e hx=>?_,λb xs e=>tups b xs (I.base.tups b xs e),λb o xs e=>frzs b o xs (I.base.frzs b o xs e),λb ps e=>?_⟩,?_,λx c e=>?_,?_,λx c e=>?_,λp hp=>?_,hok,I.len⟩;·exact keep b o (L b o e) f (C b o e hx) (I.base.keep b o e n f hx) (I.base.free b o e n hx)
 ·obtain ⟨sl,e1⟩:=I.base.slot b o e n f hx;obtain ⟨t,j⟩:=slot b _ (L b o e) f (C b o e hx) e1 (I.base.free b o e n hx);exact ⟨t,j⟩
 ·obtain ⟨o',e1⟩:=I.base.there b o e hx;exact free b o' (C b o e hx) e1 (I.base.free b o e n hx)
 ·obtain ⟨o',e1⟩:=I.base.there b o e hx;exact there b o' (C b o e hx) e1
 ·obtain ⟨m1,e1⟩:=I.base.tbls b ps e;obtain ⟨B,j⟩:=tbls b _ e1;exact ⟨m1++B,by rw [j,Array.append_assoc]⟩
 ·obtain ⟨m,D,hl⟩:=I.loc;refine ⟨m,ns m D,λi x v e1 j E=>?_⟩;obtain ⟨u,r,l⟩:=hl i x v e1 j E;refine ⟨u,r,?_⟩;rcases l with l | ⟨k,c,e,z⟩
  ·exact .inl l
  ·exact .inr ⟨k,c,e,K x c e _ z⟩
 ·obtain ⟨v,z⟩:=I.cell x c e;exact ⟨v,K x c e v z⟩
 ·obtain ⟨m,⟨o,_,_,g,_⟩,_⟩:=I.loc;exact free _ o (λz=>(a _ z).2.1 rfl) g I.free
 ·obtain ⟨v,o,g,hd⟩:=I.cell x c e;exact free c o (λz=>(a c z).2.2.1 x c e rfl) g (I.freeC x c e)
 ·obtain ⟨e,n,ne,y,d⟩:=I.pin p hp;have h:p.1∉ch:=λz=>(a p.1 z).2.2.2 p hp rfl;exact ⟨keep p.1 p.2 ne y h e n,free p.1 p.2 h e n,ne,y,d⟩
theorem Inv.un (I:Inv X pins σ H s) (u:Un X.fs [] H H' s.heap h') (hok:HOk X.prog X.w H' h'):Inv X pins σ H' { s with heap:=h',toks:=t' }:=by obtain ⟨m,⟨o,es,ep,l,r⟩,_⟩:=id I.loc;obtain ⟨sl,L⟩:=u.any l I.free (by simp);exact I.step (g':=s.gens) (d':=s.drawn) (ch:=[]) (λ_ z=>nomatch z) (λb o _ d _ e n=>u.keep b o e n d (by simp)) (λb o _ d _ e n=>u.slot b o e n d (by simp)) (λb o _ e n=>u.free b o e n (by simp)) (λb o _ e=>u.there b o e (by simp)) u.tups u.frzs u.tbls (λf c=>by obtain ⟨o',es',a,h,r'⟩:=c;rw [l] at h; cases h;exact ⟨_,es',a,L,r'⟩) hok I.bare
theorem Inv.call {g':Array ii} {t':Nat} {d':Drawn} (I:Inv X pins σ H s) (u:Un (frs X.stack) ch H H' s.heap h') (hok:HOk X.prog X.w H' h') (hg:hZ g')
  (a:∀ b∈ch,(b∈X.ex\/X.s₀.heap.objs.size<=b)/\b≠X.env.locals/\(∀ x c,X.env.cells.lookup x=ff c->c≠b)/\∀ p∈X.pn++pins,p.1≠b) :
  Inv X pins σ H' { s with heap:=h',gens:=g',drawn:=d',toks:=t' }:=by
 obtain ⟨m,⟨o,es,ep,l,r⟩,_⟩:=id I.loc;obtain ⟨sl,L⟩:=u.any l I.free λz=>(a _ z).2.1 rfl;exact I.step (ch:=ch) a (λb o L i d e n=>u.keep b o e n (λz=>(ae.mp (I.stkSub b z)).elim L i) d) (λb o _ _ d e n=>u.any e n d) (λb o d e n=>u.free b o e n d) (λb o d e=>u.there b o e d) u.tups u.frzs u.tbls (λj g=>by obtain ⟨o',es',f,h,r'⟩:=g;rw [l] at h; cases h;exact ⟨_,es',f,L,r'⟩) hok hg
theorem Inv.turned {t':Nat} (I:Inv X pins σ H s) (k:∀ b o,b≠it->s.heap.get? b=ff o->h'.get? b=ff o) (h:H it=fg) (a:it≠X.env.locals)
  (h1:it∈X.ex\/X.s₀.heap.objs.size<=it) (h2:∀ x c,X.env.cells.lookup x=ff c->c≠it) (i:∀ p∈X.pn++pins,p.1≠it):Inv X pins σ H { s with heap:=h',toks:=t' }:=by
 have t:∀ b u,H b=ff u->b≠it:=λb u e z=>by rw [z,h] at e; cases e
 refine I.step (g':=s.gens) (d':=s.drawn) (ch:=[it]) (λb g=>?_) (λb o _ _ d e _=>k b o (λz=>d (by simp [z])) e) (λb o _ _ d e _=>⟨o.slots,k b o (λz=>d (by simp [z])) e⟩) (λ_ _ _ _ n=>n)
  (λb o d e=>⟨o,k b o (λz=>d (by simp [z])) e⟩) (λ_ _ e=>e) (λ_ _ _ e=>e) (λb ps e=>⟨#[],by rw [e]; simp⟩) (λm f=>?_) (λb u e=>?_) I.bare
 ·have e:b=it:=by simpa using g
  subst e;exact ⟨h1,a,h2,i⟩
 ·obtain ⟨o,es,ep,l,r⟩:=f;exact ⟨o,es,ep,k _ o (bp a) l,r⟩
 ·refine (I.hok b u e).stay (λc v d q=>k c v ?_ q) (λ_ q=>q) λ_ _ q=>q;rcases d with z | z;·rw [z]; exact t b u e
  ·exact t c _ z
theorem Inv.tok (I:Inv X pins σ H s) (t:Nat):Inv X pins σ H { s with toks:=t }:=I.un (h':=s.heap) (t':=t) Un.refl I.hok
theorem Inv.kept (I:Inv X pins σ H s) (k:∀ b u,s.heap.get? b=ff u->h'.get? b=ff u):Inv X pins σ H { s with heap:=h',toks:=t' }:=I.un (Un.kept k) (I.hok.kept k)
theorem Inv.laid {t':Nat} (I:Inv X pins σ H s) (k:∀ b u,s.heap.get? b=ff u->h'.get? b=ff u) (hp:s.heap.objs.size<=a) (new:ObjOk X.prog X.w (upd H a o) h' a o):Inv X pins σ (upd H a o) { s with heap:=h',toks:=t' }:=I.un (Un.laid k hp (I.hok.fresh hp)) (I.hok.laid k hp new)
theorem Inv.write {x e:Addr} {o:HO} {t':Nat} (I:Inv X pins σ H s) (m:Mut (H x)) (i:e=x\/H e=ff (.own x)) (k:∀ b u,b≠e->s.heap.get? b=ff u->h'.get? b=ff u) (h:∃ u,h'.get? e=ff u)
  (new:ObjOk X.prog X.w (upd H x o) h' x o):Inv X pins σ (upd H x o) { s with heap:=h',toks:=t' }:=I.un (Un.write m i k h) (I.hok.write m i k h new)
theorem Inv.pins_of {a:Pns} (I:Inv X pins σ H s) (h:∀ p∈a,s.heap.get? p.1=ff p.2/\H p.1=fg/\p.1≠X.env.locals/\p.1∉X.fs/\∀ v,p.2.data≠.cell v):Inv X a σ H s:=
 ⟨I.ok,I.os,I.bare,I.base,I.loc,I.cell,I.free,I.freeC,λp hp=>(bn.mp hp).elim (λz=>I.pin p (cj _ z)) (h p),I.hok,I.len⟩
theorem JM {N:List Str} (h:N.Nodup) {j:Nat} (a:N[i]?=ff x) (b:N[j]?=ff x):i=j:=by obtain ⟨h1,e1⟩:=aq.mp a;obtain ⟨h2,e⟩:=aq.mp b;exact (dU h).mp (e1.trans e.symm)
theorem gx {M:Model} {A:fD} {E:fj->fq->Prop} {Q:Unit->fq->Prop} (I:Inv X pins σ H s) (hN:X.N.Nodup) (hi:X.N[i]?=ff x) (hx:Loc X.env.scope x) (r:RelV v u)
  (h:∀ s',Inv X pins (σ.set i (ff v)) H s'->(∃ a,bq a s.heap s'.heap/\(a=X.env.locals\/X.env.cells.lookup x=ff a))->Q () s') (hf:X.fn x=fm\/X.env.scope.names.lookup x=ff .local:=by first | exact .inl rfl | exact .inr rfl | assumption):wpAny M A (storeName X.env x u) Q E s:=by
 obtain ⟨m,F,hl⟩:=id I.loc;have O:(X.env.scope.kind == .class||(X.env.scope.kind == .module&&X.env.locals != X.env.globals))=false:=by rw [I.ok.kind]; rfl
 have C:i < σ.length:=by rw [I.len]; exact (aq.mp hi).1
 have cne:=I.cne;have t:∀ {a:Addr} {h':Heap},(∃ o,s.heap.get? a=ff o/\H a=fg)->bq a s.heap h'->HOk X.prog X.w H h':=λ{a h'} ha hs b ob e=>by
  obtain ⟨_,_,g⟩:=ha;refine (I.hok b ob e).stay (λc S f q=>(hs.2 c ?_).trans q) (λ_ q=>q) λ_ _ q=>q;rintro rfl;rcases f with rfl | f;·rw [g] at e; cases e
  ·rw [g] at f; cases f
 rcases hx with B | B
 ·refine wpAny_storeName_local B F (λh' Z hs=>?_) O;obtain ⟨oL,_,_,Y,_⟩:=id F;refine h _ ⟨I.ok,I.os,I.bare,⟨λb o e n J hx=>?_,λb o e n J hx=>?_,I.base.free,λb o e hx=>?_,I.base.tups,I.base.frzs,I.base.tbls⟩,⟨_,Z,λj y U e1 l e3=>?_⟩,λy c e=>?_,I.free,I.freeC,λp hp=>?_,t ⟨oL,Y,I.free⟩ hs,by simpa using I.len⟩ ⟨_,hs,.inl rfl⟩;·exact (hs.2 b (aF (aC (au e) I.ok.above))).trans (I.base.keep b o e n J hx)
  ·obtain ⟨sl,e1⟩:=I.base.slot b o e n J hx;exact ⟨sl,(hs.2 b (aF (aC (au e) I.ok.above))).trans e1⟩
  ·obtain ⟨o',e1⟩:=I.base.there b o e hx;exact ⟨o',(hs.2 b (aF (aC (au e) I.ok.above))).trans e1⟩
  ·by_cases D:j=i;·subst D;rw [hi] at e1; cases e1;rw [aG C] at l;cases l;exact ⟨u,r,.inl ⟨B,by simp⟩⟩
   ·rw [ak (bp D)] at l;obtain ⟨V,r',q⟩:=hl j y U e1 l e3;refine ⟨V,r',?_⟩;rcases q with ⟨k,e⟩ | ⟨k,c,e,z⟩
    ·refine .inl ⟨k,?_⟩;have:y≠x:=λe=>D (JM hN e1 (e ▸ hi));simp [this,e]
    ·exact .inr ⟨k,c,e,z.sameBut hs (cne y c e)⟩
  ·obtain ⟨S,z⟩:=I.cell y c e;exact ⟨S,z.sameBut hs (cne y c e)⟩
  ·obtain ⟨e,n,ne,W,d⟩:=I.pin p hp;exact ⟨(hs.2 p.1 ne).trans e,n,ne,W,d⟩
 ·have G:X.fn x=true:=by
   rcases hf with z | z;·exact z
   ·rw [z] at B; cases B
  obtain ⟨c,f⟩:=I.ok.has x (.inl B);obtain ⟨S,z⟩:=I.cell x c f;refine wpAny_storeName_cell I.ok.kind B f z (λh' R hs=>?_);obtain ⟨oc,L,K⟩:=id z;refine h { s with heap:=h' } ⟨I.ok,I.os,I.bare,⟨λb o e n J hx=>?_,λb o e n J hx=>?_,I.base.free,λb o e hx=>?_,I.base.tups,I.base.frzs,I.base.tbls⟩,⟨m,F.sameBut hs (bp (cne x c f)),λj y U e1 l e3=>?_⟩,λy T e=>?_,I.free,I.freeC,λp hp=>?_,t ⟨oc,L,I.freeC x c f⟩ hs,by simpa using I.len⟩ ⟨c,hs,.inr f⟩;·exact (hs.2 b (aF (aC (au e) (I.ok.cab x c G f)))).trans (I.base.keep b o e n J hx)
  ·obtain ⟨sl,e1⟩:=I.base.slot b o e n J hx;exact ⟨sl,(hs.2 b (aF (aC (au e) (I.ok.cab x c G f)))).trans e1⟩
  ·obtain ⟨o',e1⟩:=I.base.there b o e hx;exact ⟨o',(hs.2 b (aF (aC (au e) (I.ok.cab x c G f)))).trans e1⟩
  ·by_cases D:j=i;·subst D;rw [hi] at e1; cases e1;rw [aG C] at l;cases l;exact ⟨u,r,.inr ⟨.inl B,c,f,R⟩⟩
   ·rw [ak (bp D)] at l;obtain ⟨V,r',q⟩:=hl j y U e1 l e3;refine ⟨V,r',?_⟩;rcases q with q | ⟨k,T,e,z'⟩
    ·exact .inl q
    ·refine .inr ⟨k,T,e,z'.sameBut hs ?_⟩;rintro rfl;exact D (JM hN e1 (I.ok.inj _ _ _ e f ▸ hi))
  ·by_cases P:T=c;·subst P; exact ⟨_,R⟩
   ·obtain ⟨w2,z2⟩:=I.cell y T e;exact ⟨w2,z2.sameBut hs P⟩
  ·obtain ⟨e,n,ne,W,d⟩:=I.pin p hp;refine ⟨(hs.2 p.1 ?_).trans e,n,ne,W,d⟩;intro q;rw [q,L] at e;have q':oc=p.2:=aI.inj e;exact d S (by rw [<-q']; exact K)
theorem JN {M:Model} {A:fD} {E:fj->fq->Prop} {Q:Unit->fq->Prop} (I:Inv X pins σ H s) (a:X.N.Nodup) (hi:X.N[i]?=ff x) (hx:Loc X.env.scope x) (r:RelV v u)
  (h:∀ s',Inv X pins (σ.set i (ff v)) H s'->Q () s') (f:X.fn x=fm\/X.env.scope.names.lookup x=ff .local:=by first | exact .inl rfl | exact .inr rfl | assumption):wpAny M A (storeName X.env x u) Q E s:=
 gx I a hi hx r (λs' b _=>h s' b) f
theorem Inv.call' (I:Inv X pins σ H s) (l:s'.os=s.os) (u:Un (frs X.stack) ch H H' s.heap s'.heap) (hok:HOk X.prog X.w H' s'.heap) (hg:hZ s'.gens)
  (a:∀ b∈ch,(b∈X.ex\/X.s₀.heap.objs.size<=b)/\b≠X.env.locals/\(∀ x c,X.env.cells.lookup x=ff c->c≠b)/\∀ p∈X.pn++pins,p.1≠b):Inv X pins σ H' s':=by
 obtain ⟨h',g',d',t',o'⟩:=s';have e:o'=s.os:=l;subst e;exact I.call (g':=g') (t':=t') (d':=d') u hok hg a
end
abbrev XK:=fj->Option Addr->Hp->Prop
abbrev St:=List (Option V)
abbrev VK:=V->Hp->Prop
abbrev TE:=St->Hp->VK->Prop
abbrev TT:=St->Hp->(Bool->Hp->Prop)->Prop
abbrev TA:=St->Hp->(List V->Hp->Prop)->Prop
structure Ends where
 nx:St->Hp->Prop
 rt:VK
 bk:St->Hp->Prop:=λ_ _=>False
 ct:St->Hp->Prop:=λ_ _=>False
abbrev TS:=Ends->St->Hp->Prop
def EP (X:Cx) (pins:Pns) (σ:St) (Q:VK) (u:fj) (s':fq):Prop:=∃ v H',Inv X pins σ H' s'/\RelV v u/\Q v H'
def TP (X:Cx) (pins:Pns) (σ:St) (Q:Bool->Hp->Prop) (b:Bool) (s':fq):Prop:=∃ H',Inv X pins σ H' s'/\Q b H'
def AP (X:Cx) (pins:Pns) (σ:St) (Q:List V->Hp->Prop) (us:List fj) (s':fq):Prop:=∃ vs H',Inv X pins σ H' s'/\Vals vs us/\Q vs H'
def SP (X:Cx) (pins:Pns) (D:Ends) (f:Flow) (s':fq):Prop:=
 match f with
 | .next=>∃ σ' H',Inv X pins σ' H' s'/\D.nx σ' H'
 | .brk=>∃ σ' H',Inv X pins σ' H' s'/\D.bk σ' H'
 | .cont=>∃ σ' H',Inv X pins σ' H' s'/\D.ct σ' H'
 | .ret u=>∃ v σ' H',Inv X pins σ' H' s'/\RelV v u/\D.rt v H'
structure PE (X:Cx) (e:Expr) (t:TE):Prop where
 run:∀ (pins:Pns) (s:fq) (σ:St) (H:Hp) (Q:VK),Inv X pins σ H s->t σ H Q->wpAny (model X.prog X.w) X.A (eval e X.env) (EP X pins σ Q) X.xe s
instance {X:Cx} {e:Expr} {t:TE}:CoeFun (PE X e t) (λ_=>∀ (pins:Pns) (s:fq) (σ:St) (H:Hp) (Q:VK),Inv X pins σ H s->t σ H Q->wpAny (model X.prog X.w) X.A (eval e X.env) (EP X pins σ Q) X.xe s):=⟨λh=>h.run⟩
structure PT (X:Cx) (e:Expr) (t:TT):Prop where
 run:∀ (pins:Pns) (s:fq) (σ:St) (H:Hp) (Q:Bool->Hp->Prop),Inv X pins σ H s->t σ H Q->wpAny (model X.prog X.w) X.A (isTrue e X.env (eval e X.env)) (TP X pins σ Q) X.xe s
instance {X:Cx} {e:Expr} {t:TT}:CoeFun (PT X e t) (λ_=>∀ (pins:Pns) (s:fq) (σ:St) (H:Hp) (Q:Bool->Hp->Prop),Inv X pins σ H s->t σ H Q->wpAny (model X.prog X.w) X.A (isTrue e X.env (eval e X.env)) (TP X pins σ Q) X.xe s):=⟨λh=>h.run⟩
structure PW (X:Cx) (e:Expr) (t:TT):Prop where
 run:∀ (whole:Sem fj) (pins:Pns) (s:fq) (σ:St) (H:Hp) (Q:Bool->Hp->Prop),Inv X pins σ H s->t σ H Q->wpAny (model X.prog X.w) X.A (isTrue e X.env whole) (TP X pins σ Q) X.xe s
instance {X:Cx} {e:Expr} {t:TT}:CoeFun (PW X e t) (λ_=>∀ (whole:Sem fj) (pins:Pns) (s:fq) (σ:St) (H:Hp) (Q:Bool->Hp->Prop),Inv X pins σ H s->t σ H Q->wpAny (model X.prog X.w) X.A (isTrue e X.env whole) (TP X pins σ Q) X.xe s):=⟨λh=>h.run⟩
variable {e:Expr}
theorem PW.pt {t:TT} (h:PW X e t):PT X e t:=⟨h.run _⟩
structure PA (X:Cx) (es:List Expr) (t:TA):Prop where
 run:∀ (pos:Pos) (pins:Pns) (s:fq) (σ:St) (H:Hp) (Q:List V->Hp->Prop),Inv X pins σ H s->t σ H Q->wpAny (model X.prog X.w) X.A (spliced (backTo pos (starEach es X.env))) (AP X pins σ Q) X.xe s
instance {X:Cx} {es:List Expr} {t:TA}:CoeFun (PA X es t) (λ_=>∀ (pos:Pos) (pins:Pns) (s:fq) (σ:St) (H:Hp) (Q:List V->Hp->Prop),Inv X pins σ H s->t σ H Q->wpAny (model X.prog X.w) X.A (spliced (backTo pos (starEach es X.env))) (AP X pins σ Q) X.xe s):=⟨λh=>h.run⟩
structure PS (X:Cx) (st:Stmt) (t:TS):Prop where
 run:∀ (pins:Pns) (s:fq) (σ:St) (H:Hp) (D:Ends),Inv X pins σ H s->t D σ H->wpAny (model X.prog X.w) X.A (exec st X.env) (SP X pins D) X.xe s
instance {X:Cx} {st:Stmt} {t:TS}:CoeFun (PS X st t) (λ_=>∀ (pins:Pns) (s:fq) (σ:St) (H:Hp) (D:Ends),Inv X pins σ H s->t D σ H->wpAny (model X.prog X.w) X.A (exec st X.env) (SP X pins D) X.xe s):=⟨λh=>h.run⟩
structure PSs (X:Cx) (st:List Stmt) (t:TS):Prop where
 run:∀ (pins:Pns) (s:fq) (σ:St) (H:Hp) (D:Ends),Inv X pins σ H s->t D σ H->wpAny (model X.prog X.w) X.A (execs st X.env) (SP X pins D) X.xe s
instance {X:Cx} {st:List Stmt} {t:TS}:CoeFun (PSs X st t) (λ_=>∀ (pins:Pns) (s:fq) (σ:St) (H:Hp) (D:Ends),Inv X pins σ H s->t D σ H->wpAny (model X.prog X.w) X.A (execs st X.env) (SP X pins D) X.xe s):=⟨λh=>h.run⟩
variable {A:fD} {E:fj->fq->Prop}
theorem thn {t:Sem α} {Q b:α->fq->Prop} {M:Model} (h:wpAny M A t Q E s) (c:∀ a s,Q a s->b a s):wpAny M A t b E s:=g7 h c λ_ _ x=>x
variable {σ:St} {pos:Pos} {Q:fj->fq->Prop} {ta:TE} {c:Expr}
section
def qeg (i:Nat):TE:=λσ H Q=>∃ v,σ[i]?=ff (ff v)/\Q v H
def tC (v:V):TE:=λ_ H Q=>Q v H
abbrev Dbg (x:Str):Prop:=(x == ("__debug__":Str))=fk
abbrev Cdk (x:Str):Prop:=(x == ("__classdict__":Str))=fk
theorem yD (j:X.N[i]?=ff x) (f:Vis X.env.scope x) (hd:Dbg x:=by decide) (d:Cdk x:=by decide):PE X (.Name x pos) (qeg i):=by
 refine ⟨?_⟩;intro pins s σ H Q I h;obtain ⟨v,e,h⟩:=h;obtain ⟨m,n,hl⟩:=I.loc;obtain ⟨u,r,l⟩:=hl i x v j e f;have fin:EP X pins σ Q u s:=⟨v,H,I,r,h⟩
 rcases l with ⟨k,g⟩ | ⟨k,c,b,a⟩
 ·exact wpAny_Name (wpAny_loadName_local I.ok.kind k n g fin) hd
 ·rcases k with k | k;·exact wpAny_Name (wpAny_loadName_cell I.ok.kind k b a fin) hd
  ·exact wpAny_Name (wpAny_loadName_free I.ok.kind k b a fin d) hd
theorem qaU {i j pos}:PE X (.Constant (.int i) j pos) (tC (.int i)):=⟨λ_ _ _ H _ I h=>wpAny_Constant_int ⟨.int i,H,I.tok _,⟨_,rfl⟩,h⟩⟩
theorem qcQ {b j pos}:PE X (.Constant (.bool b) j pos) (tC (.bl b)):=⟨λ_ _ _ H _ I h=>Constant_bool ⟨.bl b,H,I,rfl,h⟩⟩
theorem qaV {j pos}:PE X (.Constant .none j pos) (tC .non):=⟨λ_ _ _ H _ I h=>Constant_none ⟨.non,H,I,rfl,h⟩⟩
theorem Zd {x j pos}:PE X (.Constant (.str x) j pos) (tC (.str x)):=⟨λ_ _ _ H _ I h=>Calls.Constant_str ⟨.str x,H,I.tok _,⟨_,rfl⟩,h⟩⟩
def Gl (X:Cx) (x:Str):Prop:=X.env.kindOf x=ff .globalImplicit
theorem zb {E:fj->fq->Prop} {pos:Pos} (I:Inv X pins σ H s) (hg:Gl X x) (c:X.mg x=ff u) (h:Q u s)
  (hd:Dbg x:=by decide):wpAny (model X.prog X.w) X.A (eval (.Name x pos) X.env) Q E s:=
 Calls.Name_function_global I.ok.kind hg (Calls.loadGlobal_global (by rw [I.ok.glob]; exact I.mod.glob.keeps I.bk) c h) hd
theorem xJ {E:fj->fq->Prop} {pos:Pos} (I:Inv X pins σ H s) (hg:Gl X x) (m:X.mg x=fg) (c:bootBuiltins x=ff u) (h:Q u s)
  (n:x ≠ "__name__":=by decide) (hd:Dbg x:=by decide):wpAny (model X.prog X.w) X.A (eval (.Name x pos) X.env) Q E s:=by
 obtain ⟨mb,h1,h2⟩:=I.mod.blt;exact Calls.Name_function_global I.ok.kind hg (Calls.loadGlobal_builtin (by rw [I.ok.glob]; exact I.mod.glob.keeps I.bk) m (by rw [I.ok.blt]; exact h1.keeps I.bk) ((h2 x n).trans c) h) hd
theorem ZR (hg:Gl X x) (c:X.mg x=ff u) (r:RelV v u) (hd:Dbg x:=by decide):PE X (.Name x pos) (tC v):=⟨λ_ _ _ H _ I h=>zb I hg c ⟨v,H,I,r,h⟩ hd⟩
theorem ZT (hg:Gl X x) (m:X.mg x=fg) (c:bootBuiltins x=ff u) (r:RelV v u) (n:x ≠ "__name__":=by decide) (hd:Dbg x:=by decide):PE X (.Name x pos) (tC v):=⟨λ_ _ _ H _ I h=>xJ I hg m c ⟨v,H,I,r,h⟩ n hd⟩
variable {a b:Expr} {tb:TE}
variable {tA tB':TT} {rest:List Expr}
def qeh (t u:TT):TT:=λσ H Q=>t σ H λc H1=>if c=fm then u σ H1 Q else Q fk H1
def tOr (t u:TT):TT:=λσ H Q=>t σ H λc H1=>if c=fm then Q fm H1 else u σ H1 Q
def qei (t:TT):TT:=λσ H Q=>t σ H λc H1=>Q (!c) H1
theorem ZU (g:PT X a tA):PW X (.BoolOp .And [a] pos) tA:=by
 refine ⟨?_⟩;intro w pins s σ H Q I h;refine isTrue_and (thn (g pins s σ H Q I h) λc s1 e=>?_);cases c with
 | true=>exact isTrue_and_nil e
 | false=>exact e
theorem qaW (g:PT X a tA):PW X (.BoolOp .Or [a] pos) tA:=by
 refine ⟨?_⟩;intro w pins s σ H Q I h;refine isTrue_or (thn (g pins s σ H Q I h) λc s1 e=>?_);cases c with
 | false=>exact isTrue_or_nil e
 | true=>exact e
theorem qaX (g:PT X a tA) (e:PW X (.BoolOp .And (b::rest) pos) tB'):PW X (.BoolOp .And (a::b::rest) pos) (qeh tA tB'):=by
 refine ⟨?_⟩;intro w pins s σ H Q I h;refine isTrue_and (thn (g pins s σ H _ I h) λc s1 ⟨H1,d,q⟩=>?_);cases c with
 | true=>exact e w pins s1 σ H1 Q d q
 | false=>exact ⟨H1,d,q⟩
theorem qcR (g:PT X a tA) (e:PW X (.BoolOp .Or (b::rest) pos) tB'):PW X (.BoolOp .Or (a::b::rest) pos) (tOr tA tB'):=by
 refine ⟨?_⟩;intro w pins s σ H Q I h;refine isTrue_or (thn (g pins s σ H _ I h) λc s1 ⟨H1,d,q⟩=>?_);cases c with
 | true=>exact ⟨H1,d,q⟩
 | false=>exact e w pins s1 σ H1 Q d q
theorem qaY (g:PT X a tA):PT X (.UnaryOp .Not a pos) (qei tA):=by refine ⟨?_⟩;intro pins s σ H Q I h;exact isTrue_not (g pins s σ H (λc H1=>Q (!c) H1) I h)
def qcS (ta tb:TE):TE:=λσ H Q=>ta σ H λx H1=>∃ c,x=.bl c/\if c=fm then tb σ H1 Q else Q (.bl fk) H1
def qej (ta tb:TE):TE:=λσ H Q=>ta σ H λx H1=>∃ c,x=.bl c/\if c=fm then Q (.bl fm) H1 else tb σ H1 Q
theorem qaZ {op} {t:TE} (h:PE X a t):PE X (.BoolOp op [a] pos) t:=⟨λpins s σ H Q I w=>BoolOp_one (h pins s σ H Q I w)⟩
theorem qa0 (g:PE X a ta) (e:PE X (.BoolOp .And (b::rest) pos) tb):PE X (.BoolOp .And (a::b::rest) pos) (qcS ta tb):=by
 refine ⟨?_⟩;intro pins s σ H Q I h;refine BoolOp_and (thn (g pins s σ H _ I h) λv s1 ⟨x,H1,d,r1,q⟩=>?_);obtain ⟨c,rfl,q⟩:=q;cases r1;refine fJ ?_;cases c with
 | true=>exact e pins s1 σ H1 Q d q
 | false=>exact ⟨.bl fk,H1,d,rfl,q⟩
theorem qcT (g:PE X a ta) (e:PE X (.BoolOp .Or (b::rest) pos) tb):PE X (.BoolOp .Or (a::b::rest) pos) (qej ta tb):=by
 refine ⟨?_⟩;intro pins s σ H Q I h;refine BoolOp_or (thn (g pins s σ H _ I h) λv s1 ⟨x,H1,d,r1,q⟩=>?_);obtain ⟨c,rfl,q⟩:=q;cases r1;refine fJ ?_;cases c with
 | false=>exact e pins s1 σ H1 Q d q
 | true=>exact ⟨.bl fm,H1,d,rfl,q⟩
def tIf (t:TT) (ta tb:TE):TE:=λσ H Q=>t σ H λc H1=>if c=fm then ta σ H1 Q else tb σ H1 Q
theorem Yt (f:PT X c tA) (i:PE X a ta) (g:PE X b tb):PE X (.IfExp c a b pos) (tIf tA ta tb):=by
 refine ⟨?_⟩;intro pins s σ H Q I h;refine wpAny_IfExp (thn (f pins s σ H _ I h) λd s1 ⟨H1,e,q⟩=>?_);cases d with
 | true=>exact i pins s1 σ H1 Q e q
 | false=>exact g pins s1 σ H1 Q e q
end
def SqL (K:Frag) (H:Hp) (a:Addr) (xs:List V):Prop:=
 Rd H a (.lst xs) \/
  ∃ (o:Obj) (its:Array fj) (n:Nat),K.lookup a=ff o/\o.cls=.type "list"/\o.dict=fg/\o.data=.seq its n/\its.size<=sizeLine/\Vals xs its.toList
def SqT (K:Frag) (H:Hp) (a:Addr) (xs:List V):Prop:=
 Rd H a (.tup xs) \/
  ∃ (o:Obj) (its:Array fj) (n:Nat),K.lookup a=ff o/\(o.cls=.type "tuple"/\o.dict=fg)/\o.data=.seq its n/\its.size<=sizeLine/\Vals xs its.toList
noncomputable def qek:fj->Option V
 | .none=>ff .non
 | .bool b=>ff (.bl b)
 | .int i _=>ff (.int i)
 | .str x _=>ff (.str x)
 | .bytes b _=>ff (.byt b)
 | .float b _=>ff (.flt b)
 | .ref a=>ff (.ref a)
 | .type n=>ff (.ty n)
 | _=>fg
theorem RelV.abs {x:V} (r:RelV x u):qek u=ff x:=by
 cases x with
 | non=>cases r; rfl
 | bl _=>cases r; rfl
 | int _=>obtain ⟨t,rfl⟩:=r; rfl
 | str _=>obtain ⟨t,rfl⟩:=r; rfl
 | byt _=>obtain ⟨t,rfl⟩:=r; rfl
 | flt _=>obtain ⟨t,rfl⟩:=r; rfl
 | ref _=>cases r; rfl
 | ty _=>cases r; rfl
theorem RelV.inj {x y:V} (r:RelV x u) (q:RelV y u):x=y:=aI.inj (r.abs.symm.trans q.abs)
variable {ys:List V}
theorem Vals.inj (h:Vals xs us) (h':Vals ys us):xs=ys:=by
 induction h generalizing ys with
 | nil=>cases h'; rfl
 | cons r t j=>
  cases h' with
  | cons r' t'=>rw [r.inj r',j t']
variable {K:Frag}
section
theorem SqT.of (h:H a=ff (.tup xs)):SqT K H a xs:=.inl (.inl h)
theorem Inv.list (I:Inv X pins σ H s) (h:SqL X.K H a xs):∃ its:List fj,Vals xs its/\PlainL s.heap a its.toArray/\xs.length<=sizeLine:=by
 rcases h with h | ⟨o,its,n,hk,hc,hd,hs,hz,r⟩
 ·obtain ⟨z,its,n,r,e⟩:=h.ok I.hok;exact ⟨its,r,⟨_,n,e,rfl,rfl,rfl⟩,z⟩
 ·refine ⟨its.toList,r,⟨o,n,I.kIn a o hk,hc,hd,by simpa using hs⟩,?_⟩;have e:=r.length;simp only [ay] at e;omega
theorem Inv.tuple (I:Inv X pins σ H s) (h:SqT X.K H a xs):∃ its:List fj,Vals xs its/\IsTup s.heap a its.toArray/\xs.length<=sizeLine:=by
 rcases h with h | ⟨o,its,n,hk,hc,hs,hz,r⟩
 ·obtain ⟨⟨z,_⟩,its,r,p⟩:=h.ok I.hok;exact ⟨its,r,p,z⟩
 ·refine ⟨its.toList,r,⟨o,I.kIn a o hk,hc.1,n,by simpa using hs⟩,?_⟩;have e:=r.length;simp only [ay] at e;omega
theorem Inv.tupleN (I:Inv X pins σ H s) (h:SqT X.K H a xs):∃ o,s.heap.get? a=ff o/\o.dict=none:=by
 rcases h with h | ⟨o,its,n,hk,hc,hs,hz,r⟩
 ·obtain ⟨⟨z,w⟩,its,r,p⟩:=h.ok I.hok;exact w
 ·exact ⟨o,I.kIn a o hk,hc.2⟩
theorem Inv.list_inj (I:Inv X pins σ H s) (h:SqL X.K H a xs) (h':SqL X.K H a ys):xs=ys:=by
 obtain ⟨its,r,⟨o,n,e,_,_,d⟩,_⟩:=I.list h;obtain ⟨its',r',⟨o',c,b,_,_,d'⟩,_⟩:=I.list h';rw [e] at b; cases b;rw [d] at d';injection d' with d1 _;have:its=its':=by simpa using congrArg Array.toList d1
 subst this;exact r.inj r'
theorem Inv.tuple_inj (I:Inv X pins σ H s) (h:SqT X.K H a xs) (h':SqT X.K H a ys):xs=ys:=by
 obtain ⟨its,r,⟨o,e,_,n,d⟩,_⟩:=I.tuple h;obtain ⟨its',r',⟨o',b,_,c,d'⟩,_⟩:=I.tuple h';rw [e] at b; cases b;rw [d] at d';injection d' with d1 _;have:its=its':=by simpa using congrArg Array.toList d1
 subst this;exact r.inj r'
end
variable {te:TE} {tc:TT}
section
variable {st:Stmt} {rest:List Stmt} {t u:TS}
def qcU:TS:=λD σ H=>D.nx σ H
def qel (t u:TS):TS:=λD σ H=>t { D with nx:=u D } σ H
theorem ZV:PSs X [] qcU:=⟨λ_ _ σ H _ I h=>hV ⟨σ,H,I,h⟩⟩
theorem Yu (h1:PS X st t) (h2:PSs X rest u):PSs X (st::rest) (qel t u):=by
 refine ⟨?_⟩;intro pins s σ H D I h;refine wpAny_execs_cons (thn (h1 pins s σ H { D with nx:=u D } I h) λf s1 q=>?_);cases f with
 | next=>obtain ⟨σ',H',b,q⟩:=q;exact h2 pins s1 σ' H' D b q
 | ret v=>exact q
 | brk=>exact q
 | cont=>exact q
theorem ZW (h1:PS X st t):PSs X [st] t:=by
 refine ⟨?_⟩;intro pins s σ H D I h;refine wpAny_execs_cons (thn (h1 pins s σ H D I h) λf s1 q=>?_);cases f with
 | next=>exact hV q
 | ret v=>exact q
 | brk=>exact q
 | cont=>exact q
theorem Inv.quiet (I:Inv X pins σ H s):interactive X.env=false:=by simp [interactive,I.ok.kind]
def qcV (te:TE):TS:=λD σ H=>te σ H λ_ H1=>D.nx σ H1
theorem ZX (i:PE X e te) (hs:swapsWith e fg pos.line X.env=pure false:=by rfl):PS X (.Expr e pos) (qcV te):=by refine ⟨?_⟩;intro pins s σ H D I h;exact wpAny_Expr_any (thn (i pins s σ H _ I h) λv s1 ⟨x,H1,d,r1,q⟩=>⟨σ,H1,d,q⟩) I.quiet hs
def qem (te:TE):TS:=λD σ H=>te σ H D.rt
theorem qa1 (i:PE X e te):PS X (.Return (ff e) pos) (qem te):=by refine ⟨?_⟩;intro pins s σ H D I h;exact wpAny_Return_some (thn (i pins s σ H _ I h) λv s1 ⟨x,H1,d,r1,q⟩=>⟨x,σ,H1,d,r1,q⟩)
def qen (c:TT) (t u:TS):TS:=λD σ H=>c σ H λb H1=>if b=fm then t D σ H1 else u D σ H1
theorem qcW {a b:List Stmt} (f:PT X c tc) (i:PSs X a t) (g:PSs X b u):PS X (.If c a b pos) (qen tc t u):=by
 refine ⟨?_⟩;intro pins s σ H D I h;refine wpAny_If (thn (f pins s σ H _ I h) λd s1 ⟨H1,e,q⟩=>?_);cases d with
 | true=>exact i pins s1 σ H1 D e q
 | false=>exact g pins s1 σ H1 D e q
end
abbrev TG:=V->St->Hp->(St->Hp->Prop)->Prop
abbrev TGs:=List V->St->Hp->(St->Hp->Prop)->Prop
structure PG (X:Cx) (target:Expr) (t:TG):Prop where
 run:∀ (pins:Pns) (s:fq) (σ:St) (H:Hp) (v:V) (u:fj) (Q:St->Hp->Prop),Inv X pins σ H s->RelV v u->t v σ H Q ->wpAny (model X.prog X.w) X.A (assign target X.env u) (λ_ s'=>∃ σ' H',Inv X pins σ' H' s'/\Q σ' H') X.xe s
instance {X:Cx} {target:Expr} {t:TG}:CoeFun (PG X target t) (λ_=>∀ (pins:Pns) (s:fq) (σ:St) (H:Hp) (v:V) (u:fj) (Q:St->Hp->Prop),Inv X pins σ H s->RelV v u->t v σ H Q ->wpAny (model X.prog X.w) X.A (assign target X.env u) (λ_ s'=>∃ σ' H',Inv X pins σ' H' s'/\Q σ' H') X.xe s):=⟨λh=>h.run⟩
structure PGs (X:Cx) (ts:List Expr) (t:TGs):Prop where
 run:∀ (pins:Pns) (s:fq) (σ:St) (H:Hp) (vs:List V) (us:List fj) (Q:St->Hp->Prop),Inv X pins σ H s->Vals vs us->t vs σ H Q ->wpAny (model X.prog X.w) X.A (assignInOrder ((assignEach ts X.env).map (·.2)) us) (λ_ s'=>∃ σ' H',Inv X pins σ' H' s'/\Q σ' H') X.xe s
instance {X:Cx} {ts:List Expr} {t:TGs}:CoeFun (PGs X ts t) (λ_=>∀ (pins:Pns) (s:fq) (σ:St) (H:Hp) (vs:List V) (us:List fj) (Q:St->Hp->Prop),Inv X pins σ H s->Vals vs us->t vs σ H Q ->wpAny (model X.prog X.w) X.A (assignInOrder ((assignEach ts X.env).map (·.2)) us) (λ_ s'=>∃ σ' H',Inv X pins σ' H' s'/\Q σ' H') X.xe s):=⟨λh=>h.run⟩
variable {es:List Expr}
section
def qa2 (i:Nat):TG:=λv σ H Q=>Q (σ.set i (ff v)) H
theorem ZY (a:X.N.Nodup) (hi:X.N[i]?=ff x) (hx:Loc X.env.scope x) (f:X.fn x=fm\/X.env.scope.names.lookup x=ff .local:=by first | exact .inl rfl | exact .inr rfl | assumption):PG X (.Name x pos) (qa2 i):=by refine ⟨?_⟩;intro pins s σ H v u Q I r h;exact wpAny_assign_Name (JN I a hi hx r (λs' b=>⟨_,H,b,h⟩) f)
def qeo:TGs:=λvs σ H Q=>vs=[]/\Q σ H
def qcX (t:TG) (u:TGs):TGs:=λvs σ H Q=>∃ v r,vs=v::r/\t v σ H λσ' H'=>u r σ' H' Q
theorem ZZ:PGs X [] qeo:=by refine ⟨?_⟩;intro pins s σ H vs us Q I r h;obtain ⟨e,h⟩:=h;subst e;cases r;exact assignInOrder_nil ⟨σ,H,I,h⟩
theorem Yv {t:TG} {u:TGs} (h1:PG X e t) (h2:PGs X es u)
  (hs:(assignEach (e::es) X.env).map (·.2)=assign e X.env::(assignEach es X.env).map (·.2):=by rfl):PGs X (e::es) (qcX t u):=by
 refine ⟨?_⟩;intro pins s σ H vs us Q I r h;obtain ⟨v,vr,e1,h⟩:=h;subst e1;cases r with
 | cons r a=>rw [hs];refine assignInOrder_cons (thn (h1 pins s σ H _ _ _ I r h) λ_ s1 ⟨σ1,H1,d,q⟩=>?_);exact h2 pins s1 σ1 H1 _ _ Q d a q
def qep (K:Frag) (n:Nat) (t:TGs):TG:=λv σ H Q=>∃ a xs,v=.ref a/\SqT K H a xs/\xs.length=n/\t xs σ H Q
theorem qa3 {k:Nat} {t:TGs} {n:Nat} (g:X.calm=fm) (h:PGs X es t)
  (f:(assignEach es X.env).length=n:=by rfl) (c:(assignEach es X.env).findIdx? (·.1)=none:=by rfl):PG X (.Tuple es k pos) (qep X.K n t):=by
 refine ⟨?_⟩;intro pins s σ H v u Q I r w;obtain ⟨a,xs,e1,hq,hl,w⟩:=w;subst e1;cases r;obtain ⟨its,d,ht,z⟩:=I.tuple hq;refine assign_Tuple_tuple (I.ok.hd g) ht (by simp [f,<-hl,d.length]) c λh' hx=>?_;have i:Inv X pins σ H { s with heap:=h' }:=I.kept (t':=s.toks) λb o e=>hx b o (aF (au e)) e;exact h pins _ σ H xs _ Q i (by simpa using d) w
def qeq (te:TE) (g:TG):TS:=λD σ H=>te σ H λx H1=>g x σ H1 D.nx
theorem Ze {pos':Pos} (b:X.N.Nodup) (hi:X.N[i]?=ff x) (hx:Loc X.env.scope x) (a:PE X e te) (hs:swapsWith e (ff (.Name x pos')) pos.line X.env=pure false:=by rfl) (f:X.fn x=fm\/X.env.scope.names.lookup x=ff .local:=by first | exact .inl rfl | exact .inr rfl | assumption):PS X (.Assign [.Name x pos'] e pos) (qeq te (qa2 i)):=by refine ⟨?_⟩;intro pins s σ H D I h;refine wpAny_Assign_Name (thn (a pins s σ H _ I h) λv s1 ⟨y,H1,d,r1,q⟩=>?_) hs;exact JN d b hi hx r1 (λs2 c=>⟨_,H1,c,q⟩) f
end
variable {tb:TS} {body:List Stmt}
section
def qa4 (c:TT) (tb:TS):TS:=λD σ H=>∃ W:Nat->St->Hp->Prop,(∃ m,W m σ H)/\∀ m σ H,W m σ H ->c σ H λb H1=>if b=fm then ∃ N:St->Hp->Prop,(∀ σ' H',N σ' H'->∃ f,f < m/\W f σ' H')/\tb { D with nx:=N,ct:=N,bk:=D.nx } σ H1 else D.nx σ H1
theorem Yw (hp:PassesOwn (model X.prog X.w) X.A X.env X.xe) (t:PT X c tc) (u:PSs X body tb):PS X (.While c body [] pos) (qa4 tc tb):=by
 refine ⟨?_⟩;intro pins s σ H D I h;obtain ⟨W,⟨m0,r⟩,turn⟩:=h;refine wpAny_While (codeAny_whileLoop (λn s'=>∃ σ' H',Inv X pins σ' H' s'/\W n σ' H') ?_ m0 ⟨σ,H,I,r⟩);rintro n s1 ⟨σ1,H1,x,p⟩;refine fQ hp (thn (t pins s1 σ1 H1 _ x (turn n σ1 H1 p)) λb s2 ⟨H2,o,e⟩=>?_);cases b with
 | true=>
  obtain ⟨N,l,e⟩:=e;rw [if_pos rfl];refine fQ hp (thn (u pins s2 σ1 H2 _ o e) λf s3 q=>?_);cases f with
  | next=>obtain ⟨a,d,k,i⟩:=q;obtain ⟨m,j,g⟩:=l a d i;exact ⟨m,j,a,d,k,g⟩
  | cont=>obtain ⟨a,d,k,i⟩:=q;obtain ⟨m,j,g⟩:=l a d i;exact ⟨m,j,a,d,k,g⟩
  | brk=>exact q
  | ret v=>exact q
 | false=>rw [if_neg b8];exact hV ⟨σ1,H2,o,e⟩
end
structure It where
 go:Nat->Hp->Prop
 yld:Nat->Hp->V->Hp->Prop
 stop:Nat->Hp->Prop
def QL (X:Cx) (pins:Pns) (H:Hp) (b:Addr):Prop:=
 H b=fg/\b≠X.env.locals/\b∉X.fs/\(b∈X.ex\/X.s₀.heap.objs.size<=b)/\(∀ x c,X.env.cells.lookup x=ff c->c≠b)/\∀ p∈X.pn++pins,p.1≠b
theorem Inv.fpOk (I:Inv X pins σ H s) (d:s.heap.objs.size<=b) (n:H' b=fg):QL X pins H' b:=by
 refine ⟨n,d4 (aC I.lt d),I.nofs d,.inr (bu I.sz d),λx c e z=>?_,λp hp z=>?_⟩;·obtain ⟨v,q⟩:=I.cell x c e;exact absurd (aC q.lt (by rw [z]; exact d)) (aX _)
 ·exact absurd (aC (au (I.pin p hp).1) (by rw [z]; exact d)) (aX _)
structure Turn (P:fz) (w:fA) (K:Frag) (tg:Expr) (J:It) (fp:List Addr) (it:Addr) (tn:Nat->Heap->Prop):Prop where
 mem:it∈fp
 obj:∀ i h,tn i h->∀ b∈fp,∃ o,h.get? b=ff o/\∀ v,o.data≠.cell v
 keep:∀ i h h',tn i h->(∀ b∈fp,∀ o,h.get? b=ff o->h'.get? b=ff o)->tn i h'
 item:∀ (X:Cx),X.prog=P->X.w=w->X.K=K->X.calm=fm->∀ (i:Nat) (pins:Pns) (s:fq) (σ:St) (H:Hp) (E:fj->fq->Prop),Inv X pins σ H s->(∀ b∈fp,QL X pins H b)->tn i s.heap->J.go i H ->wpAny (model P w) X.A (pyNext (.ref it)) (λr s1=>∃ u,r=ff u /\
   wpAny (model P w) X.A (letOwnedTupleGo tg (.ref it) u) (λ_ s2=>∃ x H',Inv X pins σ H' s2/\RelV x u/\J.yld i H x H'/\tn (i+1) s2.heap/\∀ b∈fp,H' b=fg) E s1) E s
 done:∀ (X:Cx),X.prog=P->X.w=w->X.K=K->X.calm=fm->∀ (i:Nat) (pins:Pns) (s:fq) (σ:St) (H:Hp) (E:fj->fq->Prop),Inv X pins σ H s->(∀ b∈fp,QL X pins H b)->tn i s.heap->J.stop i H ->wpAny (model P w) X.A (pyNext (.ref it)) (λr s1=>r=fg/\Inv X pins σ H s1) E s
 self:∀ (A:fD) (i:Nat) (s:fq) (Q:fj->fq->Prop) (E:fj->fq->Prop),tn i s.heap->Q (.ref it) s->wpAny (model P w) A (pyIter (.ref it)) Q E s
abbrev TI:=St->Hp->(It->Hp->Prop)->Prop
def PIE (X:Cx) (pins:Pns) (σ:St) (tg:Expr) (R:It->Hp->Prop) (i:fj) (s2:fq):Prop:=
 ∃ (it:Addr) (fp:List Addr) (tn:Nat->Heap->Prop) (J:It) (H':Hp),i=.ref it/\Inv X pins σ H' s2/\Turn X.prog X.w X.K tg J fp it tn/\tn 0 s2.heap/\(∀ b∈fp,QL X pins H' b)/\R J H'
structure PI (X:Cx) (tg iter:Expr) (wi:TI):Prop where
 run:∀ (pins:Pns) (s:fq) (σ:St) (H:Hp) (R:It->Hp->Prop),Inv X pins σ H s->wi σ H R ->wpAny (model X.prog X.w) X.A (eval iter X.env) (λv s1=>wpAny (model X.prog X.w) X.A (pyIter v) (PIE X pins σ tg R) X.xe s1) X.xe s
instance {X:Cx} {tg iter:Expr} {wi:TI}:CoeFun (PI X tg iter wi) (λ_=>∀ (pins:Pns) (s:fq) (σ:St) (H:Hp) (R:It->Hp->Prop),Inv X pins σ H s->wi σ H R ->wpAny (model X.prog X.w) X.A (eval iter X.env) (λv s1=>wpAny (model X.prog X.w) X.A (pyIter v) (PIE X pins σ tg R) X.xe s1) X.xe s):=⟨λh=>h.run⟩
theorem Yx {M:Model} {A:fD} {E:fj->fq->Prop} {tg:Expr} {u:fj} {o:Obj} {n:String} {vs:Array fj} {Q:Unit->fq->Prop} (l:s.heap.get? it=ff o) (d:o.cls=.type n) (hd:o.data=.fields vs)
    (a:["enumerate", "zip", "dict_itemiterator", "dict_reverseitemiterator", "odict_iterator", "itertools.zip_longest", "itertools.pairwise"].contains n=fk) (c:Q () s):wpAny M A (letOwnedTupleGo tg (.ref it) u) Q E s:=by
  unfold letOwnedTupleGo;cases tg <;> first
    | exact fy c
    | (cases u <;> first
        | exact fy c
        | (refine fh (wpAny_load l ?_)
           rw [d,hd];show wpAny M A (if (["enumerate", "zip", "dict_itemiterator", "dict_reverseitemiterator", "odict_iterator", "itertools.zip_longest", "itertools.pairwise"].contains n&&vs[0]? == ff (rawInt _))=fm then _ else _) Q E s;rw [if_neg (by intro h; rw [a,Bool.false_and] at h; cases h)];exact fy c))
noncomputable def Itl (K:Frag) (a:Addr):It:=
 ⟨λi H=>∃ xs x,SqL K H a xs/\xs[i]?=ff x,λi H x H'=>H'=H/\∀ xs,SqL K H a xs->xs[i]?=ff x,λi H=>∃ xs,SqL K H a xs/\xs.length<=i⟩
noncomputable def Itt (K:Frag) (a:Addr):It:=
 ⟨λi H=>∃ xs x,SqT K H a xs/\xs[i]?=ff x,λi H x H'=>H'=H/\∀ xs,SqT K H a xs->xs[i]?=ff x,λi H=>∃ xs,SqT K H a xs/\xs.length<=i⟩
noncomputable def Itr (lo:Int) (n:Nat):It:=⟨λi _=>i < n,λi H x H'=>H'=H/\x=.int (lo+i),λi _=>n<=i⟩
variable {tg:Expr}
theorem VN (a it:Addr):Turn P w K tg (Itl K a) [it] it (λi h=>h.IsListIter it a i) where
 mem:=by simp
 obj:=λi h st b f=>by
  have e:b=it:=by simpa using f
  subst e;obtain ⟨o,e,c,d⟩:=st;exact ⟨o,e,λv z=>by rw [d] at z; cases z⟩
 keep:=λi h h' st k=>st.at λo e=>k it (by simp) o e
 item:=by intro X m l n y i pins s σ H E I j st hg;subst m l n;obtain ⟨xs,x,hq,hx⟩:=hg;obtain ⟨its,r,p,C⟩:=I.list hq;obtain ⟨u,G,B⟩:=r.get hx;obtain ⟨f0,f1,f2,t,f4,q⟩:=j it (by simp);refine wpAny_pyNext_list_item st p.isList (x:=u) (by simpa using G) λh' g A=>?_;have L:Inv X pins σ H { s with heap:=h' }:=I.turned (t':=s.toks) (λb o f e=>(A.2 b f).trans e) f0 f1 t f4 q;obtain ⟨o,e,c,d⟩:=id g;exact ⟨u,rfl,Yx (s:={ s with heap:=h' }) e c d (by decide) ⟨x,H,L,B,⟨rfl,λys D=>by rw [I.list_inj D hq]; exact hx⟩,g,λb f=>(j b f).1⟩⟩
 done:=by intro X m l n y i pins s σ H E I j st hg;subst m l n;obtain ⟨xs,hq,hx⟩:=hg;obtain ⟨its,r,p,C⟩:=I.list hq;obtain ⟨f0,f1,f2,t,f4,q⟩:=j it (by simp);have hl:=r.length;exact wpAny_pyNext_list_end (I.ok.hd y) st p.isList (by simp; omega) λh' J=>⟨rfl,I.turned (t':=s.toks) (λb o f e=>J b o f e) f0 f1 t f4 q⟩
 self:=λ_ _ _ _ _ st h=>wpAny_pyIter_listiter st h
theorem Va (a it:Addr):Turn P w K tg (Itt K a) [it] it (λi h=>h.IsTupleIter it a i) where
 mem:=by simp
 obj:=λi h st b f=>by
  have e:b=it:=by simpa using f
  subst e;obtain ⟨o,e,c,d⟩:=st;exact ⟨o,e,λv z=>by rw [d] at z; cases z⟩
 keep:=λi h h' st k=>st.at λo e=>k it (by simp) o e
 item:=by intro X m l n y i pins s σ H E I j st hg;subst m l n;obtain ⟨xs,x,hq,hx⟩:=hg;obtain ⟨its,r,p,C⟩:=I.tuple hq;obtain ⟨u,G,B⟩:=r.get hx;obtain ⟨f0,f1,f2,t,f4,q⟩:=j it (by simp);refine wpAny_pyNext_tuple_item st (show s.heap.IsTuple a its.toArray from p) (x:=u) (by simpa using G) λh' g A=>?_;have L:Inv X pins σ H { s with heap:=h' }:=I.turned (t':=s.toks) (λb o f e=>(A.2 b f).trans e) f0 f1 t f4 q;obtain ⟨o,e,c,d⟩:=id g;exact ⟨u,rfl,Yx (s:={ s with heap:=h' }) e c d (by decide) ⟨x,H,L,B,⟨rfl,λys D=>by rw [I.tuple_inj D hq]; exact hx⟩,g,λb f=>(j b f).1⟩⟩
 done:=by intro X m l n y i pins s σ H E I j st hg;subst m l n;obtain ⟨xs,hq,hx⟩:=hg;obtain ⟨its,r,p,C⟩:=I.tuple hq;obtain ⟨f0,f1,f2,t,f4,q⟩:=j it (by simp);have hl:=r.length;exact wpAny_pyNext_tuple_end (I.ok.hd y) st (show s.heap.IsTuple a its.toArray from p) (by simp; omega) λh' J=>⟨rfl,I.turned (t':=s.toks) (λb o f e=>J b o f e) f0 f1 t f4 q⟩
 self:=λ_ _ _ _ _ st h=>wpAny_pyIter_tupleiter st h
theorem Vb (it:Addr) (lo:Int) (n:Nat):Turn P w K tg (Itr lo n) [it] it (λi h=>IsRangeIter h it (lo+(i:Nat) * 1) ((n:Int) - (i:Nat)) 1) where
 mem:=by simp
 obj:=λi h st b d=>by
  have e:b=it:=by simpa using d
  subst e;exact ⟨_,st,λv z=>by have p:Data.fields _=Data.cell v:=z;cases p⟩
 keep:=λi h h' st k=>k it (by simp) _ st
 item:=by intro X m a j c i pins s σ H E I f st hg;subst m a j;obtain ⟨f0,f1,f2,l,f4,q⟩:=f it (by simp);have W:=Walks.range (prog:=X.prog) (w:=X.w) (I.ok.hd c) it lo 1 n;refine W.item i s _ _ hg st λv h' tk u g r=>?_;obtain ⟨t,rfl⟩:=u;have x:Inv X pins σ H { s with heap:=h',toks:=tk }:=I.turned (λb o d e=>r b o (by simpa using d) e) f0 f1 l f4 q;refine ⟨_,rfl,Yx (s:={ s with heap:=h',toks:=tk }) (n := "range_iterator") g rfl rfl (by decide) ⟨.int (lo+i),H,x,⟨t,?_⟩,⟨rfl,rfl⟩,g,λb d=>(f b d).1⟩⟩;rw [Int.mul_one]
 done:=by intro X m a j c i pins s σ H E I f st hg;subst m a j;obtain ⟨f0,f1,f2,l,f4,q⟩:=f it (by simp);exact wpAny_pyNext_range_end (I.ok.hd c) st (by have:n<=i:=hg; omega) λh' J=>⟨rfl,I.turned (t':=s.toks) (λb o d e=>J b o d e) f0 f1 l f4 q⟩
 self:=λ_ _ _ _ _ st h=>wpAny_pyIter_rangeiter st h
variable {p:Pos} {fp:List Addr}
section
theorem JO {R:It->Hp->Prop} {E:fj->fq->Prop} {lo hi:Int} {t u v:Tok} {tk:Nat} (I:Inv X pins σ H s) (h1:-(2 ^ 62)<=lo) (h2:lo < 2 ^ 62) (i:-(2 ^ 62)<=hi) (a:hi < 2 ^ 62)
  (q:R (Itr lo (hi - lo).toNat) H):wpAny (model X.prog X.w) X.A (pyIter (.ref s.heap.objs.size)) (PIE X pins σ tg R) E { s with heap:=s.heap.push { cls:=.type "range",data:=.fields #[.int lo t,.int hi u,.int 1 v] },toks:=tk }:=by
 refine wpAny_pyIter_range (e5 ..) (small_one h1 h2 i a) ?_;have d:Inv X pins σ H { s with heap:=s.heap.push { cls:=.type "range",data:=.fields #[.int lo t,.int hi u,.int 1 v] },toks:=tk }:=I.kept λb o e=>aa _ e;refine ⟨(s.heap.push { cls:=.type "range",data:=.fields #[.int lo t,.int hi u,.int 1 v] }).objs.size,[(s.heap.push { cls:=.type "range",data:=.fields #[.int lo t,.int hi u,.int 1 v] }).objs.size],_,_,H,rfl,d.kept (t':=tk) λb o e=>aa _ e,Vb _ lo (hi - lo).toNat,?_,λb h=>?_,q⟩
 ·have e1:lo+((0:Nat):Int) * 1=lo:=by simp
  have c:(((hi - lo).toNat:Nat):Int) - ((0:Nat):Int)=Builtin.Range.rangeSize lo hi 1:=by rw [rangeSize_one]; split <;> omega
  show IsRangeIter _ _ (lo+((0:Nat):Int) * 1) ((((hi - lo).toNat:Nat):Int) - ((0:Nat):Int)) 1;rw [e1,c];exact ai _ rfl
 ·have e:b=(s.heap.push { cls:=.type "range",data:=.fields #[.int lo t,.int hi u,.int 1 v] }).objs.size:=by simpa using h
  subst e;exact d.fpOk (am _) (d.hok.fresh (am _))
def qcY (ta:TA):TI:=λσ H R=>ta σ H λvs H1=>∃ j:Int,vs=[.int j]/\-(2 ^ 62)<=j/\j < 2 ^ 62/\R (Itr 0 j.toNat) H1
def qcZ (ta:TA):TI:=λσ H R=>ta σ H λvs H1=>∃ i j:Int,vs=[.int i,.int j]/\(-(2 ^ 62)<=i/\i < 2 ^ 62/\-(2 ^ 62)<=j/\j < 2 ^ 62)/\R (Itr i (j - i).toNat) H1
theorem VO {a:Expr} {ta:TA} (hg:Gl X "range") (m:X.mg "range"=fg) (g:PA X [a] ta) (hs:starEach [a] X.env=[(fk,eval a X.env)]:=by rfl):PI X tg (.Call (.Name "range" p) [a] [] pos) (qcY ta):=by
 refine ⟨?_⟩;intro pins s σ H R I h;refine Call_ (xJ I hg m boot_range (bN (thn (g pos pins s σ H _ I h) λus s1 ⟨vs,H1,f,r1,b⟩=>?_) hs rfl));obtain ⟨j,e,b,d,q⟩:=b;subst e;cases r1 with
 | cons r c=>cases c;obtain ⟨t,rfl⟩:=r;exact call_range_1 (JO f (by omega) (by omega) b d (by simpa using q))
theorem VP {a b:Expr} {ta:TA} {p pos:Pos} (hg:Gl X "range") (m:X.mg "range"=fg) (n:PA X [a,b] ta) (hs:starEach [a,b] X.env=[(fk,eval a X.env),(fk,eval b X.env)]:=by rfl) (c:starEach [b] X.env=[(fk,eval b X.env)]:=by rfl):PI X tg (.Call (.Name "range" p) [a,b] [] pos) (qcZ ta):=by
 refine ⟨?_⟩;intro pins s σ H R I h;refine Call_ (xJ I hg m boot_range (bN (thn (n pos pins s σ H _ I h) λus s1 ⟨vs,H1,o,r1,f⟩=>?_) (by rw [hs,c]) (by rw [c]; rfl)));obtain ⟨i,j,e,⟨f,l,k,g⟩,q⟩:=f;subst e;cases r1 with
 | cons r d=>
  cases d with
  | cons r' d=>cases d;obtain ⟨t,rfl⟩:=r;obtain ⟨t',rfl⟩:=r';exact call_range_2 (JO o f l k g q)
def qer (wi:TI) (g:TG) (tb:TS):TS:=λD σ H=>wi σ H λJ H1=>∃ W:Nat->Nat->St->Hp->Prop,(∃ m,W 0 m σ H1)/\∀ i m σ H,W i m σ H ->(J.stop i H/\D.nx σ H)\/(J.go i H/\∃ N:St->Hp->Prop,(∀ σ' H',N σ' H'->∃ f,f < m/\W (i+1) f σ' H')/\∀ x H',J.yld i H x H'->g x σ H' λa H2=>tb { D with nx:=N,ct:=N,bk:=D.nx } a H2)
noncomputable def gy (fp:List Addr) (h:Heap):Pns:=fp.filterMap λb=>(h.get? b).map λo=>(b,o)
theorem wm {o:Obj} (d:b∈fp) (e:h.get? b=ff o):(b,o)∈gy fp h:=cJ.mpr ⟨b,d,by rw [e]; rfl⟩
theorem VQ {p:Addr×Obj} (hp:p∈gy fp h):p.1∈fp/\h.get? p.1=ff p.2:=by
 obtain ⟨b,d,e⟩:=cJ.mp hp;cases q:h.get? b with
 | none=>rw [q] at e; cases e
 | some o=>rw [q] at e;have a:(b,o)=p:=aI.inj e;subst a;exact ⟨d,q⟩
theorem Inv.pinned (I:Inv X pins σ H s) (f:∀ b∈fp,QL X pins H b) (l:∀ b∈fp,∃ o,s.heap.get? b=ff o/\∀ v,o.data≠.cell v):Inv X (pins++gy fp s.heap) σ H s:=
 I.pins_of λp hp=>(bn.mp hp).elim (λz=>I.pin p (aP _ z)) λz=>by obtain ⟨h,e⟩:=VQ z;obtain ⟨f0,f1,f2,_⟩:=f p.1 h;obtain ⟨o,a,d⟩:=l p.1 h;rw [e] at a; cases a;exact ⟨e,f0,f1,f2,d⟩
theorem Inv.unpinned {pl:Pns} (I:Inv X (pins++pl) σ H s):Inv X pins σ H s:=I.pins_of λp hp=>I.pin p (aP _ (cj _ hp))
theorem qa5 {iter:Expr} {wi:TI} {g:TG} {pos:Pos} (hp:PassesOwn (model X.prog X.w) X.A X.env X.xe) (Q:X.calm=fm) (hi:PI X tg iter wi) (hg:PG X tg g) (j:PSs X body tb)
  (hs:∀ x,foldedSetIterable iter X.env x=pure x:=by intro _; rfl):PS X (.For tg iter body [] pos) (qer wi g tb):=by
 refine ⟨?_⟩;intro pins s σ H D I h;refine wpAny_For (thn (hi pins s σ H _ I h) λv s1 h1=>thn h1 λitv s2 h2=>?_) hs;obtain ⟨it,fp,tn,J,H2,e,I2,T,K,f2,W,⟨m0,F⟩,turn⟩:=h2;subst e;have t:∀ {H':Hp},(∀ b∈fp,H' b=fg)->∀ b∈fp,QL X pins H' b:=λhn b j=>⟨hn b j,(f2 b j).2⟩
 refine codeAny_forLoop_any (λn s'=>∃ i σ' H',Inv X pins σ' H' s'/\tn i s'.heap/\(∀ b∈fp,H' b=fg)/\W i n σ' H') ?_ m0 ⟨0,σ,H2,I2,K,λb j=>(f2 b j).1,F⟩;rintro n s3 ⟨i,c,E,R,z,C,Z⟩;rcases turn i n c E Z with ⟨stop,qn⟩ | ⟨go,N,hN,step⟩
 ·refine fQ hp (thn (T.done X rfl rfl rfl Q i pins s3 c E X.xe R (t C) z stop) λr s4 ⟨M,I4⟩=>?_);subst M;exact hV ⟨c,E,I4,qn⟩
 ·refine fQ hp (thn (T.item X rfl rfl rfl Q i pins s3 c E X.xe R (t C) z go) λr s4 ⟨u,M,h4⟩=>?_);subst M;refine fQ hp (thn h4 λ_ s5 ⟨x,S,I5,r5,U,y,O⟩=>?_);have P:=I5.pinned (t O) (T.obj _ _ y);refine fQ hp (thn (hg _ s5 c S x u _ P r5 (step x S U)) λ_ s6 ⟨G,H6,I6,q6⟩=>?_);refine fQ hp (thn (j _ s6 G H6 _ I6 q6) λf L q=>?_);have k:∀ {a:St} {p:Hp},Inv X (pins++gy fp s5.heap) a p L->N a p->∃ m,m < n/\∃ i σ' H',Inv X pins σ' H' L/\tn i L.heap/\(∀ b∈fp,H' b=fg)/\W i m σ' H':=λ{a p} l B=>by obtain ⟨m',hm,Y⟩:=hN a p B;refine ⟨m',hm,i+1,a,p,l.unpinned,T.keep _ _ _ y λb j o e=>(l.pin (b,o) (aP _ (aP _ (wm j e)))).1,λb j=>?_,Y⟩;obtain ⟨o,e,d⟩:=T.obj _ _ y b j;exact (l.pin (b,o) (aP _ (aP _ (wm j e)))).2.1
  cases f with
  | next=>obtain ⟨a,p,l,B⟩:=q; exact k l B
  | cont=>obtain ⟨a,p,l,B⟩:=q; exact k l B
  | brk=>obtain ⟨a,p,l,q⟩:=q; exact ⟨a,p,l.unpinned,q⟩
  | ret v=>obtain ⟨V,a,p,l,r7,q⟩:=q; exact ⟨V,a,p,l.unpinned,r7,q⟩
end
abbrev R2:=V->V->Hp->VK->Prop
def OpR (X:Cx) (f:fj->fj->Sem fj) (r:R2):Prop:=
 ∀ (pins:Pns) (s:fq) (σ:St) (H:Hp) (x y:V) (v u:fj) (Q:VK),Inv X pins σ H s->RelV x v->RelV y u->r x y H Q ->wpAny (model X.prog X.w) X.A (f v u) (EP X pins σ Q) X.xe s
def UnR (X:Cx) (f:fj->Sem fj) (r:V->Hp->VK->Prop):Prop:=
 ∀ (pins:Pns) (s:fq) (σ:St) (H:Hp) (x:V) (v:fj) (Q:VK),Inv X pins σ H s->RelV x v->r x H Q ->wpAny (model X.prog X.w) X.A (f v) (EP X pins σ Q) X.xe s
def kX (X:Cx) (f:fj) (r:List V->Hp->VK->Prop):Prop:=
 ∀ (pins:Pns) (s:fq) (σ:St) (H:Hp) (xs:List V) (us:List fj) (Q:VK),Inv X pins σ H s->Vals xs us->r xs H Q ->wpAny (model X.prog X.w) X.A (call f us) (EP X pins σ Q) X.xe s
def qes (X:Cx) (r:V->Hp->(Bool->Hp->Prop)->Prop):Prop:=
 ∀ (pins:Pns) (s:fq) (σ:St) (H:Hp) (x:V) (v:fj) (Q:Bool->Hp->Prop),Inv X pins σ H s->RelV x v->r x H Q ->wpAny (model X.prog X.w) X.A (truthy v) (TP X pins σ Q) X.xe s
def tOp (r:R2) (ta tb:TE):TE:=λσ H Q=>ta σ H λx H1=>tb σ H1 λy H2=>r x y H2 Q
def tUn (r:V->Hp->VK->Prop) (ta:TE):TE:=λσ H Q=>ta σ H λx H1=>r x H1 Q
def rI (C:Int->Int->Prop) (g:Int->Int->V):R2:=λx y H Q=>∃ i j,x=.int i/\y=.int j/\C i j/\Q (g i j) H
def rI0 (g:Int->Int->V):R2:=λx y H Q=>∃ i j,x=.int i/\y=.int j/\Q (g i j) H
def rU (g:Int->V):V->Hp->VK->Prop:=λx H Q=>∃ i,x=.int i/\Q (g i) H
variable {r:R2}
section
variable {a b:Expr} {tb tc:TE}
theorem qc0 (j:PE X a ta) (i:PE X b tb) {R:V->V->Hp->Prop} (I:Inv X pins σ H s)
  (h:ta σ H λx H1=>tb σ H1 λy H2=>R x y H2) {Q:fj->fq->Prop} {f:fj->fj->Sem fj}
  (g:∀ v u s2 x y H2,Inv X pins σ H2 s2->RelV x v->RelV y u->R x y H2->wpAny (model X.prog X.w) X.A (f v u) Q X.xe s2) :
  wpAny (model X.prog X.w) X.A (eval a X.env) (λv d=>wpAny (model X.prog X.w) X.A (eval b X.env) (λu c=>wpAny (model X.prog X.w) X.A (f v u) Q X.xe c) X.xe d) X.xe s:=by
 refine thn (j pins s σ H _ I h) λv s1 ⟨x,H1,l,r1,q⟩=>?_;refine thn (i pins s1 σ H1 _ l q) λu s2 ⟨y,H2,k,r2,e⟩=>?_;exact g v u s2 x y H2 k r1 r2 e
theorem qc1 {op:Operator} (l:OpR X (binaryOp op) r) (g:PE X a ta) (e:PE X b tb):PE X (.BinOp a op b pos) (tOp r ta tb):=by refine ⟨?_⟩;intro pins s σ H Q I h;exact wpAny_BinOp (qc0 g e I h λv u s2 x y H2 f d c q=>l pins s2 σ H2 x y v u Q f d c q)
theorem qc2 {op:UnaryOp} {r:V->Hp->VK->Prop} (l:UnR X (unaryOp op) r) (g:PE X a ta):PE X (.UnaryOp op a pos) (tUn r ta):=by refine ⟨?_⟩;intro pins s σ H Q I h;exact UnaryOp_ (thn (g pins s σ H _ I h) λv s1 ⟨x,H1,d,r1,q⟩=>l pins s1 σ H1 x v Q d r1 q)
theorem opI {f:fj->fj->Sem fj} {C:Int->Int->Prop} {g:Int->Int->Int}
  (r:∀ (i j:Int) (t u:Tok) (s:fq) (Q:fj->fq->Prop) (E:fj->fq->Prop),C i j->Q (.int (g i j) s.toks) { s with toks:=s.toks+1 }->wpAny (model X.prog X.w) X.A (f (.int i t) (.int j u)) Q E s) :
  OpR X f (rI C λi j=>.int (g i j)):=by
 intro pins s σ H x y v u Q I d c h;obtain ⟨i,j,rfl,rfl,a,q⟩:=h;obtain ⟨t,rfl⟩:=d;obtain ⟨t',rfl⟩:=c;exact r i j t t' s _ _ a ⟨.int (g i j),H,I.tok _,⟨_,rfl⟩,q⟩
theorem qdN {f:fj->fj->Sem fj} {g:Int->Int->Int}
  (r:∀ (i j:Int) (t u:Tok) (s:fq) (Q:fj->fq->Prop) (E:fj->fq->Prop),Q (.int (g i j) s.toks) { s with toks:=s.toks+1 }->wpAny (model X.prog X.w) X.A (f (.int i t) (.int j u)) Q E s) :
  OpR X f (rI0 λi j=>.int (g i j)):=by
 intro pins s σ H x y v u Q I d c h;obtain ⟨i,j,rfl,rfl,q⟩:=h;obtain ⟨t,rfl⟩:=d;obtain ⟨t',rfl⟩:=c;exact r i j t t' s _ _ ⟨.int (g i j),H,I.tok _,⟨_,rfl⟩,q⟩
theorem qc3 {f:fj->fj->Sem fj} {g:Int->Int->Bool}
  (r:∀ (i j:Int) (t u:Tok) (s:fq) (Q:fj->fq->Prop) (E:fj->fq->Prop),Q (.bool (g i j)) s->wpAny (model X.prog X.w) X.A (f (.int i t) (.int j u)) Q E s) :
  OpR X f (rI0 λi j=>.bl (g i j)):=by
 intro pins s σ H x y v u Q I d c h;obtain ⟨i,j,rfl,rfl,q⟩:=h;obtain ⟨t,rfl⟩:=d;obtain ⟨t',rfl⟩:=c;exact r i j t t' s _ _ ⟨.bl (g i j),H,I,rfl,q⟩
def qet (i j:Int):Prop:=0 < j/\j < 1073741824
def qaG (i j:Int):Prop:=0<=j/\j<=1000000/\i.natAbs < 2 ^ 64
def CMul (i j:Int):Prop:=(-(2 ^ 64) < i/\i < 2 ^ 64)\/(-(2 ^ 64) < j/\j < 2 ^ 64)
theorem CMul.ok {i j:Int} (h:CMul i j):IntMulOk i j:=by
 rcases h with ⟨h1,h2⟩ | ⟨h1,h2⟩
 ·exact .of_left (intBits_le_64 h1 h2)
 ·exact .of_right (intBits_le_64 h1 h2)
theorem qa6:OpR X (binaryOp .Add) (rI0 λi j=>.int (i+j)):=qdN λ_ _ _ _ _ _ _ q=>add_int q
theorem qa7:OpR X (binaryOp .Sub) (rI0 λi j=>.int (i - j)):=qdN λ_ _ _ _ _ _ _ q=>sub_int q
theorem qa8:OpR X (binaryOp .Mult) (rI CMul λi j=>.int (i * j)):=opI λ_ _ _ _ _ _ _ d q=>mul_int q d.ok
theorem qa9:OpR X (binaryOp .Mod) (rI (λ_ j=>0 < j) λi j=>.int (i % j)):=opI λi j _ _ _ _ _ d q=>by have h1:(0:Int) < j:=d;exact mod_int' (by omega) (by rw [Int.fmod_eq_emod_of_nonneg i (by omega)]; exact q)
theorem Zf:OpR X (binaryOp .Pow) (rI qaG λi j=>.int (i ^ j.toNat)):=opI λ_ _ _ _ _ _ _ d q=>pow_int_small d.1 d.2.1 d.2.2 q
theorem unI {f:fj->Sem fj} {g:Int->Int}
  (r:∀ (i:Int) (t:Tok) (s:fq) (Q:fj->fq->Prop) (E:fj->fq->Prop),Q (.int (g i) s.toks) { s with toks:=s.toks+1 }->wpAny (model X.prog X.w) X.A (f (.int i t)) Q E s) :
  UnR X f (rU λi=>.int (g i)):=by
 intro pins s σ H x v Q I d h;obtain ⟨i,rfl,q⟩:=h;obtain ⟨t,rfl⟩:=d;exact r i t s _ _ ⟨.int (g i),H,I.tok _,⟨_,rfl⟩,q⟩
theorem qba:UnR X (unaryOp .USub) (rU λi=>.int (-i)):=unI λ_ _ _ _ _ q=>neg_int q
end
variable {op op':CmpOp} {r':R2}
section
variable {a b:Expr} {tb tc:TE}
theorem Zg {Q:VK} {k k':Bool} (I:Inv X pins σ H s) (q:Q (.bl k) H) (e:k=k'):EP X pins σ Q (.bool k') s:=by subst e;exact ⟨.bl k,H,I,rfl,q⟩
theorem qc4:OpR X (compareOp .Lt) (rI0 λi j=>.bl (decide (i < j))):=qc3 λ_ _ _ _ _ _ _ q=>lt_int q
theorem qc5:OpR X (compareOp .LtE) (rI0 λi j=>.bl (decide (i<=j))):=qc3 λ_ _ _ _ _ _ _ q=>le_int q
theorem qc6:OpR X (compareOp .GtE) (rI0 λi j=>.bl (decide (j<=i))):=qc3 λ_ _ _ _ _ _ _ q=>ge_int q
theorem VR:OpR X (compareOp .Lt) (λx y H Q=>∃ i j,x=.str i/\y=.str j/\Q (.bl (decide (i.cps.toList < j.cps.toList))) H):=by intro pins s σ H x y v u Q I d c h;obtain ⟨i,j,rfl,rfl,q⟩:=h;obtain ⟨t,rfl⟩:=d;obtain ⟨t',rfl⟩:=c;exact lt_str (Zg I q rfl)
theorem Zh (b:Expr) (h:op≠.In:=by decide) (h2:op≠.NotIn:=by decide):behindInMarks op b=false:=by
 have e1:(op == CmpOp.In)=false:=by cases op <;> first | rfl | exact absurd rfl h
 have i:(op == CmpOp.NotIn)=false:=by cases op <;> first | rfl | exact absurd rfl h2
 cases b <;> simp [behindInMarks,e1,i]
theorem Ga (l:OpR X (compareOp op) r) (g:PE X a ta) (e:PE X b tb) (m:behindInMarks op b=fk):PE X (.Compare a [op] [b] pos) (tOp r ta tb):=by refine ⟨?_⟩;intro pins s σ H Q I h;exact wpAny_Compare1 (qc0 g e I h λv u s2 x y H2 f d c q=>l pins s2 σ H2 x y v u Q f d c q) m
def qbb (t:TE):TT:=λσ H Q=>t σ H λx H'=>∃ k,x=.bl k/\Q k H'
theorem Gb (l:OpR X (compareOp op) r) (i:PE X a ta) (g:PE X b tb) (m:behindInMarks op b=fk):PT X (.Compare a [op] [b] pos) (qbb (tOp r ta tb)):=by
 refine ⟨?_⟩;intro pins s σ H Q I h;refine wpAny_isTrue_Compare1 (thn (i pins s σ H _ I h) λv s1 ⟨x,H1,o,r1,f⟩=>thn (g pins s1 σ H1 _ o f) λu s2 ⟨y,H2,n,r2,d⟩=>
  thn (l pins s2 σ H2 x y v u _ n r1 r2 d) λc s3 ⟨z,p,j,r3,k,e,q⟩=>?_) m
 subst e;cases r3;exact fJ ⟨p,j,q⟩
def VS (r r':R2) (ta tb tc:TE):TE:=λσ H Q=>ta σ H λx H1=>tb σ H1 λy H2=>r x y H2 λz d=>∃ k,z=.bl k /\
 (if k=fm then tc σ d λS a=>r' y S a Q else Q (.bl fk) d)
theorem Yy (o:OpR X (compareOp op) r) (f:OpR X (compareOp op') r') (A:PE X a ta) (w:PE X b tb) (t:PE X c tc)
  (n:lastMarks [op,op'] [b,c]=false:=by with_unfolding_all rfl):PE X (.Compare a [op,op'] [b,c] pos) (VS r r' ta tb tc):=by
 refine ⟨?_⟩;intro pins s σ H Q I h;refine Compare_chain (thn (A pins s σ H _ I h) λv s1 ⟨x,H1,D,r1,m⟩=>chain_link (thn (w pins s1 σ H1 _ D m) λu s2 ⟨y,H2,C,r2,l⟩=>
  thn (o pins s2 σ H2 x y v u _ C r1 r2 l) λd s3 ⟨z,i,g,r3,k,e,q⟩=>?_)) n
 subst e;cases r3;refine fJ ?_;cases k with
 | false=>exact ite_ff ⟨.bl fk,i,g,rfl,q⟩
 | true=>exact ite_tt (chain_last (thn (t pins s3 σ i _ g q) λS s4 ⟨p,E,B,r4,j⟩=>f pins s4 σ E y p u S Q B r2 r4 j))
theorem Yz (t:OpR X (compareOp op) r) (f:OpR X (compareOp op') r') (C:PE X a ta) (B:PE X b tb) (A:PE X c tc)
  (w:lastMarks [op,op'] [b,c]=false:=by with_unfolding_all rfl):PT X (.Compare a [op,op'] [b,c] pos) (qbb (VS r r' ta tb tc)):=by
 refine ⟨?_⟩;intro pins s σ H Q I h;refine isTrue_chain (thn (C pins s σ H _ I h) λv s1 ⟨x,H1,L,r1,n⟩=>test_link (thn (B pins s1 σ H1 _ L n) λu s2 ⟨y,H2,K,r2,m⟩=>
  thn (t pins s2 σ H2 x y v u _ K r1 r2 m) λd s3 ⟨z,i,g,r3,k,e,q⟩=>?_)) w
 subst e;cases r3;refine fJ ?_;cases k with
 | false=>obtain ⟨k',E,o⟩:=q;cases E;exact ite_ff ⟨i,g,o⟩
 | true=>refine ite_tt (test_last (thn (A pins s3 σ i _ g q) λS s4 ⟨p,N,J,r4,l⟩=>thn (f pins s4 σ N y p u S _ J r2 r4 l) λd' s5 ⟨O,M,G,r5,k2,D,j⟩=>?_));subst D;cases r5;exact fJ ⟨M,G,j⟩
def qc7 (K:Frag) (x:V) (H:Hp) (k:Bool):Prop:=
 match x with
 | .non=>k=fk
 | .bl b=>k=b
 | .int i=>k=(i != 0)
 | .str y=>y.length<=sizeLine/\k=((y.length:Int) != 0)
 | .byt y=>y.size<=sizeLine/\k=((y.size:Int) != 0)
 | .ref p=>(∃ xs,SqL K H p xs/\k=!xs.isEmpty)\/(∃ xs,SqT K H p xs/\k=!xs.isEmpty)\/∃ kvs,H p=ff (.dK kvs)/\k=!kvs.isEmpty
 | _=>False
theorem Vc {κ:Type} {kvs:List (κ×V)} {vs:List (κ×fj)} (r:KV kvs vs):(!vs.isEmpty)=!kvs.isEmpty:=by cases r <;> rfl
theorem xK {its:List fj} (r:Vals xs its):(!its.toArray.isEmpty)=!xs.isEmpty:=by cases r <;> simp
theorem gz:(sizeLine:Nat) < 2 ^ 63:=by rw [fE]; decide
theorem qbc:qes X (λx H Q=>∃ k,qc7 X.K x H k/\Q k H):=by
 intro pins s σ H x v Q I d h;obtain ⟨k,e,q⟩:=h;have hl:=gz;have hs:sizeLine=16777216:=fE;cases x with
 | non=>cases d;have a:k=false:=e;subst a;exact truthy_none ⟨H,I,q⟩
 | bl b=>cases d;have a:k=b:=e;subst a;exact fJ ⟨H,I,q⟩
 | int i=>obtain ⟨t,rfl⟩:=d;have a:k=(i != 0):=e;subst a;exact PySem.P.truthy_int ⟨H,I,q⟩
 | str y=>obtain ⟨t,rfl⟩:=d;obtain ⟨hy,a⟩:y.length<=sizeLine/\k=((y.length:Int) != 0):=e;subst a;exact PySem.P.truthy_str (by omega) ⟨H,I.tok _,q⟩
 | byt y=>obtain ⟨t,rfl⟩:=d;obtain ⟨hy,a⟩:y.size<=sizeLine/\k=((y.size:Int) != 0):=e;subst a;exact PySem.W.truthy_bytes (by omega) ⟨H,I.tok _,q⟩
 | ref p=>
  cases d;have a:(∃ xs,SqL X.K H p xs/\k=!xs.isEmpty)\/(∃ xs,SqT X.K H p xs/\k=!xs.isEmpty)\/∃ kvs,H p=ff (.dK kvs)/\k=!kvs.isEmpty:=e;rcases a with ⟨xs,hx,a⟩ | ⟨xs,hx,a⟩ | ⟨kvs,hx,a⟩
  ·subst a;obtain ⟨its,r,pl,z⟩:=I.list hx;have n:=r.length;exact wpAny_truthy_list pl.isList (by simp only [ao]; omega) ⟨H,I.tok _,by rw [xK r]; exact q⟩
  ·subst a;obtain ⟨its,r,pl,z⟩:=I.tuple hx;have n:=r.length;exact truthy_tuple pl (by simp only [ao]; omega) ⟨H,I.tok _,by rw [xK r]; exact q⟩
  ·subst a;obtain ⟨z,hS,vs,r,m⟩:kvs.length<=sizeLine/\(p == sysModules)=fk/\∃ vs,KV kvs vs/\s.heap.DictOf (jv X.prog X.w) p vs:=I.hok p _ hx;have n:kvs.length=vs.length:=dP r;exact wpAny_truthy_dict hS m (by omega) ⟨H,I.tok _,by rw [Vc r]; exact q⟩
 | _=>exact (show False from e).elim
theorem YA (g:PE X a ta) (i:∀ whole,isTrue a X.env whole=(do let v <-whole; standAt a.pos; holding [v] (truthy v))):PT X a (λσ H Q=>ta σ H λx H'=>∃ k,qc7 X.K x H' k/\Q k H'):=by refine ⟨?_⟩;intro pins s σ H Q I h;exact isTrue_plain (thn (g pins s σ H _ I h) λv s1 ⟨x,H1,d,r1,q⟩=>qbc pins s1 σ H1 x v Q d r1 q) (i _)
theorem Vd:OpR X (binaryOp .Add) (λx y H Q=>∃ i j,x=.str i/\y=.str j/\i.length+j.length<=sizeLine/\Q (.str (i++j)) H):=by intro pins s σ H x y v u Q I d c h;obtain ⟨i,j,rfl,rfl,z,q⟩:=h;obtain ⟨t,rfl⟩:=d;obtain ⟨t',rfl⟩:=c;exact add_str (λt' tk=>⟨.str (i++j),H,I.tok _,⟨_,rfl⟩,q⟩) z
theorem vE {x:V} (r:Vals [x] us):∃ u,us=[u]/\RelV x u:=by
 cases r with
 | cons r1 r2=>cases r2; exact ⟨_,rfl,r1⟩
theorem Gc {x y:V} (r:Vals [x,y] us):∃ u S,us=[u,S]/\RelV x u/\RelV y S:=by
 cases r with
 | cons r1 r2=>
  cases r2 with
  | cons r3 r4=>cases r4; exact ⟨_,_,rfl,r1,r3⟩
theorem VT (d:X.calm=fm):kX X (.builtin "max") (λxs H Q=>∃ i j,xs=[.int i,.int j]/\Q (.int (if j > i then j else i)) H):=by
 intro pins s σ H xs us Q I r h;obtain ⟨i,j,rfl,q⟩:=h;obtain ⟨u,S,rfl,⟨t,rfl⟩,⟨t',rfl⟩⟩:=Gc r;refine max_two_ints (I.ok.hd d) λh' tk k=>⟨_,H,I.kept k,?_,q⟩
 by_cases D:j > i;·rw [if_pos D,if_pos D]; exact ⟨_,rfl⟩
 ·rw [if_neg D,if_neg D]; exact ⟨_,rfl⟩
theorem VU (d:X.calm=fm):kX X (.builtin "min") (λxs H Q=>∃ i j,xs=[.int i,.int j]/\Q (.int (if j < i then j else i)) H):=by
 intro pins s σ H xs us Q I r h;obtain ⟨i,j,rfl,q⟩:=h;obtain ⟨u,S,rfl,⟨t,rfl⟩,⟨t',rfl⟩⟩:=Gc r;refine min_two_ints (I.ok.hd d) λh' tk k=>⟨_,H,I.kept k,?_,q⟩
 by_cases D:j < i;·rw [if_pos D,if_pos D]; exact ⟨_,rfl⟩
 ·rw [if_neg D,if_neg D]; exact ⟨_,rfl⟩
def qeu (K:Frag) (x:V) (H:Hp) (n:Nat):Prop:=
 match x with
 | .str y=>y.length<=sizeLine/\n=y.length
 | .byt y=>y.size<=sizeLine/\n=y.size
 | .ref p=>(∃ xs,SqL K H p xs/\n=xs.length)\/∃ xs,SqT K H p xs/\n=xs.length
 | _=>False
theorem zc:kX X (.builtin "len") (λxs H Q=>∃ x n,xs=[x]/\qeu X.K x H n/\Q (.int n) H):=by
 intro pins s σ H xs us Q I r h;obtain ⟨x,n,rfl,e,q⟩:=h;obtain ⟨u,rfl,d⟩:=vE r;have hl:=gz;have hs:sizeLine=16777216:=fE;cases x with
 | str y=>obtain ⟨t,rfl⟩:=d;obtain ⟨hy,b⟩:y.length<=sizeLine/\n=y.length:=e;subst b;exact len_str (by omega) ⟨.int _,H,I.tok _,⟨_,rfl⟩,q⟩
 | byt y=>obtain ⟨t,rfl⟩:=d;obtain ⟨hy,b⟩:y.size<=sizeLine/\n=y.size:=e;subst b;exact PySem.W.len_bytes (by omega) ⟨.int _,H,I.tok _,⟨_,rfl⟩,q⟩
 | ref p=>
  cases d;have b:(∃ xs,SqL X.K H p xs/\n=xs.length)\/∃ xs,SqT X.K H p xs/\n=xs.length:=e;rcases b with ⟨xs,hx,b⟩ | ⟨xs,hx,b⟩
  ·subst b;obtain ⟨its,r',pl,z⟩:=I.list hx;have a:=r'.length;exact Calls.call_len_list pl.isList (by simp only [ao]; omega) ⟨.int xs.length,H,I.tok _,⟨_,by simp only [ao]; rw [a]⟩,q⟩
  ·subst b;obtain ⟨its,r',pl,z⟩:=I.tuple hx;have a:=r'.length;exact len_tuple pl (by simp only [ao]; omega) ⟨.int xs.length,H,I.tok _,⟨_,by simp only [ao]; rw [a]⟩,q⟩
 | _=>exact (show False from e).elim
end
structure ObjM (h:Heap) (x dx C:Addr) (mA:Str->Option fj):Prop where
 obj:h.get? x=ff (bW C dx)
 ns:h.Ns1 dx mA
 ne:dx≠x
variable {dx:Addr} {mA:Str->Option fj}
theorem VV (n:h.Ns1 dx mA):∃ od,h.get? dx=ff od/\∀ name,eG name od=ff (mA name):=by
 obtain ⟨o,es,ep,l,hd,k,_,c⟩:=n;refine ⟨o,l,λname=>?_⟩;have e:=c name;unfold nsFind findBy at e;rw [<-Array.find?_toList] at e;unfold eG;rw [hd];dsimp only;split;·rename_i y q;rw [q] at e;exact congrArg ff e
 ·rename_i q;rw [q] at e;have a:es.toList.any (·.refKey)=false:=by rw [List.any_eq_false];intro y D;obtain ⟨z,t,b⟩:=k y (Array.mem_toList_iff.mp D);simp [DictEntry.refKey,b]
  have d:¬es.toList.any (·.refKey)=true:=by rw [a]; exact b8
  rw [if_neg d];exact congrArg ff e
variable {C:Addr}
theorem ObjM.look {x:Addr} (I:ObjM h x dx C mA):∃ od,PySem.W.InstAt h x (bW C dx) C (ff od)/\∀ name,eG name od=ff (mA name):=
 let ⟨od,l,hl⟩:=VV I.ns
 ⟨od,⟨I.obj,rfl,rfl,l⟩,hl⟩
theorem RelO.some_of {o:Option fj} (r:RelO (ff v) o):∃ u,o=ff u/\RelV v u:=by
 cases o with
 | none=>exact (show False from r).elim
 | some u=>exact ⟨u,rfl,r⟩
section
variable {fs:List (Str×V)} {f:Str}
theorem Inv.made (I:Inv X pins σ H s):Inv X pins σ (upd (upd H s.heap.objs.size (.own (s.heap.objs.size+1))) (s.heap.objs.size+1) (.ins C s.heap.objs.size []))
  { s with heap:=(s.heap.push bC).push (bW C s.heap.objs.size) }:=by
 have e1:(s.heap.push bC).get? s.heap.objs.size=ff bC:=ai s.heap rfl;have c:((s.heap.push bC).push (bW C s.heap.objs.size)).get? (s.heap.objs.size+1)=ff (bW C s.heap.objs.size):=by have:=ai (s.heap.push bC) (o:=bW C s.heap.objs.size) rfl;rwa [bP] at this
 have E:(s.heap.push bC).Ns s.heap.objs.size (λ_=>fg):=⟨bC,#[],_,e1,rfl,(λe i=>absurd i (by simp)),λ_=>rfl⟩
 have d:=I.laid (a:=s.heap.objs.size) (o:=.own (s.heap.objs.size+1)) (h':=s.heap.push bC) (t':=s.toks) (λb u q=>aa _ q) (am _) ⟨_,e1⟩;refine d.laid (a:=s.heap.objs.size+1) (o:=.ins C s.heap.objs.size []) (t':=s.toks) (λb u q=>aa _ q) (cS (bP _ _)) ?_;have ne:s.heap.objs.size≠s.heap.objs.size+1:=aF (da _);refine ⟨by rw [qp ne,qf],aZ _,ne,c,λ_=>fg,(Heap.Ns1.of_empty E).at λo q=>aa _ q,λ_=>ck,λy D=>absurd rfl D⟩
end
structure Room (k:Nat) (A:fD):Prop where
 hd:A.handled=fg
 dp:A.depth+3 * k+5 < recursionLimit
 un:A.units+16 * k+200 < cLine
theorem Room.mono {j k:Nat} (r:Room k A) (h:j<=k):Room j A:=⟨r.hd,by have:=r.dp; omega,by have:=r.un; omega⟩
theorem Room.deeper {k:Nat} (r:Room (k+1) A) (env:Env):Room k (A.deeper env):=
 ⟨r.hd,by have:=r.dp; show A.depth+1+3 * k+5 < _; omega,by have:=r.un; show A.units+3+16 * k+200 < _; omega⟩
theorem Room.in1 {k:Nat} (r:Room (k+1) A):Room k A.in1:=
 ⟨r.hd,by have:=r.dp; show A.depth+3 * k+5 < _; omega,by have:=r.un; show A.units+1+16 * k+200 < _; omega⟩
theorem Room.depth {k:Nat} (r:Room k A):A.depth < recursionLimit:=by have:=r.dp; omega
theorem Room.units {k:Nat} (r:Room k A):A.units+64 < cLine:=by have:=r.un; omega
def qcA:TA:=λ_ H Q=>Q [] H
def YB (ta:TE) (tr:TA):TA:=λσ H Q=>ta σ H λx H1=>tr σ H1 λxs H2=>Q (x::xs) H2
section
variable {t:TA}
theorem qY:PA X [] qcA:=⟨λ_ _ _ _ H Q I h=>Calls.spliced_nil ⟨[],H,I,.nil,h⟩⟩
theorem qA (g:PE X e te) (c:PA X es t) (hs:starEach (e::es) X.env=(fk,eval e X.env)::starEach es X.env:=by rfl):PA X (e::es) (YB te t):=by refine ⟨?_⟩;intro pos pins s σ H Q I h;rw [hs];show wpAny _ _ (spliced ((fk,eval e X.env)::backTo pos (starEach es X.env))) _ _ s;refine Calls.spliced_cons (thn (g pins s σ H _ I h) λu s1 ⟨x,H1,d,r1,a⟩=>?_);exact thn (c pos pins s1 σ H1 _ d a) λus s2 ⟨xs,H2,b,r2,q⟩=>⟨x::xs,H2,b,.cons r1 r2,q⟩
def qev (t:TA):TE:=λσ H Q=>t σ H λxs H1=>xs.length<=sizeLine/\∀ p,H1 p=fg->Q (.ref p) (upd H1 p (.tup xs))
def qew (t:TA):TE:=λσ H Q=>t σ H λxs H1=>xs.length<=sizeLine/\∀ p,H1 p=fg->Q (.ref p) (upd H1 p (.lst xs))
theorem qbd {x1} (h:PA X es t):PE X (.Tuple es x1 pos) (qev t):=by refine ⟨?_⟩;intro pins s σ H Q I hq;refine wpAny_Tuple_spliced (thn (h pos pins s σ H _ I hq) λus s1 ⟨xs,H1,d,r,z,q⟩=>⟨by rw [<-r.length]; exact z,?_⟩);have f:H1 s1.heap.objs.size=none:=d.hok.fresh (am _);refine ⟨.ref s1.heap.objs.size,upd H1 s1.heap.objs.size (.tup xs),d.laid (t':=s1.toks) (λb u e=>aa _ e) (am _) ?_,rfl,q _ f⟩;exact ⟨⟨z,_,ai _ rfl,rfl⟩,us,r,⟨_,ai _ rfl,rfl,_,rfl⟩⟩
theorem qbe (h:PA X es t):PE X (.List es pos) (qew t):=by refine ⟨?_⟩;intro pins s σ H Q I hq;refine wpAny_List_spliced (thn (h pos pins s σ H _ I hq) λus s1 ⟨xs,H1,d,r,z,q⟩=>⟨by rw [<-r.length]; exact z,?_⟩);have f:H1 s1.heap.objs.size=none:=d.hok.fresh (am _);refine ⟨.ref s1.heap.objs.size,upd H1 s1.heap.objs.size (.lst xs),d.laid (t':=s1.toks) (λb u e=>aa _ e) (am _) ?_,rfl,q _ f⟩;exact ⟨z,us,0,r,ai _ rfl⟩
end
abbrev Sp:=List V->Hp->VK->XK->Prop
abbrev CXT:=List Env->Hp->fq->XK->fj->fq->Prop
structure Env0 (P:fz) (w:fA) (K:Frag) (mg:Str->Option fj) (base:Heap) (A:fD) (outer:List Env) (s:fq) (H:Hp):Prop where
 frames:A.frames=ff outer
 mod:Mod K mg base
 bs:∀ b o,base.get? b=ff o->s.heap.get? b=ff o/\H b=fg
 bsz:base.objs.size<=s.heap.objs.size
 funs:s.heap.FunFrames base outer
 frf:∀ b∈frs outer,H b=fg
 hok:HOk P w H s.heap
 bare:hZ s.gens
def CE (outer:List Env) (P:fz) (w:fA) (H:Hp) (s:fq) (Q:VK) (u:fj) (s':fq):Prop:=
 ∃ v H',s'.os=s.os/\hZ s'.gens/\Un (frs outer) [] H H' s.heap s'.heap/\HOk P w H' s'.heap/\RelV v u/\Q v H'
def CR (CX:CXT) (outer:List Env) (P:fz) (w:fA) (H:Hp) (s:fq) (Q:VK) (E:XK) (r:Result) (s':fq):Prop:=
 match r with
 | .ok (.ret u)=>CE outer P w H s Q u s'
 | .ok _=>False
 | .error e=>CX outer H s E e s'
structure FnOk (P:fz) (w:fA) (K:Frag) (mg:Str->Option fj) (base:Heap) (CX:CXT) (k:Nat) (f:Addr) (fd:fW) (ps:List Str) (sp:Sp):Prop where
 len:∀ vs H Q E,sp vs H Q E->vs.length=ps.length
 run:∀ (A:fD) (outer:List Env) (s:fq) (H:Hp) (args:Args) (us:List fj) (vs:List V) (Q:VK) (E:XK),Room k A->Env0 P w K mg base A outer s H->iu s fd args (ps.zip us)->Vals vs us->sp vs H Q E ->codeAny (model P w) A (.call (.ref f) args) (CR CX outer P w H s Q E) s
variable {f:Addr} {mg:Str->Option fj} {base:Heap} {CX:CXT} {fd:fW} {ps:List Str} {sp:Sp}
theorem FnOk.imp {k:Nat} {a:Sp} (F:FnOk P w K mg base CX k f fd ps sp)
  (h:∀ vs H Q E,a vs H Q E->sp vs H Q E):FnOk P w K mg base CX k f fd ps a:=
 ⟨λvs H Q E q=>F.len vs H Q E (h _ _ _ _ q),λA outer s H args us vs Q E r i d c hs=>F.run A outer s H args us vs Q E r i d c (h _ _ _ _ hs)⟩
theorem Env0.in1 {outer:List Env} (e:Env0 P w K mg base A outer s H):Env0 P w K mg base A.in1 outer s H:=⟨e.frames,e.mod,e.bs,e.bsz,e.funs,e.frf,e.hok,e.bare⟩
section
theorem Inv.env0 (I:Inv X pins σ H s):Env0 X.prog X.w X.K X.mg X.base X.A X.stack s H:=
 ⟨I.ok.frames,I.ok.mod,I.bs,bu I.ok.bsz I.sz,I.stack,I.stkFree,I.hok,I.bare⟩
theorem Inv.after {Q:VK} (I:Inv X pins σ H s) (h:CE X.stack X.prog X.w H s Q u s'):EP X pins σ Q u s':=by obtain ⟨v,H',os,bare,un,hok,r,q⟩:=h;obtain ⟨a,g,d,t,o⟩:=s';obtain rfl:o=s.os:=os;exact ⟨v,H',I.call (h':=a) (g':=g) (d':=d) (t':=t) (ch:=[]) un hok bare (λb z=>absurd z (by simp)),r,q⟩
end
def qbf (sp:Sp) (dvs:List V) (E:XK) (t:TA):TE:=λσ H Q=>t σ H λvs H1=>sp (vs++dvs) H1 Q E
def Binds (K:Frag) (fd:fW) (ps:List Str) (ds:List fj):Prop:=
 ∀ (s:fq) (us:List fj),K.In s.heap->(us++ds).length=ps.length->iu s fd ⟨us,[]⟩ (ps.zip (us++ds))
theorem Binds.all (h:∀ us:List fj,us.length=ps.length->bindArgs fd ⟨us,[]⟩=pure (ps.zip us)):Binds K fd ps []:=λs us _ hl=>by rw [bt] at hl ⊢;exact .of_eq (h us hl)
def wU (CX:CXT) (X:Cx) (E:XK):Prop:=∀ (pins:Pns) (σ:St) (H:Hp) (s:fq) (e:fj) (s':fq),Inv X pins σ H s->CX X.stack H s E e s'->X.xe e s'
variable {apos:Pos}
section
variable {k:Nat} {dvs:List V} {ds:List fj} {E:XK} {m:Str} {o:Expr} {t:TA}
theorem Zi {pins:Pns} {σ:St} {H:Hp} {s:fq} {Q:VK} {us:List fj} {vs:List V} (F:FnOk X.prog X.w X.K X.mg X.base CX k f fd ps sp) (c:Room k X.A) (d:Binds X.K fd ps ds) (hd:Vals dvs ds) (hx:wU CX X E)
  (I:Inv X pins σ H s) (r:Vals vs us) (h:sp (vs++dvs) H Q E):wpAny (model X.prog X.w) X.A (call (.ref f) us) (EP X pins σ Q) X.xe s:=by
 have r2:Vals (vs++dvs) (us++ds):=r.append hd;have hl:(us++ds).length=ps.length:=by rw [<-r2.length]; exact F.len _ _ _ _ h
 refine wpAny_call (fY (F.run X.A X.stack s H ⟨us,[]⟩ (us++ds) (vs++dvs) Q E c I.env0 (d s us I.kIn hl) r2 h) λr s' hq=>?_);cases r with
 | error e=>exact hx pins σ H s e s' I hq
 | ok l=>
  cases l with
  | ret u=>exact I.after hq
  | next=>exact cm hq
  | brk=>exact cm hq
  | cont=>exact cm hq
theorem Gd (F:FnOk X.prog X.w X.K X.mg X.base CX k f fd ps sp) (c:Room k X.A) (hg:Gl X x) (m:X.mg x=ff (.ref f)) (a:keepIn X.K (.ref f)=fm) (g:Binds X.K fd ps ds) (hd:Vals dvs ds) (hx:wU CX X E)
  (j:PA X (e::es) t) (b:Dbg x:=by decide) (i:starEach (e::es) X.env=(fk,eval e X.env)::starEach es X.env:=by rfl) (l:(backTo pos (starEach es X.env)).any (·.1)=false:=by rfl) :
  PE X (.Call (.Name x p) (e::es) [] pos) (qbf sp dvs E t):=by
 refine ⟨?_⟩;intro pins s σ H Q I h;refine fZ (zb I hg m ?_ b);refine PySem.W.callWith_K (h₀:=X.base) I.ok.mod.kin a (thn (j pos pins s σ H _ I h) λus s1 ⟨vs,H1,d,r,q⟩=>⟨d.kIn,?_⟩) i l;exact Zi F c g hd hx d r q
theorem YC (F:FnOk X.prog X.w X.K X.mg X.base CX k f fd ps sp) (c:Room k X.A) (hg:Gl X x) (m:X.mg x=ff (.ref f)) (a:keepIn X.K (.ref f)=fm) (d:Binds X.K fd ps ds) (hd:Vals dvs ds) (hx:wU CX X E)
  (b:Dbg x:=by decide):PE X (.Call (.Name x p) [] [] pos) (qbf sp dvs E qcA):=by
 refine ⟨?_⟩;intro pins s σ H Q I h;refine fZ (zb I hg m ?_ b);exact PySem.W.callWith_K0 I.kIn a (Zi (us:=[]) F c d hd hx I .nil h)
structure Mk (K:Frag) (C f:Addr):Prop where
 makes:PySem.W.makesIn K C=fm
 init:PySem.W.findIn K (.ref C) "__init__"=ff (ff (.ref f))
 fn:PySem.W.isFn K (.ref f)=fm
 kp:keepIn K (.ref C)=fm
end
section
variable {k:Nat} {ks:List Str} {E:XK} {m:Str} {kpos:Pos} {o:Expr} {kws:List fN} {t tk:TA} {nm:Option Str}
variable {g:List fj->List fj->List fj} {gV:List V->List V->List V}
end
structure FnScope (N P:List Str) (sc:g6):Prop where
 kind:sc.kind=.function
 co:sc.isCoroutine=fk
 gen:sc.isGenerator=fk
 nd:N.Nodup
 pre:N.take P.length=P
 par:∀ x∈P,sc.names.lookup x=ff .local\/sc.names.lookup x=ff .cell
 nofree:∀ y∈sc.names,y.2≠.free
variable {kindOf:Str->Option fU}
theorem gA:∀ {binds:List (Str×fj)} {m:Str->Option fj},(∀ v,(x,v)∉binds)->bindL kindOf binds m x=m x
 | [],_,_=>rfl
 | (n,v)::r,m,h=>by
  unfold bindL;rw [gA λw a=>h w (ac _ a)];split
  ·have:x≠n:=by rintro rfl; exact h v aj
   simp [this]
  ·rfl
theorem gB:∀ {binds:List (Str×fj)} {m:Str->Option fj},(∀ v,(x,v)∉binds)->bindC kindOf binds m x=m x
 | [],_,_=>rfl
 | (n,v)::r,m,h=>by
  unfold bindC;rw [gB λw a=>h w (ac _ a)];split;·rfl
  ·have:x≠n:=by rintro rfl; exact h v aj
   simp [this]
theorem gE {kindOf:Str->Option fU} {x:Str} {v:fj}:∀ {P:List Str} {vs:List fj} {i:Nat} {m:Str->Option fj},P.Nodup->P[i]?=ff x->vs[i]?=ff v->kindOf x=ff .local ->bindL kindOf (P.zip vs) m x=ff v
 | [],_,_,_,_,h,_,_=>by simp at h
 | _::_,[],_,_,_,_,h,_=>by simp at h
 | p::P,w::vs,0,m,nd,h1,h2,hk=>by simp at h1 h2; subst h1; subst h2;show bindL kindOf ((p,w)::P.zip vs) m p=_;unfold bindL;rw [gA λv c=>(aU.mp nd).1 (d6 c).1,if_pos hk];simp
 | p::P,w::vs,i+1,m,nd,h1,h2,hk=>by show bindL kindOf ((p,w)::P.zip vs) m x=_;unfold bindL;exact gE (i:=i) (aU.mp nd).2 (by simpa using h1) (by simpa using h2) hk
theorem gF {kindOf:Str->Option fU} {x:Str} {v:fj}:∀ {P:List Str} {vs:List fj} {i:Nat} {m:Str->Option fj},P.Nodup->P[i]?=ff x->vs[i]?=ff v->kindOf x≠ff .local ->bindC kindOf (P.zip vs) m x=ff v
 | [],_,_,_,_,h,_,_=>by simp at h
 | _::_,[],_,_,_,_,h,_=>by simp at h
 | p::P,w::vs,0,m,nd,h1,h2,hk=>by simp at h1 h2; subst h1; subst h2;show bindC kindOf ((p,w)::P.zip vs) m p=_;unfold bindC;rw [gB λv c=>(aU.mp nd).1 (d6 c).1,if_neg hk];simp
 | p::P,w::vs,i+1,m,nd,h1,h2,hk=>by show bindC kindOf ((p,w)::P.zip vs) m x=_;unfold bindC;exact gF (i:=i) (aU.mp nd).2 (by simpa using h1) (by simpa using h2) hk
noncomputable def wV (N:List Str) (vs:List V):St:=vs.map ff++b4 (N.length - vs.length) fg
def Ge (CX:CXT) (P:fz) (w:fA) (K:Frag) (mg:Str->Option fj) (base:Heap) (N:List Str) (qual:Str) (scope:g6) (f:Addr) (cd:fj) (A:fD) (outer:List Env) (s:fq) (H:Hp) (E:XK):Cx where
 prog:=P
 w:=w
 K:=K
 mg:=mg
 base:=base
 A:=A.deeper (envOfC qual scope s.heap.objs.size f cd)
 N:=N
 s₀:=s
 H₀:=H
 env:=envOfC qual scope s.heap.objs.size f cd
 outer:=outer
 stack:=envOfC qual scope s.heap.objs.size f cd::outer
 ex:=[]
 calm:=fm
 fn:=λ_=>fm
 pn:=[]
 xe:=λe s'=>wpAny (model P w) (A.deeper (envOfC qual scope s.heap.objs.size f cd)) (leaving (envOfC qual scope s.heap.objs.size f cd) e) (λ_ a=>CX outer H s E e a) (λb a=>CX outer H s E b a) s'
theorem JP {sc:g6} {n:Nat} (h:sc.names.lookup x=ff .cell):∃ c,(cellsFrom n sc.names []).lookup x=ff c:=by have q:=PySem.W.cellsFrom_some sc.names n [] (.inl h);exact Option.isSome_iff_exists.mp q
theorem VW {CX:CXT} {P:fz} {w:fA} {K:Frag} {mg:Str->Option fj} {base:Heap} {N ps:List Str} {qual:Str} {scope:g6} {f:Addr} {cd:fj} {A:fD} {outer:List Env} {s s1:fq} {H:Hp} {E:XK} {us:List fj} {vs:List V}
  (S:FnScope N ps scope) (hd:A.handled=fg) (e0:Env0 P w K mg base A outer s H) (hl:vs.length=ps.length) (r:Vals vs us)
  (x:InCallC s s.heap.objs.size (bindL (envOfC qual scope s.heap.objs.size f cd).kindOf (ps.zip us) λ_=>fg) (cellsFrom (s.heap.objs.size+1) scope.names []) (bindC (envOfC qual scope s.heap.objs.size f cd).kindOf (ps.zip us) λ_=>fg) s1) :
  Inv (Ge CX P w K mg base N qual scope f cd A outer s H E) [] (wV N vs) H s1:=by
 have o:ps.length<=N.length:=by have:=congrArg eI S.pre; rw [aR] at this; omega
 obtain ⟨h1,tk,rfl,l⟩:=x.done;have d:∀ b:Addr,b∉(Ge CX P w K mg base N qual scope f cd A outer s H E).ex:=λb z=>absurd (show b∈([]:List Addr) from z) (by simp);refine ⟨⟨e0.mod,S.kind,rfl,rfl,am _,λy z c h1 h2=>?_,λy D=>?_,λy c _ h=>?_,λ_=>hd,Around.frames_deeper e0.frames,.inr ⟨rfl,rfl⟩,λb z=>absurd z (d b),e0.bs,e0.bsz,λb _ _=>d b,λb z=>absurd z (d b),e0.funs,e0.frf⟩,rfl,e0.bare,Un.kept l,⟨_,x.toInCall.ns,λi y v h1 h2 B=>?_⟩,λy c h=>⟨_,x.cell y c h⟩,e0.hok.fresh (am _),λy c h=>?_,λp hp=>absurd (show p∈([]:Pns) from hp) (by simp),e0.hok.kept l,?_⟩;·exact name_of_addr x.apart (bY h1) (bY h2)
 ·have D:scope.names.lookup y=ff .cell\/scope.names.lookup y=ff .free:=D;rcases D with D | D;·exact JP D
  ·exact absurd rfl (S.nofree _ (bY D))
 ·exact cR (x.above y c (bY h))
 ·have hi:i < vs.length:=by
   unfold wV at h2;by_cases hi:i < vs.length;·exact hi
   ·rw [bQ (by simpa using hi)] at h2;rw [cO] at h2;split at h2 <;> cases h2
  have t:vs[i]?=ff v:=by
   unfold wV at h2;rw [cz (by simpa using hi),aJ] at h2;cases e:vs[i]? with
   | none=>rw [e] at h2; cases h2
   | some a=>rw [e] at h2; cases h2; rfl
  obtain ⟨u,j,m⟩:=r.get t;have hp:ps[i]?=ff y:=by rw [<-S.pre,List.getElem?_take_of_lt (by omega)]; exact h1
  have g:ps.Nodup:=by rw [<-S.pre]; exact S.nd.sublist (List.take_sublist _ _)
  refine ⟨u,m,?_⟩;rcases S.par y (bh hp) with k | k;·exact .inl ⟨k,gE g hp j k⟩
  ·obtain ⟨c,e⟩:=JP (n:=s.heap.objs.size+1) k;refine .inr ⟨.inl k,c,e,?_⟩;have q:=x.cell y c e;rw [gF g hp j (by show scope.names.lookup y≠_; rw [k]; decide)] at q;exact q
 ·exact e0.hok.fresh (cR (x.above y c (bY h)))
 ·unfold wV;show _=N.length;rw [ap,ah,c6];omega
theorem qc8 {CX:CXT} {P:fz} {w:fA} {K:Frag} {mg:Str->Option fj} {base:Heap} {k:Nat} {f:Addr} {name qual:Str} {params:Arguments} {body:List Stmt} {scope:g6} {i kV doc pm cdv ct oc:fj} {an od:Option Addr}
  {osl:Array (Option fj)} {N ps:List Str} {sp:Sp} (j:K.lookup f=ff ⟨oc,od,.func (bO name qual params body scope i kV doc pm an cdv ct),osl⟩) (g:codeIn K cdv qual=fm) (S:FnScope N ps scope)
  (len:∀ vs H Q E,sp vs H Q E->vs.length=ps.length)
  (a:∀ (A:fD) (outer:List Env) (s:fq) (H:Hp) (vs:List V) (Q:VK) (E:XK),Room k (A.deeper (envOfC qual scope s.heap.objs.size f cdv))->sp vs H Q E ->∃ t,PSs (Ge CX P w K mg base N qual scope f cdv A outer s H E) body t/\t { nx:=λ_ H'=>Q .non H',rt:=Q } (wV N vs) H) :
  FnOk P w K mg base CX (k+1) f (bO name qual params body scope i kV doc pm an cdv ct) ps sp:=by
 refine ⟨len,λA outer s H args us vs Q E c e0 z r p=>?_⟩;have hl:=len _ _ _ _ p;have X:K.In s.heap:=e0.mod.kin.keeps λb o e=>(e0.bs b o e).1;have l:s.heap.NoLimit:=e0.mod.nolimit.keeps λb o e=>(e0.bs b o e).1;have h:∀ y∈ps.zip us,scope.names.lookup y.1=ff .local\/(scope.names.lookup y.1=ff .cell/\((cellsFrom (s.heap.objs.size+1) scope.names []).lookup y.1).isSome=fm):=λ⟨n,v⟩ D=>by
  rcases S.par n (d6 D).1 with q | q;·exact .inl q
  ·exact .inr ⟨q,PySem.W.cellsFrom_some _ _ _ (.inl q)⟩
 refine codeAny_call_function c.depth (X _ _ j) rfl S.co S.gen rfl (PySem.W.codeRec_of X g) (z _ _ _ _ ?_);refine wpAny_newFunctionEnv_cells S.kind h λenv m s1 x=>?_;subst m;refine ⟨l.keeps x.toInCall.keep,codeAny_func ?_⟩;obtain ⟨t,ht,hq⟩:=a A outer s H vs Q E (c.deeper _) p;have I:Inv (Ge CX P w K mg base N qual scope f cdv A outer s H E) [] (wV N vs) H s1:=VW S c.hd e0 hl r x;refine g7 (ht [] s1 (wV N vs) H _ I hq) (λB s' hs=>?_) λe s' hs=>hs;have fin:∀ {σ':St} {H':Hp} {v:V} {u:fj},Inv (Ge CX P w K mg base N qual scope f cdv A outer s H E) [] σ' H' s'->RelV v u->Q v H'->CE outer P w H s Q u s':=
  λ{σ' H' v u} J d q=>⟨v,H',J.os,J.bare,J.base,J.hok,d,q⟩
 cases B with
 | ret u=>obtain ⟨v,σ',H',J,d,q⟩:=hs;exact fin J d q
 | next=>obtain ⟨σ',H',J,q⟩:=hs;exact fin (v:=V.non) (u:=c9) J rfl q
 | brk=>obtain ⟨_,_,_,q⟩:=hs;exact cm q
 | cont=>obtain ⟨_,_,_,q⟩:=hs;exact cm q
section
variable {t:TA} {id T:String} {r:List V->Hp->VK->Prop}
def tCB (r:List V->Hp->VK->Prop) (t:TA):TE:=λσ H Q=>t σ H λvs H1=>r vs H1 Q
theorem wn (d:kX X (.builtin id) r) (hg:Gl X x) (m:X.mg x=fg) (c:bootBuiltins x=ff (.builtin id)) (g:PA X (e::es) t) (n:x ≠ "__name__":=by decide) (b:Dbg x:=by decide)
  (i:starEach (e::es) X.env=(fk,eval e X.env)::starEach es X.env:=by rfl) (l:(backTo pos (starEach es X.env)).any (·.1)=false:=by rfl):PE X (.Call (.Name x p) (e::es) [] pos) (tCB r t):=by
 refine ⟨?_⟩;intro pins s σ H Q I h;refine fZ (xJ I hg m c ?_ n b);exact PyProof.Rows.callWith_builtin1 (thn (g pos pins s σ H _ I h) λus s1 ⟨vs,H1,a,r1,q⟩=>d pins s1 σ H1 vs us Q a r1 q) i l
theorem jH (d:kX X (.type T) r) (hg:Gl X x) (m:X.mg x=fg) (c:bootBuiltins x=ff (.type T)) (g:PA X (e::es) t) (n:x ≠ "__name__":=by decide) (b:Dbg x:=by decide)
  (i:starEach (e::es) X.env=(fk,eval e X.env)::starEach es X.env:=by rfl) (l:(backTo pos (starEach es X.env)).any (·.1)=false:=by rfl):PE X (.Call (.Name x p) (e::es) [] pos) (tCB r t):=by
 refine ⟨?_⟩;intro pins s σ H Q I h;refine fZ (xJ I hg m c ?_ n b);exact bN (thn (g pos pins s σ H _ I h) λus s1 ⟨vs,H1,a,r1,q⟩=>d pins s1 σ H1 vs us Q a r1 q) i l
end
end L2
namespace HT
open PySem PyProof.Rows
section
open PySem.SeqAt
open PySem.AutoSeq1 (wpAny_loadPart')
open PySem.MeetsSeq PySem.MeetsSeq2 PySem.MeetsSeq3
end
section
variable {prog:fz} {w:fA} {A:fD} {E:fj->fq->Prop} {s:fq}
theorem cat_tup {t b:Addr} {vs ws:List fj} {Q:fj->fq->Prop} (ht:IsTup s.heap t vs.toArray) (k:IsTup s.heap b ws.toArray) (v:vs≠[])
  (h1:ws=[]->Q (.ref t) s) (h2:ws≠[]->Q (.ref s.heap.objs.size) { s with heap:=s.heap.push { cls:=.type "tuple",data:=.seq (vs++ws).toArray } })
  (hsz:vs.length+ws.length<=sizeLine):wpAny (model prog w) A (binaryOp .Add (.ref t) (.ref b)) Q E s:=by
 obtain ⟨⟨cls,dd,data,sl⟩,l,i,n,hd⟩:=id ht;obtain ⟨⟨j,d,g,a⟩,h,c,n2,hd2⟩:=id k;simp only at i hd c hd2;subst i hd c hd2;have e:vs.toArray++ws.toArray=(vs++ws).toArray:=by simp
 by_cases f:ws=[]
 ·exact im ⟨_,l,rfl⟩ ⟨_,h,rfl⟩ noFill_tuple_add seq_tuple_add cT cP (cC _ _)
   (tuple_addW1 t b vs.toArray ws.toArray n n2 dd d sl a (by simpa using v) (by simp [f])) ⟨l,h,h1 f⟩
 ·refine im ⟨_,l,rfl⟩ ⟨_,h,rfl⟩ noFill_tuple_add seq_tuple_add cT cP (cC _ _)
   (tuple_addW2 t b vs.toArray ws.toArray n n2 dd d sl a (by simpa using v) (by simpa using f) (by rw [ao,ao]; exact hsz)) ⟨l,h,?_⟩
  rw [e];exact h2 f
noncomputable def sIx (n d:Nat):Option Int->Nat
 | none=>d
 | some v=>if v < 0 then (v+(n:Int)).toNat else min v.toNat n
theorem sIx_none (n d:Nat):sIx n d fg=d:=rfl
theorem sIx_nat (n d k:Nat):sIx n d (ff (k:Int))=min k n:=by show (if (k:Int) < 0 then ((k:Int)+(n:Int)).toNat else min (k:Int).toNat n)=min k n;rw [if_neg (by omega),Int.toNat_natCast]
end
end HT
namespace L2
open PySem PySem.Spec PyProof.Rows
abbrev TO:=St->Hp->(Option Int->Hp->Prop)->Prop
def PO (X:Cx) (e:Option Expr) (t:TO):Prop:=
 ∀ (pins:Pns) (s:fq) (σ:St) (H:Hp) (Q:Option Int->Hp->Prop),Inv X pins σ H s->t σ H Q ->wpAny (model X.prog X.w) X.A (evalPart e X.env) (λu s'=>∃ o H',Inv X pins σ H' s'/\IsPart u o/\Q o H') X.xe s
def Gf:TO:=λ_ H Q=>Q fg H
def qc9 (t:TE):TO:=λσ H Q=>t σ H λx H1=>∃ i,x=.int i/\Q (ff i) H1
variable {X:Cx} {e:Expr} {pos:Pos} {xs:List V} {us:List fj}
section
variable {te:TE} {lo hi:Option Expr} {tl th:TO} {p2:Pos}
theorem Gg:PO X fg Gf:=by intro pins s σ H Q I h;rw [evalPart_none];exact fy ⟨fg,H,I,.none,h⟩
theorem Gh (h:PE X e te):PO X (ff e) (qc9 te):=by intro pins s σ H Q I w;rw [evalPart_some];refine thn (h pins s σ H _ I w) λu s1 ⟨x,H1,d,r1,a⟩=>?_;obtain ⟨i,rfl,q⟩:=a;obtain ⟨t,rfl⟩:=r1;exact ⟨ff i,H1,d,.int i t,q⟩
def SlR (X:Cx) (r:V->Option Int->Option Int->Hp->VK->Prop):Prop:=
 ∀ (pins:Pns) (s:fq) (σ:St) (H:Hp) (x:V) (v vl u:fj) (lo hi:Option Int) (sl:Addr) (Q:VK),Inv X pins σ H s->RelV x v->s.heap.IsSliceOf sl vl u .none->IsPart vl lo->IsPart u hi->r x lo hi H Q ->∃ T id,typeLookup (.type T) "__getitem__"=pure (ff (.builtin id))/\s.TypeIs v T/\wpAny (model X.prog X.w) X.A (getItem v (.ref sl)) (EP X pins σ Q) X.xe s
def tSl (r:V->Option Int->Option Int->Hp->VK->Prop) (te:TE) (tl th:TO):TE:=λσ H Q=>te σ H λx H1=>tl σ H1 λl H2=>th σ H2 λu d=>r x l u d Q
theorem YD {r:V->Option Int->Option Int->Hp->VK->Prop} (j:SlR X r) (k:PE X e te) (hl:PO X lo tl) (i:PO X hi th):PE X (.Subscript e (.Slice lo hi fg p2) pos) (tSl r te tl th):=by refine ⟨?_⟩;intro pins s σ H Q I h;refine Subscript_ (thn (k pins s σ H _ I h) λv s1 ⟨x,H1,o,r1,g⟩=>?_);refine wpAny_Slice (thn (hl pins s1 σ H1 _ o g) λvl s2 ⟨l,H2,n,pl,f⟩=>thn (i pins s2 σ H2 _ n f) λa s3 ⟨u,d,m,p,c⟩=>?_);rw [evalPart_none];refine fy ?_;have B:Inv X pins σ d { s3 with heap:=s3.heap.push { cls:=.type "slice",data:=.fields #[vl,a,.none] } }:=m.kept (t':=s3.toks) λb t q=>aa _ q;obtain ⟨T,id,hT,ht,hg⟩:=j pins { s3 with heap:=s3.heap.push { cls:=.type "slice",data:=.fields #[vl,a,.none] } } σ d x v vl a l u s3.heap.objs.size Q B r1 (Heap.IsSliceOf.new ..) pl p c;show wpAny (model X.prog X.w) X.A (subscriptTail e (.Slice lo hi fg p2) v (.ref s3.heap.objs.size)) (EP X pins σ Q) X.xe { s3 with heap:=s3.heap.push { cls:=.type "slice",data:=.fields #[vl,a,.none] } };exact tail_any (ops:=[.ref s3.heap.objs.size,v]) ht hT hg (by with_unfolding_all rfl)
noncomputable def Gi (xs:List V) (lo hi:Option Int):List V:=(xs.drop (HT.sIx xs.length 0 lo)).take (HT.sIx xs.length xs.length hi - HT.sIx xs.length 0 lo)
theorem QR (xs:List V) (lo hi:Option Int):(Gi xs lo hi).length<=xs.length:=by unfold Gi;rw [aR,db];omega
def qda (K:Frag):R2:=λx y H Q=>∃ a b xs ys,x=.ref a/\y=.ref b/\SqT K H a xs/\SqT K H b ys/\xs≠[]/\xs.length+ys.length<=sizeLine /\
 (ys=[]->Q (.ref a) H)/\(ys≠[]->∀ p,H p=fg->Q (.ref p) (upd H p (.tup (xs++ys))))
theorem Vals.nil_iff (r:Vals xs us):us=[]↔xs=[]:=by
 cases r with
 | nil=>simp
 | cons _ _=>simp
theorem Gj:OpR X (binaryOp .Add) (qda X.K):=by intro pins s σ H x y v u Q I d r h;obtain ⟨a,b,xs,ys,rfl,rfl,j,g,hx,c,f,e⟩:=h;cases d;cases r;obtain ⟨its,r1,p1,_⟩:=I.tuple j;obtain ⟨i,r2,p2,_⟩:=I.tuple g;refine HT.cat_tup p1 p2 (λz=>hx (r1.nil_iff.mp z)) (λz=>⟨.ref a,H,I,rfl,f (r2.nil_iff.mp z)⟩) (λz=>?_) (by rw [<-r1.length,<-r2.length]; exact c);refine ⟨.ref s.heap.objs.size,_,I.laid (t':=s.toks) (o:=.tup (xs++ys)) (λb k q=>aa _ q) (am _) ?_,rfl,e (λw=>z (r2.nil_iff.mpr w)) _ (I.hok.fresh (am _))⟩;exact ⟨⟨by rw [ap]; exact c,_,ai _ rfl,rfl⟩,_,r1.append r2,IsTup.new _ _⟩
end
noncomputable def ixN (n:Nat) (i:Int):Option Nat:=if 0<=i then (if i < n then ff i.toNat else fg) else if -(n:Int)<=i then ff (i+n).toNat else fg
variable {α:Type}
noncomputable def atI (xs:List α) (i:Int):Option α:=(ixN xs.length i).bind λj=>xs[j]?
variable {n j:Nat} {i:Int}
theorem Gk (h:ixN n i=ff j):seqIndex? i n=ff j/\j < n/\-(n:Int)<=i/\i < n:=by
 unfold ixN at h;by_cases a:0<=i
 ·rw [if_pos a] at h;by_cases h1:i < n;·rw [if_pos h1] at h;have e:i.toNat=j:=aI.inj h;exact ⟨by rw [seqIndex_of a h1,e],by omega,by omega,h1⟩
  ·rw [if_neg h1] at h; cases h
 ·rw [if_neg a] at h;by_cases h1:-(n:Int)<=i;·rw [if_pos h1] at h;have e:(i+n).toNat=j:=aI.inj h;exact ⟨by rw [seqIndex_neg (by omega) h1,e],by omega,h1,by omega⟩
  ·rw [if_neg h1] at h; cases h
theorem QS {xs:List α} {v:α} (h:atI xs i=ff v):∃ j,seqIndex? i xs.length=ff j/\xs[j]?=ff v/\j < xs.length/\-(xs.length:Int)<=i/\i < xs.length:=by
 unfold atI at h;cases e:ixN xs.length i with
 | none=>rw [e] at h; cases h
 | some j=>rw [e] at h;obtain ⟨h1,h2,b,a⟩:=Gk e;exact ⟨j,h1,h,h2,b,a⟩
theorem vJ {xs:List α} {v:α} (h:xs[j]?=ff v):atI xs (j:Int)=ff v:=by
 have D:j < xs.length:=(aq.mp h).1;have e:ixN xs.length (j:Int)=ff j:=by unfold ixN;rw [if_pos (by omega),if_pos (by omega)]; simp
 unfold atI; rw [e]; exact h
def QT (b:Expr):Prop:=∀ o i,subscripted b fk o i=operate [o,i] (getItem o i)
def IxR (X:Cx) (r:R2):Prop:=
 ∀ (value e:Expr) (pins:Pns) (s:fq) (σ:St) (H:Hp) (x y:V) (v u:fj) (Q:VK),Inv X pins σ H s->RelV x v->RelV y u->r x y H Q ->subscripted e fk v u=operate [v,u] (getItem v u)->wpAny (model X.prog X.w) X.A (subscriptTail value e v u) (EP X pins σ Q) X.xe s
def MtR (X:Cx) (id:String) (r:V->List V->Hp->VK->Prop):Prop:=
 ∀ (pins:Pns) (s:fq) (σ:St) (H:Hp) (x:V) (xs:List V) (v:fj) (us:List fj) (Q:VK),Inv X pins σ H s->RelV x v->Vals xs us->r x xs H Q ->wpAny (model X.prog X.w) X.A (call (.builtin id) (v::us)) (EP X pins σ Q) X.xe s
variable {pins:Pns} {σ:St} {H:Hp} {s:fq} {T:String} {x:V}
section
variable {a b:Expr} {ta tb:TE}
theorem IxR.or {r r':R2} (h:IxR X r) (h':IxR X r'):IxR X (λx y H Q=>r x y H Q\/r' x y H Q):=by
 intro value e pins s σ H x y v u Q I d c q hs;rcases q with q | q;·exact h value e pins s σ H x y v u Q I d c q hs
 ·exact h' value e pins s σ H x y v u Q I d c q hs
theorem qdb {r:R2} (e:IxR X r) (g:PE X a ta) (f:PE X b tb) (hs:QT b):PE X (.Subscript a b pos) (tOp r ta tb):=by refine ⟨?_⟩;intro pins s σ H Q I h;exact Subscript_ (qc0 g f I h λv u s2 x y H2 i d c q=>e a b pins s2 σ H2 x y v u Q i d c q (hs _ _))
def qdO (K:Frag):R2:=λx y H Q=>∃ p xs i v,x=.ref p/\y=.int i/\SqL K H p xs/\atI xs i=ff v/\Q v H
def qdP (K:Frag):R2:=λx y H Q=>∃ p xs i v,x=.ref p/\y=.int i/\SqT K H p xs/\atI xs i=ff v/\Q v H
def qdQ:R2:=λx y H Q=>∃ z i c,x=.str z/\y=.int i/\z.length<=sizeLine/\atI z.cps.toList i=ff c/\Q (.str ⟨#[c]⟩) H
theorem ix_list:IxR X (qdO X.K):=by
 intro value e pins s σ H x y v u Q I f d h hs;obtain ⟨p,xs,i,z,rfl,rfl,hq,g,q⟩:=h;cases f;obtain ⟨t,rfl⟩:=d;obtain ⟨its,r,pl,m⟩:=I.list hq;obtain ⟨j,h1,h2,o,l,k⟩:=QS g;obtain ⟨w,c,a⟩:=r.get h2;have hl:=r.length;have n:=gz;have fin:EP X pins σ Q w s:=⟨z,H,I,a,q⟩
 by_cases b:0<=i
 ·have D:i.toNat=j:=by rw [seqIndex_of b k] at h1;exact aI.inj h1
  exact item_listR pl.isList b (by omega) (by rw [D]; simpa using c) fin hs
 ·have D:(i+(its.toArray.size:Int)).toNat=j:=by rw [seqIndex_neg (by omega) l] at h1;rw [ao,<-hl];exact aI.inj h1
  exact subscriptTail_builtinR (x:=w) pl.isList.typeIs slot_list_getitem.lookup
   (wpAny_getItem_list_neg (Q:=λr s'=>r=w/\EP X pins σ Q r s') pl.isList (by omega) (by rw [ao] <;> omega) (by omega) (by rw [D]; simpa using c) ⟨rfl,fin⟩) hs
theorem ix_tup:IxR X (qdP X.K):=by
 intro value e pins s σ H x y v u Q I d c h hs;obtain ⟨p,xs,i,z,rfl,rfl,hq,b,q⟩:=h;cases d;obtain ⟨t,rfl⟩:=c;obtain ⟨its,r,pl,g⟩:=I.tuple hq;obtain ⟨j,h1,h2,m,l,k⟩:=QS b;obtain ⟨w,f,a⟩:=r.get h2;have hl:=r.length;have n:=gz;have fin:EP X pins σ Q w s:=⟨z,H,I,a,q⟩
 exact subscriptTail_builtinR (x:=w) pl.typeIs slot_tuple_getitem.lookup
  (getItem_tuple (j:=j) (Q:=λr s'=>r=w/\EP X pins σ Q r s') pl (by omega) (by omega) (by rw [ao,<-hl]; exact h1) (by simpa using f) ⟨rfl,fin⟩) hs
theorem qbg:IxR X qdQ:=by
 intro value e pins s σ H x y v u Q I d r h hs;obtain ⟨z,i,c,rfl,rfl,g,a,q⟩:=h;obtain ⟨t,rfl⟩:=d;obtain ⟨t',rfl⟩:=r;obtain ⟨j,h1,h2,l,b,k⟩:=QS a;have hl:z.cps.toList.length=z.length:=by simp [eY]
 rw [hl] at h1 b k;have n:=gz;exact tail_any (typeIs_str s z t) slot_str_getitem.lookup (getItem_str (c:=c) (by have e1:decide (i < -(2 ^ 63:Int))=false:=decide_eq_false (by omega);have f:decide (i ≥ 2 ^ 63)=false:=decide_eq_false (by omega);rw [e1,f,Bool.or_false]) (by rw [h1]; simpa using h2) ⟨.str ⟨#[c]⟩,H,I.tok _,⟨_,rfl⟩,q⟩) hs
def rIx (K:Frag):R2:=λx y H Q=>qdO K x y H Q\/qdP K x y H Q\/qdQ x y H Q
theorem qbh:IxR X (rIx X.K):=ix_list.or (ix_tup.or qbg)
theorem gG (lo hi:Option Int) (n:Nat):(sliceBounds lo hi fg n).1=((HT.sIx n 0 lo:Nat):Int)/\(sliceBounds lo hi fg n).2.1=((HT.sIx n n hi:Nat):Int)/\(sliceBounds lo hi fg n).2.2=1:=by
 refine ⟨?_,?_,rfl⟩
 ·cases lo with
  | none=>simp [sliceBounds,HT.sIx]
  | some i=>
   simp only [sliceBounds,HT.sIx,Option.getD_none,show (1:Int) > 0 by decide,if_true];by_cases h:i < 0;·simp only [h,if_true] <;> omega
   ·simp only [h,if_false] <;> omega
 ·cases hi with
  | none=>simp [sliceBounds,HT.sIx]
  | some i=>
   simp only [sliceBounds,HT.sIx,Option.getD_none,show (1:Int) > 0 by decide,if_true];by_cases h:i < 0;·simp only [h,if_true] <;> omega
   ·simp only [h,if_false] <;> omega
theorem zd (its:List fj) (lo hi:Option Int):slicePick its.toArray lo hi fg=((its.drop (HT.sIx its.length 0 lo)).take (HT.sIx its.length its.length hi - HT.sIx its.length 0 lo)).toArray:=by obtain ⟨h1,h2,i⟩:=gG lo hi its.toArray.size;unfold slicePick;rw [h1,h2,i];simp only [sliceRange_one,pick_run,ao] <;> rfl
def qex (K:Frag):V->Option Int->Option Int->Hp->VK->Prop:=λx lo hi H Q=>∃ a xs,x=.ref a/\SqL K H a xs/\∀ p,H p=fg->Q (.ref p) (upd H p (.lst (Gi xs lo hi)))
theorem Gm:SlR X (qex X.K):=by intro pins s σ H x v vl u lo hi sl Q I d hs pl p h;obtain ⟨a,xs,rfl,hx,q⟩:=h;cases d;obtain ⟨its,r,ht,z⟩:=I.list hx;have n:=r.length;refine ⟨"list",_,slot_list_getitem.lookup,ht.isList.typeIs,?_⟩;refine wpAny_getItem_list_slice ht.isList hs pl p .none (by simp) ?_ (by rw [ao] <;> omega);rw [zd,<-n];refine ⟨.ref s.heap.objs.size,_,I.laid (t':=s.toks) (o:=.lst (Gi xs lo hi)) (λb c q=>aa _ q) (am _) ?_,rfl,q _ (I.hok.fresh (am _))⟩;exact ⟨bu (QR xs lo hi) z,_,0,(r.drop (HT.sIx xs.length 0 lo)).take (HT.sIx xs.length xs.length hi - HT.sIx xs.length 0 lo),ai _ rfl⟩
theorem uU:kX X (.type "list") (λxs H Q=>∃ p ys,xs=[.ref p]/\(SqL X.K H p ys\/SqT X.K H p ys)/\∀ l,H l=fg->Q (.ref l) (upd H l (.lst ys))):=by
 intro pins s σ H xs us Q I r h;obtain ⟨p,ys,rfl,hq,q⟩:=h;obtain ⟨u,rfl,x⟩:=vE r;cases x;have fin:∀ (its:List fj),Vals ys its->ys.length<=sizeLine->∀ (h':Heap) (T:Nat),(∀ b o',s.heap.get? b=ff o'->h'.get? b=ff o') ->h'.get? s.heap.objs.size=ff { cls:=.type "list",dict:=fg,data:=.seq its.toArray T,slots:=#[] }->EP X pins σ Q (.ref s.heap.objs.size) { s with heap:=h' }:=λits r' z h' T kp e=>
  ⟨.ref s.heap.objs.size,_,I.laid (t':=s.toks) kp (am _) (show ObjOk X.prog X.w _ h' _ (.lst ys) from ⟨z,its,T,r',e⟩),rfl,q _ (I.hok.fresh (am _))⟩
 rcases hq with hq | hq;·obtain ⟨its,r',pl,z⟩:=I.list hq;have a:=r'.length;obtain ⟨o,c,d,n,hd⟩:=pl.isList;exact call_list_seq p (.inl rfl) c d hd (λh' T kp e=>fin its r' z h' T kp e) (by simp only [ao] <;> omega)
 ·obtain ⟨its,r',pl,z⟩:=I.tuple hq;have a:=r'.length;obtain ⟨o,c,d,n,hd⟩:=pl;exact call_list_seq p (.inr rfl) c d hd (λh' T kp e=>fin its r' z h' T kp e) (by simp only [ao] <;> omega)
theorem wW:kX X (.type "tuple") (λxs H Q=>∃ p ys,xs=[.ref p]/\((SqL X.K H p ys/\∀ l,H l=fg->Q (.ref l) (upd H l (.tup ys)))\/(SqT X.K H p ys/\Q (.ref p) H))):=by
 intro pins s σ H xs us Q I r h;obtain ⟨p,ys,rfl,h⟩:=h;obtain ⟨u,rfl,x⟩:=vE r;cases x;rcases h with ⟨hq,q⟩ | ⟨hq,q⟩
 ·obtain ⟨its,r',pl,z⟩:=I.list hq;have n:=r'.length;refine call_tuple_list pl.isList (λh' kp=>?_) (by simp only [ao] <;> omega);have d:Inv X pins σ H { s with heap:=h' }:=I.kept (t':=s.toks) kp;have c:Inv X pins σ (upd H h'.objs.size (.tup ys)) { s with heap:=h'.push { cls:=.type "tuple",data:=.seq its.toArray } }:=
   d.laid (t':=s.toks) (λb o e=>aa _ e) (am _) (show ObjOk X.prog X.w _ _ _ (.tup ys) from ⟨⟨z,_,ai _ rfl,rfl⟩,its,r',IsTup.new _ _⟩)
  exact ⟨.ref h'.objs.size,_,c,rfl,q _ (d.hok.fresh (am _))⟩
 ·obtain ⟨its,r',pl,z⟩:=I.tuple hq;exact call_tuple_same pl ⟨.ref p,H,I,rfl,q⟩
def tyV (K:Frag) (T:String) (x:V) (H:Hp):Prop:=match x with
 | .str _=>T = "str"
 | .int _=>T = "int"
 | .ref p=>(T = "list"/\∃ xs,SqL K H p xs)\/(T = "tuple"/\∃ o,K.lookup p=ff o/\o.cls=.type "tuple"/\o.dict=fg) \/
   (T = "dict"/\((∃ kvs,H p=ff (.dK kvs))\/∃ kvs,H p=ff (.dT kvs)))\/(T = "set"/\∃ S n,H p=ff (.set S n))
 | _=>False
theorem qbi {v:fj} (I:Inv X pins σ H s) (r:RelV x v) (ty:tyV X.K T x H):s.TypeIs v T/\∀ a,v=.ref a->∃ d,s.heap.get? a=ff d/\d.dict=none:=by
 cases x with
 | str z=>obtain ⟨t,rfl⟩:=r;cases (show T = "str" from ty);exact ⟨typeIs_str s z t,λ_ e=>nomatch e⟩
 | int i=>obtain ⟨t,rfl⟩:=r;cases (show T = "int" from ty);exact ⟨typeIs_int s i t,λ_ e=>nomatch e⟩
 | ref p=>
  cases r;rcases ty with ⟨rfl,xs,hq⟩ | ⟨rfl,o,k,h,hd⟩ | ⟨rfl,k⟩ | ⟨rfl,S,n,k⟩
  ·obtain ⟨its,_,pl,_⟩:=I.list hq;refine ⟨pl.isList.typeIs,λa e=>?_⟩;cases e;obtain ⟨o,n,e,c,hd,_⟩:=pl;exact ⟨o,e,hd⟩
  ·refine ⟨⟨o,I.kIn p o k,h⟩,λa e=>?_⟩;cases e;exact ⟨o,I.kIn _ o k,hd⟩
  ·have z:∃ o,s.heap.get? p=ff o/\o.ExactDict:=by
    rcases k with ⟨kvs,k⟩ | ⟨kvs,k⟩
    ·obtain ⟨_,_,_,_,o,_,_,e,ex,_⟩:=I.hok p _ k;exact ⟨o,e,ex⟩
    ·obtain ⟨_,_,_,_,o,_,_,e,ex,_⟩:=I.hok p _ k;exact ⟨o,e,ex⟩
   obtain ⟨o,e,ex⟩:=z;refine ⟨⟨o,e,ex.1⟩,λa b=>?_⟩;cases b;exact ⟨o,e,ex.2.1⟩
  ·obtain ⟨o,_,_,_,e,ex,_⟩:=I.hok p _ k;refine ⟨⟨o,e,ex.1⟩,λa b=>?_⟩;cases b;exact ⟨o,e,ex.2.1⟩
 | _=>exact cm ty
def tBM (K:Frag) (T:String) (r:V->List V->Hp->VK->Prop) (to:TE) (t:TA):TE:=λσ H Q=>to σ H λx H1=>tyV K T x H1/\t σ H1 λxs H2=>r x xs H2 Q
variable {o:Expr} {es:List Expr} {to:TE} {t:TA} {name:Str} {apos cpos:Pos} {id:String} {r:V->List V->Hp->VK->Prop}
theorem YE (pa:PlainAttrs T) (slot:Slot T name id) (y:typeOf (.builtin id)=pure (.type "method_descriptor")) (m:MtR X id r) (l:PE X o to) (g:PA X (e::es) t)
  (b:attributeBase o name X.env (eval o X.env)=eval o X.env:=by rfl)
  (w:((backTo cpos (starEach (e::es) X.env)).all (λx=>!x.1)&&(backToKw cpos (keywordEach [] X.env)).all (λx=>x.1.isSome)
   && decide ((e::es).length+([]:List fN).length+(if ([]:List fN).isEmpty then 0 else 1) < 30))=true:=by rfl)
  (a:(apos.endLine == cpos.line)=true:=by rfl) (hs:starEach (e::es) X.env=(fk,eval e X.env)::starEach es X.env:=by rfl) (n:(backTo cpos (starEach es X.env)).any (·.1)=false:=by rfl) :
  PE X (.Call (.Attribute o name apos) (e::es) [] cpos) (tBM X.K T r to t):=by
 refine ⟨?_⟩;intro pins s σ H Q I h;refine wpAny_Call_method_late b w a rfl (thn (l pins s σ H _ I h) λv s1 ⟨x,H1,d,r1,ty,c⟩=>?_);obtain ⟨h1,h2⟩:=qbi d r1 ty;refine ⟨T,id,pa,slot,y,h1,h2,?_⟩;have hA:=g cpos pins s1 σ H1 _ d c;rw [hs] at hA ⊢;refine Calls.callWith_builtin (by show (fk||(backTo cpos (starEach es X.env)).any (·.1))=fk; rw [n] <;> rfl) (dj ?_);exact thn hA λus s2 ⟨vs,H2,f,r2,q⟩=>m pins s2 σ H2 x vs v us Q f r1 r2 q
end
def MtM (X:Cx) (id:String) (r:V->List V->Hp->VK->Prop):Prop:=
 ∀ (pins:Pns) (s:fq) (σ:St) (H:Hp) (x:V) (xs:List V) (v:fj) (us:List fj) (Q:VK),Inv X pins σ H s->RelV x v->Vals xs us->r x xs H Q ->wpAny (model X.prog X.w) X.A (call (.builtin id) (v::us)) (EP X pins σ Q) X.xe s
theorem Vals.one (h:Vals [x] us):∃ u,us=[u]/\RelV x u:=by
 cases h with
 | cons r t=>cases t;exact ⟨_,rfl,r⟩
theorem Vals.two {y:V} (h:Vals [x,y] us):∃ u v,us=[u,v]/\RelV x u/\RelV y v:=by
 cases h with
 | cons r t=>obtain ⟨u,rfl,q⟩:=Vals.one t;exact ⟨_,u,rfl,r,q⟩
theorem Vals.zero:∀ {us:List fj},Vals [] us->us=[]
 | _,.nil=>rfl
theorem Vals.eraseIdx:∀ {xs:List V} {us:List fj} (i:Nat),Vals xs us->Vals (xs.eraseIdx i) (us.eraseIdx i)
 | _,_,_,.nil=>.nil
 | _,_,0,.cons _ t=>t
 | _,_,i+1,.cons r t=>.cons r (Vals.eraseIdx i t)
theorem Vals.rep (h:Vals xs us):∀ k:Nat,Vals (b4 k xs).flatten (b4 k us).flatten
 | 0=>.nil
 | k+1=>by rw [List.replicate_succ,List.replicate_succ,List.flatten_cons,List.flatten_cons];exact Vals.append h (Vals.rep h k)
section
variable {l b:Addr} {ys zs:List V}
theorem Inv.lset {its its':List fj} {n:Nat} {f:Array fj->Array fj} {t':Nat} (I:Inv X pins σ H s) (b:H l=ff (.lst xs))
  (e:s.heap.get? l=ff { cls:=.type "list",data:=.seq its.toArray n }) (a:f its.toArray=its'.toArray) (c:Vals ys its') (z:ys.length<=sizeLine) :
  Inv X pins σ (upd H l (.lst ys)) { s with heap:=s.heap.update l (dD f),toks:=t' }:=by
 have q:=PySem.IsL.update e f;rw [a] at q;refine I.write (x:=l) (e:=l) (by rw [b]; exact trivial) (.inl rfl) (λg u d h=>(cU s.heap (dD f) (bp d)).trans h) ⟨_,q⟩ ?_;exact ⟨z,its',_,c,q⟩
theorem Inv.lnew {its:List fj} {t':Nat} (I:Inv X pins σ H s) (c:Vals ys its) (z:ys.length<=sizeLine):Inv X pins σ (upd H s.heap.objs.size (.lst ys)) { s with heap:=s.heap.push { cls:=.type "list",data:=.seq its.toArray },toks:=t' }:=
 I.laid (λ_ _ q=>aa _ q) (am _) ⟨z,its,0,c,ai _ rfl⟩
theorem Inv.fresh (I:Inv X pins σ H s):H s.heap.objs.size=none:=I.hok.fresh (am _)
theorem Inv.lstM (I:Inv X pins σ H s) (b:H l=ff (.lst xs)):xs.length<=sizeLine/\∃ (its:List fj) (n:Nat),Vals xs its/\xs.length=its.length/\s.heap.get? l=ff { cls:=.type "list",data:=.seq its.toArray n }:=by obtain ⟨z,its,n,r,e⟩:=I.hok l _ b;exact ⟨z,its,n,r,r.length,e⟩
theorem YF (h:n<=sizeLine):cE n=false:=by unfold cE;exact decide_eq_false (by omega)
end
section
def QU:V->List V->Hp->VK->Prop:=λx vs H Q=>∃ l xs y,x=.ref l/\vs=[y]/\H l=ff (.lst xs)/\xs.length < sizeLine/\Q .non (upd H l (.lst (xs++[y])))
theorem gH:MtM X "list.append" QU:=by intro pins s σ H x vs v us Q I d a h;obtain ⟨l,xs,y,rfl,rfl,b,c,q⟩:=h;cases d;obtain ⟨u,rfl,B⟩:=a.one;obtain ⟨z,its,n,r,hl,e⟩:=I.lstM b;refine ir F.slot_list_append ⟨_,e,rfl⟩ F.entry_list_append (F.args_list_append_2 _ _) (PySem.list_append l its.toArray n u (by rw [ao]; omega)) ⟨e,?_⟩;refine ⟨.non,_,I.lset (its':=its++[u]) b e (by simp) (r.append (.cons B .nil)) ?_,rfl,q⟩;rw [ap,List.length_singleton];omega
def Gn:V->List V->Hp->VK->Prop:=λx vs H Q=>∃ l b xs zs,x=.ref l/\vs=[.ref b]/\H l=ff (.lst xs)/\H b=ff (.lst zs)/\xs.length+zs.length<=sizeLine/\Q .non (upd H l (.lst (xs++zs)))
theorem VX:MtM X "list.extend" Gn:=by
 intro pins s σ H x vs v us Q I d c h;obtain ⟨l,b,xs,zs,rfl,rfl,a,j,m,q⟩:=h;cases d;obtain ⟨u,rfl,B⟩:=c.one;cases B;obtain ⟨z,its,n,r,hl,e⟩:=I.lstM a;obtain ⟨O,i,n2,r2,f,k⟩:=I.lstM j;have hsz:its.toArray.size+i.toArray.size<=sizeLine:=by rw [ao,ao]; omega
 have g:¬(!its.toArray.isEmpty&&cE (its.toArray.size+i.toArray.size))=true:=by rw [YF hsz,Bool.and_false];exact b8
 refine ir F.slot_list_extend ⟨_,e,rfl⟩ F.entry_list_extend (F.args_list_extend_2 _ _)
  (AutoSeq1.list_extend_list_list_0 l its.toArray n b i.toArray n2 g (by rw [ao]; omega) (by omega)) ⟨e,k,?_⟩
 refine ⟨.non,_,I.lset (its':=its++i) a e (by simp) (r.append r2) ?_,rfl,q⟩;rw [ap];omega
end
end L2
namespace Att
open PySem PySem.W PySem.Calls PyProof.Rows
theorem yE {P:h9} {h:Heap}:∀ (ns:List Int) (vs:List fj),WellAll P h vs (ns.map WData.int)->IntsAre vs ns:=by
 intro ns
 induction ns with
 | nil=>intro vs w;rw [bv] at w;cases w;exact .nil
 | cons n ns j=>
  intro vs w;rw [ax] at w;cases w with
  | cons a b=>cases a;exact .cons _ _ (j _ b)
theorem VY {l:OpenLaw} {n:Nat} (s:l.most=ff n) {P:h9} {h:Heap} {args:List WData} {v:List fj}
  (e:l.row.toRowW.claim.pre args=fm) (g:WellAll P h v args) :
  ∃ a vs ns,v=[cu a]/\args=[WData.list (ns.map WData.int)]/\h.get? a=ff { cls:=.type "list",data:=.seq vs.toArray }/\IntsAre vs ns/\ns.length<=n:=by
 have i:WShape.hasAll [] args [.list .int]=true:=(pre_splitW e).1;have j:l.pre.holds [] { args:=args }=true:=(pre_splitW e).2;obtain ⟨d,r,rfl,h1,h2⟩:=hasAllW_cons i;obtain rfl:=hasAllW_nil h2;obtain ⟨xs,rfl,t⟩:=hasW_list h1;obtain ⟨ns,rfl⟩:=items_int t;have b:ns.length<=n:=by
  unfold OpenLaw.pre at j;have f:(WTm.not (.lt (.lit (.int (n:Int))) (.len (.arg 0)))).holds [] { args:=[.list (ns.map .int)] }=true:=by have f:=(holds_andW j).1;rw [s] at f;exact f
  have k:=condW_of f (w_not (w_lt w_lit (w_len_list (w_arg rfl))));rw [ah] at k;refine Nat.le_of_not_lt λq=>?_;have m:(n:Int) < ((ns.length:Nat):Int):=by omega
  first
   | (rw [decide_eq_true m] at k; exact absurd k (by decide))
   | (simp at k; omega)
 cases g with
 | cons p w=>
  cases w;cases p with
  | list o c=>exact ⟨_,_,ns,rfl,rfl,o,yE ns _ c,b⟩
theorem VZ (l:OpenLaw) (args:List WData):l.row.toRowW.claim.post args (.bool fm) args=true:=
 postW_of (r:=l.row.toRowW) (X:=(fm == fm))
  (show WShape.has [] (.bool fm) .bool=fm by first | rfl | decide | simp [WShape.has,WShape.arms,WShape.armsAll])
  (show (WTm.eq .res (.lit (.bool fm))).value [] { args:=args,res:=ff (.bool fm),after:=args }=ff (.bool (fm == fm)) from w_eq_bool (w_res rfl) w_lit) rfl
theorem attach_call {l:OpenLaw} {n:Nat} {q:fz} {loose:List Str} {XP:(Str->Option fj)->Heap->Prop} {YP:fA->Heap->Prop} {d:DefRec}
  (p:l.most=ff n) (hdf:d.params.defaults=[])
  (call:∀ (w:fA) (s₀ s:fq) (mg mb:Str->Option fj) (fa:Addr) (o:Obj) (pm cd doc:fj) (a:Addr) (vs:List fj) (ns:List Int),Ground q loose [] XP w s₀ mg mb s.heap->YP w s.heap ->s.heap.get? fa=ff o->o.data=.func (docDef d.name d.params d.body d.scope pm cd doc)->s.heap.CodeRec cd d.name->mg d.name=ff (.ref fa) ->s.heap.get? a=ff { cls:=.type "list",data:=.seq vs.toArray }->IntsAre vs ns->ns.length<=n->s.gens=#[] ->codeAny (model l.prog w) callerA (.call (.ref fa) ⟨[.ref a],[]⟩) (λr s'=>r=.ok (.ret (.bool fm))/\OldK s.heap s'.heap/\s'.os=s.os/\hZ s'.gens) s) :
  WalkO q loose XP YP l.row.toRowW d [] (λf vs=>e8 f vs):=by
 intro w s₀ s mg mb G Y fa o pm cd doc V kV m hd i D c hg args v as e y k g u;obtain rfl:V=.none:=Dflts.none D hdf;obtain rfl:kV=.none:=Dflts.noKw D;obtain ⟨a,vs,ns,rfl,rfl,j,h,b⟩:=VY p e g;refine enter_call (fY (call w s₀ s mg mb fa o pm cd doc a vs ns G Y m (fd_plain hd) i c j h b hg) λr s' hq=>?_);obtain ⟨rfl,h2,z,x⟩:=hq;exact ⟨.inl ⟨.bool fm,.bool fm,[],rfl,λ_=>rfl,.bool fm,VZ l _,λ_=>⟨cV,λ_ t=>(nomatch t)⟩⟩,h2,z,x⟩
end Att
namespace L2
open PySem PySem.Spec PyProof.Rows
theorem gI:∀ {vs:List fj} {ns:List Int},IntsAre vs ns->Vals (ns.map V.int) vs
 | _,_,.nil=>.nil
 | _,_,.cons n t h=>.cons ⟨t,rfl⟩ (gI h)
def qdc (H:Hp):Prop:=∀ b,H b=fg\/∃ o xs,H b=ff (.frz o (.lst xs))
theorem YG {P:fz} {w:fA} {K:Frag} {mg mb:Str->Option fj} {CX:CXT} {k:Nat} {fa a:Addr} {fd:fW} {x:Str} {sp:Sp} {c:fq} {vs:List fj} {ns:List Int}
  (N:K.In c.heap) (A:c.heap.Ns mainGlobals mg) (g:c.heap.Ns builtinsNs mb) (J:∀ x:Str,x ≠ "__name__"->mb x=bootBuiltins x) (B:c.heap.NoLimit) (hg:c.gens=#[])
  (D:c.heap.get? a=ff { cls:=.type "list",data:=.seq vs.toArray }) (hi:IntsAre vs ns) (hl:ns.length<=sizeLine) (S:Room k callerA)
  (F:∀ base:Heap,K.In base->base.Ns mainGlobals mg->FnOk P w K mg base CX k fa fd [x] sp) (l:∀ (s:fq) (u:fj),iu s fd ⟨[u],[]⟩ [(x,u)])
  (G:∀ H:Hp,qdc H->SqL K H a (ns.map V.int)->sp [.ref a] H (λv _=>v=.bl fm) λ_ _ _=>False)
  (X:∀ H e s',CX [] H c (λ_ _ _=>False) e s'->False) :
  codeAny (model P w) callerA (.call (.ref fa) ⟨[.ref a],[]⟩) (λr s'=>r=.ok (.ret (.bool fm))/\OldK c.heap s'.heap/\s'.os=c.os/\hZ s'.gens) c:=by
 have M:=gI hi;have t:=hi.length;have j:∀ H:Hp,qdc H->SqL K H a (ns.map V.int)->HOk P w H c.heap->(∀ b,H b≠fg->b=a)->(H a≠fg->K.lookup a=fg) ->codeAny (model P w) callerA (.call (.ref fa) ⟨[.ref a],[]⟩) (λr s'=>r=.ok (.ret (.bool fm))/\OldK c.heap s'.heap/\s'.os=c.os/\hZ s'.gens) c:=by
  intro H O T hok hA W;have f:∀ {b:Addr} {o:Obj},c.heap.get? b=ff o->H b=fg->(Yq c.heap H).get? b=ff o:=λe n=>Yr e n;have E:∀ {b:Addr} {o:Obj} {es:Array iq} {ep:Nat},c.heap.get? b=ff o->o.data=.dict es ep->H b=none:=λ{b o es ep} e d=>by
   cases q:H b with
   | none=>rfl
   | some u=>have L:b=a:=hA b (by rw [q]; simp);subst L;rw [D] at e; cases e;have d':Data.seq vs.toArray _=Data.dict es ep:=d;cases d'
  have i:∀ {b:Addr} {m:Str->Option fj},c.heap.Ns b m->(Yq c.heap H).Ns b m:=λ{b m} ⟨o,es,ep,e,d,r⟩=>⟨o,es,ep,f e (E e d),d,r⟩
  have C:K.In (Yq c.heap H):=λb o e=>f (N b o e) (by
   cases q:H b with
   | none=>rfl
   | some u=>have L:b=a:=hA b (by rw [q]; simp);subst L;rw [W (by rw [q]; simp)] at e; cases e)
  have U:Mod K mg (Yq c.heap H):=⟨C,i A,⟨mb,i g,J⟩,let ⟨mc,h1,h2⟩:=B; ⟨mc,i h1,h2⟩⟩
  have e0:Env0 P w K mg (Yq c.heap H) callerA [] c H:=⟨rfl,U,λb o e=>ZP e,cS (VM _ _),trivial,λb g=>absurd (show b∈([]:List Addr) from g) (by simp),hok,.of_eq hg⟩
  refine fY ((F _ C (i A)).run callerA [] c H ⟨[.ref a],[]⟩ [.ref a] [.ref a] _ _ S e0 (l c (.ref a)) (.cons rfl .nil) (G H O T)) λr s' h=>?_;cases r with
  | error e=>exact (X H e s' h).elim
  | ok Y=>
   cases Y with
   | next=>exact cm h
   | brk=>exact cm h
   | cont=>exact cm h
   | ret u=>
    obtain ⟨v,H',os,bare,un,y,r',q⟩:=h;have R:v=.bl true:=q;subst R;obtain rfl:u=b7 true:=r';refine ⟨rfl,OldK.of_keep λb o e=>?_,os,bare⟩;cases q:H b with
    | none=>exact un.keep b o e q (by intro z; exact absurd (show b∈([]:List Addr) from z) (by simp)) (by simp)
    | some u=>
     rcases O b with z | ⟨ob,xs,z⟩
     ·rw [q] at z; cases z
     ·have Q:=un.frzs b ob _ z;obtain ⟨e1,_⟩:=hok b _ z;obtain ⟨Z,_⟩:=y b _ Q;rw [e] at e1; cases e1;exact Z
 cases I:K.lookup a with
 | some o=>have e:=N a o I;rw [D] at e;cases e;refine j (λ_=>fg) (λ_=>.inl rfl) (.inr ⟨_,vs.toArray,_,I,rfl,rfl,rfl,by rw [ao,t]; exact hl,by simpa using M⟩) (λb u z=>by have p:(fg:Option HO)=ff u:=z; cases p) (λb z=>absurd rfl z) λz=>absurd rfl z
 | none=>
  refine j (λb=>if b=a then ff (.frz { cls:=.type "list",data:=.seq vs.toArray } (.lst (ns.map V.int))) else fg) (λb=>?_) (.inl (.inr ⟨{ cls:=.type "list",data:=.seq vs.toArray },if_pos rfl⟩)) (λb u z=>?_) (λb z=>?_) λ_=>I
  ·by_cases g:b=a;·exact .inr ⟨_,_,if_pos g⟩
   ·exact .inl (if_neg g)
  ·by_cases g:b=a;·have p:=(if_pos g).symm.trans z;cases p;subst g;exact ⟨D,by rw [ah]; exact hl,vs,_,M,D⟩
   ·have p:=(if_neg g).symm.trans z;cases p
  ·by_cases g:b=a;·exact g
   ·exact absurd (if_neg g) z
theorem Go {l:d7} {n k:Nat} {q:fz} {loose:List Str} {XP:(Str->Option fj)->Heap->Prop} {YP:fA->Heap->Prop} {d:DefRec} {K:h9->Frag} {CX:fA->CXT} {sp:fA->Sp} {x:Str}
  (A:l.most=ff n) (r:n<=sizeLine) (hdf:d.params.defaults=[]) (z:Room k callerA)
  (D:∀ (w:fA) (h:Heap),YP w h->(K w.params).In h)
  (F:∀ (w:fA) (mg:Str->Option fj) (fa:Addr) (h:Heap),(K w.params).In h->h.Ns mainGlobals mg->mg d.name=ff (.ref fa) ->∃ fd:fW,(∀ (s:fq) (u:fj),iu s fd ⟨[u],[]⟩ [(x,u)]) /\
    ∀ base:Heap,(K w.params).In base->base.Ns mainGlobals mg->FnOk l.prog w (K w.params) mg base (CX w) k fa fd [x] (sp w))
  (p:∀ (w:fA) (H:Hp) (a:Addr) (ns:List Int),ns.length<=n->qdc H->SqL (K w.params) H a (ns.map V.int)->sp w [.ref a] H (λv _=>v=.bl fm) λ_ _ _=>False)
  (X:∀ (w:fA) (H:Hp) (s:fq) (e:fj) (s':fq),CX w [] H s (λ_ _ _=>False) e s'->False) :
  PySem.W.WalkO q loose XP YP l.row.toRowW d [] (λf vs=>e8 f vs):=by
 refine Att.attach_call A hdf λw s₀ j mg mb fa o pm cd doc a vs ns G Y I hd B t m i c hg=>?_;have y:=D w _ Y;obtain ⟨fd,C,E⟩:=F w mg fa _ y G.T.g t;exact YG y G.T.g G.T.b G.T.builtins G.T.nolimit hg m i (bu c r) z E C (λH O S=>p w H a ns c O S) λH e s'=>X w H j e s'
noncomputable def vK (s:Stmt):Arguments:=match s with
 | .FunctionDef _ a _ _ _ _ _ _ _ _=>a
 | _=>{ posonlyargs:=[],args:=[],vararg:=fg,kwonlyargs:=[],kw_defaults:=[],kwarg:=fg,defaults:=[] }
noncomputable def kG (s:Stmt):List Stmt:=match s with
 | .FunctionDef _ _ b _ _ _ _ _ _ _=>b
 | _=>[]
noncomputable def ql (s:Stmt):g6:=match s with
 | .FunctionDef _ _ _ _ _ _ sc _ _ _=>sc
 | _=>{ kind:=.function,names:=[],isGenerator:=fk,isCoroutine:=fk }
structure Fun (K:Frag) (x qual:Str) (st:Stmt) (f:Addr) (fd:fW):Prop where
 ex:∃ (oc:fj) (od:Option Addr) (kV doc pm:fj) (an:Option Addr) (cdv ct:fj) (osl:Array (Option fj)),fd=bO x qual (vK st) (kG st) (ql st) .none kV doc pm an cdv ct/\K.lookup f=ff ⟨oc,od,.func fd,osl⟩/\codeIn K cdv qual=fm
 kp:keepIn K (.ref f)=fm
variable {P:fz} {w:fA} {K:Frag} {qual:Str} {st:Stmt} {f:Addr}
section
variable {mg:Str->Option fj} {base:Heap}
theorem Fun.binds {x:Str} {fd:fW} {ps:List Str} (F:Fun K x qual st f fd)
  (h:∀ (kV doc pm:fj) (an:Option Addr) (cdv ct:fj) (us:List fj),us.length=ps.length->bindArgs (bO x qual (vK st) (kG st) (ql st) .none kV doc pm an cdv ct) ⟨us,[]⟩=pure (ps.zip us)):Binds K fd ps []:=by
 obtain ⟨oc,od,kV,doc,pm,an,cdv,ct,osl,rfl,j,d⟩:=F.ex;exact .all (h kV doc pm an cdv ct)
theorem Wa {x:Str} {oc:fj} {od an:Option Addr} {osl:Array (Option fj)} {kV doc pm cdv ct:fj} (l:K.lookup f=ff ⟨oc,od,.func (bO x qual (vK st) (kG st) (ql st) .none kV doc pm an cdv ct),osl⟩)
  (c:codeIn K cdv qual=fm) (k:keepIn K (.ref f)=fm):Fun K x qual st f (bO x qual (vK st) (kG st) (ql st) .none kV doc pm an cdv ct):=⟨⟨oc,od,kV,doc,pm,an,cdv,ct,osl,rfl,l,c⟩,k⟩
end
def Same (H H':Hp):Prop:=∀ b o,H b=ff o->H' b=ff o
theorem Same.refl (H:Hp):Same H H:=λ_ _ h=>h
variable {H:Hp}
theorem Same.trans {H1 H2:Hp} (a:Same H H1) (b:Same H1 H2):Same H H2:=λc o h=>b c o (a c o h)
variable {H':Hp}
theorem Same.free (e:Same H H') {l:Addr} (h:H' l=Option.none):H l=Option.none:=by
 cases q:H l with
 | none=>rfl
 | some o=>rw [e l o q] at h;cases h
variable {a:Addr}
theorem Same.seq {xs:List V} (e:Same H H') (h:SqL K H a xs):SqL K H' a xs:=by
 rcases h with (h | ⟨o,h⟩) | h;·exact .inl (.inl (e _ _ h))
 ·exact .inl (.inr ⟨o,e _ _ h⟩)
 ·exact .inr h
variable {o:Option V} {u:fj} {y:V}
section
variable {κ:Type} [DecidableEq κ]
noncomputable def JQ (kvs:List (κ×V)) (k:κ):Option V:=(kvs.find? λkv=>decide (kv.1=k)).map (·.2)
noncomputable def QV (kvs:List (κ×V)) (k:κ) (v:V):List (κ×V):=
 if (kvs.any λkv=>decide (kv.1=k))=fm then kvs.map (λkv=>if kv.1=k then (kv.1,v) else kv) else kvs++[(k,v)]
theorem yn {p:κ×V} {r:List (κ×V)} {k:κ} (e:p.1=k):JQ (p::r) k=ff p.2:=by simp [JQ,ce,e]
theorem yo {p:κ×V} {r:List (κ×V)} {k:κ} (e:¬p.1=k):JQ (p::r) k=JQ r k:=by simp [JQ,ce,e]
theorem ze (k:κ):∀ kvs:List (κ×V),(kvs.any λkv=>decide (kv.1=k))=(JQ kvs k).isSome
 | []=>rfl
 | p::r=>by
  rw [cF];by_cases e:p.1=k;·simp only [yn e,decide_eq_true e,Bool.true_or,Option.isSome_some]
  ·rw [yo e,decide_eq_false e,Bool.false_or]; exact ze k r
theorem yF (kvs:List (κ×V)) (k:κ) (v:V):(QV kvs k v).length<=kvs.length+1:=by
 unfold QV;split;·rw [ah]; omega
 ·rw [ap,af,aM]; omega
theorem RelO.isSome_eq {u:Option fj} (r:RelO o u):o.isSome=u.isSome:=by
 cases o with
 | none=>cases u with
  | none=>rfl
  | some _=>exact (show False from r).elim
 | some _=>cases u with
  | none=>exact (show False from r).elim
  | some _=>rfl
theorem KV.val {kvs:List (κ×V)} {vs:List (κ×fj)} (r:KV kvs vs) (k:κ):RelO (JQ kvs k) (valueAt vs k):=by
 unfold KV at r
 induction r with
 | nil=>exact ck
 | @cons p q ps qs h t ih=>
  obtain ⟨h1,h2⟩:=h;by_cases e:p.1=k
  ·have a:q.1=k:=h1.symm.trans e;have b:valueAt (q::qs) k=ff q.2:=by simp [valueAt,ce,a]
   rw [yn e,b]; exact h2
  ·have a:¬q.1=k:=λz=>e (h1.trans z);have b:valueAt (q::qs) k=valueAt qs k:=by simp [valueAt,ce,a]
   rw [yo e,b]; exact ih
theorem KV.any {kvs:List (κ×V)} {vs:List (κ×fj)} (r:KV kvs vs) (k:κ):(kvs.any λkv=>decide (kv.1=k))=vs.any λkv=>decide (kv.1=k):=by
 unfold KV at r
 induction r with
 | nil=>rfl
 | cons h t j=>rw [cF,cF,j,h.1]
theorem KV.repl {kvs:List (κ×V)} {vs:List (κ×fj)} (r:KV kvs vs) (k:κ) (c:RelV y u):KV (kvs.map λkv=>if kv.1=k then (kv.1,y) else kv) (vs.map λkv=>if kv.1=k then (kv.1,u) else kv):=by
 unfold KV at r ⊢
 induction r with
 | nil=>exact .nil
 | @cons p q ps qs h t ih=>
  rw [ax,ax];refine .cons ?_ ih;obtain ⟨h1,h2⟩:=h;by_cases e:p.1=k;·rw [if_pos e,if_pos (h1.symm.trans e)]; exact ⟨h1,c⟩
  ·rw [if_neg e,if_neg (λz=>e (h1.trans z))]; exact ⟨h1,h2⟩
theorem KV.put {kvs:List (κ×V)} {vs:List (κ×fj)} (r:KV kvs vs) (k:κ) (c:RelV y u):KV (QV kvs k y) (stored vs k u):=by
 unfold QV stored;rw [r.any k];by_cases e:(vs.any λkv=>decide (kv.1=k))=fm;·rw [if_pos e,if_pos e]; exact r.repl k c
 ·rw [if_neg e,if_neg e]; exact Paired.snoc r ⟨rfl,c⟩
theorem KV.keys {kvs:List (κ×V)} {vs:List (κ×fj)} (r:KV kvs vs):kvs.map (·.1)=vs.map (·.1):=by
 unfold KV at r
 induction r with
 | nil=>rfl
 | cons h t j=>rw [ax,ax,j,h.1]
theorem KV.length {kvs:List (κ×V)} {vs:List (κ×fj)} (r:KV kvs vs):kvs.length=vs.length:=dP r
end
theorem Wb {k:Key} (r:RelV (kV k) u):(jv P w).is k u=true:=by
 cases k with
 | inl i=>obtain ⟨t,e⟩:=(show ∃ t,u=dB i t from r); subst e; exact QP P w i t
 | inr x=>obtain ⟨t,e⟩:=(show ∃ t,u=cr x t from r); subst e; exact QQ P w x t
theorem vL:∀ {ks:List Key} {us:List fj},Vals (ks.map kV) us->ItemsAre (jv P w) ks us
 | [],_,r=>by rw [bv] at r; cases r; exact .nil
 | k::ks,_,r=>by
  rw [ax] at r;cases r with
  | cons h t=>exact .cons (Wb h) (vL t)
abbrev KT (H:Hp):List (List Key×V)->List (List Key×Addr×fj)->Prop:=Paired λp q=>p.1=q.1/\H q.2.1=ff (.tup (p.1.map kV))/\RelV p.2 q.2.2
variable {xs:List (List Key×Addr×fj)} {kvs:List (List Key×V)}
theorem KT.val (r:KT H kvs xs) (k:List Key):RelO (JQ kvs k) ((atKey xs k).map (·.2)):=by
 induction r with
 | nil=>exact ck
 | @cons p q ps qs h t ih=>
  obtain ⟨h1,_,h2⟩:=h;by_cases e:p.1=k
  ·have a:q.1=k:=h1.symm.trans e;have b:atKey (q::qs) k=ff q.2:=by simp [atKey,ce,a]
   rw [yn e,b]; exact h2
  ·have a:¬q.1=k:=λz=>e (h1.trans z);have b:atKey (q::qs) k=atKey qs k:=by simp [atKey,ce,a]
   rw [yo e,b]; exact ih
theorem KT.repl (r:KT H kvs xs) (k:List Key) (c:RelV y u):KT H (kvs.map λkv=>if kv.1=k then (kv.1,y) else kv) (xs.map (putAt k u)):=by
 induction r with
 | nil=>exact .nil
 | @cons p q ps qs h t ih=>
  rw [ax,ax];refine .cons ?_ ih;obtain ⟨h1,h2,i⟩:=h;unfold putAt;by_cases e:p.1=k;·rw [if_pos e,if_pos (h1.symm.trans e)]; exact ⟨h1,h2,c⟩
  ·rw [if_neg e,if_neg (λz=>e (h1.trans z))]; exact ⟨h1,h2,i⟩
variable {b:Addr}
theorem KT.put (r:KT H kvs xs) (k:List Key) (d:H b=ff (.tup (k.map kV))) (c:RelV y u):KT H (QV kvs k y) (storedH xs k b u):=by
 have e:(kvs.any λkv=>decide (kv.1=k))=(atKey xs k).isSome:=by rw [ze,(r.val k).isSome_eq,dJ]
 unfold QV storedH;rw [e];by_cases q:(atKey xs k).isSome=fm;·rw [if_pos q,if_pos q]; exact r.repl k c
 ·rw [if_neg q,if_neg q]; exact Paired.snoc r ⟨rfl,d,c⟩
theorem KT.keeps (r:KT H kvs xs) (ht:∀ b ys,H b=ff (.tup ys)->H' b=ff (.tup ys)):KT H' kvs xs:=
 Paired.mapP r λ_ _ z=>⟨z.1,ht _ _ z.2.1,z.2.2⟩
section
variable {h:Heap}
theorem qbj {u:HO} (ok:HOk P w H h) (e:Rd H a u):ObjOk P w H h a u:=e.ok ok
theorem Ve {kvs:List (Key×V)} (ok:HOk P w H h) (e:Rd H a (.dK kvs)):kvs.length<=sizeLine/\(a == sysModules)=fk/\∃ vs,KV kvs vs/\h.DictOf (jv P w) a vs:=
 show ObjOk P w H h a (.dK kvs) from qbj ok e
theorem qdd {kvs:List (Key×V)} (ok:HOk P w H h) (e:H a=ff (.dK kvs)):kvs.length<=sizeLine/\(a == sysModules)=fk/\∃ vs,KV kvs vs/\h.DictOf (jv P w) a vs:=Ve ok (.inl e)
theorem xL {ks:List Key} (ok:HOk P w H h) (e:H a=ff (.tup (ks.map kV))):(tupleKind (jv P w)).is h ks a:=by
 obtain ⟨_,its,r,o,h1,h2,n,i⟩:=(show ObjOk P w H h a (.tup (ks.map kV)) from ok a _ e)
 exact ⟨o,its.toArray,n,h1,h2,i,by simpa using vL r⟩
theorem Wc (ok:HOk P w H h) (e:Rd H a (.dT kvs)):kvs.length<=sizeLine/\(a == sysModules)=fk /\
  ∃ xs,KT H kvs xs/\h.DictOfH (tupleKind (jv P w)) a xs:=by
 obtain ⟨z,y,xs,r,o,es,ep,h1,h2,i,b,k⟩:=(show ObjOk P w H h a (.dT kvs) from qbj ok e)
 refine ⟨z,y,xs,r,o,es,ep,h1,h2,i,b,λx hx=>?_,k⟩;have all:∀ {l:List (List Key×V)} {m:List (List Key×Addr×fj)},KT H l m->∀ x∈m,(tupleKind (jv P w)).is h x.1 x.2.1:=by
  intro l m q
  induction q with
  | nil=>intro x hx; exact nomatch hx
  | @cons p q ps qs hq t ih=>
   intro x hx;rcases ae.mp hx with e | hx
   ·subst e;exact xL ok (by rw [<-hq.1]; exact hq.2.1)
   ·exact ih x hx
 exact all r x hx
theorem qde (ok:HOk P w H h) (e:H a=ff (.dT kvs)):kvs.length<=sizeLine/\(a == sysModules)=fk /\
  ∃ xs,KT H kvs xs/\h.DictOfH (tupleKind (jv P w)) a xs:=Wc ok (.inl e)
end
def DGet (H:Hp) (a:Addr) (y:V) (r:Option V):Prop:=
 (∃ kvs k,Rd H a (.dK kvs)/\y=kV k/\r=JQ kvs k)\/∃ kvs k b,Rd H a (.dT kvs)/\y=.ref b/\H b=ff (.tup (k.map kV))/\r=JQ kvs k
def DPut (H:Hp) (a:Addr) (y v:V) (H':Hp):Prop:=
 (∃ kvs k,H a=ff (.dK kvs)/\y=kV k/\kvs.length < sizeLine/\H'=upd H a (.dK (QV kvs k v))) \/
 ∃ kvs k b,H a=ff (.dT kvs)/\y=.ref b/\H b=ff (.tup (k.map kV))/\kvs.length < sizeLine/\H'=upd H a (.dT (QV kvs k v))
theorem DGet.k {kvs:List (Key×V)} {k:Key} (e:H a=ff (.dK kvs)):DGet H a (kV k) (JQ kvs k):=.inl ⟨kvs,k,.inl e,rfl,rfl⟩
theorem DGet.t {k:List Key} (e:H a=ff (.dT kvs)) (J:H b=ff (.tup (k.map kV))):DGet H a (.ref b) (JQ kvs k):=.inr ⟨kvs,k,b,.inl e,rfl,J,rfl⟩
variable {v:V}
theorem DPut.k {kvs:List (Key×V)} {k:Key} (e:H a=ff (.dK kvs)) (hl:kvs.length < sizeLine):DPut H a (kV k) v (upd H a (.dK (QV kvs k v))):=.inl ⟨kvs,k,e,rfl,hl,rfl⟩
theorem DPut.t {k:List Key} {v:V} (e:H a=ff (.dT kvs)) (J:H b=ff (.tup (k.map kV))) (hl:kvs.length < sizeLine):DPut H a (.ref b) v (upd H a (.dT (QV kvs k v))):=.inr ⟨kvs,k,b,e,rfl,J,hl,rfl⟩
variable {X:Cx} {pins:Pns} {σ:St} {s:fq} {A:fD} {E Q:fj->fq->Prop} {h':Heap}
section
variable {r:fj}
theorem Inv.big (I:Inv X pins σ H s):sysModules < s.heap.objs.size:=by have h:mainGlobals < s.heap.objs.size:=(I.mod.glob.keeps I.bk).lt;exact dw (by decide) h
theorem We (j:A.units+1 < cLine) (I:Inv X pins σ H s) (g:DGet H a y (ff v)) (i:RelV y u) (h:∀ S s',Inv X pins σ H s'->RelV v S->Q S s'):wpAny (model X.prog X.w) A (getItem (.ref a) u) Q E s:=by
 rcases g with ⟨kvs,k,e,f,l⟩ | ⟨kvs,k,b,e,f,J,l⟩
 ·subst f;obtain ⟨z,hd,vs,rel,dd⟩:=Ve I.hok e;obtain ⟨S,c,r⟩:=RelO.some_of (v:=v) (o:=valueAt vs k) (by rw [l]; exact rel.val k);exact wpAny_getItem_of (Wb i) dd.mapOf c (h S _ (I.tok _) r)
 ·subst f;cases (show u=cu b from i);obtain ⟨z,hd,xs,rel,dd⟩:=Wc I.hok e;obtain ⟨S,c,r⟩:=RelO.some_of (v:=v) (o:=(atKey xs k).map (·.2)) (by rw [l]; exact rel.val k);obtain ⟨p,hp,d⟩:=aL.mp c;refine wpAny_getItem_heap (f6 j) (xL I.hok J) dd hp ?_;rw [d];exact h S _ (I.tok _) r
theorem qey (d:A.units+1 < cLine) (I:Inv X pins σ H s) (g:DGet H a y o) (c:RelV y u) (h:∀ s',Inv X pins σ H s'->Q (.bool o.isSome) s'):wpAny (model X.prog X.w) A (compareOp .In u (.ref a)) Q E s:=by
 rcases g with ⟨kvs,k,e,f,l⟩ | ⟨kvs,k,b,e,f,J,l⟩
 ·subst f;obtain ⟨z,hd,vs,rel,dd⟩:=Ve I.hok e;refine wpAny_in_of (Wb c) hd dd.mapOf ?_;rw [<-(rel.val k).isSome_eq,<-l];exact h _ (I.tok _)
 ·subst f;cases (show u=cu b from c);obtain ⟨z,hd,xs,rel,dd⟩:=Wc I.hok e;refine wpAny_in_heap (f6 d) (xL I.hok J) hd dd ?_;have q:=(rel.val k).isSome_eq;rw [dJ] at q;rw [<-q,<-l];exact h _ (I.tok _)
theorem Gp (d:A.units+1 < cLine) (I:Inv X pins σ H s) (g:DGet H a y o) (c:RelV y u) (h:∀ s',Inv X pins σ H s'->Q (.bool (!o.isSome)) s'):wpAny (model X.prog X.w) A (compareOp .NotIn u (.ref a)) Q E s:=by
 rcases g with ⟨kvs,k,e,f,l⟩ | ⟨kvs,k,b,e,f,J,l⟩
 ·subst f;obtain ⟨z,hd,vs,rel,dd⟩:=Ve I.hok e;refine wpAny_notIn_of (Wb c) hd dd.mapOf ?_;rw [<-(rel.val k).isSome_eq,<-l];exact h _ (I.tok _)
 ·subst f;cases (show u=cu b from c);obtain ⟨z,hd,xs,rel,dd⟩:=Wc I.hok e;refine wpAny_notIn_heap (f6 d) (xL I.hok J) hd dd ?_;have q:=(rel.val k).isSome_eq;rw [dJ] at q;rw [<-q,<-l];exact h _ (I.tok _)
theorem Wf {t':Nat} {o:HO} (I:Inv X pins σ H s) (m:Mut (H a)) (hs:bq a s.heap h') (i:∃ q,h'.get? a=ff q) (new:ObjOk X.prog X.w (upd H a o) h' a o):Inv X pins σ (upd H a o) { s with heap:=h',toks:=t' }:=
 I.write (x:=a) (e:=a) m (.inl rfl) (λb q d z=>(hs.2 b d).trans z) i new
theorem Zj {H':Hp} {kvs:List (Key×V)} {vs:List (Key×fj)} (z:kvs.length<=sizeLine) (hd:(a == sysModules)=fk) (rel:KV kvs vs) (dd:h'.DictOf (jv P w) a vs):ObjOk P w H' h' a (.dK kvs):=⟨z,hd,vs,rel,dd⟩
theorem Wg {Q:Unit->fq->Prop} (p:A.units+1 < cLine) (I:Inv X pins σ H s) (g:DPut H a y v H') (m:RelV y u) (n:RelV v r) (h:∀ s',Inv X pins σ H' s'->Q () s'):wpAny (model X.prog X.w) A (setItem (.ref a) u r) Q E s:=by
 rcases g with ⟨kvs,k,e,i,l,j⟩ | ⟨kvs,k,b,e,i,J,l,j⟩
 ·subst i j;obtain ⟨z,hd,vs,rel,dd⟩:=qdd I.hok e;have f:vs.length<=sizeLine:=by rw [<-rel.length]; exact z
  have hl:(QV kvs k v).length<=sizeLine:=by have:=yF kvs k v; omega
  refine wpAny_setItem_pairs (hsz:=f) (Wb m) dd λh' d hs=>h _ ?_;have t:∃ q,h'.get? a=ff q:=let ⟨q,_,_,hq,_⟩:=d; ⟨q,hq⟩
  exact Wf I (by rw [e]; exact ck) hs t (Zj hl hd (rel.put k n) d)
 ·subst i j;cases (show u=cu b from m);obtain ⟨z,hd,xs,rel,dd⟩:=qde I.hok e;have f:xs.length<=sizeLine:=by rw [<-dP rel]; exact z
  have hl:(QV kvs k v).length<=sizeLine:=by have:=yF kvs k v; omega
  refine wpAny_setItem_heap (hsz:=f) (f6 p) (xL I.hok J) dd λh' d hs=>h _ ?_;obtain ⟨q,es,ep,hq,h2,C,B,_,x⟩:=d;refine Wf I (by rw [e]; exact ck) hs ⟨q,hq⟩ ⟨hl,hd,_,(rel.put k J n).keeps λc ys o=>?_,q,es,ep,hq,h2,C,B,x⟩;rw [qp (qcP o e (λz=>nomatch z))];exact o
end
section
variable {kvs:List (Key×V)} {k:Key}
theorem qdf (I:Inv X pins σ H s) (e:Rd H a (.dK kvs)) (h:∀ t s',Inv X pins σ H s'->Q (.int kvs.length t) s'):wpAny (model X.prog X.w) A (call (.builtin "len") [.ref a]) Q E s:=by obtain ⟨z,hd,vs,rel,dd⟩:=Ve I.hok e;refine call_len_dict hd dd (by rw [<-rel.length]; rw [fE] at z; omega) ?_;rw [<-rel.length];exact h _ _ (I.tok _)
end
theorem QW (I:Inv X pins σ H s) (g:DGet H a y o):s.TypeIs (.ref a) "dict":=by
 rcases g with ⟨kvs,k,e,_,_⟩ | ⟨kvs,k,b,e,_,_,_⟩
 ·obtain ⟨_,_,vs,_,dd⟩:=Ve I.hok e;exact dd.typeIs
 ·obtain ⟨_,_,xs,_,dd⟩:=Wc I.hok e;exact dd.typeIs
def qdg (td ty tv:TE):TS:=λD σ H=>tv σ H λv H1=>td σ H1 λx H2=>ty σ H2 λy d=>∃ a b,x=.ref a/\DPut d a y v b/\D.nx σ b
variable {pos:Pos}
section
variable {o i e value:Expr} {pos' tpos:Pos} {td ty tv:TE}
theorem Gq (k:X.A.units+1 < cLine) (l:PE X o td) (hi:PE X i ty) (j:PE X value tv) (hs:swapsWith value (ff (.Subscript o i pos')) pos.line X.env=pure fk):PS X (.Assign [.Subscript o i pos'] value pos) (qdg td ty tv):=by refine ⟨?_⟩;intro pins s σ H D I h;refine wpAny_Assign_Subscript (thn (j pins s σ H _ I h) λr s1 ⟨v,H1,p,b,f⟩=>thn (l pins s1 σ H1 _ p f) λu s2 ⟨x,H2,n,d,e⟩=>thn (hi pins s2 σ H2 _ n e) λw s3 ⟨y,z,m,c,a,t,ex,g,q⟩=>?_) hs;subst ex;obtain rfl:u=cu a:=d;exact Wg k m g c b λs4 B=>⟨σ,t,B,q⟩
end
theorem YH (h:Heap) (d:sysModules < h.objs.size):ObjOk P w H (h.push { cls:=.type "dict",data:=.dict #[] }) h.objs.size (.dK []):=
 ⟨aZ _,beq_eq_false_iff_ne.mpr (bp (aF d)),[],.nil,Heap.DictOf.new h⟩
def qbk:TE:=λ_ H Q=>∀ p,H p=fg->Q (.ref p) (upd H p (.dK []))
section
theorem YI:PE X (.Dict [] [] pos) qbk:=⟨λpins s σ H Q I h=>
 wpAny_Dict_empty ⟨.ref s.heap.objs.size,_,I.laid (a:=s.heap.objs.size) (o:=.dK []) (t':=s.toks) (λ_ _ q=>aa _ q) (am _) (YH s.heap I.big),rfl,h _ (I.hok.fresh (am _))⟩⟩
end
structure M1 (X:Cx) (o:Expr) (m:Str) (apos:Pos) (e:Expr) (cpos:Pos):Prop where
 base:attributeBase o m X.env (eval o X.env)=eval o X.env
 few:((backTo cpos (starEach [e] X.env)).all (λx=>!x.1)&&(backToKw cpos (keywordEach [] X.env)).all (λx=>x.1.isSome)
  && decide (([e]:List Expr).length+([]:List fN).length+(if ([]:List fN).isEmpty then 0 else 1) < 30))=fm
 line:(apos.endLine == cpos.line)=fm
 trees:backTo cpos (starEach [e] X.env)=[(fk,eval e X.env)]
structure M2 (X:Cx) (o:Expr) (m:Str) (apos:Pos) (e f:Expr) (cpos:Pos):Prop where
 base:attributeBase o m X.env (eval o X.env)=eval o X.env
 few:((backTo cpos (starEach [e,f] X.env)).all (λx=>!x.1)&&(backToKw cpos (keywordEach [] X.env)).all (λx=>x.1.isSome)
  && decide (([e,f]:List Expr).length+([]:List fN).length+(if ([]:List fN).isEmpty then 0 else 1) < 30))=fm
 line:(apos.endLine == cpos.line)=fm
 trees:backTo cpos (starEach [e,f] X.env)=[(fk,eval e X.env),(fk,eval f X.env)]
section
theorem Wh:kX X (.builtin "len") (λxs H Q=>∃ a kvs,xs=[V.ref a]/\H a=ff (.dK kvs)/\Q (.int kvs.length) H):=by intro pins s σ H xs us Q I r h;obtain ⟨a,kvs,rfl,g,q⟩:=h;obtain ⟨u,rfl,B⟩:=vE r;cases B;exact qdf I (.inl g) λt s' b=>⟨.int kvs.length,H,b,⟨t,rfl⟩,q⟩
end
end L2
namespace L2.D2
open PySem PySem.Spec PyProof.Rows
variable {b:List Nat}
theorem wE {a:List Nat} (h:(a.all λi=>decide (i∈b))=fm):∀ i∈a,i∈b:=λi hi=>of_decide_eq_true (aO.mp h i hi)
theorem wX {i:Nat} (h:decide (i∈b)=fk):i∉b:=of_decide_eq_false h
noncomputable def QX:Expr->Bool
 | .Starred ..=>fk
 | _=>fm
variable {e:Expr} {env:Env}
theorem jj {es:List Expr} (h:QX e=fm):starEach (e::es) env=(fk,eval e env)::starEach es env:=by cases e <;> first | rfl | cases h
theorem qy (h:QX e=fm):starEach [e] env=[(fk,eval e env)]:=jj h
theorem YJ {a b:Expr} (h:QX a=fm) (k:QX b=fm):starEach [a,b] env=[(fk,eval a env),(fk,eval b env)]:=by rw [jj h,qy k]
variable {pos:Pos}
theorem yp:∀ {es:List Expr},es.all QX=fm->(backTo pos (starEach es env)).any (·.1)=fk
 | [],_=>rfl
 | e::es,h=>by rw [dQ,aT] at h;rw [jj h.1];exact yp h.2
theorem wY (h:QX e=fm):((backTo pos (starEach [e] env)).all (λx=>!x.1)&&(backToKw pos (keywordEach [] env)).all (λx=>x.1.isSome)
   && decide ([e].length+([]:List fN).length+(if ([]:List fN).isEmpty then 0 else 1) < 30))=true:=by rw [qy h]; rfl
inductive D where
 | non | bl (b:Bool) | int (i:Int) | str (x:Str)
 | tup (xs:List D) | lst (xs:List D) | dct (kvs:List (Key×D)) | raw (v:V)
 | xcp (C:Addr) | ins (C:Addr) (fs:List (Str×D)) | at_ (a:Addr) (xs:List D)
 deriving Inhabited
abbrev Sl:=List (Option D)
inductive Out (α:Type) where
 | ok (a:α) | exc (c:Str) (o:Sl) | bad
variable {α β:Type}
noncomputable def Out.bind (o:Out α) (k:α->Out β):Out β:=match o with
 | .ok a=>k a
 | .exc c o=>.exc c o
 | .bad=>.bad
@[simp] theorem Out.og (a:α) (k:α->Out β):(Out.ok a).bind k=k a:=rfl
@[simp] theorem Out.exc_bind (c:Str) (o:Sl) (k:α->Out β):(Out.exc c o:Out α).bind k=.exc c o:=rfl
@[simp] theorem Out.bad_bind (k:α->Out β):(Out.bad:Out α).bind k=.bad:=rfl
noncomputable def qez (a C:Addr):HO:=.ext λh=>∃ o vs,h.get? a=ff o/\o.cls=.ref C/\o.data=.fields vs
mutual
/-- the value v is the data d,all its objects in F -/
inductive Is (K:Frag) (F:Hp):V->D->Prop
 | non:Is K F .non .non
 | bl (b:Bool):Is K F (.bl b) (.bl b)
 | int (i:Int):Is K F (.int i) (.int i)
 | str {x:Str} (h:x.length<=sizeLine):Is K F (.str x) (.str x)
 | tup {a:Addr} {xs:List V} {ds:List D} (h:SqT K F a xs) (t:IsL K F xs ds):Is K F (.ref a) (.tup ds)
 | lst {a:Addr} {xs:List V} {ds:List D} (h:SqL K F a xs) (t:IsL K F xs ds):Is K F (.ref a) (.lst ds)
 | dct {a:Addr} {kv:List (Key×V)} {kvs:List (Key×D)} (h:F a=ff (.dK kv)) (t:IsK K F kv kvs):Is K F (.ref a) (.dct kvs)
 | raw (v:V):Is K F v (.raw v)
 | xcp {a C:Addr} (h:F a=ff (qez a C)):Is K F (.ref a) (.xcp C)
 | ins {a C dx:Addr} {fv:List (Str×V)} {fs:List (Str×D)} (h:F a=ff (.ins C dx fv)) (t:IsF K F fv fs):Is K F (.ref a) (.ins C fs)
 | at_ {a:Addr} {xs:List V} {ds:List D} (h:SqL K F a xs) (t:IsL K F xs ds):Is K F (.ref a) (.at_ a ds)
inductive IsL (K:Frag) (F:Hp):List V->List D->Prop
 | nil:IsL K F [] []
 | cons {v:V} {d:D} {vs:List V} {ds:List D} (h:Is K F v d) (t:IsL K F vs ds):IsL K F (v::vs) (d::ds)
inductive IsK (K:Frag) (F:Hp):List (Key×V)->List (Key×D)->Prop
 | nil:IsK K F [] []
 | cons {k:Key} {v:V} {d:D} {vs:List (Key×V)} {ds:List (Key×D)} (h:Is K F v d) (t:IsK K F vs ds):IsK K F ((k,v)::vs) ((k,d)::ds)
inductive IsF (K:Frag) (F:Hp):List (Str×V)->List (Str×D)->Prop
 | nil:IsF K F [] []
 | cons {k:Str} {v:V} {d:D} {vs:List (Str×V)} {ds:List (Str×D)} (h:Is K F v d) (t:IsF K F vs ds):IsF K F ((k,v)::vs) ((k,d)::ds)
end
theorem qP {K:Frag} {H H':Hp} {a:Addr} {xs:List V} (e:Same H H') (h:SqT K H a xs):SqT K H' a xs:=by
 rcases h with (h | ⟨o,h⟩) | h;·exact .inl (.inl (e _ _ h))
 ·exact .inl (.inr ⟨o,e _ _ h⟩)
 ·exact .inr h
mutual
theorem Is.mono {K:Frag} {F F':Hp} (e:Same F F'):∀ {v:V} {d:D},Is K F v d->Is K F' v d
 | _,_,.non=>.non
 | _,_,.bl b=>.bl b
 | _,_,.int i=>.int i
 | _,_,.str h=>.str h
 | _,_,.tup h t=>.tup (qP e h) (IsL.mono e t)
 | _,_,.lst h t=>.lst (e.seq h) (IsL.mono e t)
 | _,_,.dct h t=>.dct (e _ _ h) (IsK.mono e t)
 | _,_,.raw v=>.raw v
 | _,_,.xcp h=>.xcp (e _ _ h)
 | _,_,.ins h t=>.ins (e _ _ h) (IsF.mono e t)
 | _,_,.at_ h t=>.at_ (e.seq h) (IsL.mono e t)
theorem IsL.mono {K:Frag} {F F':Hp} (e:Same F F'):∀ {vs:List V} {ds:List D},IsL K F vs ds->IsL K F' vs ds
 | _,_,.nil=>.nil
 | _,_,.cons h t=>.cons (Is.mono e h) (IsL.mono e t)
theorem IsK.mono {K:Frag} {F F':Hp} (e:Same F F'):∀ {vs:List (Key×V)} {ds:List (Key×D)},IsK K F vs ds->IsK K F' vs ds
 | _,_,.nil=>.nil
 | _,_,.cons h t=>.cons (Is.mono e h) (IsK.mono e t)
theorem IsF.mono {K:Frag} {F F':Hp} (e:Same F F'):∀ {vs:List (Str×V)} {ds:List (Str×D)},IsF K F vs ds->IsF K F' vs ds
 | _,_,.nil=>.nil
 | _,_,.cons h t=>.cons (Is.mono e h) (IsF.mono e t)
end
theorem IsL.length {K:Frag} {F:Hp}:∀ {vs:List V} {ds:List D},IsL K F vs ds->vs.length=ds.length
 | _,_,.nil=>rfl
 | _,_,.cons _ t=>congrArg (·+1) (IsL.length t)
theorem IsL.get {K:Frag} {F:Hp}:∀ {vs:List V} {ds:List D} {i:Nat} {v:V},IsL K F vs ds->vs[i]?=ff v->∃ d,ds[i]?=ff d/\Is K F v d
 | _,_,_,_,.nil,e=>by simp at e
 | _,_,0,_,.cons h _,e=>by simp at e; subst e; exact ⟨_,rfl,h⟩
 | _,_,i+1,v,.cons _ t,e=>by obtain ⟨d,h1,h2⟩:=IsL.get (i:=i) (v:=v) t (by simpa using e);exact ⟨d,by simpa using h1,h2⟩
theorem IsL.getD {K:Frag} {F:Hp}:∀ {vs:List V} {ds:List D} {i:Nat} {d:D},IsL K F vs ds->ds[i]?=ff d->∃ v,vs[i]?=ff v/\Is K F v d
 | _,_,_,_,.nil,e=>by simp at e
 | _,_,0,_,.cons h _,e=>by simp at e; subst e; exact ⟨_,rfl,h⟩
 | _,_,i+1,v,.cons _ t,e=>by obtain ⟨d,h1,h2⟩:=IsL.getD (i:=i) (d:=v) t (by simpa using e);exact ⟨d,by simpa using h1,h2⟩
theorem IsL.append {K:Frag} {F:Hp}:∀ {vs ws:List V} {ds es:List D},IsL K F vs ds->IsL K F ws es->IsL K F (vs++ws) (ds++es)
 | _,_,_,_,.nil,s=>s
 | _,_,_,_,.cons h t,s=>.cons h (IsL.append t s)
theorem IsL.drop {K:Frag} {F:Hp}:∀ {vs:List V} {ds:List D} (n:Nat),IsL K F vs ds->IsL K F (vs.drop n) (ds.drop n)
 | _,_,0,r=>r
 | _,_,_+1,.nil=>.nil
 | _,_,n+1,.cons _ t=>IsL.drop n t
theorem IsL.take {K:Frag} {F:Hp}:∀ {vs:List V} {ds:List D} (n:Nat),IsL K F vs ds->IsL K F (vs.take n) (ds.take n)
 | _,_,0,_=>.nil
 | _,_,_+1,.nil=>.nil
 | _,_,n+1,.cons h t=>.cons h (IsL.take n t)
theorem IsL.set {K:Frag} {F:Hp} {v:V} {d:D} (h:Is K F v d):∀ {vs:List V} {ds:List D} (i:Nat),IsL K F vs ds->IsL K F (vs.set i v) (ds.set i d)
 | _,_,_,.nil=>.nil
 | _,_,0,.cons _ t=>.cons h t
 | _,_,i+1,.cons q t=>.cons q (IsL.set h i t)
def OwnIs (K:Frag) (F H:Hp) (a:Addr):D->Prop
 | .lst ds=>∃ xs,H a=ff (.lst xs)/\IsL K F xs ds
 | .dct kvs=>∃ kv,H a=ff (.dK kv)/\IsK K F kv kvs
 | .ins C fs=>∃ dx fv,H a=ff (.ins C dx fv)/\IsF K F fv fs
 | .at_ b ds=>b=a/\∃ xs,H a=ff (.lst xs)/\IsL K F xs ds
 | _=>False
def TopIs (K:Frag) (F H:Hp) (v:V) (d:D):Prop:=Is K F v d\/∃ a,v=.ref a/\OwnIs K F H a d
inductive Mo where
 | sh | fr | any
def MoIs (K:Frag) (m:Mo) (H0 F H:Hp) (v:V) (d:D):Prop:=match m with
 | .sh=>Is K F v d
 | .fr=>∃ a,v=.ref a/\H0 a=fg/\F a=fg/\OwnIs K F H a d
 | .any=>TopIs K F H v d
theorem MoIs.top {K:Frag} {m:Mo} {H0 F H:Hp} {v:V} {d:D} (h:MoIs K m H0 F H v d):TopIs K F H v d:=by
 cases m with
 | sh=>exact .inl h
 | fr=>obtain ⟨a,e,_,_,o⟩:=h; exact .inr ⟨a,e,o⟩
 | any=>exact h
structure Chg (A:Addr->Prop) (F H F' H':Hp):Prop where
 keep:∀ b o,H b=ff o->¬A b->H' b=ff o
 stay:∀ b,H b≠fg->H' b≠fg
 grow:Same F F'
 new:∀ b,F' b≠fg->F b≠fg\/H b=fg\/A b
theorem Chg.refl {A:Addr->Prop} {F H:Hp}:Chg A F H F H:=⟨λ_ _ e _=>e,λ_ h=>h,Same.refl _,λ_ h=>.inl h⟩
theorem Chg.trans {A A1:Addr->Prop} {F H F1 H1 c H2:Hp} (a:Chg A F H F1 H1) (b:Chg A1 F1 H1 c H2) (hA:∀ x,A1 x->A x\/H x=fg):Chg A F H c H2 where
 keep:=λx o e n=>b.keep x o (a.keep x o e n) λz=>(hA x z).elim n λq=>by rw [e] at q; cases q
 stay:=λx h=>b.stay x (a.stay x h)
 grow:=a.grow.trans b.grow
 new:=λx h=>by
  rcases b.new x h with q | q | q;·exact a.new x q
  ·refine .inr (.inl ?_);cases e:H x with
   | none=>rfl
   | some o=>exact absurd q (a.stay x (by rw [e]; simp))
  ·rcases hA x q with z | z;·exact .inr (.inr z)
   ·exact .inr (.inl z)
theorem Chg.trans' {A:Addr->Prop} {F H F1 H1 c H2:Hp} (a:Chg A F H F1 H1) (b:Chg A F1 H1 c H2):Chg A F H c H2:=a.trans b λ_ z=>.inl z
theorem Chg.mono {A c:Addr->Prop} {F H F1 H1:Hp} (a:Chg A F H F1 H1) (h:∀ x,A x->c x):Chg c F H F1 H1:=
 ⟨λb o e n=>a.keep b o e λz=>n (h b z),a.stay,a.grow,λb z=>(a.new b z).imp id (Or.imp id (h b))⟩
abbrev No:Addr->Prop:=λ_=>False
theorem Chg.ofNo {A:Addr->Prop} {F H F1 H1:Hp} (a:Chg No F H F1 H1):Chg A F H F1 H1:=a.mono λ_ z=>z.elim
structure Rep (K:Frag) (own:List Nat) (F H:Hp) (σ:St) (ρ:Sl):Prop where
 sub:Same F H
 len:σ.length=ρ.length
 val:∀ i d,i∉own->ρ[i]?=ff (ff d)->∃ v,σ[i]?=ff (ff v)/\Is K F v d
 ow:∀ i d,i∈own->ρ[i]?=ff (ff d)->∃ a,σ[i]?=ff (ff (.ref a))/\F a=fg/\OwnIs K F H a d
 opn:∀ i,i∈own->∃ d,ρ[i]?=ff (ff d)
 dis:∀ i j a,i∈own->j∈own->σ[i]?=ff (ff (V.ref a))->σ[j]?=ff (ff (V.ref a))->i=j
def OA (own:List Nat) (σ:St):Addr->Prop:=λb=>∃ i∈own,σ[i]?=ff (ff (V.ref b))
theorem OwnIs.there {K:Frag} {F H:Hp} {a:Addr} {d:D} (h:OwnIs K F H a d):H a≠none:=by
 cases d with
 | lst ds=>obtain ⟨xs,e,_⟩:=h; rw [e]; simp
 | dct ds=>obtain ⟨xs,e,_⟩:=h; rw [e]; simp
 | ins C fs=>obtain ⟨dx,xs,e,_⟩:=h; rw [e]; simp
 | at_ b ds=>obtain ⟨_,xs,e,_⟩:=h; rw [e]; simp
 | _=>exact h.elim
theorem OwnIs.grow {K:Frag} {F H F' H':Hp} {a:Addr} {d:D} (h:OwnIs K F H a d) (g:Same F F') (k:∀ o,H a=ff o->H' a=ff o):OwnIs K F' H' a d:=by
 cases d with
 | lst ds=>obtain ⟨xs,e,t⟩:=h; exact ⟨xs,k _ e,t.mono g⟩
 | dct ds=>obtain ⟨xs,e,t⟩:=h; exact ⟨xs,k _ e,t.mono g⟩
 | ins C fs=>obtain ⟨dx,xs,e,t⟩:=h; exact ⟨dx,xs,k _ e,t.mono g⟩
 | at_ b ds=>obtain ⟨J,xs,e,t⟩:=h; exact ⟨J,xs,k _ e,t.mono g⟩
 | _=>exact h.elim
theorem Rep.OA_there {K:Frag} {own:List Nat} {F H:Hp} {σ:St} {ρ:Sl} (r:Rep K own F H σ ρ) {b:Addr} (h:OA own σ b):H b≠fg/\F b=none:=by obtain ⟨i,hi,e⟩:=h;obtain ⟨d,hd⟩:=r.opn i hi;obtain ⟨a,e1,c,o⟩:=r.ow i d hi hd;rw [e] at e1;cases e1;exact ⟨o.there,c⟩
theorem Rep.grow {K:Frag} {own:List Nat} {F H F' H':Hp} {σ:St} {ρ:Sl} (r:Rep K own F H σ ρ) (c:Chg No F H F' H') (s:Same F' H'):Rep K own F' H' σ ρ where
 sub:=s
 len:=r.len
 val:=λi d hi e=>let ⟨v,h1,h2⟩:=r.val i d hi e; ⟨v,h1,h2.mono c.grow⟩
 ow:=λi d hi e=>by
  obtain ⟨a,h1,h2,h⟩:=r.ow i d hi e;refine ⟨a,h1,?_,h.grow c.grow λo q=>c.keep a o q λz=>z⟩;cases q:F' a with
  | none=>rfl
  | some o=>
   rcases c.new a (by rw [q]; simp) with z | z | z;·exact absurd h2 z
   ·exact absurd z h.there
   ·exact z.elim
 opn:=r.opn
 dis:=r.dis
theorem MoIs.grow {K:Frag} {A:Addr->Prop} {m:Mo} {H0 F H F' H':Hp} {v:V} {d:D} (h:MoIs K m H0 F H v d) (f:m≠.any) (c:Chg A F H F' H') (hA:∀ x,A x->H0 x≠fg):MoIs K m H0 F' H' v d:=by
 cases m with
 | sh=>exact Is.mono c.grow h
 | fr=>
  obtain ⟨a,e,b,E,o⟩:=h;have n:¬A a:=λz=>hA a z b;refine ⟨a,e,b,?_,o.grow c.grow λo q=>c.keep a o q n⟩;cases q:F' a with
  | none=>rfl
  | some u=>
   rcases c.new a (by rw [q]; simp) with z | z | z;·exact absurd E z
   ·exact absurd z o.there
   ·exact absurd z n
 | any=>exact absurd rfl f
def Yn (K:Frag) (io:List Nat) (F H:Hp) (σ:St) (ρ:Sl):Prop:=∀ i∈io,∃ d a,ρ[i]?=ff (ff d)/\σ[i]?=ff (ff (V.ref a))/\F a=fg/\OwnIs K F H a d
theorem Rep.ioIs {K:Frag} {own io:List Nat} {F H:Hp} {σ:St} {ρ:Sl} (r:Rep K own F H σ ρ) (h:∀ i∈io,i∈own):Yn K io F H σ ρ:=λi hi=>by obtain ⟨d,hd⟩:=r.opn i (h i hi);obtain ⟨a,h1,h2,b⟩:=r.ow i d (h i hi) hd;exact ⟨d,a,hd,h1,h2,b⟩
structure Ct where
 K:Frag
 cv:Str->fj
 E:XK
 io:List Nat
 mr:Mo
 ol:List Nat
 ox:List Nat
 oxs:∀ i∈ox,i∈io
abbrev gJ:=Out (D×Sl)
def Po (C:Ct) (own:List Nat) (m:Mo) (σ:St) (F H:Hp) (r:gJ) (Q:VK):Prop:=match r with
 | .ok (d,ρ')=>∀ v F' H',Rep C.K own F' H' σ ρ'->Chg (OA own σ) F H F' H'->MoIs C.K m H F' H' v d->Q v H'
 | .exc c ρ'=>∀ F' H',Same F' H'->Yn C.K C.ox F' H' σ ρ'->Chg (OA own σ) F H F' H'->C.E (C.cv c) fg H'
 | .bad=>False
abbrev qO:=Sl->gJ
def tE (C:Ct) (own:List Nat) (m:Mo) (f:qO):TE:=λσ H Q=>∃ F ρ,Rep C.K own F H σ ρ/\Po C own m σ F H (f ρ) Q
theorem MoIs.back {K:Frag} {m:Mo} {A:Addr->Prop} {H0 F H F1 H1:Hp} {f Ha:Hp} {v:V} {d:D} (c:Chg A f H0 F1 H1) (h:MoIs K m H1 F H v d):MoIs K m H0 F H v d:=by
 cases m with
 | sh=>exact h
 | fr=>
  obtain ⟨a,e,b,r⟩:=h;refine ⟨a,e,?_,r⟩;cases q:H0 a with
  | none=>rfl
  | some o=>exact absurd b (c.stay a (by rw [q]; simp))
 | any=>exact h
theorem Po.shift {C:Ct} {own:List Nat} {m:Mo} {σ:St} {F H F1 H1:Hp} {r:gJ} {Q:VK} (h:Po C own m σ F H r Q) (c:Chg (OA own σ) F H F1 H1):Po C own m σ F1 H1 r Q:=by
 cases r with
 | ok p=>exact λv F' H' a T o=>h v F' H' a (c.trans' T) (MoIs.back (Ha:=H1) c o)
 | exc x=>exact λF' H' s io T=>h F' H' s io (c.trans' T)
 | bad=>exact h.elim
theorem Po.bind {C:Ct} {own:List Nat} {m ma:Mo} {σ:St} {F H:Hp} {o:gJ} {k:D×Sl->gJ} {Q R:VK} (hp:Po C own m σ F H (o.bind k) Q)
  (h:∀ v F1 H1 d ρ1,Rep C.K own F1 H1 σ ρ1->Chg (OA own σ) F H F1 H1->MoIs C.K ma H F1 H1 v d->Po C own m σ F1 H1 (k (d,ρ1)) Q->R v H1):Po C own ma σ F H o R:=by
 cases o with
 | ok p=>obtain ⟨d,ρ1⟩:=p;exact λv F1 H1 a c b=>h v F1 H1 d ρ1 a c b (Po.shift (show Po C own m σ F H (k (d,ρ1)) Q from hp) c)
 | exc x=>exact hp
 | bad=>exact hp.elim
def PoV (C:Ct) (m:Mo) (F H:Hp) (r:Out D) (Q:VK):Prop:=match r with
 | .ok d=>∀ v F' H',Same F' H'->Chg No F H F' H'->MoIs C.K m H F' H' v d->Q v H'
 | _=>False
def OpD (X:Cx) (C:Ct) (m:Mo) (f:fj->fj->Sem fj) (g:D->D->Out D):Prop:=
 OpR X f (λx y H Q=>∃ F dx d,Same F H/\TopIs C.K F H x dx/\TopIs C.K F H y d/\PoV C m F H (g dx d) Q)
def UnD (X:Cx) (C:Ct) (m:Mo) (f:fj->Sem fj) (g:D->Out D):Prop:=
 UnR X f (λx H Q=>∃ F dx,Same F H/\TopIs C.K F H x dx/\PoV C m F H (g dx) Q)
noncomputable def Out.plain {α:Type}:Out α->Out α
 | .ok a=>.ok a
 | _=>.bad
theorem PoV.of {C:Ct} {own:List Nat} {m:Mo} {σ:St} {F H:Hp} {o:Out D} {ρ:Sl} {Q:VK} (a:Rep C.K own F H σ ρ) (h:Po C own m σ F H (o.plain.bind λd=>.ok (d,ρ)) Q):PoV C m F H o Q:=by
 cases o with
 | ok d=>exact λv F' H' s c b=>h v F' H' (a.grow c s) c.ofNo b
 | exc c=>exact h.elim
 | bad=>exact h.elim
noncomputable def d2 (g:D->D->Out D) (fa fb:qO):qO:=λρ=>(fa ρ).bind λp=>(fb p.2).bind λq=>(g p.1 q.1).plain.bind λd=>.ok (d,q.2)
noncomputable def d1 (g:D->Out D) (fa:qO):qO:=λρ=>(fa ρ).bind λp=>(g p.1).plain.bind λd=>.ok (d,p.2)
section
variable {X:Cx} {C:Ct} {own:List Nat} {a b:Expr} {fa fb:qO} {m ma mb:Mo} {pos:Pos}
theorem gK {g:D->D->Out D} {σ:St} {H:Hp} {Q:VK} (f:ma≠.any) (h:tE C own m (d2 g fa fb) σ H Q):tE C own ma fa σ H λx H1=>tE C own mb fb σ H1 λy H2=>∃ F dx i,Same F H2/\TopIs C.K F H2 x dx/\TopIs C.K F H2 y i/\PoV C m F H2 (g dx i) Q:=by obtain ⟨F,ρ,p,h⟩:=h;refine ⟨F,ρ,p,Po.bind h λv F1 H1 d ρ1 a k c h1=>⟨F1,ρ1,a,Po.bind h1 λw j H2 e ρ2 r c2 b h2=>?_⟩⟩;exact ⟨j,d,e,r.sub,(c.grow f c2 λx z=>(p.OA_there z).1).top,b.top,PoV.of r h2⟩
theorem YK {g:D->Out D} {σ:St} {H:Hp} {Q:VK} (h:tE C own m (d1 g fa) σ H Q):tE C own ma fa σ H λx H1=>∃ F dx,Same F H1/\TopIs C.K F H1 x dx/\PoV C m F H1 (g dx) Q:=by obtain ⟨F,ρ,r,h⟩:=h;refine ⟨F,ρ,r,Po.bind h λv F1 H1 d ρ1 a k c h1=>?_⟩;exact ⟨F1,d,a.sub,c.top,PoV.of a h1⟩
theorem ji {e:Expr} {t t':TE} (h:PE X e t) (i:∀ σ H Q,t' σ H Q->t σ H Q):PE X e t':=⟨λpins s σ H Q I w=>h pins s σ H Q I (i σ H Q w)⟩
theorem YL {e:Expr} {t t':TT} (h:PT X e t) (i:∀ σ H Q,t' σ H Q->t σ H Q):PT X e t':=⟨λpins s σ H Q I w=>h pins s σ H Q I (i σ H Q w)⟩
theorem ke {op:Operator} {g:D->D->Out D} (l:OpD X C m (binaryOp op) g) (c:PE X a (tE C own ma fa)) (d:PE X b (tE C own mb fb)) (f:ma≠.any:=by decide):PE X (.BinOp a op b pos) (tE C own m (d2 g fa fb)):=
 ji (qc1 l c d) λ_ _ _ h=>gK f h
theorem yG {op:CmpOp} {g:D->D->Out D} (l:OpD X C m (compareOp op) g) (c:PE X a (tE C own ma fa)) (d:PE X b (tE C own mb fb)) (f:ma≠.any:=by decide)
  (k:behindInMarks op b=false:=by first | exact Zh _ | with_unfolding_all rfl):PE X (.Compare a [op] [b] pos) (tE C own m (d2 g fa fb)):=
 ji (Ga l c d k) λ_ _ _ h=>gK f h
theorem YM {op:UnaryOp} {g:D->Out D} (l:UnD X C m (unaryOp op) g) (b:PE X a (tE C own ma fa)):PE X (.UnaryOp op a pos) (tE C own m (d1 g fa)):=
 ji (qc2 l b) λ_ _ _ h=>YK h
end
instance:DecidableEq Mo:=λa b=>by cases a <;> cases b <;> first | exact isTrue rfl | exact isFalse (by intro h; cases h)
theorem YN {K:Frag} {own:List Nat} {H0 F H:Hp} {σ:St} {ρ:Sl} {v:V} {d:D} (r:Rep K own F H σ ρ) (hA:∀ b,OA own σ b->H0 b≠fg) (h:MoIs K .fr H0 F H v d):∃ F',Rep K own F' H σ ρ/\Same F F'/\Is K F' v d/\∀ b,F' b≠fg->F b≠fg\/H0 b=none:=by
 obtain ⟨a,rfl,g,E,o⟩:=h;obtain ⟨u,hu⟩:∃ u,H a=ff u:=by
  cases q:H a with
  | none=>exact absurd q o.there
  | some u=>exact ⟨u,rfl⟩
 have gr:Same F (upd F a u):=λb w e=>by rw [qp (qx e E)]; exact e
 have A:Same (upd F a u) H:=λb w e=>by
  by_cases q:b=a;·subst q; rw [qf] at e; cases e; exact hu
  ·rw [qp q] at e; exact r.sub b w e
 refine ⟨upd F a u,⟨A,r.len,λi d hi e=>?_,λi d hi e=>?_,r.opn,r.dis⟩,gr,?_,λb f=>?_⟩;·obtain ⟨v,h1,h2⟩:=r.val i d hi e;exact ⟨v,h1,h2.mono gr⟩
 ·obtain ⟨c,h1,h2,j⟩:=r.ow i d hi e;refine ⟨c,h1,?_,j.grow gr λ_ q=>q⟩;have n:c≠a:=λq=>by subst q; exact hA c ⟨i,hi,h1⟩ g
  rw [qp n]; exact h2
 ·cases d with
  | lst ds=>obtain ⟨xs,e,t⟩:=o; rw [hu] at e; cases e; exact .lst (.inl (.inl qf)) (t.mono gr)
  | dct ds=>obtain ⟨xs,e,t⟩:=o; rw [hu] at e; cases e; exact .dct qf (t.mono gr)
  | ins C fs=>obtain ⟨dx,xs,e,t⟩:=o; rw [hu] at e; cases e; exact .ins qf (t.mono gr)
  | at_ b ds=>obtain ⟨J,xs,e,t⟩:=o; rw [hu] at e; cases e; subst J; exact .at_ (.inl (.inl qf)) (t.mono gr)
  | _=>exact o.elim
 ·by_cases q:b=a;·exact .inr (by rw [q]; exact g)
  ·rw [qp q] at f; exact .inl f
theorem Po.toSh {C:Ct} {own:List Nat} {m:Mo} {σ:St} {F H:Hp} {d:Sl} {r:gJ} {Q:VK} (f:Rep C.K own F H σ d) (g:m≠.any) (h:Po C own .sh σ F H r Q):Po C own m σ F H r Q:=by
 cases r with
 | ok p=>
  intro v F' H' a c o;cases m with
  | sh=>exact h v F' H' a c o
  | fr=>
   obtain ⟨j,e,gr,is,n⟩:=YN a (λb z=>(f.OA_there z).1) o;refine h v j H' e ⟨c.keep,c.stay,c.grow.trans gr,λb i=>?_⟩ is;rcases n b i with z | z;·exact c.new b z
   ·exact .inr (.inl z)
  | any=>exact absurd rfl g
 | exc x=>exact h
 | bad=>exact h.elim
section
variable {X:Cx} {C:Ct} {own:List Nat} {a b e:Expr} {f fa fb:qO} {m ma mb:Mo} {pos:Pos}
theorem uC (h:PE X e (tE C own m f)) (c:m≠.any):PE X e (tE C own .sh f):=ji h λ_ _ _ ⟨F,ρ,a,p⟩=>⟨F,ρ,a,p.toSh a c⟩
noncomputable def qc (i:Nat):qO:=λρ=>match ρ[i]? with
 | some (ff d)=>.ok (d,ρ)
 | _=>.bad
noncomputable def dC (d:D):qO:=λρ=>.ok (d,ρ)
theorem qbl {i:Nat} {x:Str} (b:X.N[i]?=ff x) (c:Vis X.env.scope x) (l:i∉own) (hd:Dbg x:=by decide) (a:Cdk x:=by decide):PE X (.Name x pos) (tE C own .sh (qc i)):=by
 refine ji (yD b c hd a) λσ H Q ⟨F,ρ,r,h⟩=>?_;unfold qc at h;cases e:ρ[i]? with
 | none=>rw [e] at h; exact h.elim
 | some o=>
  cases o with
  | none=>rw [e] at h; exact h.elim
  | some d=>rw [e] at h;obtain ⟨v,h1,h2⟩:=r.val i d l e;exact ⟨v,h1,h v F H r .refl h2⟩
theorem Gr {i:Nat} {x:Str} (f:X.N[i]?=ff x) (c:Vis X.env.scope x) (l:i∈own) (hd:Dbg x:=by decide) (b:Cdk x:=by decide):PE X (.Name x pos) (tE C own .any (qc i)):=by
 refine ji (yD f c hd b) λσ H Q ⟨F,ρ,r,h⟩=>?_;unfold qc at h;cases e:ρ[i]? with
 | none=>rw [e] at h; exact h.elim
 | some o=>
  cases o with
  | none=>rw [e] at h; exact h.elim
  | some d=>rw [e] at h;obtain ⟨a,h1,h2,g⟩:=r.ow i d l e;exact ⟨_,h1,h _ F H r .refl (.inr ⟨a,rfl,g⟩)⟩
theorem qbm {v:V} {d:D} (h:PE X e (tC v)) (i:∀ F,Is C.K F v d):PE X e (tE C own .sh (dC d)):=ji h λσ H Q ⟨F,ρ,a,h⟩=>h v F H a .refl (i F)
theorem qu {i j pos}:PE X (.Constant (.int i) j pos) (tE C own .sh (dC (.int i))):=qbm qaU λ_=>.int i
theorem wZ {i j pos}:PE X (.Constant (.bool i) j pos) (tE C own .sh (dC (.bl i))):=qbm qcQ λ_=>.bl i
theorem qbn {j pos}:PE X (.Constant .none j pos) (tE C own .sh (dC .non)):=qbm qaV λ_=>.non
theorem gL {x j pos} (h:eY x<=sizeLine:=by decide):PE X (.Constant (.str x) j pos) (tE C own .sh (dC (.str x))):=qbm Zd λ_=>.str h
theorem Gs {x:Str} {v:V} {d:D} {u:fj} (hg:Gl X x) (c:X.mg x=ff u) (r:RelV v u) (i:∀ F,Is C.K F v d) (hd:Dbg x:=by decide):PE X (.Name x pos) (tE C own .sh (dC d)):=qbm (ZR hg c r hd) i
noncomputable def JR (g:Int->Int->Out D):D->D->Out D
 | .int i,.int j=>g i j
 | _,_=>.bad
theorem TopIs.int {K:Frag} {F H:Hp} {v:V} {i:Int} (h:TopIs K F H v (.int i)):v=.int i:=by
 rcases h with h | ⟨a,_,h⟩
 ·cases h; rfl
 ·exact h.elim
theorem TopIs.str {K:Frag} {F H:Hp} {v:V} {x:Str} (h:TopIs K F H v (.str x)):v=.str x/\x.length<=sizeLine:=by
 rcases h with h | ⟨a,_,h⟩
 ·cases h; exact ⟨rfl,by assumption⟩
 ·exact h.elim
theorem TopIs.bl {K:Frag} {F H:Hp} {v:V} {x:Bool} (h:TopIs K F H v (.bl x)):v=.bl x:=by
 rcases h with h | ⟨a,_,h⟩
 ·cases h; rfl
 ·exact h.elim
theorem TopIs.non {K:Frag} {F H:Hp} {v:V} (h:TopIs K F H v .non):v=.non:=by
 rcases h with h | ⟨a,_,h⟩
 ·cases h; rfl
 ·exact h.elim
theorem TopIs.raw {K:Frag} {F H:Hp} {v u:V} (h:TopIs K F H v (.raw u)):v=u:=by
 rcases h with h | ⟨a,_,h⟩
 ·cases h; rfl
 ·exact h.elim
theorem TopIs.lst {K:Frag} {F H:Hp} {v:V} {ds:List D} (s:Same F H) (h:TopIs K F H v (.lst ds)):∃ a xs,v=.ref a/\SqL K H a xs/\IsL K F xs ds:=by
 rcases h with h | ⟨a,e,h⟩
 ·cases h with
  | lst h t=>exact ⟨_,_,rfl,s.seq h,t⟩
 ·obtain ⟨xs,i,t⟩:=h;exact ⟨a,xs,e,.inl (.inl i),t⟩
theorem TopIs.tup {K:Frag} {F H:Hp} {v:V} {ds:List D} (s:Same F H) (h:TopIs K F H v (.tup ds)):∃ a xs,v=.ref a/\SqT K H a xs/\IsL K F xs ds:=by
 rcases h with h | ⟨a,e,h⟩
 ·cases h with
  | tup h t=>exact ⟨_,_,rfl,qP s h,t⟩
 ·exact h.elim
theorem TopIs.dct {K:Frag} {F H:Hp} {v:V} {ds:List (Key×D)} (s:Same F H) (h:TopIs K F H v (.dct ds)):∃ a kv,v=.ref a/\H a=ff (.dK kv)/\IsK K F kv ds:=by
 rcases h with h | ⟨a,e,h⟩
 ·cases h with
  | dct h t=>exact ⟨_,_,rfl,s _ _ h,t⟩
 ·obtain ⟨xs,i,t⟩:=h;exact ⟨a,xs,e,i,t⟩
theorem Wi {fn:fj->fj->Sem fj} {P:Int->Int->Prop} [∀ i j,Decidable (P i j)] {g:Int->Int->V} {d:Int->Int->D} (l:OpR X fn (rI P g)) (hg:∀ F i j,Is C.K F (g i j) (d i j)):OpD X C .sh fn (JR λi j=>if P i j then .ok (d i j) else .bad):=by
 intro pins s σ H x y v u Q I r c h;obtain ⟨F,dx,a,A,t,ty,po⟩:=h;cases dx <;> try exact po.elim
 cases a <;> try exact po.elim
 rename_i i j;have po:PoV C .sh F H (if P i j then .ok (d i j) else .bad) Q:=po;obtain rfl:=t.int;obtain rfl:=ty.int;by_cases q:P i j;·rw [if_pos q] at po;exact l pins s σ H _ _ v u Q I r c ⟨i,j,rfl,rfl,q,po (g i j) F H A .refl (hg F i j)⟩
 ·rw [if_neg q] at po; exact po.elim
theorem Wj {fn:fj->fj->Sem fj} {g:Int->Int->V} {d:Int->Int->D} (l:OpR X fn (rI0 g)) (hg:∀ F i j,Is C.K F (g i j) (d i j)):OpD X C .sh fn (JR λi j=>.ok (d i j)):=by
 intro pins s σ H x y v u Q I r c h;obtain ⟨F,dx,a,A,t,ty,po⟩:=h;cases dx <;> try exact po.elim
 cases a <;> try exact po.elim
 rename_i i j;obtain rfl:=t.int;obtain rfl:=ty.int;exact l pins s σ H _ _ v u Q I r c ⟨i,j,rfl,rfl,po (g i j) F H A .refl (hg F i j)⟩
noncomputable def qaH:D->D->Out D:=JR λi j=>.ok (.int (i - j))
theorem Zk:OpD X C .sh (binaryOp .Sub) qaH:=Wj qa7 λ_ _ _=>.int _
instance:∀ i j,Decidable (CMul i j):=λi j=>inferInstanceAs (Decidable (_\/_))
instance:∀ i j,Decidable (qet i j):=λi j=>inferInstanceAs (Decidable (_/\_))
noncomputable def qaI:D->D->Out D:=JR λi j=>if CMul i j then .ok (.int (i * j)) else .bad
theorem Wk:OpD X C .sh (binaryOp .Mult) qaI:=Wi qa8 λ_ _ _=>.int _
noncomputable def Yo:D->D->Out D:=JR λi j=>if 0 < j then .ok (.int (i % j)) else .bad
theorem xM:OpD X C .sh (binaryOp .Mod) Yo:=Wi qa9 λ_ _ _=>.int _
noncomputable def wL (x y:Str):Bool:=decide (x.cps.toList < y.cps.toList)
noncomputable def ltD:D->D->Out D
 | .int i,.int j=>.ok (.bl (decide (i < j)))
 | .str x,.str y=>.ok (.bl (wL x y))
 | _,_=>.bad
theorem Gt:OpD X C .sh (compareOp .Lt) ltD:=by
 intro pins s σ H x y v u Q I d c h;obtain ⟨F,dx,a,A,t,ty,po⟩:=h;cases dx <;> try exact po.elim
 ·cases a <;> try exact po.elim
  obtain rfl:=t.int;obtain rfl:=ty.int;exact qc4 pins s σ H _ _ v u Q I d c ⟨_,_,rfl,rfl,po _ F H A .refl (.bl _)⟩
 ·cases a <;> try exact po.elim
  obtain ⟨rfl,_⟩:=t.str;obtain ⟨rfl,_⟩:=ty.str;exact VR pins s σ H _ _ v u Q I d c ⟨_,_,rfl,rfl,po _ F H A .refl (.bl _)⟩
end
noncomputable def eqS (a b:D):Option Bool:=match a with
 | .non=>match b with
  | .non=>ff fm
  | .bl _=>ff fk
  | .int _=>ff fk
  | .str _=>ff fk
  | .tup _=>ff fk
  | .lst _=>ff fk
  | .dct _ | .raw _ | .xcp _ | .ins _ _ | .at_ _ _=>fg
 | .bl x=>match b with
  | .non=>ff fk
  | .bl y=>ff (x == y)
  | .int y=>ff ((if x then 1 else 0) == y)
  | .str _=>ff fk
  | .tup _=>ff fk
  | .lst _=>ff fk
  | .dct _ | .raw _ | .xcp _ | .ins _ _ | .at_ _ _=>fg
 | .int x=>match b with
  | .non=>ff fk
  | .bl y=>ff (x == (if y then 1 else 0))
  | .int y=>ff (x == y)
  | .str _=>ff fk
  | .tup _=>ff fk
  | .lst _=>ff fk
  | .dct _ | .raw _ | .xcp _ | .ins _ _ | .at_ _ _=>fg
 | .str x=>match b with
  | .non=>ff fk
  | .bl _=>ff fk
  | .int _=>ff fk
  | .str y=>ff (x == y)
  | .tup _=>ff fk
  | .lst _=>ff fk
  | .dct _ | .raw _ | .xcp _ | .ins _ _ | .at_ _ _=>fg
 | .tup x=>match b with
  | .non=>ff fk
  | .bl _=>ff fk
  | .int _=>ff fk
  | .str _=>ff fk
  | .tup _=>fg
  | .lst _=>ff fk
  | .dct _ | .raw _ | .xcp _ | .ins _ _ | .at_ _ _=>fg
 | .lst x=>match b with
  | .non=>ff fk
  | .bl _=>ff fk
  | .int _=>ff fk
  | .str _=>ff fk
  | .tup _=>ff fk
  | .lst _=>fg
  | .dct _ | .raw _ | .xcp _ | .ins _ _ | .at_ _ _=>fg
 | .dct _ | .raw _ | .xcp _ | .ins _ _ | .at_ _ _=>fg
noncomputable def wo (f:D->D->Option Bool):List D->List D->Option Bool
 | x::xs,y::ys=>(f x y).bind λa=>(wo f xs ys).bind λb=>ff (a&&b)
 | _,_=>ff fm
noncomputable def eqN:Nat->D->D->Option Bool
 | n+1,.tup xs,.tup ys=>(wo (eqN n) xs ys).map λb=>b&&xs.length == ys.length
 | n+1,.lst xs,.lst ys=>if xs.length=ys.length then wo (eqN n) xs ys else ff fk
 | _,a,b=>eqS a b
theorem JS {n:Nat} {a b:D} (h1:∀ xs ys,a=.tup xs->b≠.tup ys) (h2:∀ xs ys,a=.lst xs->b≠.lst ys):eqN n a b=eqS a b:=by
 cases n with
 | zero=>rfl
 | succ n=>
  cases a with
  | tup xs=>cases b with
   | tup ys=>exact absurd rfl (h1 xs ys rfl)
   | _=>rfl
  | lst xs=>cases b with
   | lst ys=>exact absurd rfl (h2 xs ys rfl)
   | _=>rfl
  | _=>rfl
noncomputable def itE (f:D->D->Option Bool) (xs ys:List D) (j:Nat):Bool:=((xs[j]?).bind λx=>(ys[j]?).bind λy=>f x y).getD fk
theorem kN {f:D->D->Option Bool}:∀ {xs ys:List D} {b:Bool},wo f xs ys=ff b->b=(aB (min xs.length ys.length)).all (itE f xs ys)
 | [],ys,b,h=>by simp [wo] at h ⊢; exact h
 | x::xs,[],b,h=>by simp [wo] at h ⊢; exact h
 | x::xs,y::ys,b,h=>by
  unfold wo at h;cases e:f x y with
  | none=>rw [e] at h; simp at h
  | some a=>
   cases i:wo f xs ys with
   | none=>rw [e,i] at h; simp at h
   | some c=>
    rw [e,i] at h;have h:(a&&c)=b:=by simpa using h
    have d:=kN i;have m:min (x::xs).length (y::ys).length=min xs.length ys.length+1:=by simp only [af]; omega
    rw [m,List.range_succ_eq_map,dQ,List.all_map];have e0:itE f (x::xs) (y::ys) 0=a:=by simp [itE,e]
    have e1:(itE f (x::xs) (y::ys)) ∘ Nat.succ=itE f xs ys:=by funext j;simp [itE]
    rw [e0,e1,<-d];exact h.symm
theorem Wl {f:D->D->Option Bool}:∀ {xs ys:List D} {b:Bool},wo f xs ys=ff b->∀ (j:Nat) (x y:D),xs[j]?=ff x->ys[j]?=ff y->f x y=ff (itE f xs ys j)
 | [],ys,b,_,j,x,y,hx,_=>by simp at hx
 | x::xs,[],b,_,j,_,y,_,hy=>by simp at hy
 | x::xs,y::ys,b,h,0,x',y',hx,hy=>by
  simp at hx hy;subst hx hy;unfold wo at h;cases e:f x y with
  | none=>rw [e] at h; simp at h
  | some a=>simp [itE,e]
 | x::xs,y::ys,b,h,j+1,x',y',hx,hy=>by
  unfold wo at h;cases e:f x y with
  | none=>rw [e] at h; simp at h
  | some a=>
   cases i:wo f xs ys with
   | none=>rw [e,i] at h; simp at h
   | some c=>have q:=Wl i j x' y' (by simpa using hx) (by simpa using hy);rw [q];simp [itE]
section
variable {X:Cx} {pins:Pns} {σ:St} {F H:Hp} {s:fq}
noncomputable def smp:D->Bool
 | .non | .bl _ | .int _ | .str _ | .tup _ | .lst _=>fm
 | .dct _ | .raw _ | .xcp _ | .ins _ _ | .at_ _ _=>fk
theorem Wm {n:Nat} {d e:D} {b:Bool} (h:eqN n d e=ff b):smp d=true:=by cases d <;> first | rfl | (cases n <;> exact nomatch (show fg=ff b from h))
theorem qdh {n:Nat} {d e:D} {b:Bool} (h:eqN n d e=ff b):smp e=true:=by cases e <;> first | rfl | (cases n <;> cases d <;> exact nomatch (show fg=ff b from h))
theorem Wn (I:Inv X pins σ H s) (A:Same F H) {a:Addr} {xs ys:List V} (p:SqT X.K F a xs) (q:SqL X.K F a ys):False:=by obtain ⟨_,_,b,_⟩:=I.list (A.seq q);obtain ⟨_,_,e,_⟩:=I.tuple (qP A p);exact absurd rfl (PySem.SeqAt.ne_of_list_tuple b.isList e)
theorem yH {f:D->D->Option Bool} {x y:D} {xs ys:List D} {b:Bool} (h:wo f (x::xs) (y::ys)=ff b):∃ a c,f x y=ff a/\wo f xs ys=ff c/\b=(a&&c):=by
 unfold wo at h;cases e:f x y with
 | none=>rw [e] at h; cases h
 | some a=>
  cases i:wo f xs ys with
  | none=>rw [e,i] at h; cases h
  | some c=>rw [e,i] at h; exact ⟨a,c,rfl,rfl,(aI.inj h).symm⟩
theorem QY {n:Nat} {xs ys:List D} {b:Bool} (h:eqN (n+1) (.tup xs) (.tup ys)=ff b):∃ c,wo (eqN n) xs ys=ff c/\b=(c&&xs.length == ys.length):=by
 have h:((wo (eqN n) xs ys).map λb=>b&&xs.length == ys.length)=ff b:=h;cases e:wo (eqN n) xs ys with
 | none=>rw [e] at h; cases h
 | some c=>rw [e] at h; exact ⟨c,rfl,(aI.inj h).symm⟩
theorem Wo (I:Inv X pins σ H s) (A:Same F H):∀ (n:Nat) {v:V} {d e:D} {b:Bool},Is X.K F v d->Is X.K F v e->eqN n d e=ff b->b=true:=by
 have base:∀ {n:Nat} {v:V} {d e:D} {b:Bool},Is X.K F v d->Is X.K F v e->eqN n d e=ff b->(∀ a xs ds es,Is X.K F (.ref a) (.tup ds)->SqT X.K F a xs->IsL X.K F xs ds->IsL X.K F xs es->eqN n (.tup ds) (.tup es)=ff b->b=fm)->(∀ a xs ds es,SqL X.K F a xs->IsL X.K F xs ds->IsL X.K F xs es->eqN n (.lst ds) (.lst es)=ff b->b=fm)->b=true:=by
  intro n v d e b h1 h2 h ht hl;have s1:=Wm h;have s2:=qdh h;cases h1 with
  | non=>cases h2 with
   | non=>cases n <;> exact (aI.inj h).symm
   | raw=>cases s2
  | bl x=>cases h2 with
   | bl=>cases n <;> exact (aI.inj h).symm.trans (beq_self_eq_true x)
   | raw=>cases s2
  | int x=>cases h2 with
   | int=>cases n <;> exact (aI.inj h).symm.trans (beq_self_eq_true x)
   | raw=>cases s2
  | str _=>cases h2 with
   | str _=>cases n <;> exact (aI.inj h).symm.trans (beq_self_eq_true _)
   | raw=>cases s2
  | tup p1 f=>cases h2 with
   | tup p2 t=>have q:=I.tuple_inj (qP A p1) (qP A p2);subst q;exact ht _ _ _ _ (.tup p1 f) p1 f t h
   | lst p2 t=>exact (Wn I A p1 p2).elim
   | _=>cases s2
  | lst p1 f=>cases h2 with
   | lst p2 t=>have q:=I.list_inj (A.seq p1) (A.seq p2);subst q;exact hl _ _ _ _ p1 f t h
   | tup p2 t=>exact (Wn I A p2 p1).elim
   | _=>cases s2
  | _=>cases s1
 intro n
 induction n with
 | zero=>exact λ{_ _ _ _} h1 h2 h=>base h1 h2 h (λ_ _ _ _ _ _ _ _ h=>nomatch (show fg=ff _ from h)) λ_ _ _ _ _ _ _ h=>nomatch (show fg=ff _ from h)
 | succ n j=>
  have l:∀ {xs:List V} {ds es:List D} {b:Bool},IsL X.K F xs ds->IsL X.K F xs es->wo (eqN n) ds es=ff b->b=true:=by
   intro xs
   induction xs with
   | nil=>intro ds es b h1 h2 h; cases h1; cases h2; exact (aI.inj h).symm
   | cons x xs i=>
    intro ds es b h1 h2 h;cases h1 with
    | cons m f=>
     cases h2 with
     | cons k t=>obtain ⟨a,c,q,g,rfl⟩:=yH h;rw [j m k q,i f t g];rfl
  intro v d e b h1 h2 h;refine base h1 h2 h (λa xs ds es _ _ f t h=>?_) λa xs ds es _ f t h=>?_;·obtain ⟨c,q,rfl⟩:=QY h;rw [l f t q,f.length.symm.trans t.length,beq_self_eq_true];rfl
  ·have h:(if ds.length=es.length then wo (eqN n) ds es else ff fk)=ff _:=h;rw [if_pos (f.length.symm.trans t.length)] at h;exact l f t h
end
open PySem.SeqAt
section
variable {X:Cx} {pins:Pns} {σ:St} {F H:Hp} {s:fq}
theorem Vals.getE {xs:List V} {us:List fj} (r:Vals xs us) {j:Nat} (h:j < us.length):∃ x,xs[j]?=ff x/\RelV x us[j]:=by
 have hl:=r.length;have D:j < xs.length:=by omega
 obtain ⟨u,e1,e⟩:=Vals.get (i:=j) (x:=xs[j]) r (by simp [D]);refine ⟨xs[j],by simp [D],?_⟩;rw [aw h] at e1;cases e1;exact e
theorem wp {A:fD} {n:Nat} {xs ys:List V} {ds es:List D} {us ws:List fj} {b:Bool} (g:∀ {v w:V} {d e:D} {u t:fj} {b:Bool},Is X.K F v d->Is X.K F w e->RelV v u->RelV w t->eqN n d e=ff b->EqAt A s u t b)
  (r1:Vals xs us) (r2:Vals ys ws) (i1:IsL X.K F xs ds) (i2:IsL X.K F ys es) (h:wo (eqN n) ds es=ff b) :
  ∀ j (h1:j < us.toArray.size) (h2:j < ws.toArray.size),EqAt A s us.toArray[j] ws.toArray[j] (itE (eqN n) ds es j):=by
 intro j h1 h2;have c:j < us.length:=by simpa using h1
 have a:j < ws.length:=by simpa using h2
 obtain ⟨x,ex,f⟩:=Vals.getE r1 c;obtain ⟨y,l,r⟩:=Vals.getE r2 a;obtain ⟨d,o,i⟩:=i1.get ex;obtain ⟨e,m,k⟩:=i2.get l;have q:=Wl h j d e o m;simpa using g i k f r q
theorem JT {A:fD} {n:Nat} {a c:Addr} {xs ys:List V} {ds es:List D} {b:Bool} (I:Inv X pins σ H s) (j:∀ {v w:V} {d e:D} {u t:fj} {b:Bool},Is X.K F v d->Is X.K F w e->RelV v u->RelV w t->eqN n d e=ff b->EqAt A.in1 s u t b)
  (p1:SqT X.K H a xs) (p2:SqT X.K H c ys) (i1:IsL X.K F xs ds) (i2:IsL X.K F ys es) (h:eqN (n+1) (.tup ds) (.tup es)=ff b) (m:A.units < cLine):RcAt A s (.ref a) (.ref c) b:=by
 obtain ⟨us,r1,g,_⟩:=I.tuple p1;obtain ⟨ws,r2,f,_⟩:=I.tuple p2;simp only [eqN] at h;cases q:wo (eqN n) ds es with
 | none=>rw [q] at h; simp at h
 | some k=>
  rw [q] at h;have i:us.toArray.size=ds.length:=by rw [ao,<-r1.length,i1.length]
  have l:ws.toArray.size=es.length:=by rw [ao,<-r2.length,i2.length]
  have z:=RcAt.tuples (A:=A) g f m (wp (A:=A.in1) j r1 r2 i1 i2 q);rw [i,l,<-kN q] at z;have e:b=(k&&ds.length == es.length):=by simpa using h.symm
  rw [e]; exact z
theorem JU {A:fD} {n:Nat} {a c:Addr} {xs ys:List V} {ds es:List D} {b:Bool} (I:Inv X pins σ H s) (k:∀ {v w:V} {d e:D} {u t:fj} {b:Bool},Is X.K F v d->Is X.K F w e->RelV v u->RelV w t->eqN n d e=ff b->EqAt A.in1 s u t b)
  (p1:SqL X.K H a xs) (p2:SqL X.K H c ys) (i1:IsL X.K F xs ds) (i2:IsL X.K F ys es) (h:eqN (n+1) (.lst ds) (.lst es)=ff b) (j:A.units < cLine):RcAt A s (.ref a) (.ref c) b:=by
 obtain ⟨us,r1,g,_⟩:=I.list p1;obtain ⟨ws,r2,f,_⟩:=I.list p2;have i:us.toArray.size=ds.length:=by rw [ao,<-r1.length,i1.length]
 have l:ws.toArray.size=es.length:=by rw [ao,<-r2.length,i2.length]
 simp only [eqN] at h;by_cases hl:ds.length=es.length;·rw [if_pos hl] at h;have z:=RcAt.lists (A:=A) g.isList f.isList (by omega) j (wp (A:=A.in1) k r1 r2 i1 i2 h);have e:=kN h;rw [i] at z;rw [e,show min ds.length es.length=ds.length by omega];exact z
 ·rw [if_neg hl] at h;cases h;exact RcAt.lists_lengths g.isList f.isList (bne_iff_ne.mpr (by rw [i,l]; exact hl)) j
def Kd (s:fq):D->fj->Prop
 | .non,u=>u=.none
 | .bl b,u=>u=.bool b
 | .int i,u=>∃ t,u=.int i t
 | .str x,u=>∃ t,u=.str x t
 | .tup _,u=>∃ a its,u=.ref a/\s.heap.IsTuple a its
 | .lst _,u=>∃ a its,u=.ref a/\s.heap.IsList a its
 | _,_=>True
theorem Vf (I:Inv X pins σ H s) (A:Same F H) {v:V} {d:D} {u:fj} (t:TopIs X.K F H v d) (r:RelV v u):Kd s d u:=by
 cases d with
 | non=>obtain rfl:=t.non; exact r
 | bl=>obtain rfl:=t.bl; exact r
 | int=>obtain rfl:=t.int; exact r
 | str=>obtain ⟨rfl,_⟩:=t.str; exact r
 | tup=>obtain ⟨a,_,rfl,p,_⟩:=t.tup A; obtain ⟨_,_,q,_⟩:=I.tuple p; exact ⟨a,_,r,q⟩
 | lst=>obtain ⟨a,_,rfl,p,_⟩:=t.lst A; obtain ⟨_,_,q,_⟩:=I.list p; exact ⟨a,_,r,q.isList⟩
 | _=>trivial
theorem qbo {A:fD} {d e:D} {u t:fj} {b:Bool} (f:A.units < cLine) (k1:Kd s d u) (k2:Kd s e t) (h:eqS d e=ff b):EqAt A s u t b:=by
 cases d <;> cases e <;> try (cases h; done)
 all_goals
  cases h;first | obtain ⟨_,_,rfl,a⟩:=k1 | obtain ⟨_,rfl⟩:=k1 | cases k1
  first | obtain ⟨_,_,rfl,q⟩:=k2 | obtain ⟨_,rfl⟩:=k2 | cases k2
  with_reducible first | exact EqAt.same _ | exact EqAt.none_bool _ | exact EqAt.none_int _ _ | exact EqAt.none_str _ _ | exact EqAt.bool_none _ | exact EqAt.bool_bool _ _ | exact EqAt.bool_int _ _ _ | exact EqAt.bool_str _ _ _ | exact EqAt.int_none _ _ | exact EqAt.int_bool _ _ _ | exact EqAt.int_int _ _ _ _ | exact EqAt.int_str _ _ _ _ | exact EqAt.str_none _ _ | exact EqAt.str_bool _ _ _ | exact EqAt.str_int _ _ _ _ | exact EqAt.str_str _ _ _ _ | exact EqAt.none_tuple q f | exact EqAt.tuple_none a f | exact EqAt.none_list q f | exact EqAt.list_none a f | exact EqAt.bool_tuple _ q f | exact EqAt.tuple_bool _ a f | exact EqAt.bool_list _ q f | exact EqAt.list_bool _ a f | exact EqAt.int_tuple _ _ q f | exact EqAt.tuple_int _ _ a f | exact EqAt.int_list _ _ q f | exact EqAt.list_int _ _ a f | exact EqAt.str_tuple _ _ q f | exact EqAt.tuple_str _ _ a f | exact EqAt.str_list _ _ q f | exact EqAt.list_str _ _ a f | exact EqAt.tuple_list a q f | exact EqAt.list_tuple a q f
theorem Wp (I:Inv X pins σ H s) (f:Same F H):∀ (n:Nat) {A:fD} {v w:V} {d e:D} {u t:fj} {b:Bool},A.units+n < cLine->Is X.K F v d->Is X.K F w e->RelV v u->RelV w t->eqN n d e=ff b->EqAt A s u t b:=by
 intro n
 induction n with
 | zero=>exact λB h1 h2 x r h=>qbo (by omega) (Vf I f (.inl h1) x) (Vf I f (.inl h2) r) h
 | succ n p=>
  intro A v w d e u t b B h1 h2 x r h;have j:A.in1.units+n < cLine:=by show A.units+1+n < cLine; omega
  by_cases both:(∃ xs ys,d=.tup xs/\e=.tup ys)\/(∃ xs ys,d=.lst xs/\e=.lst ys)
  ·rcases both with ⟨ds,es,rfl,rfl⟩ | ⟨ds,es,rfl,rfl⟩
   ·have i:=h1;have g:=h2;cases h1 with
    | tup p1 o=>
     cases h2 with
     | tup p2 l=>
      rename_i a xs c ys;cases x;cases r;by_cases ne:a=c;·subst ne;rw [Wo I f (n+1) i g h];exact EqAt.same _
      ·exact EqAt.of_refs ne (JT I (λm k z y q=>p j m k z y q) (qP f p1) (qP f p2) o l h (by omega))
   ·have i:=h1;have g:=h2;cases h1 with
    | lst p1 o=>
     cases h2 with
     | lst p2 l=>
      rename_i a xs c ys;cases x;cases r;by_cases ne:a=c;·subst ne;rw [Wo I f (n+1) i g h];exact EqAt.same _
      ·exact EqAt.of_refs ne (JU I (λm k z y q=>p j m k z y q) (f.seq p1) (f.seq p2) o l h (by omega))
  ·have e1:eqN (n+1) d e=eqS d e:=JS (λxs ys m k=>both (.inl ⟨xs,ys,m,k⟩)) (λxs ys m k=>both (.inr ⟨xs,ys,m,k⟩));have C:eqN n d e=eqS d e:=JS (λxs ys m k=>both (.inl ⟨xs,ys,m,k⟩)) (λxs ys m k=>both (.inr ⟨xs,ys,m,k⟩));exact p (by omega) h1 h2 x r (by rw [C,<-e1]; exact h)
end
end L2.D2
namespace L2.D2
open PySem PySem.Spec PyProof.Rows
open PySem.SeqAt
variable {X:Cx} {A:fD} {n:Nat} {b:Bool}
section
variable {pins:Pns} {σ:St} {F H:Hp} {s:fq}
theorem YO {a c:Addr} {xs ys:List V} {ds es:List D} (I:Inv X pins σ H s) (j:∀ {v w:V} {d e:D} {u t:fj} {b:Bool},Is X.K F v d->Is X.K F w e->RelV v u->RelV w t->eqN n d e=ff b->EqAt A.in1 s u t b)
  (p1:SqT X.K H a xs) (p2:SqT X.K H c ys) (i1:IsL X.K F xs ds) (i2:IsL X.K F ys es) (h:eqN (n+1) (.tup ds) (.tup es)=ff b) (m:A.units < cLine):RcNeAt A s (.ref a) (.ref c) (!b):=by
 obtain ⟨us,r1,g,_⟩:=I.tuple p1;obtain ⟨ws,r2,f,_⟩:=I.tuple p2;simp only [eqN] at h;cases q:wo (eqN n) ds es with
 | none=>rw [q] at h; simp at h
 | some k=>
  rw [q] at h;have i:us.toArray.size=ds.length:=by rw [ao,<-r1.length,i1.length]
  have l:ws.toArray.size=es.length:=by rw [ao,<-r2.length,i2.length]
  have z:=RcNeAt.tuples (A:=A) g f m (wp (A:=A.in1) j r1 r2 i1 i2 q);rw [i,l,<-kN q] at z;have e:b=(k&&ds.length == es.length):=by simpa using h.symm
  rw [e]; exact z
theorem YQ {a c:Addr} {xs ys:List V} {ds es:List D} (I:Inv X pins σ H s) (k:∀ {v w:V} {d e:D} {u t:fj} {b:Bool},Is X.K F v d->Is X.K F w e->RelV v u->RelV w t->eqN n d e=ff b->EqAt A.in1 s u t b)
  (p1:SqL X.K H a xs) (p2:SqL X.K H c ys) (i1:IsL X.K F xs ds) (i2:IsL X.K F ys es) (h:eqN (n+1) (.lst ds) (.lst es)=ff b) (j:A.units < cLine):RcNeAt A s (.ref a) (.ref c) (!b):=by
 obtain ⟨us,r1,g,_⟩:=I.list p1;obtain ⟨ws,r2,f,_⟩:=I.list p2;have i:us.toArray.size=ds.length:=by rw [ao,<-r1.length,i1.length]
 have l:ws.toArray.size=es.length:=by rw [ao,<-r2.length,i2.length]
 simp only [eqN] at h;by_cases hl:ds.length=es.length;·rw [if_pos hl] at h;have z:=RcNeAt.lists (A:=A) g.isList f.isList (by omega) j (wp (A:=A.in1) k r1 r2 i1 i2 h);have e:=kN h;rw [i] at z;rw [e,show min ds.length es.length=ds.length by omega];exact z
 ·rw [if_neg hl] at h;cases h;exact RcNeAt.lists_lengths g.isList f.isList (bne_iff_ne.mpr (by rw [i,l]; exact hl)) j
theorem qbp (I:Inv X pins σ H s) (i:Same F H) {v w:V} {d e:D} {u t:fj} (m:A.units+n+1 < cLine) (k:TopIs X.K F H v d) (j:TopIs X.K F H w e) (x:RelV v u) (r:RelV w t) (h:eqN (n+1) d e=ff b):RcAt A s u t b:=by
 have f:A.units < cLine:=by omega
 have l:∀ {v w:V} {d e:D} {u t:fj} {b:Bool},Is X.K F v d->Is X.K F w e->RelV v u->RelV w t->eqN n d e=ff b->EqAt A.in1 s u t b:=λB p z y o=>Wp I i n (by show A.units+1+n < cLine; omega) B p z y o;have k1:=Vf I i k x;have k2:=Vf I i j r;cases d <;> cases e <;> try (cases h; done)
 case tup.tup=>
  obtain ⟨a,xs,rfl,p1,i1⟩:=k.tup i; obtain ⟨c,ys,rfl,p2,i2⟩:=j.tup i; cases x; cases r;exact JT I l p1 p2 i1 i2 h f
 case lst.lst=>
  obtain ⟨a,xs,rfl,p1,i1⟩:=k.lst i; obtain ⟨c,ys,rfl,p2,i2⟩:=j.lst i; cases x; cases r;exact JU I l p1 p2 i1 i2 h f
 all_goals
  cases h;clear x r k j;first | obtain ⟨_,_,rfl,g⟩:=k1 | obtain ⟨_,rfl⟩:=k1 | cases k1
  first | obtain ⟨_,_,rfl,q⟩:=k2 | obtain ⟨_,rfl⟩:=k2 | cases k2
  with_reducible first | exact RcAt.none_none | exact RcAt.none_bool _ | exact RcAt.none_int _ _ | exact RcAt.none_str _ _ | exact RcAt.bool_none _ | exact RcAt.bool_bool _ _ | exact RcAt.bool_int _ _ _ | exact RcAt.bool_str _ _ _ | exact RcAt.int_none _ _ | exact RcAt.int_bool _ _ _ | exact RcAt.int_int _ _ _ _ | exact RcAt.int_str _ _ _ _ | exact RcAt.str_none _ _ | exact RcAt.str_bool _ _ _ | exact RcAt.str_int _ _ _ _ | exact RcAt.str_str _ _ _ _ | exact RcAt.none_tuple q f | exact RcAt.tuple_none g f | exact RcAt.none_list q f | exact RcAt.list_none g f | exact RcAt.bool_tuple _ q f | exact RcAt.tuple_bool _ g f | exact RcAt.bool_list _ q f | exact RcAt.list_bool _ g f | exact RcAt.int_tuple _ _ q f | exact RcAt.tuple_int _ _ g f | exact RcAt.int_list _ _ q f | exact RcAt.list_int _ _ g f | exact RcAt.str_tuple _ _ q f | exact RcAt.tuple_str _ _ g f | exact RcAt.str_list _ _ q f | exact RcAt.list_str _ _ g f | exact RcAt.tuple_list g q f | exact RcAt.list_tuple g q f
theorem qbq (I:Inv X pins σ H s) (i:Same F H) {v w:V} {d e:D} {u t:fj} (m:A.units+n+1 < cLine) (k:TopIs X.K F H v d) (j:TopIs X.K F H w e) (x:RelV v u) (r:RelV w t) (h:eqN (n+1) d e=ff b):RcNeAt A s u t (!b):=by
 have f:A.units < cLine:=by omega
 have l:∀ {v w:V} {d e:D} {u t:fj} {b:Bool},Is X.K F v d->Is X.K F w e->RelV v u->RelV w t->eqN n d e=ff b->EqAt A.in1 s u t b:=λB p z y o=>Wp I i n (by show A.units+1+n < cLine; omega) B p z y o;have k1:=Vf I i k x;have k2:=Vf I i j r;cases d <;> cases e <;> try (cases h; done)
 case tup.tup=>
  obtain ⟨a,xs,rfl,p1,i1⟩:=k.tup i; obtain ⟨c,ys,rfl,p2,i2⟩:=j.tup i; cases x; cases r;exact YO I l p1 p2 i1 i2 h f
 case lst.lst=>
  obtain ⟨a,xs,rfl,p1,i1⟩:=k.lst i; obtain ⟨c,ys,rfl,p2,i2⟩:=j.lst i; cases x; cases r;exact YQ I l p1 p2 i1 i2 h f
 all_goals
  cases h;clear x r k j;first | obtain ⟨_,_,rfl,g⟩:=k1 | obtain ⟨_,rfl⟩:=k1 | cases k1
  first | obtain ⟨_,_,rfl,q⟩:=k2 | obtain ⟨_,rfl⟩:=k2 | cases k2
  try simp only [dg,Bool.not_false]
  with_reducible first | exact RcNeAt.none_none | exact RcNeAt.none_bool _ | exact RcNeAt.none_int _ _ | exact RcNeAt.none_str _ _ | exact RcNeAt.bool_none _ | exact RcNeAt.bool_bool _ _ | exact RcNeAt.bool_int _ _ _ | exact RcNeAt.bool_str _ _ _ | exact RcNeAt.int_none _ _ | exact RcNeAt.int_bool _ _ _ | exact RcNeAt.int_int _ _ _ _ | exact RcNeAt.int_str _ _ _ _ | exact RcNeAt.str_none _ _ | exact RcNeAt.str_bool _ _ _ | exact RcNeAt.str_int _ _ _ _ | exact RcNeAt.str_str _ _ _ _ | exact RcNeAt.none_tuple q f | exact RcNeAt.tuple_none g f | exact RcNeAt.none_list q f | exact RcNeAt.list_none g f | exact RcNeAt.bool_tuple _ q f | exact RcNeAt.tuple_bool _ g f | exact RcNeAt.bool_list _ q f | exact RcNeAt.list_bool _ g f | exact RcNeAt.int_tuple _ _ q f | exact RcNeAt.tuple_int _ _ g f | exact RcNeAt.int_list _ _ q f | exact RcNeAt.list_int _ _ g f | exact RcNeAt.str_tuple _ _ q f | exact RcNeAt.tuple_str _ _ g f | exact RcNeAt.str_list _ _ q f | exact RcNeAt.list_str _ _ g f | exact RcNeAt.tuple_list g q f | exact RcNeAt.list_tuple g q f | with_unfolding_all first | exact RcNeAt.bool_bool _ _ | exact RcNeAt.bool_int _ _ _ | exact RcNeAt.int_bool _ _ _ | exact RcNeAt.int_int _ _ _ _ | exact RcNeAt.str_str _ _ _ _
end
noncomputable def eqD (a b:D):Out D:=match eqN 8 a b with
 | some c=>.ok (.bl c)
 | none=>.bad
noncomputable def neD (a b:D):Out D:=match eqN 8 a b with
 | some c=>.ok (.bl (!c))
 | none=>.bad
section
variable {C:Ct}
theorem ua (a:C.K=X.K) (g:X.A.units+64 < cLine):OpD X C .sh (compareOp .Eq) eqD:=by
 intro pins s σ H x y v u Q I d r h;obtain ⟨F,dx,f,b,t,ty,po⟩:=h;rw [a] at t ty;unfold eqD at po;cases e:eqN 8 dx f with
 | none=>rw [e] at po; exact po.elim
 | some c=>rw [e] at po;exact qbp I b (n:=7) (by omega) t ty d r e _ _ _ _ ⟨.bl c,H,I,rfl,po _ F H b .refl (.bl _)⟩
theorem YR (a:C.K=X.K) (g:X.A.units+64 < cLine):OpD X C .sh (compareOp .NotEq) neD:=by
 intro pins s σ H x y v u Q I d r h;obtain ⟨F,dx,f,b,t,ty,po⟩:=h;rw [a] at t ty;unfold neD at po;cases e:eqN 8 dx f with
 | none=>rw [e] at po; exact po.elim
 | some c=>rw [e] at po;exact qbq I b (n:=7) (by omega) t ty d r e _ _ _ _ ⟨.bl _,H,I,rfl,po _ F H b .refl (.bl _)⟩
end
end L2.D2
namespace L2.D2
open PySem PySem.Spec PyProof.Rows
open PySem.SeqAt
variable {X:Cx} {pins:Pns} {σ:St} {F H:Hp} {s:fq} {n:Nat} {v:V} {d e:D} {b:Bool}
section
theorem Gu (I:Inv X pins σ H s) (A:Same F H):∀ (n:Nat) {v:V} {d d' e:D} {b g:Bool},Is X.K F v d->Is X.K F v d'->eqN n d e=ff b->eqN n d' e=ff g->b=g:=by
 intro n
 induction n with
 | zero=>
  intro v d d' e b g h1 h2 e1 i;have s1:=Wm e1;have s2:=Wm i;cases h1 <;> cases h2 <;> first
   | exact aI.inj (e1.symm.trans i)
   | (cases s1; done)
   | (cases s2; done)
   | exact (Wn I A (by assumption) (by assumption)).elim
   | exact aI.inj (e1.symm.trans (Eq.trans (by cases e <;> rfl) i))
 | succ n p=>
  have l:∀ {xs:List V} {ds f es:List D} {b g:Bool},IsL X.K F xs ds->IsL X.K F xs f->wo (eqN n) ds es=ff b->wo (eqN n) f es=ff g->b=g:=by
   intro xs
   induction xs with
   | nil=>intro ds f es b g h1 h2 e1 i; cases h1; cases h2; exact aI.inj (e1.symm.trans i)
   | cons x xs m=>
    intro ds f es b g h1 h2 e1 i;cases h1 with
    | cons u h=>
     cases h2 with
     | cons r t=>
      cases es with
      | nil=>exact aI.inj (e1.symm.trans i)
      | cons e es=>obtain ⟨a,c,q,o,rfl⟩:=yH e1;obtain ⟨w,T,k,j,rfl⟩:=yH i;rw [p u r q k,m h t o j]
  intro v d d' e b g h1 h2 e1 i;have s1:=Wm e1;have s2:=Wm i;cases h1 with
  | tup p1 h=>
   cases h2 with
   | tup p2 t=>
    have q:=I.tuple_inj (qP A p1) (qP A p2);subst q;have hl:=h.length.symm.trans t.length;cases e with
    | tup es=>obtain ⟨c,q,rfl⟩:=QY e1;obtain ⟨T,k,rfl⟩:=QY i;rw [l h t q k,hl]
    | _=>exact aI.inj (e1.symm.trans i)
   | lst p2 t=>exact (Wn I A p1 p2).elim
   | _=>cases s2
  | lst p1 h=>
   cases h2 with
   | lst p2 t=>
    have q:=I.list_inj (A.seq p1) (A.seq p2);subst q;have hl:=h.length.symm.trans t.length;cases e with
    | lst es=>
     have e1:(if _=es.length then wo (eqN n) _ es else ff fk)=ff b:=e1;have i:(if _=es.length then wo (eqN n) _ es else ff fk)=ff g:=i;rw [hl] at e1;split at i;·rw [if_pos (by assumption)] at e1; exact l h t e1 i
     ·rw [if_neg (by assumption)] at e1; exact aI.inj (e1.symm.trans i)
    | _=>exact aI.inj (e1.symm.trans i)
   | tup p2 t=>exact (Wn I A p2 p1).elim
   | _=>cases s2
  | _=>cases h2 <;> first
   | exact aI.inj (e1.symm.trans i)
   | (cases s1; done)
   | (cases s2; done)
open Classical in
noncomputable def VH (X:Cx) (F:Hp) (n:Nat) (e:D) (u:fj):Bool:=decide (∃ v d,Is X.K F v d/\RelV v u/\eqN n d e=ff fm)
open Classical in
theorem Wq (I:Inv X pins σ H s) (A:Same F H) {u:fj} (h:Is X.K F v d) (r:RelV v u) (q:eqN n d e=ff b):VH X F n e u=b:=by
 unfold VH;cases b with
 | true=>exact decide_eq_true ⟨v,d,h,r,q⟩
 | false=>refine decide_eq_false ?_;rintro ⟨w,d',h',r',g⟩;have e:=r.inj r';subst e;exact absurd (Gu I A n h h' q g) (by decide)
noncomputable def yI (n:Nat) (e:D):List D->Option Bool
 | []=>ff fk
 | d::ds=>(eqN n d e).bind λa=>(yI n e ds).bind λb=>ff (a||b)
theorem gM {ds:List D} (h:yI n e (d::ds)=ff b):∃ a c,eqN n d e=ff a/\yI n e ds=ff c/\b=(a||c):=by
 unfold yI at h;cases q:eqN n d e with
 | none=>rw [q] at h; simp at h
 | some a=>
  cases f:yI n e ds with
  | none=>rw [q,f] at h; simp at h
  | some c=>rw [q,f] at h; exact ⟨a,c,rfl,rfl,(aI.inj h).symm⟩
theorem Wr (I:Inv X pins σ H s) (A:Same F H):∀ {vs:List V} {ds:List D} {us:List fj} {b:Bool},IsL X.K F vs ds->Vals vs us->yI n e ds=ff b->us.any (VH X F n e)=b/\∀ u∈us,∃ v d a,Is X.K F v d/\RelV v u/\eqN n d e=ff a/\VH X F n e u=a
 | _,_,_,b,.nil,.nil,h=>⟨by simpa using (aI.inj h),λu f=>nomatch f⟩
 | _,_,_,b,.cons i t,.cons r rs,h=>by
  obtain ⟨a,c,q,k,rfl⟩:=gM h;obtain ⟨j,g⟩:=Wr I A t rs k;have e1:=Wq I A i r q;refine ⟨by rw [cF,e1,j],λu f=>?_⟩;rcases ae.mp f with rfl | f;·exact ⟨_,_,a,i,r,q,e1⟩
  ·exact g u f
end
noncomputable def inD (x y:D):Out Bool:=match y with
 | .lst ds=>match yI 7 x ds with
  | some b=>.ok b
  | none=>.bad
 | .tup ds=>match yI 7 x ds with
  | some b=>.ok b
  | none=>.bad
 | _=>.bad
noncomputable def qcB (x y:D):Out D:=(inD x y).bind λb=>.ok (.bl b)
noncomputable def Vg (x y:D):Out D:=(inD x y).bind λb=>.ok (.bl (!b))
theorem TopIs.is {K:Frag} (s:Same F H) (h:TopIs K F H v d):∃ F',Same F F'/\Same F' H/\Is K F' v d:=by
 rcases h with h | ⟨a,rfl,o⟩
 ·exact ⟨F,Same.refl _,s,h⟩
 ·obtain ⟨u,hu⟩:∃ u,H a=ff u:=by
   cases q:H a with
   | none=>exact absurd q o.there
   | some u=>exact ⟨u,rfl⟩
  by_cases E:F a=fg
  ·have gr:Same F (upd F a u):=λb w e=>by rw [qp (qx e E)]; exact e
   refine ⟨upd F a u,gr,λb w e=>?_,?_⟩
   ·by_cases q:b=a;·subst q; rw [qf] at e; cases e; exact hu
    ·rw [qp q] at e; exact s b w e
   ·cases d with
    | lst ds=>obtain ⟨xs,e,t⟩:=o; rw [hu] at e; cases e; exact .lst (.inl (.inl qf)) (t.mono gr)
    | dct ds=>obtain ⟨xs,e,t⟩:=o; rw [hu] at e; cases e; exact .dct qf (t.mono gr)
    | ins C fs=>obtain ⟨dx,xs,e,t⟩:=o; rw [hu] at e; cases e; exact .ins qf (t.mono gr)
    | at_ b ds=>obtain ⟨J,xs,e,t⟩:=o; rw [hu] at e; cases e; subst J; exact .at_ (.inl (.inl qf)) (t.mono gr)
    | _=>exact o.elim
  ·obtain ⟨w,hw⟩:∃ w,F a=ff w:=by
    cases q:F a with
    | none=>exact absurd q E
    | some w=>exact ⟨w,rfl⟩
   have e:=s a w hw;cases d with
   | lst ds=>obtain ⟨xs,c,t⟩:=o; rw [c] at e; cases e; exact ⟨F,Same.refl _,s,.lst (.inl (.inl hw)) t⟩
   | dct ds=>obtain ⟨xs,c,t⟩:=o; rw [c] at e; cases e; exact ⟨F,Same.refl _,s,.dct hw t⟩
   | ins C fs=>obtain ⟨dx,xs,c,t⟩:=o; rw [c] at e; cases e; exact ⟨F,Same.refl _,s,.ins hw t⟩
   | at_ b ds=>obtain ⟨J,xs,c,t⟩:=o; rw [c] at e; cases e; subst J; exact ⟨F,Same.refl _,s,.at_ (.inl (.inl hw)) t⟩
   | _=>exact o.elim
section
variable {C:Ct}
theorem gN {A:fD} {y x:V} {dx:D} {ds:List D} {b:Bool} {u v:fj} {a:Addr} {us:List fj} {xs:List V} (I:Inv X pins σ H s) (l:A.units+64 < cLine) (c:Same F H) (ix:Is X.K F x dx) (f:RelV x v)
  (i:IsL X.K F xs ds) (r:Vals xs us) (h:yI 7 dx ds=ff b):us.any (VH X F 7 dx)=b/\∀ w,w∈us.toArray->EqAt A.in1 s w v (VH X F 7 dx w):=by
 obtain ⟨h1,h2⟩:=Wr I c i r h;refine ⟨h1,λw g=>?_⟩;obtain ⟨j,d,k,i1,r1,q,e⟩:=h2 w (by simpa using g);rw [e];exact Wp I c 7 (by show A.units+1+7 < cLine; omega) i1 ix r1 f q
theorem qdi (n:C.K=X.K) (j:X.A.units+64 < cLine):OpD X C .sh (compareOp .In) qcB:=by
 intro pins s σ H x y v u Q I g f h;obtain ⟨F,dx,k,d,t,ty,po⟩:=h;rw [n] at t ty;unfold qcB inD at po;obtain ⟨F',g',c,ix⟩:=t.is d;cases k with
 | lst ds=>
  cases e:yI 7 dx ds with
  | none=>simp only [e] at po; exact po.elim
  | some b=>simp only [e] at po;obtain ⟨a,xs,rfl,p,i⟩:=ty.lst d;cases f;obtain ⟨us,r,pl,_⟩:=I.list p;obtain ⟨h1,h2⟩:=gN (A:=X.A) (y:=.non) (a:=a) (u:=.none) I j c ix g (i.mono g') r e;refine in_listAt (VH X F' 7 dx) pl.isList h2 ⟨.bl b,H,I,by show _=_; rw [<-h1]; simp,po _ F H d .refl (.bl _)⟩
 | tup ds=>
  cases e:yI 7 dx ds with
  | none=>simp only [e] at po; exact po.elim
  | some b=>simp only [e] at po;obtain ⟨a,xs,rfl,p,i⟩:=ty.tup d;cases f;obtain ⟨us,r,pl,_⟩:=I.tuple p;obtain ⟨h1,h2⟩:=gN (A:=X.A) (y:=.non) (a:=a) (u:=.none) I j c ix g (i.mono g') r e;refine in_tupleAt (VH X F' 7 dx) pl h2 ⟨.bl b,H,I,by show _=_; rw [<-h1]; simp,po _ F H d .refl (.bl _)⟩
 | _=>exact po.elim
theorem YS (n:C.K=X.K) (j:X.A.units+64 < cLine):OpD X C .sh (compareOp .NotIn) Vg:=by
 intro pins s σ H x y v u Q I g f h;obtain ⟨F,dx,k,d,t,ty,po⟩:=h;rw [n] at t ty;unfold Vg inD at po;obtain ⟨F',g',c,ix⟩:=t.is d;cases k with
 | lst ds=>
  cases e:yI 7 dx ds with
  | none=>simp only [e] at po; exact po.elim
  | some b=>simp only [e] at po;obtain ⟨a,xs,rfl,p,i⟩:=ty.lst d;cases f;obtain ⟨us,r,pl,_⟩:=I.list p;obtain ⟨h1,h2⟩:=gN (A:=X.A) (y:=.non) (a:=a) (u:=.none) I j c ix g (i.mono g') r e;refine notIn_listAt (VH X F' 7 dx) pl.isList h2 ⟨.bl (!b),H,I,by show _=_; rw [<-h1]; simp,po _ F H d .refl (.bl _)⟩
 | tup ds=>
  cases e:yI 7 dx ds with
  | none=>simp only [e] at po; exact po.elim
  | some b=>simp only [e] at po;obtain ⟨a,xs,rfl,p,i⟩:=ty.tup d;cases f;obtain ⟨us,r,pl,_⟩:=I.tuple p;obtain ⟨h1,h2⟩:=gN (A:=X.A) (y:=.non) (a:=a) (u:=.none) I j c ix g (i.mono g') r e;refine notIn_tupleAt (VH X F' 7 dx) pl h2 ⟨.bl (!b),H,I,by show _=_; rw [<-h1]; simp,po _ F H d .refl (.bl _)⟩
 | _=>exact po.elim
end
end L2.D2
namespace L2.D2
open PySem PySem.Spec PyProof.Rows
def PoT (C:Ct) (own:List Nat) (σ:St) (F H:Hp) (r:Out (Bool×Sl)) (Q:Bool->Hp->Prop):Prop:=match r with
 | .ok (b,ρ')=>∀ F' H',Rep C.K own F' H' σ ρ'->Chg (OA own σ) F H F' H'->Q b H'
 | .exc c ρ'=>∀ F' H',Same F' H'->Yn C.K C.ox F' H' σ ρ'->Chg (OA own σ) F H F' H'->C.E (C.cv c) fg H'
 | .bad=>False
abbrev ub:=Sl->Out (Bool×Sl)
def tT (C:Ct) (own:List Nat) (f:ub):TT:=λσ H Q=>∃ F ρ,Rep C.K own F H σ ρ/\PoT C own σ F H (f ρ) Q
variable {C:Ct} {own:List Nat} {σ:St} {F H F1 H1:Hp} {Q:Bool->Hp->Prop}
theorem PoT.shift {r:Out (Bool×Sl)} (h:PoT C own σ F H r Q) (c:Chg (OA own σ) F H F1 H1):PoT C own σ F1 H1 r Q:=by
 cases r with
 | ok p=>exact λF' H' a T=>h F' H' a (c.trans' T)
 | exc x=>exact λF' H' s io T=>h F' H' s io (c.trans' T)
 | bad=>exact h.elim
theorem PoT.bindV {ma:Mo} {o:gJ} {k:D×Sl->Out (Bool×Sl)} {R:VK} (hp:PoT C own σ F H (o.bind k) Q)
  (h:∀ v F1 H1 d ρ1,Rep C.K own F1 H1 σ ρ1->Chg (OA own σ) F H F1 H1->MoIs C.K ma H F1 H1 v d->PoT C own σ F1 H1 (k (d,ρ1)) Q->R v H1):Po C own ma σ F H o R:=by
 cases o with
 | ok p=>obtain ⟨d,ρ1⟩:=p;exact λv F1 H1 a c m=>h v F1 H1 d ρ1 a c m (PoT.shift (show PoT C own σ F H (k (d,ρ1)) Q from hp) c)
 | exc x=>exact hp
 | bad=>exact hp.elim
variable {o:Out (Bool×Sl)}
theorem PoT.bindT {k:Bool×Sl->Out (Bool×Sl)} {R:Bool->Hp->Prop} (hp:PoT C own σ F H (o.bind k) Q)
  (h:∀ F1 H1 b ρ1,Rep C.K own F1 H1 σ ρ1->Chg (OA own σ) F H F1 H1->PoT C own σ F1 H1 (k (b,ρ1)) Q->R b H1):PoT C own σ F H o R:=by
 cases o with
 | ok p=>obtain ⟨d,ρ1⟩:=p;exact λF1 H1 a c=>h F1 H1 d ρ1 a c (PoT.shift (show PoT C own σ F H (k (d,ρ1)) Q from hp) c)
 | exc x=>exact hp
 | bad=>exact hp.elim
variable {m:Mo}
theorem Po.bindT {k:Bool×Sl->gJ} {Q:VK} {R:Bool->Hp->Prop} (hp:Po C own m σ F H (o.bind k) Q)
  (h:∀ F1 H1 b ρ1,Rep C.K own F1 H1 σ ρ1->Chg (OA own σ) F H F1 H1->Po C own m σ F1 H1 (k (b,ρ1)) Q->R b H1):PoT C own σ F H o R:=by
 cases o with
 | ok p=>obtain ⟨d,ρ1⟩:=p;exact λF1 H1 a c=>h F1 H1 d ρ1 a c (Po.shift (show Po C own m σ F H (k (d,ρ1)) Q from hp) c)
 | exc x=>exact hp
 | bad=>exact hp.elim
noncomputable def yq:D->Out Bool
 | .non=>.ok fk
 | .bl b=>.ok b
 | .int i=>.ok (i != 0)
 | .str x=>.ok ((x.length:Int) != 0)
 | .tup xs=>.ok (!xs.isEmpty)
 | .lst xs=>.ok (!xs.isEmpty)
 | .dct xs=>.ok (!xs.isEmpty)
 | .raw _=>.bad
 | .xcp _=>.bad
 | .ins _ _=>.bad
 | .at_ _ _=>.bad
noncomputable def yh (f:qO):ub:=λρ=>(f ρ).bind λp=>(yq p.1).bind λb=>.ok (b,p.2)
variable {K:Frag} {vs:List V} {ds:List D}
theorem IsL.isEmpty (h:IsL K F vs ds):vs.isEmpty=ds.isEmpty:=by cases h <;> rfl
theorem IsK.isEmpty {vs:List (Key×V)} {ds:List (Key×D)} (h:IsK K F vs ds):vs.isEmpty=ds.isEmpty:=by cases h <;> rfl
variable {v:V} {d:D}
theorem Gv {b:Bool} (s:Same F H) (h:TopIs K F H v d) (e:yq d=.ok b):qc7 K v H b:=by
 cases d with
 | non=>obtain rfl:=h.non; cases e; rfl
 | bl x=>obtain rfl:=h.bl; cases e; rfl
 | int x=>obtain rfl:=h.int; cases e; rfl
 | str x=>obtain ⟨rfl,q⟩:=h.str; cases e; exact ⟨q,rfl⟩
 | tup x=>obtain ⟨a,xs,rfl,p,t⟩:=h.tup s; cases e; exact .inr (.inl ⟨xs,p,by rw [t.isEmpty]⟩)
 | lst x=>obtain ⟨a,xs,rfl,p,t⟩:=h.lst s; cases e; exact .inl ⟨xs,p,by rw [t.isEmpty]⟩
 | dct x=>obtain ⟨a,xs,rfl,p,t⟩:=h.dct s; cases e; exact .inr (.inr ⟨xs,p,by rw [t.isEmpty]⟩)
 | raw x=>cases e
 | xcp x=>cases e
 | ins x y=>cases e
 | at_ x y=>cases e
noncomputable def qV (f:qO):ub:=λρ=>(f ρ).bind λp=>match p.1 with
 | .bl b=>.ok (b,p.2)
 | _=>.bad
variable {X:Cx} {c e:Expr} {ma mb:Mo} {pos:Pos} {op op':CmpOp} {g g':D->D->Out D} {ρ:Sl}
section
variable {a b:Expr} {f fa fb fc:qO} {ft fu:ub} {mc:Mo} {rest:List Expr}
theorem Gw (n:C.K=X.K) (h:PE X e (tE C own m f)) (i:∀ whole,isTrue e X.env whole=(do let v <-whole; standAt e.pos; holding [v] (truthy v))):PT X e (tT C own (yh f)):=by
 refine YL (YA h i) λσ H Q ⟨F,ρ,r,h⟩=>⟨F,ρ,r,PoT.bindV h λv F1 H1 d ρ1 a g c h1=>?_⟩
 cases q:yq d with
 | ok k=>have h1:PoT C own σ F1 H1 ((yq d).bind λb=>.ok (b,ρ1)) Q:=h1;rw [q] at h1;exact ⟨k,by rw [<-n]; exact Gv a.sub c.top q,h1 F1 H1 a .refl⟩
 | exc x=>have h1:PoT C own σ F1 H1 ((yq d).bind λb=>.ok (b,ρ1)) Q:=h1;cases d <;> cases q
 | bad=>have h1:PoT C own σ F1 H1 ((yq d).bind λb=>.ok (b,ρ1)) Q:=h1;rw [q] at h1;exact h1.elim
theorem Ws (h:tT C own (qV f) σ H Q):tE C own .sh f σ H λx H'=>∃ k,x=.bl k/\Q k H':=by
 obtain ⟨F,ρ,r,h⟩:=h;refine ⟨F,ρ,r,PoT.bindV h λv F1 H1 d ρ1 a b c h1=>?_⟩;cases d with
 | bl k=>have c:Is C.K F1 v (.bl k):=c;cases c;exact ⟨k,rfl,h1 F1 H1 a .refl⟩
 | _=>exact h1.elim
theorem qM (l:OpD X C .sh (compareOp op) g) (c:PE X a (tE C own ma fa)) (d:PE X b (tE C own mb fb)) (f:ma≠.any:=by decide)
  (k:behindInMarks op b=false:=by first | exact Zh _ | with_unfolding_all rfl):PT X (.Compare a [op] [b] pos) (tT C own (qV (d2 g fa fb))):=by
 refine YL (Gb l c d k) λσ H Q h=>?_;exact gK f (Ws h)
noncomputable def gO (ft:ub):ub:=λρ=>(ft ρ).bind λp=>.ok (!p.1,p.2)
theorem jJ (h:PT X a (tT C own ft)):PT X (.UnaryOp .Not a pos) (tT C own (gO ft)):=by refine YL (qaY h) λσ H Q ⟨F,ρ,p,h⟩=>⟨F,ρ,p,PoT.bindT h λF1 H1 b ρ1 r k h1=>h1 F1 H1 r .refl⟩
theorem qbr {e:Expr} {t t':TT} (h:PW X e t) (i:∀ σ H Q,t' σ H Q->t σ H Q):PW X e t':=⟨λw pins s σ H Q I a=>h w pins s σ H Q I (i σ H Q a)⟩
noncomputable def qdj (ft fu:ub):ub:=λρ=>(ft ρ).bind λp=>if p.1=fm then fu p.2 else .ok (fk,p.2)
noncomputable def dOr (ft fu:ub):ub:=λρ=>(ft ρ).bind λp=>if p.1=fm then .ok (fm,p.2) else fu p.2
theorem uD {op} (h:PT X a (tT C own ft)):PW X (.BoolOp op [a] pos) (tT C own ft):=by
 cases op;·exact ZU h
 ·exact qaW h
theorem Gx (g:PT X a (tT C own ft)) (d:PW X (.BoolOp .And (b::rest) pos) (tT C own fu)):PW X (.BoolOp .And (a::b::rest) pos) (tT C own (qdj ft fu)):=by
 refine qbr (qaX g d) λσ H Q ⟨F,ρ,p,h⟩=>⟨F,ρ,p,PoT.bindT h λF1 H1 k ρ1 r c h1=>?_⟩
 cases k with
 | true=>exact ⟨F1,ρ1,r,h1⟩
 | false=>exact h1 F1 H1 r .refl
theorem gP (g:PT X a (tT C own ft)) (d:PW X (.BoolOp .Or (b::rest) pos) (tT C own fu)):PW X (.BoolOp .Or (a::b::rest) pos) (tT C own (dOr ft fu)):=by
 refine qbr (qcR g d) λσ H Q ⟨F,ρ,p,h⟩=>⟨F,ρ,p,PoT.bindT h λF1 H1 k ρ1 r c h1=>?_⟩
 cases k with
 | true=>exact h1 F1 H1 r .refl
 | false=>exact ⟨F1,ρ1,r,h1⟩
noncomputable def Vh (fa fb:qO):qO:=λρ=>(fa ρ).bind λp=>match p.1 with
 | .bl fm=>fb p.2
 | .bl fk=>.ok (.bl fk,p.2)
 | _=>.bad
noncomputable def qcC (fa fb:qO):qO:=λρ=>(fa ρ).bind λp=>match p.1 with
 | .bl fm=>.ok (.bl fm,p.2)
 | .bl fk=>fb p.2
 | _=>.bad
theorem Wt {op} (h:PE X a (tE C own m f)):PE X (.BoolOp op [a] pos) (tE C own m f):=qaZ h
theorem Wu (g:PE X a (tE C own .sh fa)) (e:PE X (.BoolOp .And (b::rest) pos) (tE C own .sh fb)):PE X (.BoolOp .And (a::b::rest) pos) (tE C own .sh (Vh fa fb)):=by
 refine ji (qa0 g e) λσ H Q ⟨F,ρ,p,h⟩=>⟨F,ρ,p,Po.bind h λv F1 H1 d ρ1 r f c h1=>?_⟩
 cases d with
 | bl k=>
  have c:Is C.K F1 v (.bl k):=c;cases c;refine ⟨k,rfl,?_⟩;cases k with
  | true=>exact ⟨F1,ρ1,r,h1⟩
  | false=>exact h1 _ F1 H1 r .refl (.bl _)
 | _=>exact h1.elim
theorem qdk (g:PE X a (tE C own .sh fa)) (e:PE X (.BoolOp .Or (b::rest) pos) (tE C own .sh fb)):PE X (.BoolOp .Or (a::b::rest) pos) (tE C own .sh (qcC fa fb)):=by
 refine ji (qcT g e) λσ H Q ⟨F,ρ,p,h⟩=>⟨F,ρ,p,Po.bind h λv F1 H1 d ρ1 r f c h1=>?_⟩
 cases d with
 | bl k=>
  have c:Is C.K F1 v (.bl k):=c;cases c;refine ⟨k,rfl,?_⟩;cases k with
  | true=>exact h1 _ F1 H1 r .refl (.bl _)
  | false=>exact ⟨F1,ρ1,r,h1⟩
 | _=>exact h1.elim
noncomputable def dIf (ft:ub) (fa fb:qO):qO:=λρ=>(ft ρ).bind λp=>if p.1=fm then fa p.2 else fb p.2
theorem Gy {t:Expr} (ht:PT X t (tT C own ft)) (g:PE X a (tE C own ma fa)) (d:PE X b (tE C own mb fb)) (h1:ma≠.any:=by decide) (h2:mb≠.any:=by decide):PE X (.IfExp t a b pos) (tE C own .sh (dIf ft fa fb)):=by
 refine ji (Yt ht (uC g h1) (uC d h2)) λσ H Q ⟨F,ρ,p,h⟩=>⟨F,ρ,p,Po.bindT h λF1 H1 k ρ1 r c h1=>?_⟩
 cases k with
 | true=>exact ⟨F1,ρ1,r,h1⟩
 | false=>exact ⟨F1,ρ1,r,h1⟩
noncomputable def uc (g g':D->D->Out D) (fa fb fc:qO):qO:=λρ=>(fa ρ).bind λp=>(fb p.2).bind λq=>(g p.1 q.1).plain.bind λz=>match z with
 | .bl fm=>(fc q.2).bind λr=>(g' q.1 r.1).plain.bind λd=>.ok (d,r.2)
 | .bl fk=>.ok (.bl fk,q.2)
 | _=>.bad
theorem PoV.bind {o:Out D} {k:D->gJ} {Q R:VK} (a:Rep C.K own F H σ ρ) (h:Po C own m σ F H (o.plain.bind k) Q)
  (e:∀ v F1 H1 d,Rep C.K own F1 H1 σ ρ->Chg No F H F1 H1->MoIs C.K ma H F1 H1 v d->Po C own m σ F1 H1 (k d) Q->R v H1):PoV C ma F H o R:=by
 cases o with
 | ok d=>exact λv F1 H1 s c b=>e v F1 H1 d (a.grow c s) c b (Po.shift (show Po C own m σ F H (k d) Q from h) c.ofNo)
 | exc c=>exact h.elim
 | bad=>exact h.elim
theorem JV {Q:VK} (s:ma≠.any) (l:mb≠.any) (h:tE C own .sh (uc g g' fa fb fc) σ H Q):VS (λx y H Q=>∃ F dx n,Same F H/\TopIs C.K F H x dx/\TopIs C.K F H y n/\PoV C .sh F H (g dx n) Q) (λx y H Q=>∃ F dx n,Same F H/\TopIs C.K F H x dx/\TopIs C.K F H y n/\PoV C .sh F H (g' dx n) Q)
   (tE C own ma fa) (tE C own mb fb) (tE C own mc fc) σ H Q:=by
 obtain ⟨F,ρ,A,h⟩:=h;refine ⟨F,ρ,A,Po.bind h λv F1 H1 d ρ1 i N q h1=>⟨F1,ρ1,i,Po.bind h1 λw M H2 e ρ2 f c2 j h2=>?_⟩⟩;have oa:∀ x,OA own σ x->H x≠none:=λx z=>(A.OA_there z).1;have o:∀ x,OA own σ x->H1 x≠none:=λx z=>(i.OA_there z).1;refine ⟨M,d,e,f.sub,(q.grow s c2 oa).top,j.top,PoV.bind (m:=.sh) f h2 λz u J E c I a t=>?_⟩;cases E with
 | bl k=>
  have a:Is C.K u z (.bl k):=a;cases a;refine ⟨k,rfl,?_⟩;cases k with
  | true=>refine ⟨u,ρ2,c,Po.bind t λS L O r B b G p D=>?_⟩;exact ⟨L,e,r,b.sub,((j.grow l (I.ofNo) o).grow l G o).top,p.top,PoV.of b D⟩
  | false=>exact t _ u J c .refl (.bl _)
 | _=>exact t.elim
theorem JW (o:OpD X C .sh (compareOp op) g) (d:OpD X C .sh (compareOp op') g') (j:PE X a (tE C own ma fa)) (i:PE X b (tE C own mb fb)) (e:PE X c (tE C own mc fc)) (f:ma≠.any:=by decide) (l:mb≠.any:=by decide)
  (m:lastMarks [op,op'] [b,c]=false:=by with_unfolding_all rfl):PE X (.Compare a [op,op'] [b,c] pos) (tE C own .sh (uc g g' fa fb fc)):=ji (Yy o d j i e m) λ_ _ _ h=>JV f l h
theorem gQ (o:OpD X C .sh (compareOp op) g) (d:OpD X C .sh (compareOp op') g') (j:PE X a (tE C own ma fa)) (i:PE X b (tE C own mb fb)) (e:PE X c (tE C own mc fc)) (f:ma≠.any:=by decide) (l:mb≠.any:=by decide)
  (m:lastMarks [op,op'] [b,c]=false:=by with_unfolding_all rfl):PT X (.Compare a [op,op'] [b,c] pos) (tT C own (qV (uc g g' fa fb fc))):=YL (Yz o d j i e m) λ_ _ _ h=>JV f l (Ws h)
theorem Wv:OpR X (compareOp .LtE) (λx y H Q=>∃ i j,x=.str i/\y=.str j/\Q (.bl (!wL j i)) H):=by intro pins s σ H x y v u Q I d c h;obtain ⟨i,j,rfl,rfl,q⟩:=h;obtain ⟨t,rfl⟩:=d;obtain ⟨t',rfl⟩:=c;exact PySem.P.le_str (Zg I q (by simp [wL]))
noncomputable def leD:D->D->Out D
 | .int i,.int j=>.ok (.bl (decide (i<=j)))
 | .str x,.str y=>.ok (.bl (!wL y x))
 | _,_=>.bad
theorem gR:OpD X C .sh (compareOp .LtE) leD:=by
 intro pins s σ H x y v u Q I d c h;obtain ⟨F,dx,a,A,t,ty,po⟩:=h;cases dx <;> try exact po.elim
 ·cases a <;> try exact po.elim
  obtain rfl:=t.int;obtain rfl:=ty.int;exact qc5 pins s σ H _ _ v u Q I d c ⟨_,_,rfl,rfl,po _ F H A .refl (.bl _)⟩
 ·cases a <;> try exact po.elim
  obtain ⟨rfl,_⟩:=t.str;obtain ⟨rfl,_⟩:=ty.str;exact Wv pins s σ H _ _ v u Q I d c ⟨_,_,rfl,rfl,po _ F H A .refl (.bl _)⟩
noncomputable def geD:D->D->Out D:=JR λi j=>.ok (.bl (decide (j<=i)))
theorem qbs:OpD X C .sh (compareOp .GtE) geD:=Wj qc6 λ_ _ _=>.bl _
end
inductive Fl where
 | nx | rt (d:D) | bk | ct
structure Nx (C:Ct) (own own':List Nat) (σ:St) (F H:Hp) (ρ':Sl) (σ':St) (F' H':Hp):Prop where
 rep:Rep C.K own' F' H' σ' ρ'
 chg:Chg (OA own σ) F H F' H'
 oa:∀ b,OA own' σ' b->OA own σ b\/H b=fg
 io:∀ i∈C.io,σ'[i]?=σ[i]?
def PoS (C:Ct) (own own':List Nat) (σ:St) (F H:Hp) (r:Out (Fl×Sl)) (D:Ends):Prop:=match r with
 | .ok (.nx,ρ')=>∀ σ' F' H',Nx C own own' σ F H ρ' σ' F' H'->D.nx σ' H'
 | .ok (.rt d,ρ')=>∀ v σ' F' H',Same F' H'->Yn C.K C.io F' H' σ' ρ'->Chg (OA own σ) F H F' H'->(∀ i∈C.io,σ'[i]?=σ[i]?)->MoIs C.K C.mr H F' H' v d->D.rt v H'
 | .ok (.bk,ρ')=>∀ σ' F' H',Nx C own C.ol σ F H ρ' σ' F' H'->D.bk σ' H'
 | .ok (.ct,ρ')=>∀ σ' F' H',Nx C own C.ol σ F H ρ' σ' F' H'->D.ct σ' H'
 | .exc c ρ'=>∀ F' H',Same F' H'->Yn C.K C.ox F' H' σ ρ'->Chg (OA own σ) F H F' H'->C.E (C.cv c) fg H'
 | .bad=>False
abbrev je:=Sl->Out (Fl×Sl)
def tSt (C:Ct) (own own':List Nat) (f:je):TS:=λD σ H=>∃ F ρ,Rep C.K own F H σ ρ/\PoS C own own' σ F H (f ρ) D
variable {o1 o2 o3:List Nat} {σ1:St} {ρ1:Sl}
theorem Nx.then {c:St} {d H2:Hp} {ρ2:Sl} (a:Nx C o1 o2 σ F H ρ1 σ1 F1 H1) (b:Nx C o2 o3 σ1 F1 H1 ρ2 c d H2):Nx C o1 o3 σ F H ρ2 c d H2 where
 rep:=b.rep
 chg:=a.chg.trans b.chg a.oa
 oa:=λx h=>by
  rcases b.oa x h with z | z;·exact a.oa x z
  ·refine .inr ?_;cases q:H x with
   | none=>rfl
   | some o=>exact absurd z (a.chg.stay x (by rw [q]; simp))
 io:=λi hi=>(b.io i hi).trans (a.io i hi)
theorem PoS.shift {r:Out (Fl×Sl)} {D:Ends} (h:PoS C o1 o3 σ F H r D) (a:Nx C o1 o2 σ F H ρ1 σ1 F1 H1):PoS C o2 o3 σ1 F1 H1 r D:=by
 cases r with
 | ok p=>
  obtain ⟨l,ρ'⟩:=p;cases l with
  | nx=>exact λσ' F' H' n=>h σ' F' H' (a.then n)
  | rt d=>exact λv σ' F' H' s io c e o=>h v σ' F' H' s io (a.chg.trans c a.oa) (λi hi=>(e i hi).trans (a.io i hi)) (MoIs.back (Ha:=H1) a.chg o)
  | bk=>exact λσ' F' H' n=>h σ' F' H' (a.then n)
  | ct=>exact λσ' F' H' n=>h σ' F' H' (a.then n)
 | exc c=>exact λF' H' s io T=>h F' H' s (λi hi=>by obtain ⟨d,b,e1,f,E⟩:=io i hi;exact ⟨d,b,e1,by rw [<-a.io i (C.oxs i hi)]; exact f,E⟩) (a.chg.trans T a.oa)
 | bad=>exact h.elim
theorem Nx.ofE (r:Rep C.K own F1 H1 σ ρ1) (c:Chg (OA own σ) F H F1 H1):Nx C own own σ F H ρ1 σ F1 H1:=⟨r,c,λ_ h=>.inl h,λ_ _=>rfl⟩
variable {own':List Nat}
theorem PoS.bindE {m:Mo} {o:gJ} {k:D×Sl->Out (Fl×Sl)} {D:Ends} {R:VK} (hp:PoS C own own' σ F H (o.bind k) D)
  (h:∀ v F1 H1 d ρ1,Rep C.K own F1 H1 σ ρ1->Chg (OA own σ) F H F1 H1->MoIs C.K m H F1 H1 v d->PoS C own own' σ F1 H1 (k (d,ρ1)) D->R v H1):Po C own m σ F H o R:=by
 cases o with
 | ok p=>obtain ⟨d,ρ1⟩:=p;exact λv F1 H1 a c b=>h v F1 H1 d ρ1 a c b (PoS.shift (show PoS C own own' σ F H (k (d,ρ1)) D from hp) (.ofE a c))
 | exc x=>exact hp
 | bad=>exact hp.elim
theorem PoS.bindT {k:Bool×Sl->Out (Fl×Sl)} {D:Ends} {R:Bool->Hp->Prop} (hp:PoS C own own' σ F H (o.bind k) D)
  (h:∀ F1 H1 b ρ1,Rep C.K own F1 H1 σ ρ1->Chg (OA own σ) F H F1 H1->PoS C own own' σ F1 H1 (k (b,ρ1)) D->R b H1):PoT C own σ F H o R:=by
 cases o with
 | ok p=>obtain ⟨d,ρ1⟩:=p;exact λF1 H1 a c=>h F1 H1 d ρ1 a c (PoS.shift (show PoS C own own' σ F H (k (d,ρ1)) D from hp) (.ofE a c))
 | exc x=>exact hp
 | bad=>exact hp.elim
variable {b a:Addr} {t':TS} {st:Stmt} {i:Nat} {x:Str} {pos':Pos}
section
variable {sts rest:List Stmt} {f g:je} {fe:qO} {ft:ub}
theorem gS {t:TS} (h:PS X st t) (i:∀ D σ H,t' D σ H->t D σ H):PS X st t':=⟨λpins s σ H D I w=>h pins s σ H D I (i D σ H w)⟩
theorem Ww {t:TS} (h:PSs X sts t) (i:∀ D σ H,t' D σ H->t D σ H):PSs X sts t':=⟨λpins s σ H D I w=>h pins s σ H D I (i D σ H w)⟩
noncomputable def jK:je:=λρ=>.ok (.nx,ρ)
noncomputable def jf (f g:je):je:=λρ=>(f ρ).bind λp=>match p.1 with
 | .nx=>g p.2
 | fl=>.ok (fl,p.2)
theorem Nx.refl (r:Rep C.K own F H σ ρ):Nx C own own σ F H ρ σ F H:=.ofE r .refl
theorem qW:PSs X [] (tSt C own own jK):=Ww ZV λD σ H ⟨F,ρ,a,h⟩=>h σ F H (.refl a)
theorem qbt {D:Ends} (h:tSt C o1 o3 (jf f g) D σ H):tSt C o1 o2 f { D with nx:=tSt C o2 o3 g D } σ H:=by
 obtain ⟨F,ρ,a,h⟩:=h;refine ⟨F,ρ,a,?_⟩;unfold jf at h;cases q:f ρ with
 | ok p=>
  rw [q] at h;obtain ⟨l,ρ1⟩:=p;cases l with
  | nx=>exact λσ' F' H' n=>⟨F',ρ1,n.rep,PoS.shift (show PoS C o1 o3 σ F H (g ρ1) D from h) n⟩
  | rt d=>exact h
  | bk=>exact h
  | ct=>exact h
 | exc c=>rw [q] at h; exact h
 | bad=>rw [q] at h; exact h.elim
theorem qe (h1:PS X st (tSt C o1 o2 f)) (h2:PSs X rest (tSt C o2 o3 g)):PSs X (st::rest) (tSt C o1 o3 (jf f g)):=Ww (Yu h1 h2) λD σ H h=>qbt h
theorem qh (h1:PS X st (tSt C o1 o2 f)):PSs X [st] (tSt C o1 o2 f):=ZW h1
theorem Rep.weak {K:Frag} {F H:Hp} {σ:St} {ρ:Sl}:∀ (drop:List Nat) {own own':List Nat},(∀ i,i∈own'↔i∈own/\i∉drop)->Rep K own F H σ ρ->∃ F',Rep K own' F' H σ ρ/\Chg (OA own σ) F H F' H
 | [],own,own',hs,rp=>⟨F,⟨rp.sub,rp.len,λi d hi=>rp.val i d λz=>hi ((hs i).mpr ⟨z,by simp⟩),λi d hi=>rp.ow i d ((hs i).mp hi).1,λi hi=>rp.opn i ((hs i).mp hi).1,λi j a hi D=>rp.dis i j a ((hs i).mp hi).1 ((hs j).mp D).1⟩,.refl⟩
 | k::r,own,own',hs,rp=>by
  obtain ⟨F1,c,n⟩:=Rep.weak r (own:=own) (own':=own.filter λi=>decide (i∉r)) (λi=>by simp) rp;by_cases f:k∈own/\k∉r
  ·obtain ⟨d,hd⟩:=c.opn k (by simp [f.1,f.2]);obtain ⟨a,h1,h2,g⟩:=c.ow k d (by simp [f.1,f.2]) hd;obtain ⟨u,hu⟩:∃ u,H a=ff u:=by
    cases q:H a with
    | none=>exact absurd q g.there
    | some u=>exact ⟨u,rfl⟩
   have gr:Same F1 (upd F1 a u):=λb w e=>by rw [qp (qx e h2)]; exact e
   refine ⟨upd F1 a u,⟨λb w e=>?_,c.len,λi d' hi e=>?_,λi d' hi e=>?_,λi hi=>?_,λi j b hi D=>?_⟩,?_⟩
   ·by_cases q:b=a;·subst q; rw [qf] at e; cases e; exact hu
    ·rw [qp q] at e; exact c.sub b w e
   ·by_cases q:i=k
    ·subst q;rw [hd] at e; cases e;refine ⟨_,h1,?_⟩;cases d with
     | lst ds=>obtain ⟨xs,e,t⟩:=g; rw [hu] at e; cases e; exact .lst (.inl (.inl qf)) (t.mono gr)
     | dct ds=>obtain ⟨xs,e,t⟩:=g; rw [hu] at e; cases e; exact .dct qf (t.mono gr)
     | ins C fs=>obtain ⟨dx,xs,e,t⟩:=g; rw [hu] at e; cases e; exact .ins qf (t.mono gr)
     | at_ b ds=>obtain ⟨J,xs,e,t⟩:=g; rw [hu] at e; cases e; subst J; exact .at_ (.inl (.inl qf)) (t.mono gr)
     | _=>exact g.elim
    ·obtain ⟨v,o,p⟩:=c.val i d' (λz=>by simp at z; exact hi ((hs i).mpr ⟨z.1,by simp [q,z.2]⟩)) e;exact ⟨v,o,p.mono gr⟩
   ·have h:=(hs i).mp hi;have s:i≠k:=λz=>h.2 (by simp [z]);have m:i∉r:=λz=>h.2 (by simp [z]);obtain ⟨b,o,p,y⟩:=c.ow i d' (by simp [h.1,m]) e;refine ⟨b,o,?_,y.grow gr λ_ z=>z⟩;have A:b≠a:=λz=>by subst z; exact s (c.dis i k b (by simp [h.1,m]) (by simp [f.1,f.2]) o h1)
    rw [qp A]; exact p
   ·have h:=(hs i).mp hi;exact c.opn i (by simp [h.1]; exact λz=>h.2 (by simp [z]))
   ·have h:=(hs i).mp hi;have l:=(hs j).mp D;exact c.dis i j b (by simp [h.1]; exact λz=>h.2 (by simp [z])) (by simp [l.1]; exact λz=>l.2 (by simp [z]))
   ·refine ⟨n.keep,n.stay,n.grow.trans gr,λb x=>?_⟩;by_cases q:b=a;·exact .inr (.inr ⟨k,f.1,by rw [q]; exact h1⟩)
    ·rw [qp q] at x; exact n.new b x
  ·refine ⟨F1,⟨c.sub,c.len,λi d hi=>c.val i d λz=>?_,λi d hi=>c.ow i d ?_,λi hi=>c.opn i ?_,λi j a hi D=>c.dis i j a ?_ ?_⟩,n⟩;·simp at z;refine hi ((hs i).mpr ⟨z.1,?_⟩);simp only [ae,not_or];exact ⟨λq=>f (by subst q; exact z),z.2⟩
   all_goals
    first
     | (have q:=(hs _).mp hi; simp only [bL,decide_eq_true_eq]; exact ⟨q.1,λz=>q.2 (by simp [z])⟩)
     | (have q:=(hs _).mp D; simp only [bL,decide_eq_true_eq]; exact ⟨q.1,λz=>q.2 (by simp [z])⟩)
theorem OA.sub (h:∀ i∈own',i∈own) (q:OA own' σ b):OA own σ b:=let ⟨i,hi,e⟩:=q; ⟨i,h i hi,e⟩
theorem Nx.drop (drop:List Nat) (hs:∀ i,i∈own'↔i∈own/\i∉drop) (r:Rep C.K own F H σ ρ):∃ F',Nx C own own' σ F H ρ σ F' H:=by obtain ⟨F',a,c⟩:=Rep.weak drop hs r;exact ⟨F',a,c,λb q=>.inl (OA.sub (λi hi=>((hs i).mp hi).1) q),λ_ _=>rfl⟩
noncomputable def kI (own drop:List Nat):List Nat:=own.filter λi=>decide (i∉drop)
theorem qK {own drop:List Nat} (i:Nat):i∈kI own drop↔i∈own/\i∉drop:=by simp [kI]
theorem jm (drop:List Nat) (h:PSs X sts (tSt C (kI own drop) o2 f)):PSs X sts (tSt C own o2 f):=Ww h λD σ H ⟨F,ρ,a,h⟩=>by obtain ⟨F',n⟩:=Nx.drop (C:=C) drop (λi=>qK (own:=own) i) a;exact ⟨F',ρ,n.rep,h.shift n⟩
noncomputable def sIf (ft:ub) (f g:je):je:=λρ=>(ft ρ).bind λp=>if p.1=fm then f p.2 else g p.2
theorem jw {a b:List Stmt} (d:PT X c (tT C own ft)) (i:PSs X a (tSt C own own' f)) (e:PSs X b (tSt C own own' g)):PS X (.If c a b pos) (tSt C own own' (sIf ft f g)):=by
 refine gS (qcW d i e) λD σ H ⟨F,ρ,p,h⟩=>⟨F,ρ,p,PoS.bindT h λF1 H1 k ρ1 r j h1=>?_⟩
 cases k with
 | true=>exact ⟨F1,ρ1,r,h1⟩
 | false=>exact ⟨F1,ρ1,r,h1⟩
noncomputable def kY (fe:qO):je:=λρ=>(fe ρ).bind λp=>.ok (.nx,p.2)
theorem jx (i:PE X e (tE C own m fe)) (hs:swapsWith e fg pos.line X.env=pure false:=by rfl):PS X (.Expr e pos) (tSt C own own (kY fe)):=by refine gS (ZX i hs) λD σ H ⟨F,ρ,r,h⟩=>⟨F,ρ,r,PoS.bindE h λv F1 H1 d ρ1 a k c h1=>h1 σ F1 H1 (.refl a)⟩
noncomputable def jO (fe:qO):je:=λρ=>(fe ρ).bind λp=>.ok (.rt p.1,p.2)
theorem Gz (b:PE X e (tE C own C.mr fe)) (o:∀ i∈C.io,i∈own:=by exact wE rfl):PS X (.Return (ff e) pos) (tSt C own own' (jO fe)):=by
 refine gS (qa1 b) λD σ H ⟨F,ρ,r,h⟩=>⟨F,ρ,r,?_⟩
 unfold jO at h;cases q:fe ρ with
 | ok p=>rw [q] at h;obtain ⟨d,ρ1⟩:=p;exact λv F1 H1 a k m=>h v σ F1 H1 a.sub (a.ioIs o) k (λ_ _=>rfl) m
 | exc c=>rw [q] at h; exact h
 | bad=>rw [q] at h; exact h.elim
theorem qo (a:PE X e (tE C own m fe)) (h:m≠.any:=by decide) (c:C.mr=.sh:=by rfl) (o:∀ i∈C.io,i∈own:=by exact wE rfl):PS X (.Return (ff e) pos) (tSt C own own' (jO fe)):=Gz (by rw [c]; exact uC a h) o
theorem Rep.put (r:Rep K own F H σ ρ) (hi:i < ρ.length) (is:Is K F v d):Rep K (kI own [i]) F H (σ.set i (ff v)) (ρ.set i (ff d)) where
 sub:=r.sub
 len:=by simp [r.len]
 val:=λj d' D e=>by
  by_cases q:j=i;·subst q;rw [aG hi] at e;cases e;exact ⟨v,aG (by rw [r.len]; exact hi),is⟩
  ·rw [ak (bp q)] at e;obtain ⟨w,h1,h2⟩:=r.val j d' (λz=>D ((qK j).mpr ⟨z,by simp [q]⟩)) e;exact ⟨w,by rw [ak (bp q)]; exact h1,h2⟩
 ow:=λj d' D e=>by have l:=(qK j).mp D;have q:j≠i:=λz=>l.2 (by simp [z]);rw [ak (bp q)] at e;obtain ⟨a,h1,h2⟩:=r.ow j d' l.1 e;exact ⟨a,by rw [ak (bp q)]; exact h1,h2⟩
 opn:=λj D=>by have l:=(qK j).mp D;have q:j≠i:=λz=>l.2 (by simp [z]);obtain ⟨d',e⟩:=r.opn j l.1;exact ⟨d',by rw [ak (bp q)]; exact e⟩
 dis:=λj k a D c e1 b=>by have l:=(qK j).mp D;have h:=(qK k).mp c;rw [ak (λz=>l.2 (by simp [z]))] at e1;rw [ak (λz=>h.2 (by simp [z]))] at b;exact r.dis j k a l.1 h.1 e1 b
theorem OA.put (h:OA (kI own [i]) (σ.set i (ff v)) b):OA own σ b:=by obtain ⟨j,D,e⟩:=h;have l:=(qK j).mp D;rw [ak (λz=>l.2 (by simp [z]))] at e;exact ⟨j,l.1,e⟩
noncomputable def kf (i:Nat) (fe:qO):je:=λρ=>(fe ρ).bind λp=>if i < p.2.length then .ok (.nx,p.2.set i (ff p.1)) else .bad
theorem GA (n:X.N.Nodup) (hi:X.N[i]?=ff x) (hx:Loc X.env.scope x) (l:PE X e (tE C own m fe)) (f:m≠.any:=by decide) (o:i∉C.io:=by exact wX rfl) (hs:swapsWith e (ff (.Name x pos')) pos.line X.env=pure false:=by rfl)
  (k:X.fn x=fm\/X.env.scope.names.lookup x=ff .local:=by first | exact .inl rfl | exact .inr rfl):PS X (.Assign [.Name x pos'] e pos) (tSt C own (kI own [i]) (kf i fe)):=by
 refine gS (Ze n hi hx (uC l f) hs k) λD σ H ⟨F,ρ,r,h⟩=>⟨F,ρ,r,PoS.bindE h λv F1 H1 d ρ1 a p c h1=>?_⟩
 by_cases q:i < ρ1.length;·have h1:PoS C own (kI own [i]) σ F1 H1 (if i < ρ1.length then .ok (.nx,ρ1.set i (ff d)) else .bad) D:=h1;rw [if_pos q] at h1;exact h1 _ F1 H1 ⟨a.put q c,.refl,λb z=>.inl (OA.put z),λj g=>ak λz=>o (by rw [z]; exact g)⟩
 ·have h1:PoS C own (kI own [i]) σ F1 H1 (if i < ρ1.length then .ok (.nx,ρ1.set i (ff d)) else .bad) D:=h1;rw [if_neg q] at h1;exact h1.elim
theorem Rep.putO (r:Rep K own F H σ ρ) (hi:i < ρ.length) (E:F a=fg) (n:¬OA own σ a) (o:OwnIs K F H a d):Rep K (i::kI own [i]) F H (σ.set i (ff (.ref a))) (ρ.set i (ff d)) where
 sub:=r.sub
 len:=by simp [r.len]
 val:=λj d' D e=>by have q:j≠i:=λz=>D (by simp [z]);rw [ak (bp q)] at e;obtain ⟨w,h1,h2⟩:=r.val j d' (λz=>D (ac _ ((qK j).mpr ⟨z,by simp [q]⟩))) e;exact ⟨w,by rw [ak (bp q)]; exact h1,h2⟩
 ow:=λj d' D e=>by
  by_cases q:j=i;·subst q;rw [aG hi] at e;cases e;exact ⟨a,aG (by rw [r.len]; exact hi),E,o⟩
  ·have l:=(qK j).mp ((ae.mp D).resolve_left q);rw [ak (bp q)] at e;obtain ⟨b,h1,h2⟩:=r.ow j d' l.1 e;exact ⟨b,by rw [ak (bp q)]; exact h1,h2⟩
 opn:=λj D=>by
  by_cases q:j=i;·subst q; exact ⟨d,aG hi⟩
  ·have l:=(qK j).mp ((ae.mp D).resolve_left q);obtain ⟨d',e⟩:=r.opn j l.1;exact ⟨d',by rw [ak (bp q)]; exact e⟩
 dis:=λj k b D p e1 f=>by
  have m:i < σ.length:=by rw [r.len]; exact hi
  by_cases g:j=i
  ·by_cases c:k=i;·rw [g,c]
   ·subst g;have h:=(qK k).mp ((ae.mp p).resolve_left c);rw [aG m] at e1;cases e1;rw [ak (bp c)] at f;exact absurd ⟨k,h.1,f⟩ n
  ·have l:=(qK j).mp ((ae.mp D).resolve_left g);by_cases c:k=i;·subst c;rw [aG m] at f;cases f;rw [ak (bp g)] at e1;exact absurd ⟨j,l.1,e1⟩ n
   ·have h:=(qK k).mp ((ae.mp p).resolve_left c);rw [ak (bp g)] at e1;rw [ak (bp c)] at f;exact r.dis j k b l.1 h.1 e1 f
theorem YT (w:X.N.Nodup) (hi:X.N[i]?=ff x) (hx:Loc X.env.scope x) (u:PE X e (tE C own .fr fe)) (k:i∉C.io:=by exact wX rfl) (hs:swapsWith e (ff (.Name x pos')) pos.line X.env=pure false:=by rfl)
  (t:X.fn x=fm\/X.env.scope.names.lookup x=ff .local:=by first | exact .inl rfl | exact .inr rfl):PS X (.Assign [.Name x pos'] e pos) (tSt C own (i::kI own [i]) (kf i fe)):=by
 refine gS (Ze w hi hx u hs t) λD σ H ⟨F,ρ,n,h⟩=>⟨F,ρ,n,?_⟩
 unfold kf at h;cases q:fe ρ with
 | ok p=>
  rw [q] at h;obtain ⟨d,ρ1⟩:=p;intro v F1 H1 r A m;obtain ⟨a,rfl,s,E,o⟩:=m;by_cases z:i < ρ1.length
  ·have h1:PoS C own (i::kI own [i]) σ F H (if i < ρ1.length then .ok (.nx,ρ1.set i (ff d)) else .bad) D:=h;rw [if_pos z] at h1;refine h1 _ F1 H1 ⟨r.putO z E (λy=>(n.OA_there y).1 s) o,A,λb y=>?_,λj f=>ak λy=>k (by rw [y]; exact f)⟩;obtain ⟨j,f,e⟩:=y;by_cases g:j=i;·subst g;rw [aG (by rw [r.len]; exact z)] at e;cases e;exact .inr s
   ·have l:=(qK j).mp ((ae.mp f).resolve_left g);rw [ak (bp g)] at e;exact .inl ⟨j,l.1,e⟩
  ·have h1:PoS C own (i::kI own [i]) σ F H (if i < ρ1.length then .ok (.nx,ρ1.set i (ff d)) else .bad) D:=h;rw [if_neg z] at h1;exact h1.elim
 | exc c=>rw [q] at h; exact h
 | bad=>rw [q] at h; exact h.elim
end
inductive AK where
 | vl | sl (i:Nat) | fr
 deriving DecidableEq
def ArgV (K:Frag) (H0 F H:Hp) (σ:St):List AK->List V->List D->Prop
 | [],[],[]=>True
 | .vl::as,v::vs,d::ds=>Is K F v d/\ArgV K H0 F H σ as vs ds
 | .sl i::as,v::vs,d::ds=>σ[i]?=ff (ff v)/\d=.non/\ArgV K H0 F H σ as vs ds
 | .fr::as,v::vs,d::ds=>MoIs K .fr H0 F H v d/\ArgV K H0 F H σ as vs ds
 | _,_,_=>False
variable {A:Addr->Prop} {H0 H':Hp}
theorem ArgV.grow {F':Hp} (c:Chg A F H F' H') (hA:∀ x,A x->H0 x≠fg):∀ {as:List AK} {vs:List V} {ds:List D},ArgV K H0 F H σ as vs ds->ArgV K H0 F' H' σ as vs ds
 | [],[],[],h=>trivial
 | .vl::as,v::vs,d::ds,h=>⟨h.1.mono c.grow,ArgV.grow c hA h.2⟩
 | .sl i::as,v::vs,d::ds,h=>⟨h.1,h.2.1,ArgV.grow c hA h.2.2⟩
 | .fr::as,v::vs,d::ds,h=>⟨h.1.grow (by decide) c hA,ArgV.grow c hA h.2⟩
 | [],_::_,_,h=>h.elim
 | [],[],_::_,h=>h.elim
 | .vl::_,[],_,h=>h.elim
 | .vl::_,_::_,[],h=>h.elim
 | .sl _::_,[],_,h=>h.elim
 | .sl _::_,_::_,[],h=>h.elim
 | .fr::_,[],_,h=>h.elim
 | .fr::_,_::_,[],h=>h.elim
theorem ArgV.back {F0:Hp} (c:Chg A F0 H0 F1 H1):∀ {as:List AK} {vs:List V} {ds:List D},ArgV K H1 F H σ as vs ds->ArgV K H0 F H σ as vs ds
 | [],[],[],h=>trivial
 | .vl::as,v::vs,d::ds,h=>⟨h.1,ArgV.back c h.2⟩
 | .sl i::as,v::vs,d::ds,h=>⟨h.1,h.2.1,ArgV.back c h.2.2⟩
 | .fr::as,v::vs,d::ds,h=>⟨MoIs.back (Ha:=H1) c h.1,ArgV.back c h.2⟩
 | [],_::_,_,h=>h.elim
 | [],[],_::_,h=>h.elim
 | .vl::_,[],_,h=>h.elim
 | .vl::_,_::_,[],h=>h.elim
 | .sl _::_,[],_,h=>h.elim
 | .sl _::_,_::_,[],h=>h.elim
 | .fr::_,[],_,h=>h.elim
 | .fr::_,_::_,[],h=>h.elim
def PoA (C:Ct) (own:List Nat) (as:List AK) (σ:St) (F H:Hp) (r:Out (List D×Sl)) (Q:List V->Hp->Prop):Prop:=match r with
 | .ok (ds,ρ')=>∀ vs F' H',Rep C.K own F' H' σ ρ'->Chg (OA own σ) F H F' H'->ArgV C.K H F' H' σ as vs ds->Q vs H'
 | .exc c ρ'=>∀ F' H',Same F' H'->Yn C.K C.ox F' H' σ ρ'->Chg (OA own σ) F H F' H'->C.E (C.cv c) fg H'
 | .bad=>False
abbrev vI:=Sl->Out (List D×Sl)
def tAr (C:Ct) (own:List Nat) (as:List AK) (f:vI):TA:=λσ H Q=>∃ F ρ,Rep C.K own F H σ ρ/\PoA C own as σ F H (f ρ) Q
variable {as:List AK}
theorem PoA.bindV {ma:Mo} {o:gJ} {k:D×Sl->Out (List D×Sl)} {Q:List V->Hp->Prop} {R:VK} (hp:PoA C own as σ F H (o.bind k) Q)
  (h:∀ v F1 H1 d ρ1,Rep C.K own F1 H1 σ ρ1->Chg (OA own σ) F H F1 H1->MoIs C.K ma H F1 H1 v d->PoA C own as σ F H (k (d,ρ1)) Q->R v H1):Po C own ma σ F H o R:=by
 cases o with
 | ok p=>obtain ⟨d,ρ1⟩:=p;exact λv F1 H1 a c m=>h v F1 H1 d ρ1 a c m hp
 | exc x=>exact hp
 | bad=>exact hp.elim
theorem Po.bindA {as:List AK} {o:Out (List D×Sl)} {k:List D×Sl->gJ} {Q:VK} {R:List V->Hp->Prop} (hp:Po C own m σ F H (o.bind k) Q)
  (h:∀ vs F1 H1 ds ρ1,Rep C.K own F1 H1 σ ρ1->Chg (OA own σ) F H F1 H1->ArgV C.K H F1 H1 σ as vs ds->Po C own m σ F1 H1 (k (ds,ρ1)) Q->R vs H1):PoA C own as σ F H o R:=by
 cases o with
 | ok p=>obtain ⟨d,ρ1⟩:=p;exact λvs F1 H1 a c v=>h vs F1 H1 d ρ1 a c v (Po.shift (show Po C own m σ F H (k (d,ρ1)) Q from hp) c)
 | exc x=>exact hp
 | bad=>exact hp.elim
noncomputable def qE:vI:=λρ=>.ok ([],ρ)
noncomputable def qd (fe:qO) (fr:vI):vI:=λρ=>(fe ρ).bind λp=>(fr p.2).bind λq=>.ok (p.1::q.1,q.2)
noncomputable def yi (fr:vI):vI:=λρ=>(fr ρ).bind λq=>.ok (D.non::q.1,q.2)
variable {es:List Expr} {p:Addr} {u:HO}
section
variable {fe:qO} {fr:vI}
theorem GB {t t':TA} (h:PA X es t) (i:∀ σ H Q,t' σ H Q->t σ H Q):PA X es t':=⟨λpos pins s σ H Q I w=>h pos pins s σ H Q I (i σ H Q w)⟩
theorem qg:PA X [] (tAr C own [] qE):=GB qY λσ H Q ⟨F,ρ,a,h⟩=>h [] F H a .refl trivial
theorem gT {a:AK} {Q:List V->Hp->Prop} {v:V} (h:∀ x,OA own σ x->H x≠fg) (e:Rep C.K own F1 H1 σ ρ1) (k:Chg (OA own σ) F H F1 H1) (hp:PoA C own (a::as) σ F H ((fr ρ1).bind λq=>.ok (d::q.1,q.2)) Q)
  (g:∀ b H2 vs ds,Chg (OA own σ) F1 H1 b H2->ArgV C.K H b H2 σ as vs ds->ArgV C.K H b H2 σ (a::as) (v::vs) (d::ds)):tAr C own as fr σ H1 λxs H2=>Q (v::xs) H2:=by
 refine ⟨F1,ρ1,e,?_⟩;cases q:fr ρ1 with
 | ok p=>rw [q] at hp;obtain ⟨ds,ρ2⟩:=p;exact λvs b H2 r c2 f=>hp (v::vs) b H2 r (k.trans' c2) (g b H2 vs ds c2 (ArgV.back k f))
 | exc c=>rw [q] at hp; exact λF' H' s io T=>hp F' H' s io (k.trans' T)
 | bad=>rw [q] at hp; exact hp.elim
theorem qb (g:PE X e (tE C own m fe)) (b:PA X es (tAr C own as fr)) (f:m≠.any:=by decide) (hs:starEach (e::es) X.env=(fk,eval e X.env)::starEach es X.env:=by exact jj rfl):PA X (e::es) (tAr C own (.vl::as) (qd fe fr)):=by
 refine GB (qA (uC g f) b hs) λσ H Q ⟨F,ρ,r,h⟩=>⟨F,ρ,r,PoA.bindV h λv F1 H1 d ρ1 a k c h1=>?_⟩
 exact gT (λx z=>(r.OA_there z).1) a k h1 λj H2 vs ds c2 i=>⟨Is.mono c2.grow c,i⟩
theorem zf {px:Pos} (f:X.N[i]?=ff x) (c:Vis X.env.scope x) (l:i∈own) (e:PA X es (tAr C own as fr)) (hs:starEach (.Name x px::es) X.env=(fk,eval (.Name x px) X.env)::starEach es X.env:=by rfl)
  (hd:Dbg x:=by decide) (b:Cdk x:=by decide):PA X (.Name x px::es) (tAr C own (.sl i::as) (yi fr)):=by
 refine GB (qA (yD f c hd b) e hs) λσ H Q ⟨F,ρ,r,h⟩=>?_;obtain ⟨d,hd⟩:=r.opn i l;obtain ⟨a,h1,h2,g⟩:=r.ow i d l hd;exact ⟨_,h1,gT (λx z=>(r.OA_there z).1) r .refl h λj H2 vs ds c2 v=>⟨h1,rfl,v⟩⟩
theorem ArgV.isL:∀ {as:List AK} {vs:List V} {ds:List D},(as.all λa=>decide (a=.vl))=fm->ArgV K H0 F H σ as vs ds->IsL K F vs ds
 | [],[],[],_,_=>.nil
 | .vl::as,v::vs,d::ds,h,a=>.cons a.1 (ArgV.isL (by simpa using h) a.2)
 | .sl i::as,_,_,h,a=>by simp at h
 | .fr::as,_,_,h,a=>by simp at h
 | [],_::_,_,_,h=>h.elim
 | [],[],_::_,_,h=>h.elim
 | .vl::_,[],_,_,h=>h.elim
 | .vl::_,_::_,[],_,h=>h.elim
noncomputable def gj (fr:vI):qO:=λρ=>(fr ρ).bind λp=>if p.1.length<=sizeLine then .ok (.tup p.1,p.2) else .bad
noncomputable def gk (fr:vI):qO:=λρ=>(fr ρ).bind λp=>if p.1.length<=sizeLine then .ok (.lst p.1,p.2) else .bad
theorem qbu (a:Rep C.K own F H σ ρ) (hp:H p=fg):Rep C.K own (upd F p u) (upd H p u) σ ρ/\Chg No F H (upd F p u) (upd H p u):=by
 have E:F p=none:=by
  cases q:F p with
  | none=>rfl
  | some o=>rw [a.sub p o q] at hp; cases hp
 have c:Chg No F H (upd F p u) (upd H p u):=⟨λb o e _=>by rw [qp (qx e hp)]; exact e,λb e=>by
  by_cases q:b=p;·rw [q,qf]; simp
  ·rw [qp q]; exact e,λb o e=>by rw [qp (qx e E)]; exact e,λb e=>by
  by_cases q:b=p;·exact .inr (.inl (by rw [q]; exact hp))
  ·rw [qp q] at e; exact .inl e⟩
 refine ⟨a.grow c λb o e=>?_,c⟩;by_cases q:b=p;·subst q; rw [qf] at e ⊢; exact e
 ·rw [qp q] at e ⊢; exact a.sub b o e
theorem Wx (a:Rep C.K own F H σ ρ) (hp:H p=fg):Rep C.K own F (upd H p u) σ ρ/\Chg No F H F (upd H p u)/\F p=none:=by
 have E:F p=none:=by
  cases q:F p with
  | none=>rfl
  | some o=>rw [a.sub p o q] at hp; cases hp
 have c:Chg No F H F (upd H p u):=⟨λb o e _=>by rw [qp (qx e hp)]; exact e,λb e=>by
  by_cases q:b=p;·rw [q,qf]; simp
  ·rw [qp q]; exact e,Same.refl _,λb e=>.inl e⟩
 exact ⟨a.grow c λb o e=>by rw [qp (qx e E)]; exact a.sub b o e,c,E⟩
theorem ud {x1} (h:PA X es (tAr C own as fr)) (g:(as.all λa=>decide (a=.vl))=true:=by decide):PE X (.Tuple es x1 pos) (tE C own .sh (gj fr)):=by
 refine ji (qbd h) λσ H Q ⟨F,ρ,c,h⟩=>⟨F,ρ,c,Po.bindA h λvs F1 H1 ds ρ1 b k v h1=>?_⟩
 have i:=v.isL g;have h1:Po C own .sh σ F1 H1 (if ds.length<=sizeLine then .ok (.tup ds,ρ1) else .bad) Q:=h1;by_cases z:ds.length<=sizeLine;·rw [if_pos z] at h1;refine ⟨by rw [i.length]; exact z,λp hp=>?_⟩;obtain ⟨r,c2⟩:=qbu (u:=.tup vs) b hp;exact h1 _ _ _ r c2.ofNo (.tup (.inl (.inl qf)) (i.mono c2.grow))
 ·rw [if_neg z] at h1; exact h1.elim
theorem kO (h:PA X es (tAr C own as fr)) (g:(as.all λa=>decide (a=.vl))=true:=by decide):PE X (.List es pos) (tE C own .fr (gk fr)):=by
 refine ji (qbe h) λσ H Q ⟨F,ρ,c,h⟩=>⟨F,ρ,c,Po.bindA h λvs F1 H1 ds ρ1 b k v h1=>?_⟩
 have i:=v.isL g;have h1:Po C own .fr σ F1 H1 (if ds.length<=sizeLine then .ok (.lst ds,ρ1) else .bad) Q:=h1;by_cases z:ds.length<=sizeLine;·rw [if_pos z] at h1;refine ⟨by rw [i.length]; exact z,λp hp=>?_⟩;obtain ⟨r,c2,E⟩:=Wx (u:=.lst vs) b hp;exact h1 _ _ _ r c2.ofNo ⟨p,rfl,hp,E,vs,qf,i⟩
 ·rw [if_neg z] at h1; exact h1.elim
theorem YU:PE X (.Dict [] [] pos) (tE C own .fr (dC (.dct []))):=by refine ji YI λσ H Q ⟨F,ρ,a,h⟩ p hp=>?_;obtain ⟨r,c2,E⟩:=Wx (u:=.dK []) a hp;exact h _ _ _ r c2.ofNo ⟨p,rfl,hp,E,[],qf,.nil⟩
noncomputable def ixD:D->D->Out D
 | .lst xs,.int i=>match atI xs i with
  | some d=>.ok d
  | none=>.bad
 | .tup xs,.int i=>match atI xs i with
  | some d=>.ok d
  | none=>.bad
 | .str x,.int i=>match atI x.cps.toList i with
  | some c=>.ok (.str ⟨#[c]⟩)
  | none=>.bad
 | .dct kvs,.str x=>match (kvs.find? λkv=>decide (kv.1=cH x)) with
  | some kv=>.ok kv.2
  | none=>.bad
 | .dct kvs,.int x=>match (kvs.find? λkv=>decide (kv.1=df x)) with
  | some kv=>.ok kv.2
  | none=>.bad
 | _,_=>.bad
theorem IsL.atI {i:Int} (h:IsL K F vs ds) (e:L2.atI ds i=ff d):∃ v,L2.atI vs i=ff v/\Is K F v d:=by
 unfold L2.atI at e ⊢;rw [h.length];cases q:ixN ds.length i with
 | none=>rw [q] at e; cases e
 | some j=>rw [q] at e;exact h.getD e
theorem IsK.find {k:Key}:∀ {vs:List (Key×V)} {ds:List (Key×D)} {d:Key×D},IsK K F vs ds->(ds.find? λkv=>decide (kv.1=k))=ff d->∃ v,JQ vs k=ff v/\Is K F v d.2
 | _,_,_,.nil,e=>by simp at e
 | _,_,d,.cons (k:=k') (vs:=vs) h t,e=>by
  by_cases q:k'=k;·rw [List.find?_cons_of_pos (by simp [q])] at e;cases e;exact ⟨_,yn q,h⟩
  ·rw [List.find?_cons_of_neg (by simp [q])] at e;obtain ⟨v,h1,h2⟩:=IsK.find t e;exact ⟨v,by rw [yo q]; exact h1,h2⟩
theorem JX (c:Nat):(⟨#[c]⟩:Str).length<=sizeLine:=by show 1<=sizeLine;rw [fE]; decide
def qdR (K:Frag):R2:=λx y H Q=>rIx K x y H Q\/∃ a v,x=.ref a/\DGet H a y (ff v)/\Q v H
theorem qbv (f:X.A.units+1 < cLine):IxR X (qdR X.K):=by
 refine IxR.or qbh ?_;intro value e pins s σ H x y v u Q I d c h hs;obtain ⟨a,w,rfl,g,q⟩:=h;cases d;obtain ⟨T,ht⟩:∃ T,s.TypeIs (.ref a) T/\T = "dict":=⟨_,QW I g,rfl⟩
 obtain ⟨ht,rfl⟩:=ht;exact tail_any ht PySem.slot_dict_getitem.lookup (We f I g c λS s' b r=>⟨w,H,b,r,q⟩) hs
end
variable {T:String}
section
variable {a b:Expr} {f fa fb:qO}
theorem qbw {σ:St} {x y:V} {dx b:D} {Q:VK} (n:C.K=X.K) (A:Same F H) (f:TopIs C.K F H x dx) (ty:TopIs C.K F H y b) (po:PoV C .sh F H (ixD dx b) Q):qdR X.K x y H Q:=by
 rw [n] at f ty;cases dx with
 | lst xs=>
  cases b <;> try exact po.elim
  rename_i i;obtain rfl:=ty.int;obtain ⟨a,vs,rfl,p,t⟩:=f.lst A;unfold ixD at po;cases e:L2.atI xs i with
  | none=>simp only [e] at po; exact po.elim
  | some d=>simp only [e] at po;obtain ⟨v,h1,h2⟩:=t.atI e;exact .inl (.inl ⟨a,vs,i,v,rfl,rfl,p,h1,po v F H A .refl (by rw [n]; exact h2)⟩)
 | tup xs=>
  cases b <;> try exact po.elim
  rename_i i;obtain rfl:=ty.int;obtain ⟨a,vs,rfl,p,t⟩:=f.tup A;unfold ixD at po;cases e:L2.atI xs i with
  | none=>simp only [e] at po; exact po.elim
  | some d=>simp only [e] at po;obtain ⟨v,h1,h2⟩:=t.atI e;exact .inl (.inr (.inl ⟨a,vs,i,v,rfl,rfl,p,h1,po v F H A .refl (by rw [n]; exact h2)⟩))
 | str z=>
  cases b <;> try exact po.elim
  rename_i i;obtain rfl:=ty.int;obtain ⟨rfl,h⟩:=f.str;unfold ixD at po;cases e:L2.atI z.cps.toList i with
  | none=>simp only [e] at po; exact po.elim
  | some c=>simp only [e] at po;exact .inl (.inr (.inr ⟨z,i,c,rfl,rfl,h,e,po _ F H A .refl (.str (JX c))⟩))
 | dct kvs=>
  obtain ⟨a,kv,rfl,p,t⟩:=f.dct A;cases b with
  | int i=>
   obtain rfl:=ty.int;unfold ixD at po;cases e:(kvs.find? λkv=>decide (kv.1=df i)) with
   | none=>simp only [e] at po; exact po.elim
   | some d=>simp only [e] at po;obtain ⟨v,h1,h2⟩:=t.find e;exact .inr ⟨a,v,rfl,by rw [<-h1]; exact DGet.k (k:=df i) p,po v F H A .refl (by rw [n]; exact h2)⟩
  | str z=>
   obtain ⟨rfl,_⟩:=ty.str;unfold ixD at po;cases e:(kvs.find? λkv=>decide (kv.1=cH z)) with
   | none=>simp only [e] at po; exact po.elim
   | some d=>simp only [e] at po;obtain ⟨v,h1,h2⟩:=t.find e;exact .inr ⟨a,v,rfl,by rw [<-h1]; exact DGet.k (k:=cH z) p,po v F H A .refl (by rw [n]; exact h2)⟩
  | _=>exact po.elim
 | _=>exact po.elim
theorem qdl (u:C.K=X.K) (D:X.A.units+64 < cLine) (o:PE X a (tE C own ma fa)) (n:PE X b (tE C own mb fb)) (hs:QT b) (j:ma≠.any:=by decide):PE X (.Subscript a b pos) (tE C own .sh (d2 ixD fa fb)):=by
 refine ji (qdb (qbv (by omega)) o n hs) λσ H Q h=>?_;obtain ⟨F,ρ,l,h⟩:=gK (mb:=mb) j h;refine ⟨F,ρ,l,?_⟩;cases q:fa ρ with
 | ok p=>
  rw [q] at h;obtain ⟨d,ρ1⟩:=p;intro v F1 H1 f x i;obtain ⟨B,ρ2,e,h2⟩:=h v F1 H1 f x i;refine ⟨B,ρ2,e,?_⟩;cases g:fb ρ2 with
  | ok p=>rw [g] at h2;obtain ⟨d',k⟩:=p;intro w z y r I m;obtain ⟨L,dx,E,s,t,ty,po⟩:=h2 w z y r I m;exact qbw (σ:=σ) u s t ty po
  | exc c=>rw [g] at h2; exact h2
  | bad=>rw [g] at h2; exact h2.elim
 | exc c=>rw [q] at h; exact h
 | bad=>rw [q] at h; exact h.elim
def xC (X:Cx) (C:Ct) (m:Mo) (f:fj) (g:D->Out D):Prop:=kX X f (λxs H Q=>∃ x F dx,xs=[x]/\Same F H/\TopIs C.K F H x dx/\PoV C m F H (g dx) Q)
theorem uE {Q:VK} {g:D->Out D} (h:tE C own m (d1 g fa) σ H Q):YB (tE C own ma fa) qcA σ H λxs H1=>∃ x F dx,xs=[x]/\Same F H1/\TopIs C.K F H1 x dx/\PoV C m F H1 (g dx) Q:=by
 obtain ⟨F,ρ,r,h⟩:=YK (ma:=ma) h;refine ⟨F,ρ,r,?_⟩;cases q:fa ρ with
 | ok p=>rw [q] at h;obtain ⟨d,ρ1⟩:=p;intro v F1 H1 a k b;obtain ⟨e,dx,A,t,po⟩:=h v F1 H1 a k b;exact ⟨v,e,dx,rfl,A,t,po⟩
 | exc c=>rw [q] at h; exact h
 | bad=>rw [q] at h; exact h.elim
theorem qt {id:String} {p:Pos} {g:D->Out D} (d:xC X C m (.builtin id) g) (hg:Gl X x) (a:X.mg x=fg) (c:bootBuiltins x=ff (.builtin id)) (f:PE X e (tE C own ma fa)) (n:x ≠ "__name__":=by decide) (b:Dbg x:=by decide)
  (i:starEach [e] X.env=[(fk,eval e X.env)]:=by exact qy rfl):PE X (.Call (.Name x p) [e] [] pos) (tE C own m (d1 g fa)):=
 ji (wn d hg a c (qA f qY i) n b (by rw [i]; rfl) rfl) λ_ _ _ h=>uE h
theorem ue {p:Pos} {g:D->Out D} (d:xC X C m (.type T) g) (hg:Gl X x) (a:X.mg x=fg) (c:bootBuiltins x=ff (.type T)) (f:PE X e (tE C own ma fa)) (n:x ≠ "__name__":=by decide) (b:Dbg x:=by decide)
  (i:starEach [e] X.env=[(fk,eval e X.env)]:=by exact qy rfl):PE X (.Call (.Name x p) [e] [] pos) (tE C own m (d1 g fa)):=
 ji (jH d hg a c (qA f qY i) n b (by rw [i]; rfl) rfl) λ_ _ _ h=>uE h
noncomputable def jz:D->Out D
 | .str x=>.ok (.int x.length)
 | .lst xs=>.ok (.int xs.length)
 | .tup xs=>.ok (.int xs.length)
 | .dct xs=>.ok (.int xs.length)
 | _=>.bad
theorem IsK.length:∀ {vs:List (Key×V)} {ds:List (Key×D)},IsK K F vs ds->vs.length=ds.length
 | _,_,.nil=>rfl
 | _,_,.cons _ t=>congrArg (·+1) (IsK.length t)
theorem jk (n:C.K=X.K):xC X C .sh (.builtin "len") jz:=by
 intro pins s σ H xs us Q I r h;obtain ⟨x,F,dx,rfl,A,b,po⟩:=h;cases dx with
 | str z=>obtain ⟨rfl,c⟩:=b.str;exact zc pins s σ H _ us Q I r ⟨_,_,rfl,⟨c,rfl⟩,po _ F H A .refl (.int _)⟩
 | lst ds=>obtain ⟨a,vs,rfl,p,t⟩:=b.lst A;exact zc pins s σ H _ us Q I r ⟨_,ds.length,rfl,.inl ⟨vs,by rw [<-n]; exact p,t.length.symm⟩,po _ F H A .refl (.int _)⟩
 | tup ds=>obtain ⟨a,vs,rfl,p,t⟩:=b.tup A;exact zc pins s σ H _ us Q I r ⟨_,ds.length,rfl,.inr ⟨vs,by rw [<-n]; exact p,t.length.symm⟩,po _ F H A .refl (.int _)⟩
 | dct ds=>obtain ⟨a,vs,rfl,p,t⟩:=b.dct A;refine Wh pins s σ H _ us Q I r ⟨a,vs,rfl,p,?_⟩;rw [t.length];exact po _ F H A .refl (.int _)
 | _=>exact po.elim
noncomputable def xB:D->D->Out D
 | .int i,.int j=>.ok (.int (i+j))
 | .str x,.str y=>if x.length+y.length<=sizeLine then .ok (.str (x++y)) else .bad
 | .lst xs,.lst ys=>if xs.length+ys.length<=sizeLine then .ok (.lst (xs++ys)) else .bad
 | .tup xs,.tup ys=>if xs.length+ys.length<=sizeLine then .ok (.tup (xs++ys)) else .bad
 | _,_=>.bad
theorem yJ (A:Same F H) (hp:H p=fg):Same (upd F p u) (upd H p u)/\Chg No F H (upd F p u) (upd H p u):=by
 have E:F p=none:=by
  cases q:F p with
  | none=>rfl
  | some o=>rw [A p o q] at hp; cases hp
 refine ⟨λb o e=>?_,⟨λb o e _=>by rw [qp (qx e hp)]; exact e,λb e=>?_,λb o e=>by rw [qp (qx e E)]; exact e,λb e=>?_⟩⟩
 ·by_cases q:b=p;·subst q; rw [qf] at e ⊢; exact e
  ·rw [qp q] at e ⊢; exact A b o e
 ·by_cases q:b=p;·rw [q,qf]; simp
  ·rw [qp q]; exact e
 ·by_cases q:b=p;·exact .inr (.inl (by rw [q]; exact hp))
  ·rw [qp q] at e; exact .inl e
theorem jL (A:Same F H) (hp:H p=fg):Same F (upd H p u)/\Chg No F H F (upd H p u)/\F p=none:=by
 have E:F p=none:=by
  cases q:F p with
  | none=>rfl
  | some o=>rw [A p o q] at hp; cases hp
 refine ⟨λb o e=>by rw [qp (qx e E)]; exact A b o e,⟨λb o e _=>by rw [qp (qx e hp)]; exact e,λb e=>?_,Same.refl _,λb e=>.inl e⟩,E⟩;by_cases q:b=p;·rw [q,qf]; simp
 ·rw [qp q]; exact e
theorem QZ (x y:Str):(x++y).length=x.length+y.length:=by show (x.cps++y.cps).size=_;simp [eY]
theorem GC:OpR X (binaryOp .Add) (λx y H Q=>∃ l b xs zs,x=.ref l/\y=.ref b/\SqL X.K H l xs/\SqL X.K H b zs/\xs.length+zs.length<=sizeLine/\∀ p,H p=fg->Q (.ref p) (upd H p (.lst (xs++zs)))):=by
 intro pins s σ H x y v u Q I k r h;obtain ⟨l,b,xs,zs,rfl,rfl,h1,h2,z,q⟩:=h;cases k;cases r;obtain ⟨its,r1,p1,_⟩:=I.list h1;obtain ⟨i,r2,p2,_⟩:=I.list h2;obtain ⟨⟨cls,dd,data,sl⟩,o,f,n,hd⟩:=id p1.isList;obtain ⟨⟨j,e,g,d⟩,a,c,n2,hd2⟩:=id p2.isList;simp only at f hd c hd2;subst f hd c hd2;have t:=r1.length;have m:=r2.length;refine im ⟨_,o,rfl⟩ ⟨_,a,rfl⟩ noFill_list_add seq_list_add PySem.F.slot_list_add PySem.F.entry_list_add (PySem.F.args_list_add_2 _ _)
  (list_addW l b its.toArray i.toArray n n2 dd e sl d (by simp only [ao]; omega)) ⟨o,a,?_⟩
 have w:its.toArray++i.toArray=(its++i).toArray:=by simp
 rw [w];exact ⟨.ref _,_,I.lnew (t':=s.toks) (r1.append r2) (by rw [ap]; exact z),rfl,q _ I.fresh⟩
theorem GD:OpR X (binaryOp .Add) (λx y H Q=>∃ a b ys,x=.ref a/\y=.ref b/\SqT X.K H a []/\SqT X.K H b ys/\Q (.ref b) H):=by
 intro pins s σ H x y v u Q I m r h;obtain ⟨a,b,ys,rfl,rfl,h1,h2,q⟩:=h;cases m;cases r;obtain ⟨its,r1,p1,_⟩:=I.tuple h1;obtain ⟨i,r2,p2,_⟩:=I.tuple h2;cases r1;obtain ⟨⟨cls,dd,data,sl⟩,l,j,n,hd⟩:=id p1;obtain ⟨⟨k,f,g,e⟩,c,d,n2,hd2⟩:=id p2;simp only at j hd d hd2;subst j hd d hd2;exact im ⟨_,l,rfl⟩ ⟨_,c,rfl⟩ noFill_tuple_add seq_tuple_add cT cP (cC _ _)
  (tuple_addW0 a b _ _ n n2 dd f sl e rfl) ⟨l,c,⟨.ref b,H,I,rfl,q⟩⟩
theorem wF (n:C.K=X.K):OpD X C .sh (binaryOp .Add) xB:=by
 intro pins s σ H x y v u Q I d r h;obtain ⟨F,dx,g,A,t,ty,po⟩:=h;cases dx with
 | int i=>
  cases g <;> try exact po.elim
  obtain rfl:=t.int;obtain rfl:=ty.int;exact qa6 pins s σ H _ _ v u Q I d r ⟨_,_,rfl,rfl,po _ F H A .refl (.int _)⟩
 | str a=>
  cases g <;> try exact po.elim
  rename_i b;obtain ⟨rfl,_⟩:=t.str;obtain ⟨rfl,_⟩:=ty.str;have po:PoV C .sh F H (if a.length+b.length<=sizeLine then .ok (.str (a++b)) else .bad) Q:=po;by_cases z:a.length+b.length<=sizeLine;·rw [if_pos z] at po;exact Vd pins s σ H _ _ v u Q I d r ⟨_,_,rfl,rfl,z,po _ F H A .refl (.str (by rw [QZ]; exact z))⟩
  ·rw [if_neg z] at po; exact po.elim
 | lst xs=>
  cases g <;> try exact po.elim
  rename_i ys;obtain ⟨a,vs,rfl,p1,f⟩:=t.lst A;obtain ⟨b,ws,rfl,p2,c⟩:=ty.lst A;have po:PoV C .sh F H (if xs.length+ys.length<=sizeLine then .ok (.lst (xs++ys)) else .bad) Q:=po;by_cases z:xs.length+ys.length<=sizeLine;·rw [if_pos z] at po;refine GC pins s σ H _ _ v u Q I d r ⟨a,b,vs,ws,rfl,rfl,by rw [<-n]; exact p1,by rw [<-n]; exact p2,by rw [f.length,c.length]; exact z,λp hp=>?_⟩;obtain ⟨s2,c2⟩:=yJ (u:=.lst (vs++ws)) A hp;exact po _ _ _ s2 c2 (.lst (.inl (.inl qf)) ((f.append c).mono c2.grow))
  ·rw [if_neg z] at po; exact po.elim
 | tup xs=>
  cases g <;> try exact po.elim
  rename_i ys;obtain ⟨a,vs,rfl,p1,f⟩:=t.tup A;obtain ⟨b,ws,rfl,p2,c⟩:=ty.tup A;have po:PoV C .sh F H (if xs.length+ys.length<=sizeLine then .ok (.tup (xs++ys)) else .bad) Q:=po;by_cases z:xs.length+ys.length<=sizeLine
  ·rw [if_pos z] at po;cases vs with
   | nil=>
    cases f;rcases ty with ty | ⟨_,_,ty⟩
    ·exact GD pins s σ H _ _ v u Q I d r ⟨a,b,ws,rfl,rfl,by rw [<-n]; exact p1,by rw [<-n]; exact p2,po _ F H A .refl ty⟩
    ·exact ty.elim
   | cons j vs=>
    refine Gj pins s σ H _ _ v u Q I d r ⟨a,b,j::vs,ws,rfl,rfl,by rw [<-n]; exact p1,by rw [<-n]; exact p2,by simp,by rw [f.length,c.length]; exact z,λe=>?_,λe p hp=>?_⟩
    ·subst e;cases c;rcases t with t | ⟨_,_,t⟩
     ·refine po _ F H A .refl ?_;rw [bt];exact t
     ·exact t.elim
    ·obtain ⟨s2,c2⟩:=yJ (u:=.tup (j::vs++ws)) A hp;exact po _ _ _ s2 c2 (.tup (.inl (.inl qf)) ((f.append c).mono c2.grow))
  ·rw [if_neg z] at po; exact po.elim
 | _=>exact po.elim
end
inductive PM where
 | val | io | tk
 deriving DecidableEq
noncomputable def yj:List PM->List V->List Addr
 | .val::ms,_::vs=>yj ms vs
 | .io::ms,.ref a::vs=>a::yj ms vs
 | .tk::ms,.ref a::vs=>a::yj ms vs
 | _::ms,_::vs=>yj ms vs
 | _,_=>[]
def ArgsIs (K:Frag) (F H:Hp):List PM->List V->List D->Prop
 | [],[],[]=>True
 | .val::ms,v::vs,d::ds=>Is K F v d/\ArgsIs K F H ms vs ds
 | .io::ms,v::vs,d::ds=>(∃ a,v=.ref a/\F a=fg/\OwnIs K F H a d)/\ArgsIs K F H ms vs ds
 | .tk::ms,v::vs,d::ds=>(∃ a,v=.ref a/\F a=fg/\OwnIs K F H a d)/\ArgsIs K F H ms vs ds
 | _,_,_=>False
def uf (K:Frag) (F H:Hp):List PM->List V->List D->Prop
 | [],_,_=>True
 | .io::ms,v::vs,d::ds=>(∃ a,v=.ref a/\F a=fg/\OwnIs K F H a d)/\uf K F H ms vs ds
 | _::ms,_::vs,_::ds=>uf K F H ms vs ds
 | _,_,_=>False
abbrev LA (ms:List PM) (vs:List V):Addr->Prop:=λb=>b∈yj ms vs
def PoG (K:Frag) (cv:Str->fj) (ms:List PM) (mr:Mo) (vs:List V) (F H:Hp) (Q:VK) (E:XK) (o:Out (D×List D)):Prop:=match o with
 | .ok (d,outs)=>∀ v F' H',Same F' H'->Chg (LA ms vs) F H F' H'->uf K F' H' ms vs outs->MoIs K mr H F' H' v d->Q v H'
 | .exc c o=>∀ F' H',Same F' H'->Chg (LA ms vs) F H F' H'->uf K F' H' ms vs (o.map (·.getD .non))->E (cv c) fg H'
 | .bad=>False
abbrev jM:=List D->Out (D×List D)
def spD (K:Frag) (cv:Str->fj) (ms:List PM) (mr:Mo) (G:jM):Sp:=λvs H Q E=>∃ F ds,Same F H/\ArgsIs K F H ms vs ds/\(yj ms vs).Nodup/\PoG K cv ms mr vs F H Q E (G ds)
theorem ArgsIs.length:∀ {ms:List PM} {vs:List V} {ds:List D},ArgsIs K F H ms vs ds->vs.length=ms.length/\ds.length=ms.length
 | [],[],[],_=>⟨rfl,rfl⟩
 | .val::ms,v::vs,d::ds,h=>by have:=ArgsIs.length h.2; simp [this]
 | .io::ms,v::vs,d::ds,h=>by have:=ArgsIs.length h.2; simp [this]
 | .tk::ms,v::vs,d::ds,h=>by have:=ArgsIs.length h.2; simp [this]
 | [],_::_,_,h=>h.elim
 | [],[],_::_,h=>h.elim
 | .val::_,[],_,h=>h.elim
 | .val::_,_::_,[],h=>h.elim
 | .io::_,[],_,h=>h.elim
 | .io::_,_::_,[],h=>h.elim
 | .tk::_,[],_,h=>h.elim
 | .tk::_,_::_,[],h=>h.elim
noncomputable def jA (n:Nat):List PM->List Nat
 | []=>[]
 | .val::ms=>jA (n+1) ms
 | _::ms=>n::jA (n+1) ms
noncomputable def Vi (n:Nat):List PM->List Nat
 | []=>[]
 | .io::ms=>n::Vi (n+1) ms
 | _::ms=>Vi (n+1) ms
variable {n:Nat}
theorem ug:∀ {ms:List PM} {i:Nat},i∈jA n ms->n<=i/\i < n+ms.length:=by
 intro ms
 induction ms generalizing n with
 | nil=>intro i h; simp [jA] at h
 | cons m ms j=>
  intro i h;cases m with
  | val=>have:=j (n:=n+1) h; simp only [af]; omega
  | io=>
   rcases ae.mp h with e | h;·simp only [af]; omega
   ·have:=j (n:=n+1) h; simp only [af]; omega
  | tk=>
   rcases ae.mp h with e | h;·simp only [af]; omega
   ·have:=j (n:=n+1) h; simp only [af]; omega
theorem YV:∀ {ms:List PM} {i:Nat},i∈Vi n ms->i∈jA n ms:=by
 intro ms
 induction ms generalizing n with
 | nil=>intro i h; simp [Vi] at h
 | cons m ms j=>
  intro i h;cases m with
  | val=>exact j (n:=n+1) h
  | io=>
   rcases ae.mp h with e | h;·exact ae.mpr (.inl e)
   ·exact ac _ (j (n:=n+1) h)
  | tk=>exact ac _ (j (n:=n+1) h)
theorem Vj:∀ {ms:List PM} {vs:List V} {ds:List D} {n:Nat},ArgsIs K F H ms vs ds ->(∀ j d,ds[j]?=ff d->n+j∉jA n ms->∃ v,vs[j]?=ff v/\Is K F v d) /\
  (∀ j d,ds[j]?=ff d->n+j∈jA n ms->∃ a,vs[j]?=ff (.ref a)/\F a=fg/\OwnIs K F H a d):=by
 intro ms
 induction ms with
 | nil=>intro vs ds n h; cases vs <;> cases ds <;> first | exact h.elim | (refine ⟨λj d e=>?_,λj d e=>?_⟩ <;> simp at e)
 | cons m ms i=>
  intro vs ds n h;cases vs with
  | nil=>cases m <;> exact h.elim
  | cons v vs=>
   cases ds with
   | nil=>cases m <;> exact h.elim
   | cons d ds=>
    cases m with
    | val=>
     obtain ⟨h1,h2⟩:=h;obtain ⟨i1,i2⟩:=i (n:=n+1) h2;refine ⟨λj e b c=>?_,λj e b c=>?_⟩
     ·cases j with
      | zero=>simp at b; subst b; exact ⟨v,rfl,h1⟩
      | succ j=>simpa using i1 j e (by simpa using b) (by rw [show n+1+j=n+(j+1) by omega]; exact c)
     ·cases j with
      | zero=>have:=ug (n:=n+1) c; omega
      | succ j=>simpa using i2 j e (by simpa using b) (by rw [show n+1+j=n+(j+1) by omega]; exact c)
    | io=>
     obtain ⟨⟨a,rfl,h1⟩,h2⟩:=h;obtain ⟨i1,i2⟩:=i (n:=n+1) h2;refine ⟨λj e b c=>?_,λj e b c=>?_⟩
     ·cases j with
      | zero=>exact absurd (ae.mpr (.inl rfl)) c
      | succ j=>simpa using i1 j e (by simpa using b) (λz=>c (ac _ (by rw [show n+(j+1)=n+1+j by omega]; exact z)))
     ·cases j with
      | zero=>simp at b; subst b; exact ⟨a,rfl,h1⟩
      | succ j=>
       have f:n+1+j∈jA (n+1) ms:=by
        rcases ae.mp c with z | z;·omega
        ·rw [show n+1+j=n+(j+1) by omega]; exact z
       simpa using i2 j e (by simpa using b) f
    | tk=>
     obtain ⟨⟨a,rfl,h1⟩,h2⟩:=h;obtain ⟨i1,i2⟩:=i (n:=n+1) h2;refine ⟨λj e b c=>?_,λj e b c=>?_⟩
     ·cases j with
      | zero=>exact absurd (ae.mpr (.inl rfl)) c
      | succ j=>simpa using i1 j e (by simpa using b) (λz=>c (ac _ (by rw [show n+(j+1)=n+1+j by omega]; exact z)))
     ·cases j with
      | zero=>simp at b; subst b; exact ⟨a,rfl,h1⟩
      | succ j=>
       have f:n+1+j∈jA (n+1) ms:=by
        rcases ae.mp c with z | z;·omega
        ·rw [show n+1+j=n+(j+1) by omega]; exact z
       simpa using i2 j e (by simpa using b) f
theorem Wy:∀ {ms:List PM} {vs:List V} {j:Nat} {a:Addr},n+j∈jA n ms->vs[j]?=ff (.ref a)->a∈yj ms vs:=by
 intro ms
 induction ms generalizing n with
 | nil=>intro vs j a h; simp [jA] at h
 | cons m ms i=>
  intro vs j a h e;cases vs with
  | nil=>simp at e
  | cons v vs=>
   cases j with
   | zero=>
    simp at e; subst e;cases m with
    | val=>have:=ug (n:=n+1) h; omega
    | io=>exact ae.mpr (.inl rfl)
    | tk=>exact ae.mpr (.inl rfl)
   | succ j=>
    have b:vs[j]?=ff (.ref a):=by simpa using e
    have sub:n+1+j∈jA (n+1) ms:=by
     rw [show n+1+j=n+(j+1) by omega];cases m with
     | val=>exact h
     | io=>exact (ae.mp h).resolve_left (by omega)
     | tk=>exact (ae.mp h).resolve_left (by omega)
    have q:=i (n:=n+1) sub b;cases m <;> cases v <;> first | exact q | exact ac _ q
theorem Wz:∀ {ms:List PM} {vs:List V} {a:Addr},a∈yj ms vs->∃ j,n+j∈jA n ms/\vs[j]?=ff (.ref a):=by
 intro ms
 induction ms generalizing n with
 | nil=>intro vs a h; cases vs <;> simp [yj] at h
 | cons m ms i=>
  intro vs a h;cases vs with
  | nil=>cases m <;> simp [yj] at h
  | cons v vs=>
   have up:∀ {b},b∈yj ms vs->∃ j,n+j∈jA n (m::ms)/\(v::vs)[j]?=ff (.ref b):=λd=>by
    obtain ⟨j,h1,h2⟩:=i (n:=n+1) d;refine ⟨j+1,?_,by simpa using h2⟩;rw [show n+(j+1)=n+1+j by omega];cases m with
    | val=>exact h1
    | io=>exact ac _ h1
    | tk=>exact ac _ h1
   cases m with
   | val=>exact up (by cases v <;> exact h)
   | io=>
    cases v with
    | ref c=>
     rcases ae.mp h with e | h;·subst e; exact ⟨0,ae.mpr (.inl rfl),rfl⟩
     ·exact up h
    | _=>exact up h
   | tk=>
    cases v with
    | ref c=>
     rcases ae.mp h with e | h;·subst e; exact ⟨0,ae.mpr (.inl rfl),rfl⟩
     ·exact up h
    | _=>exact up h
theorem YW:∀ {ms:List PM} {vs:List V} {i j:Nat} {a:Addr},(yj ms vs).Nodup->n+i∈jA n ms->n+j∈jA n ms->vs[i]?=ff (.ref a)->vs[j]?=ff (.ref a)->i=j:=by
 intro ms
 induction ms generalizing n with
 | nil=>intro vs i j a _ h; simp [jA] at h
 | cons m ms f=>
  intro vs i j a nd hi D e1 e;cases vs with
  | nil=>simp at e1
  | cons v vs=>
   have sub:∀ {k},n+(k+1)∈jA n (m::ms)->n+1+k∈jA (n+1) ms:=λ{k} h=>by
    rw [show n+1+k=n+(k+1) by omega];cases m with
    | val=>exact h
    | io=>exact (ae.mp h).resolve_left (by omega)
    | tk=>exact (ae.mp h).resolve_left (by omega)
   have d:(yj ms vs).Nodup:=by cases m <;> cases v <;> first | exact nd | exact (aU.mp nd).2
   have c:∀ {k b},n+0∈jA n (m::ms)->v=.ref b->n+(k+1)∈jA n (m::ms)->vs[k]?=ff (.ref b)->False:=λ{k b} o g l p=>by
    subst g;have q:=Wy (n:=n+1) (sub l) p;cases m with
    | val=>have:=ug (n:=n+1) o; omega
    | io=>exact (aU.mp nd).1 q
    | tk=>exact (aU.mp nd).1 q
   cases i with
   | zero=>
    cases j with
    | zero=>rfl
    | succ j=>exact (c hi (by simpa using e1) D (by simpa using e)).elim
   | succ i=>
    cases j with
    | zero=>exact (c D (by simpa using e) hi (by simpa using e1)).elim
    | succ j=>exact congrArg (·+1) (f (n:=n+1) d (sub hi) (sub D) (by simpa using e1) (by simpa using e))
noncomputable def qw (N:List Str) (ds:List D):Sl:=ds.map ff++b4 (N.length - ds.length) fg
variable {α:Type} {N:List Str}
theorem get_start {xs:List α} {x:α}:(xs.map ff++b4 (N.length - xs.length) fg)[i]?=ff (ff x)↔xs[i]?=ff x:=by
 by_cases h:i < xs.length
 ·rw [cz (by simpa using h),aJ];cases e:xs[i]? with
  | none=>simp
  | some y=>simp
 ·rw [bQ (by simpa using h),cO];have e:xs[i]?=none:=List.getElem?_eq_none_iff.mpr (by omega);rw [e];split <;> simp
variable {ms:List PM}
theorem WA (A:Same F H) (r:ArgsIs K F H ms vs ds) (nd:(yj ms vs).Nodup):Rep K (jA 0 ms) F H (wV N vs) (qw N ds):=by
 obtain ⟨h1,h2⟩:=Vj (n:=0) r;obtain ⟨c,l⟩:=r.length;refine ⟨A,by simp [wV,qw,c,l],λi d hi e=>?_,λi d hi e=>?_,λi hi=>?_,λi j a hi D e1 f=>?_⟩;·obtain ⟨v,a,b⟩:=h1 i d (get_start.mp e) (by simpa using hi);exact ⟨v,get_start.mpr a,b⟩
 ·obtain ⟨v,a,b⟩:=h2 i d (get_start.mp e) (by simpa using hi);exact ⟨v,get_start.mpr a,b⟩
 ·have q:=ug hi;have hl:i < ds.length:=by omega
  exact ⟨ds[i],get_start.mpr (by simp [hl])⟩
 ·exact YW (n:=0) nd (by simpa using hi) (by simpa using D) (get_start.mp e1) (get_start.mp f)
theorem oa_start:OA (jA 0 ms) (wV N vs) b↔LA ms vs b:=by
 constructor;·rintro ⟨i,hi,e⟩;exact Wy (n:=0) (by simpa using hi) (get_start.mp e)
 ·intro h;obtain ⟨j,h1,h2⟩:=Wz (n:=0) h;exact ⟨j,by simpa using h1,get_start.mpr h2⟩
noncomputable def qv (ρ:Sl):Nat->List PM->List D
 | _,[]=>[]
 | n,.io::ms=>((ρ[n]?).getD fg).getD .non::qv ρ (n+1) ms
 | n,_::ms=>.non::qv ρ (n+1) ms
theorem GE {σ:St} {N:List Str}:∀ {ms:List PM} {vs:List V} {n:Nat},vs.length=ms.length->(∀ i∈Vi n ms,∃ d a,ρ[i]?=ff (ff d)/\vs[i - n]?=ff (V.ref a)/\F a=fg/\OwnIs K F H a d)->uf K F H ms vs (qv ρ n ms):=by
 intro ms
 induction ms with
 | nil=>intro vs n _ _; trivial
 | cons m ms j=>
  intro vs n hl h;cases vs with
  | nil=>simp at hl
  | cons v vs=>
   have rest:(∀ i∈Vi (n+1) ms,i∈Vi n (m::ms))->uf K F H ms vs (qv ρ (n+1) ms):=λhs=>by refine j (by simpa using hl) λi hi=>?_;obtain ⟨d,a,e1,e,E⟩:=h i (hs i hi);have q:=ug (YV hi);refine ⟨d,a,e1,?_,E⟩;rw [show i - n=(i - (n+1))+1 by omega] at e;simpa using e
   cases m with
   | val=>exact rest λi hi=>hi
   | io=>obtain ⟨d,a,e1,e,E⟩:=h n (ae.mpr (.inl rfl));refine ⟨⟨a,by simpa using e,E.1,?_⟩,rest λi hi=>ac _ hi⟩;rw [e1];exact E.2
   | tk=>exact rest λi hi=>hi
noncomputable def Fl.val:Fl->Option D
 | .nx=>ff .non
 | .rt d=>ff d
 | _=>fg
noncomputable def kW (N:List Str) (ms:List PM) (f:je) (ds:List D):Out (D×List D):=match f (qw N ds) with
 | .ok (.nx,ρ)=>.ok (.non,qv ρ 0 ms)
 | .ok (.rt d,ρ)=>.ok (d,qv ρ 0 ms)
 | .ok _=>.bad
 | .exc c ρ=>.exc c ((qv ρ 0 ms).map ff)
 | .bad=>.bad
theorem JY:∀ (l:List D),(l.map ff).map (λx:Option D=>x.getD .non)=l
 | []=>rfl
 | a::l=>congrArg (a::·) (JY l)
def Out.le {α:Type} (a b:Out α):Prop:=a=.bad\/a=b
theorem GF {f:je} {Q:VK} {o:Out (D×List D)} (j:C.io=Vi 0 ms) (l:C.ox=C.io) (r:C.mr=.sh\/∀ ρ,(f (qw N ds))≠.ok (.nx,ρ)) (g:∀ i∈Vi 0 ms,i∈own') (A:Same F H) (t:ArgsIs C.K F H ms vs ds) (nd:(yj ms vs).Nodup)
  (G:Out.le o (kW N ms f ds)) (h:PoG C.K C.cv ms C.mr vs F H Q C.E o):tSt C (jA 0 ms) own' f { nx:=λ_ H'=>Q .non H',rt:=Q } (wV N vs) H:=by
 refine ⟨F,qw N ds,WA A t nd,?_⟩;have hl:=t.length.1;have ch:∀ {F' H'},Chg (OA (jA 0 ms) (wV N vs)) F H F' H'->Chg (LA ms vs) F H F' H':=λc=>c.mono λx z=>oa_start.mp z;have b:∀ {σ':St} {ρ':Sl} {F' H':Hp},Yn C.K C.io F' H' σ' ρ'->(∀ i∈C.io,σ'[i]?=(wV N vs)[i]?)->uf C.K F' H' ms vs (qv ρ' 0 ms):=λ{σ' ρ' F' H'} io e=>by
  refine GE (N:=N) (σ:=σ') hl λi hi=>?_;have k:i∈C.io:=by rw [j]; exact hi
  obtain ⟨d,a,e1,m,B⟩:=io i k;refine ⟨d,a,e1,?_,B⟩;rw [e i k] at m;exact get_start.mp m
 rcases G with e | e;·subst e; exact h.elim
 ·subst e;unfold kW at h;cases q:f (qw N ds) with
  | ok p=>
   rw [q] at h;obtain ⟨y,ρ'⟩:=p;cases y with
   | nx=>have w:C.mr=.sh:=r.resolve_right λz=>z ρ' q;exact λσ' F' H' n=>h .non F' H' n.rep.sub (ch n.chg) (b (n.rep.ioIs (by rw [j]; exact g)) n.io) (by rw [w]; exact .non)
   | rt d=>exact λv σ' F' H' s io c e u=>h v F' H' s (ch c) (b io e) u
   | bk=>exact h.elim
   | ct=>exact h.elim
  | exc c ρ'=>rw [q] at h;exact λF' H' s io T=>h F' H' s (ch T) (by rw [JY]; exact b (σ':=wV N vs) (by rw [<-l]; exact io) λ_ _=>rfl)
  | bad=>rw [q] at h; exact h.elim
def qdm (K:Frag) (cv:Str->fj) (E:XK) (ms:List PM) (mr:Mo):Ct:=⟨K,cv,E,Vi 0 ms,mr,[],Vi 0 ms,λ_ h=>h⟩
theorem qdS {P:fz} {w:fA} {K:Frag} {mg:Str->Option fj} {base:Heap} {CX:CXT} {x qual:Str} {st:Stmt} {f:Addr} {fd:fW} {N ps:List Str} {k:Nat} {cv:Str->fj} {ms:List PM} {mr:Mo} {own':List Nat} {fb:je} {G:jM}
  (F:Fun K x qual st f fd) (S:FnScope N ps (ql st)) (hl:ms.length=ps.length) (g:∀ i∈Vi 0 ms,i∈own') (r:mr=.sh\/∀ ds ρ,(fb (qw N ds))≠.ok (.nx,ρ))
  (a:∀ (cdv:fj) (A:fD) (outer:List Env) (s:fq) (H:Hp) (E:XK),Room k (A.deeper (envOfC qual (ql st) s.heap.objs.size f cdv)) ->PSs (Ge CX P w K mg base N qual (ql st) f cdv A outer s H E) (kG st) (tSt (qdm K cv E ms mr) (jA 0 ms) own' fb))
  (l:∀ ds,Out.le (G ds) (kW N ms fb ds)):FnOk P w K mg base CX (k+1) f fd ps (spD K cv ms mr G):=by
 obtain ⟨oc,od,kV,doc,pm,an,cdv,ct,osl,rfl,j,d⟩:=F.ex;refine qc8 j d S (λvs H Q E h=>?_) λA outer s H vs Q E e p=>?_;·obtain ⟨F,ds,_,b,_⟩:=h;rw [b.length.1,hl]
 ·obtain ⟨F1,ds,c,b,nd,h⟩:=p;refine ⟨_,a cdv A outer s H E e,?_⟩;exact GF (C:=qdm K cv E ms mr) rfl rfl (r.imp id λz ρ=>z ds ρ) g c b nd (l ds) h
noncomputable def gl:AK->PM
 | .vl=>.val
 | .sl _=>.io
 | .fr=>.tk
noncomputable def qD:List AK->List D->Sl->Option (List D)
 | [],[],_=>ff []
 | .sl i::as,_::ds,ρ=>match ρ[i]? with
  | some (ff d)=>(qD as ds ρ).map (d::·)
  | _=>fg
 | .vl::as,d::ds,ρ=>(qD as ds ρ).map (d::·)
 | .fr::as,d::ds,ρ=>(qD as ds ρ).map (d::·)
 | _,_,_=>fg
noncomputable def jE:List AK->List D->Sl->Sl
 | .sl i::as,d::outs,ρ=>jE as outs (ρ.set i (ff d))
 | _::as,_::outs,ρ=>jE as outs ρ
 | _,_,ρ=>ρ
noncomputable def qQ:List AK->List Nat
 | []=>[]
 | .sl i::as=>i::qQ as
 | _::as=>qQ as
noncomputable def frA:List AK->Nat
 | []=>0
 | .fr::as=>frA as+1
 | _::as=>frA as
section
theorem uh:∀ {as:List AK} {vs:List V} {ds f:List D},Rep K own F H σ ρ->(∀ i∈qQ as,i∈own)->ArgV K H0 F H σ as vs ds->qD as ds ρ=ff f->ArgsIs K F H (as.map gl) vs f
 | [],vs,ds,f,rp,hs,av,e=>by cases vs <;> cases ds <;> first | exact av.elim | (simp [qD] at e; subst e; trivial)
 | a::as,[],ds,f,rp,hs,av,e=>by cases a <;> exact av.elim
 | a::as,v::vs,[],f,rp,hs,av,e=>by cases a <;> exact av.elim
 | .vl::as,v::vs,d::ds,f,rp,hs,av,e=>by
  cases q:qD as ds ρ with
  | none=>simp [qD,q] at e
  | some l=>
   have e:d::l=f:=by simpa [qD,q] using e
   subst e;exact ⟨av.1,uh rp hs av.2 q⟩
 | .fr::as,v::vs,d::ds,f,rp,hs,av,e=>by
  cases q:qD as ds ρ with
  | none=>simp [qD,q] at e
  | some l=>
   have e:d::l=f:=by simpa [qD,q] using e
   subst e;obtain ⟨a,h1,_,h2,c⟩:=av.1;exact ⟨⟨a,h1,h2,c⟩,uh rp hs av.2 q⟩
 | .sl i::as,v::vs,d::ds,f,rp,hs,av,e=>by
  obtain ⟨h1,_,b⟩:=av;have hi:i∈own:=hs i (ae.mpr (.inl rfl));obtain ⟨d',hd⟩:=rp.opn i hi;obtain ⟨a,e1,g,E⟩:=rp.ow i d' hi hd;rw [h1] at e1;cases e1;cases q:qD as ds ρ with
  | none=>simp [qD,q,hd] at e
  | some l=>
   have e:d'::l=f:=by simpa [qD,q,hd] using e
   subst e;exact ⟨⟨a,rfl,g,E⟩,uh rp (λj h=>hs j (ac _ h)) b q⟩
theorem jW:∀ {as:List AK} {vs:List V} {ds:List D} {b:Addr},ArgV K H0 F H σ as vs ds->b∈yj (as.map gl) vs->(∃ i∈qQ as,σ[i]?=ff (ff (V.ref b)))\/(H0 b=fg/\frA as≠0/\H b≠fg/\F b=fg)
 | [],vs,ds,b,av,h=>by cases vs <;> simp [yj] at h
 | a::as,[],ds,b,av,h=>by cases a <;> exact av.elim
 | a::as,v::vs,[],b,av,h=>by cases a <;> exact av.elim
 | .vl::as,v::vs,d::ds,b,av,h=>by
  have h:b∈yj (as.map gl) vs:=by cases v <;> exact h
  exact jW (as:=as) av.2 h
 | .fr::as,v::vs,d::ds,b,av,h=>by
  obtain ⟨⟨a,rfl,f,E,o⟩,c⟩:=av;have h:b∈a::yj (as.map gl) vs:=h;rcases ae.mp h with e | h;·subst e; exact .inr ⟨f,by simp [frA],o.there,E⟩
  ·rcases jW c h with z | ⟨z,_,z2⟩
   ·exact .inl z
   ·exact .inr ⟨z,by simp [frA],z2⟩
 | .sl i::as,v::vs,d::ds,b,av,h=>by
  obtain ⟨h1,_,c⟩:=av;have up:b∈yj (as.map gl) vs->(∃ j∈qQ (.sl i::as),σ[j]?=ff (ff (V.ref b)))\/(H0 b=fg/\frA (.sl i::as)≠0/\H b≠fg/\F b=fg):=λh=>by
   rcases jW c h with ⟨j,hj,e⟩ | z;·exact .inl ⟨j,ac _ hj,e⟩
   ·exact .inr z
  cases v with
  | ref a=>
   have h:b∈a::yj (as.map gl) vs:=h;rcases ae.mp h with e | h;·subst e; exact .inl ⟨i,ae.mpr (.inl rfl),h1⟩
   ·exact up h
  | _=>exact up h
theorem wq:∀ {as:List AK} {vs:List V} {ds:List D},Rep K own F H σ ρ->(∀ x,OA own σ x->H0 x≠fg)->(∀ i∈qQ as,i∈own)->(qQ as).Nodup->frA as<=1->ArgV K H0 F H σ as vs ds->(yj (as.map gl) vs).Nodup
 | [],vs,ds,rp,h0,hs,nd,hf,av=>by cases vs <;> simp [yj]
 | a::as,[],ds,rp,h0,hs,nd,hf,av=>by cases a <;> exact av.elim
 | a::as,v::vs,[],rp,h0,hs,nd,hf,av=>by cases a <;> exact av.elim
 | .vl::as,v::vs,d::ds,rp,h0,hs,nd,hf,av=>by have q:=wq (as:=as) rp h0 hs nd hf av.2;cases v <;> exact q
 | .fr::as,v::vs,d::ds,rp,h0,hs,nd,hf,av=>by
  have g:frA as=0:=by simp only [frA] at hf; omega
  obtain ⟨⟨a,rfl,l,E,o⟩,b⟩:=av;show (a::yj (as.map gl) vs).Nodup;refine aU.mpr ⟨λz=>?_,wq rp h0 hs nd (by omega) b⟩;rcases jW b z with ⟨i,hi,e⟩ | ⟨_,n,_⟩
  ·exact h0 a ⟨i,hs i hi,e⟩ l
  ·exact n g
 | .sl i::as,v::vs,d::ds,rp,h0,hs,nd,hf,av=>by
  obtain ⟨h1,_,b⟩:=av;have h:∀ j∈qQ as,j∈own:=λj c=>hs j (ac _ c);have hi:i∈own:=hs i (ae.mpr (.inl rfl));obtain ⟨k,f⟩:=aU.mp nd;have q:=wq rp h0 h f hf b;cases v with
  | ref a=>
   show (a::yj (as.map gl) vs).Nodup;refine aU.mpr ⟨λz=>?_,q⟩;rcases jW b z with ⟨j,c,e⟩ | ⟨n,_⟩
   ·exact k (by rw [rp.dis i j a hi (h j c) h1 e]; exact c)
   ·exact h0 a ⟨i,hi,h1⟩ n
  | _=>exact q
theorem kZ:∀ {as:List AK} {b:List D} {ρ:Sl} {i:Nat},i∉qQ as->(jE as b ρ)[i]?=ρ[i]?
 | [],b,ρ,i,h=>by cases b <;> rfl
 | a::as,[],ρ,i,h=>by cases a <;> rfl
 | .vl::as,d::b,ρ,i,h=>kZ (as:=as) h
 | .fr::as,d::b,ρ,i,h=>kZ (as:=as) h
 | .sl j::as,d::b,ρ,i,h=>by
  have h':i≠j/\i∉qQ as:=by simpa [qQ] using h
  show (jE as b (ρ.set j (ff d)))[i]?=_;rw [kZ h'.2,ak (bp h'.1)]
theorem yr:∀ {as:List AK} {b:List D} {ρ:Sl},(jE as b ρ).length=ρ.length
 | [],b,ρ=>by cases b <;> rfl
 | a::as,[],ρ=>by cases a <;> rfl
 | .vl::as,d::b,ρ=>yr (as:=as)
 | .fr::as,d::b,ρ=>yr (as:=as)
 | .sl j::as,d::b,ρ=>by show (jE as b (ρ.set j (ff d))).length=_;rw [yr,dk]
theorem zg {F' H':Hp}:∀ {as:List AK} {vs:List V} {ds b:List D} {ρ:Sl},(qQ as).Nodup->(∀ i∈qQ as,i < ρ.length)->ArgV K H0 F H σ as vs ds->uf K F' H' (as.map gl) vs b->∀ i∈qQ as,∃ d a,(jE as b ρ)[i]?=ff (ff d)/\σ[i]?=ff (ff (V.ref a))/\F' a=fg/\OwnIs K F' H' a d
 | [],vs,ds,b,ρ,nd,hl,av,o,i,hi=>by simp [qQ] at hi
 | a::as,[],ds,b,ρ,nd,hl,av,o,i,hi=>by cases a <;> exact av.elim
 | a::as,v::vs,[],b,ρ,nd,hl,av,o,i,hi=>by cases a <;> exact av.elim
 | a::as,v::vs,d::ds,[],ρ,nd,hl,av,o,i,hi=>by cases a <;> exact o.elim
 | .vl::as,v::vs,d::ds,u::b,ρ,nd,hl,av,o,i,hi=>zg (as:=as) nd hl av.2 o i hi
 | .fr::as,v::vs,d::ds,u::b,ρ,nd,hl,av,o,i,hi=>zg (as:=as) nd hl av.2 o i hi
 | .sl j::as,v::vs,d::ds,u::b,ρ,nd,hl,av,o,i,hi=>by
  obtain ⟨f,n⟩:=aU.mp nd;obtain ⟨h1,_,c⟩:=av;obtain ⟨⟨a,e,E,ow⟩,o2⟩:=o;subst e;rcases ae.mp hi with e | hi;·subst e;refine ⟨u,a,?_,h1,E,ow⟩;show (jE as b (ρ.set i (ff u)))[i]?=_;rw [kZ f,aG (hl i (ae.mpr (.inl rfl)))]
  ·exact zg (as:=as) (ρ:=ρ.set j (ff u)) n (λk h=>by rw [dk]; exact hl k (ac _ h)) c o2 i hi
end
noncomputable def qr (as:List AK) (G:jM) (fr:vI):qO:=λρ=>(fr ρ).bind λp=>match qD as p.1 p.2 with
 | some ds=>match G ds with
  | .ok q=>.ok (q.1,jE as q.2 p.2)
  | .exc c o=>.exc c (jE as (o.map (·.getD .non)) p.2)
  | .bad=>.bad
 | none=>.bad
variable {mr:Mo} {f:Addr} {ps:List Str}
section
variable {G:jM} {fr:vI}
theorem JZ {F' H':Hp} {b:List D} (r:Rep C.K own F H σ ρ) (m:∀ x,OA own σ x->H0 x≠fg) (hs:∀ i∈qQ as,i∈own) (nd:(qQ as).Nodup) (k:ArgV C.K H0 F H σ as vs ds)
  (A:Same F' H') (c:Chg (LA (as.map gl) vs) F H F' H') (o:uf C.K F' H' (as.map gl) vs b):Rep C.K own F' H' σ (jE as b ρ):=by
 have pin:=zg (ρ:=ρ) nd (λi hi=>by obtain ⟨d,e⟩:=r.opn i (hs i hi);exact (aq.mp e).1) k o;refine ⟨A,by rw [yr]; exact r.len,λi d hi e=>?_,λi d hi e=>?_,λi hi=>?_,r.dis⟩;·rw [kZ (λz=>hi (hs i z))] at e;obtain ⟨v,h1,h2⟩:=r.val i d hi e;exact ⟨v,h1,h2.mono c.grow⟩
 ·by_cases q:i∈qQ as;·obtain ⟨d',a,e1,s,E,p⟩:=pin i q;rw [e1] at e;cases e;exact ⟨a,s,E,p⟩
  ·rw [kZ q] at e;obtain ⟨a,h1,h2,f⟩:=r.ow i d hi e;have l:¬LA (as.map gl) vs a:=λz=>by
    rcases jW k z with ⟨j,h,t⟩ | ⟨n,_⟩
    ·exact q (by rw [r.dis i j a hi (hs j h) h1 t]; exact h)
    ·exact m a ⟨i,hi,h1⟩ n
   refine ⟨a,h1,?_,f.grow c.grow λo' g=>c.keep a o' g l⟩;cases g:F' a with
   | none=>rfl
   | some u=>
    rcases c.new a (by rw [g]; simp) with z | z | z;·exact absurd h2 z
    ·exact absurd z f.there
    ·exact absurd z l
 ·by_cases q:i∈qQ as;·obtain ⟨d',a,e1,_⟩:=pin i q;exact ⟨d',e1⟩
  ·rw [kZ q];exact r.opn i hi
theorem WB {Q:VK} (l:∀ i∈C.ox,i∈own) (hs:∀ i∈qQ as,i∈own) (nd:(qQ as).Nodup) (u:frA as<=1) (h:tE C own mr (qr as G fr) σ H Q):tAr C own as fr σ H λvs H1=>spD C.K C.cv (as.map gl) mr G (vs++[]) H1 Q C.E:=by
 obtain ⟨F,ρ,s,h⟩:=h;have m:∀ x,OA own σ x->H x≠none:=λx z=>(s.OA_there z).1;refine ⟨F,ρ,s,?_⟩;unfold qr at h;cases k:fr ρ with
 | ok p=>
  rw [k] at h;obtain ⟨ds,ρ1⟩:=p;intro vs F1 H1 a r g;rw [bt];have h1:Po C own mr σ F H (match qD as ds ρ1 with | some ds=>(match G ds with | .ok q=>.ok (q.1,jE as q.2 ρ1) | .exc c o=>.exc c (jE as (o.map (·.getD .non)) ρ1) | .bad=>.bad) | none=>.bad) Q:=h;cases q:qD as ds ρ1 with
  | none=>simp only [q] at h1; exact h1.elim
  | some f=>
   simp only [q] at h1;have lo:∀ x,LA (as.map gl) vs x->OA own σ x\/H x=none:=λx z=>by
    rcases jW g z with ⟨i,hi,e⟩ | ⟨n,_⟩
    ·exact .inl ⟨i,hs i hi,e⟩
    ·exact .inr n
   refine ⟨F1,f,a.sub,uh a hs g q,wq a m hs nd u g,?_⟩;cases j:G f with
   | ok p=>rw [j] at h1;obtain ⟨d,b⟩:=p;exact λv F' H' A c o t=>h1 v F' H' (JZ a m hs nd g A c o) (r.trans c lo) (MoIs.back (Ha:=H1) r t)
   | exc x o=>rw [j] at h1; exact λF' H' A c b=>h1 F' H' A ((JZ a m hs nd g A c b).ioIs l) (r.trans c lo)
   | bad=>rw [j] at h1; exact h1.elim
 | exc c=>rw [k] at h; exact h
 | bad=>rw [k] at h; exact h.elim
theorem GG {CX:CXT} {k:Nat} {fd:fW} {p pos:Pos} (F:FnOk X.prog X.w X.K X.mg X.base CX k f fd ps (spD C.K C.cv ms mr G)) (c:Room k X.A) (hg:Gl X x) (m:X.mg x=ff (.ref f)) (a:keepIn X.K (.ref f)=fm) (j:Binds X.K fd ps []) (hx:wU CX X C.E)
  (n:PA X (e::es) (tAr C own as fr)) (s:ms=as.map gl:=by rfl) (hs:∀ i∈qQ as,i∈own:=by decide) (nd:(qQ as).Nodup:=by decide) (d:frA as<=1:=by decide) (o:∀ i∈C.ox,i∈own:=by exact wE rfl) (b:Dbg x:=by decide) (g:starEach (e::es) X.env=(fk,eval e X.env)::starEach es X.env:=by exact jj rfl)
  (l:(backTo pos (starEach es X.env)).any (·.1)=false:=by exact yp rfl):PE X (.Call (.Name x p) (e::es) [] pos) (tE C own mr (qr as G fr)):=by
 subst s;exact ji (Gd F c hg m a j .nil hx n b g l) λσ H Q h=>WB o hs nd d h
end
structure ItIs (K:Frag) (F:Hp) (J:It) (ds:List D):Prop where
 go:∀ i H,i < ds.length->Same F H->J.go i H
 yld:∀ i Fi H x H' d,ds[i]?=ff d->Same F Fi->Same Fi H->J.yld i H x H'->∃ F',Chg No Fi H F' H'/\Same F' H'/\Is K F' x d
 stop:∀ i H,ds.length<=i->Same F H->J.stop i H
def PoI (C:Ct) (own:List Nat) (σ:St) (F H:Hp) (r:Out (List D×Sl)) (R:It->Hp->Prop):Prop:=match r with
 | .ok (ds,ρ')=>∀ J F' H',Rep C.K own F' H' σ ρ'->Chg (OA own σ) F H F' H'->ItIs C.K F' J ds->R J H'
 | .exc c ρ'=>∀ F' H',Same F' H'->Yn C.K C.ox F' H' σ ρ'->Chg (OA own σ) F H F' H'->C.E (C.cv c) fg H'
 | .bad=>False
def tIt (C:Ct) (own:List Nat) (f:vI):TI:=λσ H R=>∃ F ρ,Rep C.K own F H σ ρ/\PoI C own σ F H (f ρ) R
noncomputable def WC:D->Out (List D)
 | .lst xs=>.ok xs
 | .tup xs=>.ok xs
 | _=>.bad
noncomputable def qeA (f:qO):vI:=λρ=>(f ρ).bind λp=>(WC p.1).bind λds=>.ok (ds,p.2)
theorem PoI.bindV {m:Mo} {o:gJ} {k:D×Sl->Out (List D×Sl)} {Q:It->Hp->Prop} {R:VK} (hp:PoI C own σ F H (o.bind k) Q)
  (h:∀ v F1 H1 d ρ1,Rep C.K own F1 H1 σ ρ1->Chg (OA own σ) F H F1 H1->MoIs C.K m H F1 H1 v d->PoI C own σ F H (k (d,ρ1)) Q->R v H1):Po C own m σ F H o R:=by
 cases o with
 | ok p=>exact λv F1 H1 a c b=>h v F1 H1 p.1 p.2 a c b hp
 | exc x=>exact hp
 | bad=>exact hp.elim
variable {tg iter:Expr} {xs:List V} {gs:List D->Sl->Out Sl}
section
variable {f:qO}
theorem YX {t t':TI} (h:PI X tg e t) (i:∀ σ H Q,t' σ H Q->t σ H Q):PI X tg e t':=⟨λpins s σ H R I w=>h pins s σ H R I (i σ H R w)⟩
theorem qbx (p:SqL K F a xs) (t:IsL K F xs ds):ItIs K F (Itl K a) ds where
 go:=λi H hi s=>by
  have hx:i < xs.length:=by rw [t.length]; exact hi
  exact ⟨xs,xs[i],s.seq p,by simp [hx]⟩
 yld:=λi Fi H x H' d e s1 s2 y=>by obtain ⟨rfl,y⟩:=y;obtain ⟨v,h1,h2⟩:=t.getD e;have q:=y xs ((s1.trans s2).seq p);rw [h1] at q;cases q;exact ⟨Fi,.refl,s2,h2.mono s1⟩
 stop:=λi H hi s=>⟨xs,s.seq p,by rw [t.length]; exact hi⟩
theorem qby (p:SqT K F a xs) (t:IsL K F xs ds):ItIs K F (Itt K a) ds where
 go:=λi H hi s=>by
  have hx:i < xs.length:=by rw [t.length]; exact hi
  exact ⟨xs,xs[i],qP s p,by simp [hx]⟩
 yld:=λi Fi H x H' d e s1 s2 y=>by obtain ⟨rfl,y⟩:=y;obtain ⟨v,h1,h2⟩:=t.getD e;have q:=y xs (qP (s1.trans s2) p);rw [h1] at q;cases q;exact ⟨Fi,.refl,s2,h2.mono s1⟩
 stop:=λi H hi s=>⟨xs,qP s p,by rw [t.length]; exact hi⟩
noncomputable def yK (lo:Int) (n:Nat):List D:=(aB n).map λk=>.int (lo+(k:Nat))
theorem Zl {lo:Int}:ItIs K F (Itr lo n) (yK lo n) where
 go:=λi H hi _=>by
  have:i < n:=by simpa [yK] using hi
  exact this
 yld:=λi Fi H x H' d e s1 s2 y=>by
  obtain ⟨rfl,rfl⟩:=y;have e:d=.int (lo+i):=by
   unfold yK at e;rw [aJ] at e;cases q:(aB n)[i]? with
   | none=>rw [q] at e; cases e
   | some k=>
    rw [q] at e;have h:k=i:=by have:=aq.mp q;obtain ⟨_,z⟩:=this;simpa using z.symm
    subst h;exact (aI.inj e).symm
  subst e;exact ⟨Fi,.refl,s2,.int _⟩
 stop:=λi H hi _=>by
  have:n<=i:=by simpa [yK] using hi
  exact this
noncomputable def uF (f:qO):vI:=λρ=>(f ρ).bind λp=>match p.1 with
 | .int j=>if -(2 ^ 62)<=j/\j < 2 ^ 62 then .ok (yK 0 j.toNat,p.2) else .bad
 | _=>.bad
theorem uG {p:Pos} (hg:Gl X "range") (b:X.mg "range"=fg) (h:PE X e (tE C own m f)) (hs:starEach [e] X.env=[(fk,eval e X.env)]:=by exact qy rfl):PI X tg (.Call (.Name "range" p) [e] [] pos) (tIt C own (uF f)):=by
 refine YX (VO hg b (qA h qY hs) hs) λσ H R ⟨F,ρ,r,h⟩=>⟨F,ρ,r,PoI.bindV h λv F1 H1 d ρ1 a k c h1=>?_⟩
 cases d with
 | int j=>
  obtain rfl:=c.top.int;have h1:PoI C own σ F H (if -(2 ^ 62)<=j/\j < 2 ^ 62 then .ok (yK 0 j.toNat,ρ1) else .bad) R:=h1;by_cases z:-(2 ^ 62)<=j/\j < 2 ^ 62;·rw [if_pos z] at h1;exact ⟨j,rfl,z.1,z.2,h1 _ F1 H1 a k Zl⟩
  ·rw [if_neg z] at h1; exact h1.elim
 | _=>exact h1.elim
def tGd (C:Ct) (own:List Nat) (g:D->Sl->Out Sl):TG:=λv σ H Q=>∃ F ρ d,Rep C.K own F H σ ρ/\Is C.K F v d/\∃ ρ',g d ρ=.ok ρ'/\∀ σ',Rep C.K own F H σ' ρ'->(∀ b,OA own σ' b->OA own σ b)->(∀ i∈C.io,σ'[i]?=σ[i]?)->Q σ' H
def qcD (C:Ct) (own:List Nat) (g:List D->Sl->Out Sl):TGs:=λvs σ H Q=>∃ F ρ ds,Rep C.K own F H σ ρ/\IsL C.K F vs ds/\∃ ρ',g ds ρ=.ok ρ'/\∀ σ',Rep C.K own F H σ' ρ'->(∀ b,OA own σ' b->OA own σ b)->(∀ i∈C.io,σ'[i]?=σ[i]?)->Q σ' H
theorem qbz {t t':TG} (h:PG X e t) (i:∀ v σ H Q,t' v σ H Q->t v σ H Q):PG X e t':=⟨λpins s σ H v u Q I r w=>h pins s σ H v u Q I r (i v σ H Q w)⟩
theorem Zm {t t':TGs} (h:PGs X es t) (i:∀ v σ H Q,t' v σ H Q->t v σ H Q):PGs X es t':=⟨λpins s σ H v u Q I r w=>h pins s σ H v u Q I r (i v σ H Q w)⟩
noncomputable def gNm (i:Nat):D->Sl->Out Sl:=λd ρ=>if i < ρ.length then .ok (ρ.set i (ff d)) else .bad
theorem xN {own:List Nat} (h:i∉own):kI own [i]=own:=by unfold kI;rw [bE];intro j D;simp only [aH,decide_eq_true_eq];exact λz=>h (by rw [<-z]; exact D)
theorem Ka (c:X.N.Nodup) (hi:X.N[i]?=ff x) (hx:Loc X.env.scope x) (l:i∉own:=by decide) (o:i∉C.io:=by exact wX rfl) (h:X.fn x=fm\/X.env.scope.names.lookup x=ff .local:=by first | exact .inl rfl | exact .inr rfl):PG X (.Name x pos) (tGd C own (gNm i)):=by
 refine qbz (ZY c hi hx h) λv σ H Q ⟨F,ρ,d,a,is,ρ',e,k⟩=>?_;unfold gNm at e;by_cases z:i < ρ.length
 ·rw [if_pos z] at e;cases e;have r2:=a.put z is;rw [xN l] at r2;refine k _ r2 (λb q=>?_) λj D=>ak λq=>o (by rw [q]; exact D);have g:OA (kI own [i]) (σ.set i (ff v)) b:=by rw [xN l]; exact q
  exact g.put
 ·rw [if_neg z] at e; cases e
noncomputable def vF:List D->Sl->Out Sl
 | [],ρ=>.ok ρ
 | _::_,_=>.bad
noncomputable def qL (g:D->Sl->Out Sl) (gs:List D->Sl->Out Sl):List D->Sl->Out Sl
 | d::ds,ρ=>(g d ρ).bind λρ1=>gs ds ρ1
 | [],_=>.bad
theorem ui:PGs X [] (qcD C own vF):=by
 refine Zm ZZ λvs σ H Q ⟨F,ρ,ds,a,is,ρ',e,k⟩=>?_;cases is with
 | nil=>cases e; exact ⟨rfl,k σ a (λ_ z=>z) λ_ _=>rfl⟩
 | cons _ _=>cases e
theorem jl {g:D->Sl->Out Sl} (h1:PG X e (tGd C own g)) (h2:PGs X es (qcD C own gs)) (hs:(assignEach (e::es) X.env).map (·.2)=assign e X.env::(assignEach es X.env).map (·.2):=by rfl):PGs X (e::es) (qcD C own (qL g gs)):=by
 refine Zm (Yv h1 h2 hs) λvs σ H Q ⟨F,ρ,ds,p,is,ρ',e,k⟩=>?_;cases is with
 | nil=>cases e
 | @cons v d vs ds a t=>
  have e:(g d ρ).bind (λρ1=>gs ds ρ1)=.ok ρ':=e;cases q:g d ρ with
  | ok ρ1=>rw [q] at e;exact ⟨v,vs,rfl,F,ρ,d,p,a,ρ1,q,λσ1 h j m=>⟨F,ρ1,ds,h,t,ρ',e,λf r o l=>k f r (λb z=>j b (o b z)) λi hi=>(l i hi).trans (m i hi)⟩⟩
  | exc c=>rw [q] at e; cases e
  | bad=>rw [q] at e; cases e
noncomputable def vG (n:Nat) (gs:List D->Sl->Out Sl):D->Sl->Out Sl
 | .tup ds,ρ=>if ds.length=n then gs ds ρ else .bad
 | _,_=>.bad
theorem yL {k:Nat} (g:C.K=X.K) (f:X.calm=fm) (h:PGs X es (qcD C own gs)) (b:(assignEach es X.env).length=n:=by rfl) (c:(assignEach es X.env).findIdx? (·.1)=none:=by rfl):PG X (.Tuple es k pos) (tGd C own (vG n gs)):=by
 refine qbz (qa3 f h b c) λv σ H Q ⟨F,ρ,d,r,is,ρ',e,k⟩=>?_;cases is with
 | @tup a xs ds p t=>
  have e:(if ds.length=n then gs ds ρ else .bad)=.ok ρ':=e;by_cases z:ds.length=n;·rw [if_pos z] at e;exact ⟨a,xs,rfl,by rw [<-g]; exact qP r.sub p,by rw [t.length]; exact z,F,ρ,ds,r,t,ρ',e,k⟩
  ·rw [if_neg z] at e; cases e
 | _=>cases e
noncomputable def qeB (fe:qO) (g:D->Sl->Out Sl):je:=λρ=>(fe ρ).bind λp=>match g p.1 p.2 with
 | .ok ρ'=>.ok (.nx,ρ')
 | _=>.bad
noncomputable def kP (g:D->Sl->Out Sl) (fb:je):List D->je
 | [],ρ=>.ok (.nx,ρ)
 | d::ds,ρ=>(g d ρ).plain.bind λρ1=>(fb ρ1).bind λp=>match p.1 with
  | .nx=>kP g fb ds p.2
  | .ct=>kP g fb ds p.2
  | .bk=>.ok (.nx,p.2)
  | .rt v=>.ok (.rt v,p.2)
noncomputable def Kb (fi:vI) (g:D->Sl->Out Sl) (fb:je):je:=λρ=>(fi ρ).bind λp=>kP g fb p.1 p.2
theorem va {body:List Stmt} {fi:vI} {g:D->Sl->Out Sl} {fb:je} (hp:PassesOwn (model X.prog X.w) X.A X.env X.xe) (T:X.calm=fm) (hi:PI X tg iter (tIt C own fi)) (hg:PG X tg (tGd C own g))
  (U:PSs X body (tSt { C with ol:=own } own own fb)) (hs:∀ x,foldedSetIterable iter X.env x=pure x:=by intro _; rfl):PS X (.For tg iter body [] pos) (tSt C own own (Kb fi g fb)):=by
 refine gS (qa5 hp T hi hg U hs) λD σ H ⟨F,ρ,Q,h⟩=>⟨F,ρ,Q,?_⟩
 unfold Kb at h;cases I:fi ρ with
 | exc c=>rw [I] at h; exact h
 | bad=>rw [I] at h; exact h.elim
 | ok p=>
  rw [I] at h;obtain ⟨ds,ρ1⟩:=p;intro J F1 H1 u P it;have h:PoS C own own σ F H (kP g fb ds ρ1) D:=h;refine ⟨λi m σ' H'=>m=ds.length - i/\i<=ds.length/\∃ F' ρ',Nx C own own σ F H ρ' σ' F' H'/\Same F1 F'/\PoS C own own σ' F' H' (kP g fb (ds.drop i) ρ') D,⟨ds.length,by simp,aZ _,F1,ρ1,.ofE u P,Same.refl _,h.shift (.ofE u P)⟩,?_⟩;rintro i m σ' H' ⟨rfl,S,F',ρ',nx,gr,po⟩;by_cases t:i < ds.length
  ·have hd:ds.drop i=ds[i]::ds.drop (i+1):=List.drop_eq_getElem_cons t;rw [hd] at po;have po:PoS C own own σ' F' H' ((g ds[i] ρ').plain.bind λρ1=>(fb ρ1).bind λp=>match p.1 with | .nx=>kP g fb (ds.drop (i+1)) p.2 | .ct=>kP g fb (ds.drop (i+1)) p.2 | .bk=>.ok (.nx,p.2) | .rt v=>.ok (.rt v,p.2)) D:=po;refine .inr ⟨it.go i H' t (gr.trans nx.rep.sub),λl H2=>ds.length - (i+1)=ds.length - (i+1)/\i+1<=ds.length/\∃ F' ρ',Nx C own own σ F H ρ' l F' H2/\Same F1 F'/\PoS C own own l F' H2 (kP g fb (ds.drop (i+1)) ρ') D,λl H2 q=>⟨ds.length - (i+1),by omega,q⟩,λx H2 y=>?_⟩;obtain ⟨o,c2,s2,N⟩:=it.yld i F' H' x H2 ds[i] (by simp [t]) gr nx.rep.sub y;cases E:g ds[i] ρ' with
   | exc c=>rw [E] at po; exact po.elim
   | bad=>rw [E] at po; exact po.elim
   | ok ρ2=>
    rw [E] at po;refine ⟨o,ρ',ds[i],nx.rep.grow c2 s2,N,ρ2,E,λj r K O=>⟨o,ρ2,r,?_⟩⟩;have M:Nx C own own σ' F' H' ρ2 j o H2:=⟨r,c2.ofNo,λb z=>.inl (K b z),O⟩
    have a:=PoS.shift (show PoS C own own σ' F' H' ((fb ρ2).bind λp=>match p.1 with | .nx=>kP g fb (ds.drop (i+1)) p.2 | .ct=>kP g fb (ds.drop (i+1)) p.2 | .bk=>.ok (.nx,p.2) | .rt v=>.ok (.rt v,p.2)) D from po) M;have up:∀ {B f L k},Nx { C with ol:=own } own own j o H2 B f L k->Nx C own own j o H2 B f L k:=λz=>⟨z.rep,z.chg,z.oa,z.io⟩
    cases G:fb ρ2 with
    | exc c=>rw [G] at a; exact a
    | bad=>rw [G] at a; exact a.elim
    | ok p=>
     rw [G] at a;obtain ⟨V,B⟩:=p;cases V with
     | nx=>exact λf L k n=>⟨rfl,t,L,B,(nx.then M).then (up n),(gr.trans c2.grow).trans n.chg.grow,PoS.shift (show PoS C own own j o H2 (kP g fb (ds.drop (i+1)) B) D from a) (up n)⟩
     | ct=>exact λf L k n=>⟨rfl,t,L,B,(nx.then M).then (up n),(gr.trans c2.grow).trans n.chg.grow,PoS.shift (show PoS C own own j o H2 (kP g fb (ds.drop (i+1)) B) D from a) (up n)⟩
     | bk=>exact λf L k n=>a f L k (up n)
     | rt d=>exact λv f L k s io c e R=>a v f L k s io c e R
  ·have e:i=ds.length:=by omega
   subst e;rw [List.drop_length] at po;exact .inl ⟨it.stop _ H' (am _) (gr.trans nx.rep.sub),po σ' F' H' (.refl nx.rep)⟩
noncomputable def jX (ft:ub) (fb:je):Nat->je
 | 0,_=>.bad
 | n+1,ρ=>(ft ρ).bind λq=>if q.1=fm then (fb q.2).bind λp=>match p.1 with
  | .nx=>jX ft fb n p.2
  | .ct=>jX ft fb n p.2
  | .bk=>.ok (.nx,p.2)
  | .rt v=>.ok (.rt v,p.2)
  else .ok (.nx,q.2)
theorem WD {t:Expr} {body:List Stmt} {ft:ub} {fb:je} (n:Nat) (hp:PassesOwn (model X.prog X.w) X.A X.env X.xe) (ht:PT X t (tT C own ft)) (y:PSs X body (tSt { C with ol:=own } own own fb)):PS X (.While t body [] pos) (tSt C own own (jX ft fb n)):=by
 refine gS (Yw hp ht y) λD σ H ⟨F,ρ,u,h⟩=>?_;refine ⟨λm σ' H'=>∃ F' ρ',Rep C.K own F' H' σ' ρ'/\PoS C own own σ' F' H' (jX ft fb m ρ') D,⟨n,F,ρ,u,h⟩,?_⟩;rintro m σ1 H1 ⟨F1,ρ1,j,po⟩;refine ⟨F1,ρ1,j,?_⟩;cases m with
 | zero=>exact po.elim
 | succ m=>
  have po:PoS C own own σ1 F1 H1 ((ft ρ1).bind λq=>if q.1=fm then (fb q.2).bind λp=>match p.1 with | .nx=>jX ft fb m p.2 | .ct=>jX ft fb m p.2 | .bk=>.ok (.nx,p.2) | .rt v=>.ok (.rt v,p.2) else .ok (.nx,q.2)) D:=po;refine PoS.bindT po λi H2 k ρ2 r c2 h2=>?_;cases k with
  | false=>exact h2 σ1 i H2 (.refl r)
  | true=>
   refine ⟨λb o=>∃ F' ρ',Rep C.K own F' o b ρ'/\PoS C own own b F' o (jX ft fb m ρ') D,λb o q=>⟨m,by omega,q⟩,i,ρ2,r,?_⟩;have h2:PoS C own own σ1 i H2 ((fb ρ2).bind λp=>match p.1 with | .nx=>jX ft fb m p.2 | .ct=>jX ft fb m p.2 | .bk=>.ok (.nx,p.2) | .rt v=>.ok (.rt v,p.2)) D:=h2;have up:∀ {B f L a},Nx { C with ol:=own } own own σ1 i H2 B f L a->Nx C own own σ1 i H2 B f L a:=λz=>⟨z.rep,z.chg,z.oa,z.io⟩
   cases l:fb ρ2 with
   | exc c=>rw [l] at h2; exact h2
   | bad=>rw [l] at h2; exact h2.elim
   | ok p=>
    rw [l] at h2;obtain ⟨E,B⟩:=p;cases E with
    | nx=>exact λf L a g=>⟨L,B,g.rep,PoS.shift (show PoS C own own σ1 i H2 (jX ft fb m B) D from h2) (up g)⟩
    | ct=>exact λf L a g=>⟨L,B,g.rep,PoS.shift (show PoS C own own σ1 i H2 (jX ft fb m B) D from h2) (up g)⟩
    | bk=>exact λf L a g=>h2 f L a (up g)
    | rt d=>exact λv f L a s io c e x=>h2 v f L a s io c e x
end
noncomputable def gm (cells:List (Str×Addr)):List (Str×fU)->List (Str×Addr)->List (Str×Addr)
 | [],acc=>acc
 | (n,k)::r,acc=>if (k == .free)=fm then gm cells r ((n,(cells.lookup n).getD 0)::acc) else gm cells r acc
variable {env:Env}
theorem vM:∀ (names:List (Str×fU)) (acc:List (Str×Addr)),(∀ x∈names,x.2=.free->∃ c,env.cells.lookup x.1=ff c) ->(forIn names acc λ(x:Str×fU) (cs:List (Str×Addr))=>if (x.2 == bo)=fm then (do let a <-cellOf env x.1; pure (bM ((x.1,a)::cs))) else pure (bM cs):Sem (List (Str×Addr)))=pure (gm env.cells names acc)
 | [],acc,_=>rfl
 | (n,k)::r,acc,h=>by
  rw [List.forIn_cons];by_cases q:(k == bo)=fm
  ·obtain ⟨c,d⟩:=h (n,k) aj (by simpa using q);have e:cellOf env n=pure c:=by unfold cellOf; rw [d]
   simp only [q,if_true,e];have j:=vM r ((n,c)::acc) (λx hx=>h x (ac _ hx));simp only [gm,q,if_true,d,dW];exact j
  ·simp only [q,if_false,gm];exact vM r acc (λx hx=>h x (ac _ hx))
variable {scope:g6}
theorem xO (h:∀ x∈scope.names,x.2=.free->∃ c,env.cells.lookup x.1=ff c):closureFor scope env=pure (gm env.cells scope.names []):=by have:=vM scope.names [] h;unfold closureFor;simp only [bind_pure];exact this
variable {cells:List (Str×Addr)}
theorem wM:∀ {names:List (Str×fU)} {acc:List (Str×Addr)} {x:Str} {c:Addr},(∀ y∈names,y.2=.free->∃ c,cells.lookup y.1=ff c)->(gm cells names acc).lookup x=ff c->cells.lookup x=ff c\/acc.lookup x=ff c
 | [],acc,x,c,_,h=>.inr h
 | (n,k)::r,acc,x,c,hf,h=>by
  unfold gm at h;by_cases q:(k == bo)=fm
  ·rw [if_pos q] at h;obtain ⟨T,d⟩:=hf (n,k) aj (by simpa using q);rcases wM (λy D=>hf y (ac _ D)) h with z | z;·exact .inl z
   ·rw [cw] at z;have d:cells.lookup n=ff T:=d;by_cases e:(x == n)=fm
    ·rw [e] at z;simp only [d,dW] at z;have:x=n:=by simpa using e
     subst this;rw [d]; exact .inl z
    ·have e:(x == n)=false:=by simpa using e
     rw [e] at z;exact .inr z
  ·rw [if_neg q] at h;exact wM (λy D=>hf y (ac _ D)) h
theorem zh:∀ {names:List (Str×fU)} {acc:List (Str×Addr)} {x:Str},(∃ c,acc.lookup x=ff c)->∃ c,(gm cells names acc).lookup x=ff c
 | [],_,_,h=>h
 | (n,k)::r,acc,x,h=>by
  unfold gm;by_cases q:(k == bo)=fm
  ·rw [if_pos q];refine zh ?_;obtain ⟨c,d⟩:=h;rw [cw];by_cases e:(x == n)=fm;·rw [e]; exact ⟨_,rfl⟩
   ·have e:(x == n)=false:=by simpa using e
    rw [e]; exact ⟨c,d⟩
  ·rw [if_neg q]; exact zh h
theorem yt:∀ {names:List (Str×fU)} {acc:List (Str×Addr)} {x:Str},(x,bo)∈names->∃ c,(gm cells names acc).lookup x=ff c
 | (n,k)::r,acc,x,h=>by
  unfold gm;rcases ae.mp h with e | h
  ·cases e;rw [if_pos (by rfl)];refine zh ?_;rw [cw,beq_self_eq_true];exact ⟨_,rfl⟩
  ·by_cases q:(k == bo)=fm;·rw [if_pos q]; exact yt h
   ·rw [if_neg q]; exact yt h
noncomputable def qT (X:Cx) (scope:g6) (N:List Str) (fp:List Addr) (L:Addr) (s:fq) (H:Hp):Cx:=
 { X with N:=N,s₀:=s,H₀:=H,env:=compEnvC scope (gm X.env.cells scope.names []) L X.env,outer:=X.stack,stack:=X.stack,ex:=fp,fn:=λ_=>fk,pn:=[],xe:=λ_ _=>False }
structure ScOk (X:Cx) (scope:g6):Prop where
 kind:scope.kind=.function
 nocell:∀ y∈scope.names,y.2≠.cell
 names:∀ y∈scope.names,y.2=.local->scope.names.lookup y.1=ff .local
 free:∀ y∈scope.names,y.2=.free->X.env.kindOf y.1=ff .cell\/X.env.kindOf y.1=ff .free
 frl:∀ y∈scope.names,y.2=.free->scope.names.lookup y.1=ff .free
theorem wt {a:α}:∀ {l:List (Str×α)},l.lookup x=ff a->(x,a)∈l
 | [],h=>by simp at h
 | (n,k)::r,h=>by
  rw [cw] at h;by_cases e:(x == n)=fm
  ·rw [e] at h;have h:ff k=ff a:=h;cases h;have:x=n:=by simpa using e
   subst this;exact aj
  ·have e:(x == n)=false:=by simpa using e
   rw [e] at h;exact ac _ (wt h)
theorem uV {k:fU} (h:(relabel scope env).names.lookup x=ff k) (b:k=.cell\/k=.free) (a:∀ y∈scope.names,y.2≠.cell):(x,bo)∈scope.names:=by
 have m:=wt h;obtain ⟨⟨n,k'⟩,c,e⟩:=aA.mp m;dsimp only at e;by_cases q:(k' == bo&&env.scope.kind == .function&&env.kindOf n == ff .cell)=fm
 ·rw [if_pos q] at e;cases e;have:k'=.free:=by rw [aT,aT] at q;simpa using q.1.1
  subst this;exact c
 ·rw [if_neg q] at e;cases e;rcases b with rfl | rfl;·exact absurd rfl (a _ c)
  ·exact c
theorem gU (h:Vis (relabel scope env) x):∃ k,(x,k)∈scope.names:=by
 have go:∀ {k:fU},(relabel scope env).names.lookup x=ff k->∃ k,(x,k)∈scope.names:=λ{k} h=>by
  obtain ⟨⟨n,k'⟩,c,e⟩:=aA.mp (wt h);dsimp only at e;by_cases q:(k' == bo&&env.scope.kind == .function&&env.kindOf n == ff .cell)=fm;·rw [if_pos q] at e;cases e;exact ⟨_,c⟩
  ·rw [if_neg q] at e;cases e;exact ⟨_,c⟩
 rcases h with h | h | h <;> exact go h
variable {pins:Pns} {σc:St} {s s':fq} {fp:List Addr} {h':Heap}
section
theorem yM (I:Inv X pins σ H s) (S:ScOk X scope):∀ y∈scope.names,y.2=.free->∃ c,X.env.cells.lookup y.1=ff c:=λy D e=>I.ok.has y.1 (S.free y D e)
theorem YY (I:Inv X pins σ H s) (S:ScOk X scope) (J:∀ b∈fp,QL X pins H b) (T:∀ b∈fp,b < s.heap.objs.size) (C:h'.Ns s.heap.objs.size (λ_=>fg))
  (w:∀ b o,s.heap.get? b=ff o->h'.get? b=ff o) (hl:σc.length=N.length)
  (B:∀ (j:Nat) (x:Str) (v:V),N[j]?=ff x->σc[j]?=ff (ff v)->(∃ k,(x,k)∈scope.names)->∃ i:Nat,X.N[i]?=ff x/\σ[i]?=ff (ff v)/\Vis X.env.scope x/\(x,bo)∈scope.names) {t:Nat} :
  Inv (qT X scope N fp s.heap.objs.size s H) [] σc H { s with heap:=h',toks:=t }:=by
 have G:=yM I S;have cl:∀ x c,(gm X.env.cells scope.names []).lookup x=ff c->X.env.cells.lookup x=ff c:=λx c e=>(wM G e).resolve_right (by simp);have A:∀ b∈fp,b∉frs X.stack:=λb g z=>by
  obtain ⟨f0,f1,f2,_⟩:=J b g;rcases ae.mp (I.stkSub b z) with e | e;·exact f1 e
  ·exact f2 e
 refine ⟨⟨I.ok.mod,?_,I.ok.glob,I.ok.blt,am _,λx y c h1 h2=>I.ok.inj x y c (cl x c h1) (cl y c h2),λx hx=>?_,λx c h=>absurd h (by show ¬(fk=fm); exact b8),I.ok.hd,I.ok.frames,.inl rfl,λb g=>⟨aF (T b g),λx c e z=>?_⟩,I.bs,bu I.ok.bsz I.sz,λb o e g=>?_,A,I.stack,I.stkFree⟩,rfl,I.bare,Un.kept w,⟨_,C,λj x v e1 l Q=>?_⟩,λx c e=>?_,I.hok.fresh (am _),λx c e=>I.freeC x c (cl x c e),λp hp=>absurd (show p∈([]:Pns) from hp) (by simp),I.hok.kept w,hl⟩;·exact S.kind
 ·refine yt ?_;rcases hx with hx | hx;·exact uV hx (.inl rfl) S.nocell
  ·exact uV hx (.inr rfl) S.nocell
 ·exact (J b g).2.2.2.2.1 x c (cl x c e) z
 ·rcases (J b g).2.2.2.1 with z | z;·exact I.ok.noex b o e z
  ·have D:=au e;exact absurd (aC D (bu I.ok.bsz z)) (aX _)
 ·obtain ⟨i,g1,Y,W,L⟩:=B j x v e1 l (gU Q);obtain ⟨m,Z,E⟩:=I.loc;obtain ⟨u,r,look⟩:=E i x v g1 Y W;refine ⟨u,r,?_⟩;obtain ⟨M,f⟩:=yt (cells:=X.env.cells) (acc:=[]) L;have K:=cl x M f;have kd:(qT X scope N fp s.heap.objs.size s H).env.kindOf x=ff .cell\/(qT X scope N fp s.heap.objs.size s H).env.kindOf x=ff .free\/(qT X scope N fp s.heap.objs.size s H).env.kindOf x=ff .local:=by
   rcases Q with z | z | z;·exact .inr (.inr z)
   ·exact .inl z
   ·exact .inr (.inl z)
  rcases look with ⟨k,_⟩ | ⟨k,c,P,z⟩
  ·rcases S.free _ L rfl with q | q;·have q:X.env.kindOf x=ff .cell:=q;rw [k] at q; cases q
   ·have q:X.env.kindOf x=ff .free:=q;rw [k] at q; cases q
  ·rw [K] at P;cases P;obtain ⟨oc,d,a⟩:=z;rcases kd with q | q | q;·exact .inr ⟨.inl q,M,f,⟨oc,w _ _ d,a⟩⟩
   ·exact .inr ⟨.inr q,M,f,⟨oc,w _ _ d,a⟩⟩
   ·refine absurd q ?_;intro q;have R:=wt (show (relabel scope X.env).names.lookup x=ff .local from q);obtain ⟨⟨n,k'⟩,U,e⟩:=aA.mp R;dsimp only at e;by_cases O:(k' == bo&&X.env.scope.kind == .function&&X.env.kindOf n == ff .cell)=fm;·rw [if_pos O] at e; cases e
    ·rw [if_neg O] at e;cases e;have e1:=S.names _ U rfl;have l:=S.frl _ L rfl;have e1:scope.names.lookup x=ff .local:=e1;have l:scope.names.lookup x=ff .free:=l;rw [e1] at l;cases l
 ·obtain ⟨v,oc,d,a⟩:=I.cell x c (cl x c e);exact ⟨v,oc,w _ _ d,a⟩
theorem YZ {H1:Hp} {s1:fq} {L:Addr} (I:Inv X pins σ H s) (h:∀ b∈fp,QL X pins H b) (J:Inv (qT X scope N fp s.heap.objs.size s H) [] σc H' s') (A:bq s.heap.objs.size s'.heap h'):Inv X pins σ H' { s' with heap:=h' }:=by
 have a:H' s.heap.objs.size=none:=J.free;have ne:∀ b o,s.heap.get? b=ff o->b≠s.heap.objs.size:=λb o e=>aF (au e);have U:Un (frs X.stack) fp H H' s.heap s'.heap:=J.base;refine I.call' (s':={ s' with heap:=h' }) (ch:=fp) J.os ⟨λb o e n h1 h2=>(A.2 b (ne b o e)).trans (U.keep b o e n h1 h2),λb o e n h1 h2=>?_,U.free,λb o e h2=>?_,U.tups,U.frzs,U.tbls⟩ (λb u e=>?_) J.bare λb f=>?_;·obtain ⟨sl,q⟩:=U.slot b o e n h1 h2;exact ⟨sl,(A.2 b (ne b o e)).trans q⟩
 ·obtain ⟨o',q⟩:=U.there b o e h2;exact ⟨o',(A.2 b (ne b o e)).trans q⟩
 ·refine (J.hok b u e).stay (λc w d q=>(A.2 c ?_).trans q) (λ_ q=>q) λ_ _ q=>q;rintro rfl;rcases d with z | z;·rw [<-z,a] at e; cases e
  ·rw [a] at z; cases z
 ·obtain ⟨f0,f1,f2,t,f4,g⟩:=h b f;exact ⟨t,f1,f4,g⟩
end
theorem zi {prog:fz} {w:fA} {A:fD} {R:Result->fq->Prop} {s:fq} {elt target iter:Expr} {ifs:List Expr} {scope:g6} {pos:Pos} {it acc:fj} {env:Env} (I:Nat->fq->Prop)
  (turn:∀ n s,I n s->wpAny (model prog w) A (pyNext it) (λr d=>match r with
   | none=>R (.ok .next) d
   | some v=>wpAny (model prog w) A (letOwnedTupleGo target it v) (λ_ e=>wpAny (model prog w) A (assign target env v) (λ_ i=>
     wpAny (model prog w) A (forIn ifs fm λc r=>if r=fm then do let ok <-isTrue c env (eval c env); pure (bM ok) else pure (bM r)) (λok b=>
      if ok=fm then wpAny (model prog w) A (eval elt env) (λx g=>
       wpAny (model prog w) A (call (.builtin "list.append") [acc,x]) (λ_ f=>∃ m,m < n/\I m f) (λ_ _=>False) g) (λ_ _=>False) b
      else ∃ m,m < n/\I m b) (λ_ _=>False) i) (λ_ _=>False) e) (λ_ _=>False) d) (λ_ _=>False) s)
  (n:Nat) (h:I n s):codeAny (model prog w) A (.compLoop (.ListComp elt [⟨target,iter,ifs,0⟩] scope pos) 0 it acc env) R s:=by
 have no:∀ {α:Type} {t:Sem α} {Q u:α->fq->Prop} {E:fj->fq->Prop} {s:fq},wpAny (model prog w) A t Q (λ_ _=>False) s->(∀ a s,Q a s->u a s)->wpAny (model prog w) A t u E s:=λh k=>g7 h k λ_ _ z=>z.elim;refine codeAny_loop rfl I (λn s y=>?_) n h;show wpAny _ A ((compTurn (.ListComp elt [⟨target,iter,ifs,0⟩] scope pos) 0 it acc env).onRaise (λx=>do noteFrame x env; theTreesLotGoes x)) _ _ s;refine wpAny_noted ?_;rw [compTurn_list];refine fh (wpAny_standAt (fh (no (turn n s y) λr d h₁=>?_)));cases r with
 | none=>exact fy h₁
 | some v=>
  refine fh (no h₁ λ_ e l=>fh (no l λ_ i q=>fh (no q λok b j=>?_)));cases ok with
  | false=>exact fy ⟨rfl,j⟩
  | true=>exact fh (fh (no j λx g p=>fh (no p λ_ f o=>fy (fy ⟨rfl,o⟩))))
structure PTs (Y:Cx) (ifs:List Expr) (t:TT):Prop where
 run:∀ (pins:Pns) (s:fq) (σ:St) (H:Hp) (Q:Bool->Hp->Prop),Inv Y pins σ H s->t σ H Q ->wpAny (model Y.prog Y.w) Y.A (forIn ifs fm λc r=>if r=fm then do let ok <-isTrue c Y.env (eval c Y.env); pure (bM ok) else pure (bM r)) (TP Y pins σ Q) Y.xe s
instance {Y:Cx} {ifs:List Expr} {t:TT}:CoeFun (PTs Y ifs t) (λ_=>∀ (pins:Pns) (s:fq) (σ:St) (H:Hp) (Q:Bool->Hp->Prop),Inv Y pins σ H s->t σ H Q ->wpAny (model Y.prog Y.w) Y.A (forIn ifs fm λc r=>if r=fm then do let ok <-isTrue c Y.env (eval c Y.env); pure (bM ok) else pure (bM r)) (TP Y pins σ Q) Y.xe s):=⟨λh=>h.run⟩
variable {Y:Cx}
theorem GH:PTs Y [] (λ_ H Q=>Q fm H):=⟨λ_ _ _ H _ I h=>wpAny_tests_nil ⟨H,I,h⟩⟩
theorem vb {t:TT} (h:PT Y c t):PTs Y [c] t:=⟨λpins s σ H Q I q=>wpAny_tests_one (h pins s σ H Q I q)⟩
variable {ifs:List Expr}
section
variable {it:Addr} {tn:Nat->Heap->Prop} {J:It} {elt:Expr} {g:TG} {tt:TT} {te:TE} {E:fj->fq->Prop}
theorem Xa (I:Inv X pins σ H s) (P:X.calm=fm) (S:ScOk X scope) (T:Turn X.prog X.w X.K tg J fp it tn) (st0:tn 0 s.heap) (hf:∀ b∈fp,QL X pins H b)
  (hg:∀ fp L s' H',PG (qT X scope N fp L s' H') tg g) (ht:∀ fp L s' H',PTs (qT X scope N fp L s' H') ifs tt) (he:∀ fp L s' H',PE (qT X scope N fp L s' H') elt te) (hl:σc.length=N.length)
  (hσ:∀ (j:Nat) (x:Str) (v:V),N[j]?=ff x->σc[j]?=ff (ff v)->(∃ k,(x,k)∈scope.names)->∃ i:Nat,X.N[i]?=ff x/\σ[i]?=ff (ff v)/\Vis X.env.scope x/\(x,bo)∈scope.names)
  (W:Addr->Nat->Nat->St->Hp->Prop) (Fin:Addr->Hp->Prop) (w0:∀ p,H p=fg->∃ m,W p 0 m σc (upd H p (.lst [])))
  (turn:∀ p i m σ1 H1,W p i m σ1 H1->(J.stop i H1/\Fin p H1)\/(J.go i H1/\∀ x H2,J.yld i H1 x H2->g x σ1 H2 λB H3=>tt B H3 λb H4=>if b=fm then te B H4 λy H5=>∃ xs,H5 p=ff (.lst xs)/\xs.length < sizeLine/\∃ f,f < m/\W p (i+1) f B (upd H5 p (.lst (xs++[y]))) else ∃ f,f < m/\W p (i+1) f B H4))
  (RR:fj->Addr->Result->fq->Prop)
  (hRR:∀ p L H' s',Fin p H'->(∃ m,s'.heap.Ns L m)->QL X pins H' L->(∀ h',bq L s'.heap h'->Inv X pins σ H' { s' with heap:=h' })->RR (.ref p) L (.ok .next) s') :
  wpAny (model X.prog X.w) X.A (newList []) (λacc s₃=>wpAny (model X.prog X.w) X.A (newFunctionEnv scope X.env.globals (gm X.env.cells scope.names []) [] X.env.qual fg .none (ff X.env)) (λG F=>
   codeAny (model X.prog X.w) X.A (.compStart (.ListComp elt [⟨tg,iter,ifs,0⟩] scope pos) 0 (.ref it) acc { G with scope:=relabel scope X.env }) (RR acc G.locals) F) E s₃) E s:=by
 have hfo:∀ b∈fp,b < s.heap.objs.size:=λb h=>let ⟨o,e,_⟩:=T.obj 0 _ st0 b h; au e;have C:=I.fresh;have I3:Inv X pins σ (upd H s.heap.objs.size (.lst [])) { s with heap:=s.heap.push { cls:=.type "list",data:=.seq ([]:List fj).toArray } }:=I.lnew (t':=s.toks) (ys:=[]) (its:=[]) .nil (aZ _);have O:∀ b∈fp,QL X pins (upd H s.heap.objs.size (.lst [])) b:=λb h=>⟨by rw [qp (aF (hfo b h))]; exact (hf b h).1,(hf b h).2⟩
 have st3:tn 0 (s.heap.push { cls:=.type "list",data:=.seq ([]:List fj).toArray }):=T.keep 0 _ _ st0 λb h o e=>aa _ e;refine fG (wpAny_newFunctionEnv S.nocell (λy hy=>by simp at hy) (λh₁ c a=>?_) S.kind);dsimp only at c a ⊢;generalize hs3:({ s with heap:=s.heap.push { cls:=.type "list",data:=.seq ([]:List fj).toArray } }:fq)=s3 at I3;have e3:s3.heap=s.heap.push { cls:=.type "list",data:=.seq ([]:List fj).toArray }:=by rw [<-hs3]
 rw [<-e3] at c a st3 ⊢;have keep:∀ b o,s3.heap.get? b=ff o->h₁.get? b=ff o:=λb o e=>(a.2 b (aF (au e))).trans (aa _ e);have ho3:∀ b∈fp,b < s3.heap.objs.size:=λb h=>by rw [e3,bP]; exact cf (hfo b h)
 have J1:Inv (qT X scope N fp s3.heap.objs.size s3 (upd H s.heap.objs.size (.lst []))) [] σc (upd H s.heap.objs.size (.lst [])) { s3 with heap:=h₁,toks:=s.toks+0 }:=
  YY I3 S O ho3 (by simpa using c) keep hl hσ
 have st4:tn 0 h₁:=T.keep 0 _ _ st3 λb h o e=>keep b o e;have loop:∀ s4:fq,s4={ s3 with heap:=h₁,toks:=s.toks+0 }->codeAny (model X.prog X.w) X.A (.compLoop (.ListComp elt [⟨tg,iter,ifs,0⟩] scope pos) 0 (.ref it) (.ref s.heap.objs.size) (compEnvC scope (gm X.env.cells scope.names []) s3.heap.objs.size X.env)) (RR (.ref s.heap.objs.size) s3.heap.objs.size) s4:=by
  rintro s4 rfl;generalize D:qT X scope N fp s3.heap.objs.size s3 (upd H s.heap.objs.size (.lst []))=Y at J1;have eP:Y.prog=X.prog:=by rw [<-D]; rfl
  have ew:Y.w=X.w:=by rw [<-D]; rfl
  have eA:Y.A=X.A:=by rw [<-D]; rfl
  have ee:Y.env=compEnvC scope (gm X.env.cells scope.names []) s3.heap.objs.size X.env:=by rw [<-D]; rfl
  have eK:Y.K=X.K:=by rw [<-D]; rfl
  have ec:Y.calm=true:=by rw [<-D]; exact P
  have ex:Y.xe=λ_ _=>False:=by rw [<-D]; rfl
  have hgY:PG Y tg g:=by rw [<-D]; exact hg fp _ _ _
  have htY:PTs Y ifs tt:=by rw [<-D]; exact ht fp _ _ _
  have heY:PE Y elt te:=by rw [<-D]; exact he fp _ _ _
  have t:∀ {H1:Hp},(∀ b∈fp,H1 b=fg)->∀ b∈fp,QL Y [] H1 b:=λhn b h=>by have q:=J1.ok.exf b (by rw [<-D]; exact h);refine ⟨hn b h,q.1,J1.ok.exfs b (by rw [<-D]; exact h),.inl (by rw [<-D]; exact h),q.2,λp hp=>?_⟩;rw [<-D] at hp;exact absurd (show p∈([]:Pns) from hp) (by simp)
  obtain ⟨m0,hm0⟩:=w0 s.heap.objs.size C;refine zi (λn s'=>∃ i σ1 H1,Inv Y [] σ1 H1 s'/\tn i s'.heap/\(∀ b∈fp,H1 b=fg)/\W s.heap.objs.size i n σ1 H1) ?_ m0 ⟨0,σc,_,J1,st4,λb h=>(O b h).1,hm0⟩;rintro n s5 ⟨i,σ1,H1,J5,st5,fr5,w5⟩;rw [<-eP,<-ew,<-eA,<-ee];have TY:Turn Y.prog Y.w Y.K tg J fp it tn:=by rw [eP,ew,eK]; exact T
  rcases turn _ i n σ1 H1 w5 with ⟨stop,fin⟩ | ⟨go,step⟩
  ·refine thn (TY.done Y rfl rfl rfl ec i [] s5 σ1 H1 _ J5 (t fr5) st5 stop) λr s6 ⟨hr,J6⟩=>?_;subst hr;have Q:Inv (qT X scope N fp s3.heap.objs.size s3 (upd H s.heap.objs.size (.lst []))) [] σ1 H1 s6:=by rw [D]; exact J6
   exact hRR _ _ H1 s6 fin (let ⟨m,hn,_⟩:=Q.loc; ⟨m,hn⟩) (I3.fpOk (am _) Q.free) λh' sb=>YZ (s1:=s6) (H1:=H1) (L:=0) I3 O Q sb
  ·refine thn (TY.item Y rfl rfl rfl ec i [] s5 σ1 H1 _ J5 (t fr5) st5 go) λr s6 ⟨u,hr,h6⟩=>?_;subst hr;refine thn h6 λ_ s7 ⟨x,H7,J7,r7,y7,M,fr7⟩=>?_;have J7':=J7.pinned (t fr7) (TY.obj _ _ M);have back:∀ {l:St} {Z:Hp} {R:fq},Inv Y ([]++gy fp s7.heap) l Z R->(∃ f,f < n/\W s.heap.objs.size (i+1) f l Z)->∃ m,m < n/\∃ i σ1 H1,Inv Y [] σ1 H1 R/\tn i R.heap/\(∀ b∈fp,H1 b=fg)/\W s.heap.objs.size i m σ1 H1:=λ{l Z R} U ⟨f,hm,w9⟩=>by refine ⟨f,hm,i+1,l,Z,U.unpinned,TY.keep _ _ _ M λb h o e=>(U.pin (b,o) (aP _ (aP _ (wm h e)))).1,λb h=>?_,w9⟩;obtain ⟨o,e,d⟩:=TY.obj _ _ M b h;exact (U.pin (b,o) (aP _ (aP _ (wm h e)))).2.1
   rw [<-ex];refine thn (hgY _ s7 σ1 H7 x u _ J7' r7 (step x H7 y7)) λ_ s8 ⟨z,H8,J8,q8⟩=>?_;refine thn (htY _ s8 z H8 _ J8 q8) λok R ⟨Z,U,q9⟩=>?_;cases ok with
   | false=>exact back U q9
   | true=>refine thn (heY _ R z Z _ U q9) λv s10 ⟨y,H10,J10,r10,xs,hx,hlen,q10⟩=>?_;exact thn (gH _ s10 z H10 (.ref s.heap.objs.size) [y] (.ref s.heap.objs.size) [v] (λ_ H11=>∃ f,f < n/\W s.heap.objs.size (i+1) f z H11) J10 rfl (.cons r10 .nil) ⟨_,xs,y,rfl,rfl,hx,hlen,q10⟩) λ_ s11 ⟨_,H11,J11,_,q11⟩=>back J11 q11
 have e4:({ heap:=h₁,gens:=s.gens,drawn:=s.drawn,toks:=s.toks+([]:List (Str×fj)).length,os:=s.os }:fq)={ s3 with heap:=h₁,toks:=s.toks+0 }:=by rw [<-hs3]; rfl
 exact codeAny_compStart_list (loop _ e4) (T.self _ 0 _ _ _ st4 (loop _ e4))
end
noncomputable def jN (nt:Nat) (cap:List Nat) (ρ:List (Option α)):List (Option α):=b4 nt fg++cap.map λk=>(ρ[k]?).getD fg
noncomputable def vH (own:List Nat):Nat->List Nat->List Nat
 | _,[]=>[]
 | n,k::cap=>if k∈own then n::vH own (n+1) cap else vH own (n+1) cap
noncomputable def ioC (nt len:Nat):List Nat:=(aB len).map (nt + ·)
noncomputable def jq (own:List Nat) (ρc:Sl):Nat->List Nat->Sl->Sl
 | _,[],ρ=>ρ
 | n,k::cap,ρ=>if k∈own then jq own ρc (n+1) cap (ρ.set k ((ρc[n]?).getD fg)) else jq own ρc (n+1) cap ρ
variable {nt:Nat} {cap:List Nat}
theorem get_cap {ρ:List (Option α)} {d:α}:(jN nt cap ρ)[i]?=ff (ff d)↔∃ j k,i=nt+j/\cap[j]?=ff k/\ρ[k]?=ff (ff d):=by
 unfold jN;constructor
 ·intro h;by_cases hi:i < nt;·rw [cz (by simpa using hi),cO] at h;split at h <;> cases h
  ·rw [bQ (by simpa using hi),c6,aJ] at h;cases q:cap[i - nt]? with
   | none=>rw [q] at h; cases h
   | some k=>
    rw [q] at h;have h:(ρ[k]?).getD fg=ff d:=aI.inj h;refine ⟨i - nt,k,by omega,q,?_⟩;cases e:ρ[k]? with
    | none=>rw [e] at h; cases h
    | some o=>rw [e] at h; exact congrArg ff h
 ·rintro ⟨j,k,rfl,h1,h2⟩;rw [bQ (by simp),c6,aJ,show nt+j - nt=j by omega,h1];simp [h2]
theorem mem_ownC {own:List Nat}:∀ {n:Nat} {cap:List Nat} {i:Nat},i∈vH own n cap↔∃ j k,i=n+j/\cap[j]?=ff k/\k∈own
 | n,[],i=>by simp [vH]
 | n,k::cap,i=>by
  have a:=@mem_ownC own (n+1) cap i;unfold vH;by_cases h:k∈own
  ·rw [if_pos h,ae,a];constructor
   ·rintro (rfl | ⟨j,k',e,h1,h2⟩);·exact ⟨0,k,rfl,rfl,h⟩
    ·exact ⟨j+1,k',by omega,by simpa using h1,h2⟩
   ·rintro ⟨j,k',e,h1,h2⟩;cases j with
    | zero=>exact .inl (by omega)
    | succ j=>exact .inr ⟨j,k',by omega,by simpa using h1,h2⟩
  ·rw [if_neg h,a];constructor;·rintro ⟨j,k',e,h1,h2⟩;exact ⟨j+1,k',by omega,by simpa using h1,h2⟩
   ·rintro ⟨j,k',e,h1,h2⟩;cases j with
    | zero=>simp at h1; subst h1; exact absurd h2 h
    | succ j=>exact ⟨j,k',by omega,by simpa using h1,h2⟩
theorem mem_ioC {len:Nat}:i∈ioC nt len↔∃ j,j < len/\i=nt+j:=by
 unfold ioC;rw [aA];constructor;·rintro ⟨j,h1,h2⟩; exact ⟨j,aK.mp h1,h2.symm⟩
 ·rintro ⟨j,h1,h2⟩; exact ⟨j,aK.mpr h1,h2.symm⟩
variable {ρc:Sl}
theorem uH:∀ {n:Nat} {cap:List Nat} {ρ:Sl},(jq own ρc n cap ρ).length=ρ.length
 | _,[],_=>rfl
 | n,k::cap,ρ=>by
  unfold jq;by_cases h:k∈own;·rw [if_pos h,uH,dk]
  ·rw [if_neg h,uH]
theorem jV:∀ {n:Nat} {cap:List Nat} {ρ:Sl} {i:Nat},¬(i∈cap/\i∈own)->(jq own ρc n cap ρ)[i]?=ρ[i]?
 | _,[],_,_,_=>rfl
 | n,k::cap,ρ,i,h=>by
  unfold jq;have h':¬(i∈cap/\i∈own):=λz=>h ⟨ac _ z.1,z.2⟩;by_cases a:k∈own;·rw [if_pos a,jV h',ak (λe=>h ⟨ae.mpr (.inl e.symm),by rw [<-e]; exact a⟩)]
  ·rw [if_neg a,jV h']
theorem uj:∀ {n:Nat} {cap:List Nat} {ρ:Sl} {j k:Nat} {d:D},cap.Nodup->cap[j]?=ff k->k∈own->k < ρ.length->ρc[n+j]?=ff (ff d)->(jq own ρc n cap ρ)[k]?=ff (ff d)
 | _,[],_,_,_,_,_,h,_,_,_=>by simp at h
 | n,k0::cap,ρ,0,k,d,nd,h,hk,hl,e=>by simp at h; subst h;obtain ⟨n1,n2⟩:=aU.mp nd;unfold jq;rw [if_pos hk,jV (λz=>n1 z.1),aG hl];have e:ρc[n]?=ff (ff d):=e;rw [e]; rfl
 | n,k0::cap,ρ,j+1,k,d,nd,h,hk,hl,e=>by
  obtain ⟨n1,n2⟩:=aU.mp nd;have h:cap[j]?=ff k:=by simpa using h
  have e:ρc[n+1+j]?=ff (ff d):=by rw [show n+1+j=n+(j+1) by omega]; exact e
  unfold jq;by_cases a:k0∈own;·rw [if_pos a]; exact uj n2 h hk (by rw [dk]; exact hl) e
  ·rw [if_neg a]; exact uj n2 h hk hl e
section
theorem Ja {ρ:List (Option α)}:(jN nt cap ρ).length=nt+cap.length:=by simp [jN]
theorem WE {l:List Nat} (h:l.Nodup) {j k:Nat} (a:l[i]?=ff k) (b:l[j]?=ff k):i=j:=by obtain ⟨h1,e1⟩:=aq.mp a;obtain ⟨h2,e⟩:=aq.mp b;exact (dU h).mp (e1.trans e.symm)
theorem GI (r:Rep K own F H σ ρ) (nd:cap.Nodup):Rep K (vH own nt cap) F H (jN nt cap σ) (jN nt cap ρ) where
 sub:=r.sub
 len:=by rw [Ja,Ja]
 val:=λi d hi e=>by obtain ⟨j,k,rfl,h1,h2⟩:=get_cap.mp e;obtain ⟨v,g1,Y⟩:=r.val k d (λz=>hi (mem_ownC.mpr ⟨j,k,rfl,h1,z⟩)) h2;exact ⟨v,get_cap.mpr ⟨j,k,rfl,h1,g1⟩,Y⟩
 ow:=λi d hi e=>by
  obtain ⟨j,k,rfl,h1,h2⟩:=get_cap.mp e;obtain ⟨j',k',l,c,h⟩:=mem_ownC.mp hi;have:j=j':=by omega
  subst this;rw [h1] at c; cases c;obtain ⟨a,g1,Y⟩:=r.ow k d h h2;exact ⟨a,get_cap.mpr ⟨j,k,rfl,h1,g1⟩,Y⟩
 opn:=λi hi=>by obtain ⟨j,k,rfl,h1,h2⟩:=mem_ownC.mp hi;obtain ⟨d,e⟩:=r.opn k h2;exact ⟨d,get_cap.mpr ⟨j,k,rfl,h1,e⟩⟩
 dis:=λi t a hi f e l=>by
  obtain ⟨j,k,rfl,h1,h2⟩:=mem_ownC.mp hi;obtain ⟨j',k',rfl,c,h⟩:=mem_ownC.mp f;obtain ⟨x,y,s,g,n⟩:=get_cap.mp e;obtain ⟨m,p,o,q,b⟩:=get_cap.mp l;have:x=j:=by omega
  subst this;have:m=j':=by omega
  subst this;rw [h1] at g; cases g;rw [c] at q; cases q;have e:=r.dis k k' a h2 h n b;subst e;rw [WE nd h1 c]
theorem WF (o:∀ i∈ioC nt cap.length,σ1[i]?=(jN nt cap σ)[i]?) (h:OA (vH own nt cap) σ1 b):OA own σ b:=by
 obtain ⟨i,hi,e⟩:=h;obtain ⟨j,k,rfl,h1,h2⟩:=mem_ownC.mp hi;rw [o _ (mem_ioC.mpr ⟨j,(aq.mp h1).1,rfl⟩)] at e;obtain ⟨x,y,c,q,a⟩:=get_cap.mp e;have:x=j:=by omega
 subst this;rw [h1] at q; cases q;exact ⟨k,h2,a⟩
theorem WG {F':Hp} (p:Rep K own F H σ ρ) (nd:cap.Nodup) (r:Rep K (vH own nt cap) F' H' σ1 ρ1) (g:∀ i∈ioC nt cap.length,σ1[i]?=(jN nt cap σ)[i]?) (c:Chg (OA (vH own nt cap) σ1) F H F' H'):Rep K own F' H' σ (jq own ρ1 nt cap ρ) where
 sub:=r.sub
 len:=by rw [uH]; exact p.len
 val:=λi d hi e=>by rw [jV (λz=>hi z.2)] at e;obtain ⟨v,h1,h2⟩:=p.val i d hi e;exact ⟨v,h1,h2.mono c.grow⟩
 ow:=λi d hi e=>by
  by_cases q:i∈cap
  ·obtain ⟨j,D⟩:=bi q;have m:nt+j∈vH own nt cap:=mem_ownC.mpr ⟨j,i,rfl,D,hi⟩;obtain ⟨d',h⟩:=r.opn _ m;obtain ⟨A,b⟩:=p.opn i hi;rw [uj nd D hi (aq.mp b).1 h] at e;cases e;obtain ⟨a,h1,h2⟩:=r.ow _ _ m h;rw [g _ (mem_ioC.mpr ⟨j,(aq.mp D).1,rfl⟩)] at h1;obtain ⟨x,y,w,f,l⟩:=get_cap.mp h1;have:x=j:=by omega
   subst this;rw [D] at f; cases f;exact ⟨a,l,h2⟩
  ·rw [jV (λz=>q z.1)] at e;obtain ⟨a,h1,h2,s⟩:=p.ow i d hi e;have na:¬OA (vH own nt cap) σ1 a:=λz=>by
    obtain ⟨B,n,t⟩:=z;obtain ⟨j,k,rfl,g1,Y⟩:=mem_ownC.mp n;rw [g _ (mem_ioC.mpr ⟨j,(aq.mp g1).1,rfl⟩)] at t;obtain ⟨x,y,w,f,l⟩:=get_cap.mp t;have:x=j:=by omega
    subst this;rw [g1] at f; cases f;have e:=p.dis i k a hi Y h1 l;subst e;exact q (bh g1)
   refine ⟨a,h1,?_,s.grow c.grow λo z=>c.keep a o z na⟩;cases O:F' a with
   | none=>rfl
   | some u=>
    rcases c.new a (by rw [O]; simp) with z | z | z;·exact absurd h2 z
    ·exact absurd z s.there
    ·exact absurd z na
 opn:=λi hi=>by
  by_cases q:i∈cap;·obtain ⟨j,D⟩:=bi q;have m:nt+j∈vH own nt cap:=mem_ownC.mpr ⟨j,i,rfl,D,hi⟩;obtain ⟨d',h⟩:=r.opn _ m;obtain ⟨A,b⟩:=p.opn i hi;exact ⟨d',uj nd D hi (aq.mp b).1 h⟩
  ·rw [jV (λz=>q z.1)];exact p.opn i hi
 dis:=p.dis
end
noncomputable def yN (g:D->Sl->Out Sl) (ft:ub) (fe:qO) (d:D) (ρ:Sl):Out (Option D×Sl):=
 (g d ρ).plain.bind λρ1=>(ft ρ1).plain.bind λq=>if q.1=fm then (fe q.2).plain.bind λr=>.ok (ff r.1,r.2) else .ok (fg,q.2)
noncomputable def jn (g:D->Sl->Out Sl) (ft:ub) (fe:qO):List D->vI
 | [],ρ=>.ok ([],ρ)
 | d::ds,ρ=>(yN g ft fe d ρ).bind λp=>(jn g ft fe ds p.2).bind λq=>.ok (p.1.toList++q.1,q.2)
noncomputable def qB (own:List Nat) (nt:Nat) (cap:List Nat) (fi:vI) (g:D->Sl->Out Sl) (ft:ub) (fe:qO):qO:=λρ=>(fi ρ).bind λp=>
 if p.1.length<=sizeLine then (jn g ft fe p.1 (jN nt cap p.2)).bind λq=>.ok (.lst q.1,jq own q.2 nt cap p.2) else .bad
noncomputable def ctC (C:Ct) (nt len:Nat):Ct:=⟨C.K,C.cv,λ_ _ _=>False,ioC nt len,.sh,[],[],λ_ h=>absurd h (by simp)⟩
noncomputable def ftT:ub:=λρ=>.ok (fm,ρ)
theorem Kc:PTs Y [] (tT C own ftT):=⟨λpins s σ H Q I ⟨F,ρ,a,h⟩=>GH pins s σ H Q I (h F H a .refl)⟩
structure CW (C:Ct) (own:List Nat) (nt:Nat) (cap:List Nat) (σ:St) (F H F0:Hp) (g:D->Sl->Out Sl) (ft:ub) (fe:qO) (ds ys:List D) (ρe:Sl) (p:Addr) (i:Nat) (σ1:St) (H1:Hp) (F1:Hp) (ρi:Sl) (accD:List D) (xs:List V) (rest:List D):Prop where
 rep:Rep C.K (vH own nt cap) F1 H1 σ1 ρi
 io:∀ i∈ioC nt cap.length,σ1[i]?=(jN nt cap σ)[i]?
 chg:Chg (OA (vH own nt cap) σ1) F H F1 H1
 gr:Same F0 F1
 at_:H1 p=ff (.lst xs)
 nF:F1 p=fg
 is:IsL C.K F1 xs accD
 le:accD.length<=i
 run:jn g ft fe (ds.drop i) ρi=.ok (rest,ρe)
 all:accD++rest=ys
theorem Vk {g:D->Sl->Out Sl} {ft:ub} {fe:qO} {rest:List D} {ρe:Sl} (h:jn g ft fe (d::ds) ρ=.ok (rest,ρe)):∃ ρ1,g d ρ=.ok ρ1/\∃ b ρ2,ft ρ1=.ok (b,ρ2)/\((b=fm/\∃ y k r,fe ρ2=.ok (y,k)/\jn g ft fe ds k=.ok (r,ρe)/\rest=y::r)\/(b=fk/\jn g ft fe ds ρ2=.ok (rest,ρe))):=by
 unfold jn yN at h;cases f:g d ρ with
 | exc c=>rw [f] at h; cases h
 | bad=>rw [f] at h; cases h
 | ok ρ1=>
  rw [f] at h;refine ⟨ρ1,rfl,?_⟩;simp only [Out.plain,Out.og] at h;cases e:ft ρ1 with
  | exc c=>rw [e] at h; cases h
  | bad=>rw [e] at h; cases h
  | ok p=>
   obtain ⟨b,ρ2⟩:=p;rw [e] at h;refine ⟨b,ρ2,rfl,?_⟩;simp only [Out.plain,Out.og] at h;cases b with
   | true=>
    refine .inl ⟨rfl,?_⟩;simp only [if_true] at h;cases a:fe ρ2 with
    | exc c=>rw [a] at h; cases h
    | bad=>rw [a] at h; cases h
    | ok p=>
     obtain ⟨y,k⟩:=p;rw [a] at h;simp only [Out.plain,Out.og] at h;cases q:jn g ft fe ds k with
     | exc c=>rw [q] at h; cases h
     | bad=>rw [q] at h; cases h
     | ok p=>obtain ⟨r,B⟩:=p;rw [q] at h;simp only [Out.og] at h;cases h;exact ⟨y,k,r,rfl,q,rfl⟩
   | false=>
    refine .inr ⟨rfl,?_⟩;simp only [aY,if_false,Out.og] at h;cases q:jn g ft fe ds ρ2 with
    | exc c=>rw [q] at h; cases h
    | bad=>rw [q] at h; cases h
    | ok p=>obtain ⟨r,B⟩:=p;rw [q] at h;simp only [Out.og] at h;cases h;rfl
section
variable {elt:Expr} {fi:vI} {g:D->Sl->Out Sl} {ft:ub} {fe:qO} {me:Mo}
structure CapOk (X:Cx) (scope:g6) (N:List Str) (nt:Nat) (cap:List Nat):Prop where
 nd:cap.Nodup
 len:N.length=nt+cap.length
 at_:∀ (j k:Nat),cap[j]?=ff k->∃ x,N[nt+j]?=ff x/\X.N[k]?=ff x/\((Vis X.env.scope x/\(x,bo)∈scope.names)\/∀ k',(x,k')∉scope.names)
theorem gW {F:Hp} {ρ1:Sl} {it:Addr} {fp:List Addr} {tn:Nat->Heap->Prop} {J:It} {E:fj->fq->Prop} {ds ys:List D} {ρe:Sl} (I:Inv X pins σ H s) (W:X.calm=fm) (S:ScOk X scope) (CO:CapOk X scope N nt cap)
  (T:Turn X.prog X.w X.K tg J fp it tn) (st0:tn 0 s.heap) (hf:∀ b∈fp,QL X pins H b) (rp:Rep C.K own F H σ ρ1) (O:ItIs C.K F J ds) (hz:ds.length<=sizeLine)
  (hg:∀ fp L s' H',PG (qT X scope N fp L s' H') tg (tGd (ctC C nt cap.length) (vH own nt cap) g)) (ht:∀ fp L s' H',PTs (qT X scope N fp L s' H') ifs (tT (ctC C nt cap.length) (vH own nt cap) ft))
  (he:∀ fp L s' H',PE (qT X scope N fp L s' H') elt (tE (ctC C nt cap.length) (vH own nt cap) me fe)) (hme:me≠.any)
  (hrun:jn g ft fe ds (jN nt cap ρ1)=.ok (ys,ρe)) (RR:fj->Addr->Result->fq->Prop)
  (hRR:∀ p L s' F' H',H p=fg->Rep C.K own F' H' σ (jq own ρe nt cap ρ1)->Chg (OA own σ) F H F' H'->F' p=fg->OwnIs C.K F' H' p (.lst ys)->(∃ m,s'.heap.Ns L m)->QL X pins H' L->(∀ h',bq L s'.heap h'->Inv X pins σ H' { s' with heap:=h' })->RR (.ref p) L (.ok .next) s') :
  wpAny (model X.prog X.w) X.A (newList []) (λacc s₃=>wpAny (model X.prog X.w) X.A (newFunctionEnv scope X.env.globals (gm X.env.cells scope.names []) [] X.env.qual fg .none (ff X.env)) (λG s₄=>
   codeAny (model X.prog X.w) X.A (.compStart (.ListComp elt [⟨tg,iter,ifs,0⟩] scope pos) 0 (.ref it) acc { G with scope:=relabel scope X.env }) (RR acc G.locals) s₄) E s₃) E s:=by
 have oaH:∀ {σ1:St} {b:Addr},(∀ i∈ioC nt cap.length,σ1[i]?=(jN nt cap σ)[i]?)->OA (vH own nt cap) σ1 b->H b≠none:=λU z=>(rp.OA_there (WF U z)).1;refine Xa (σc:=jN nt cap σ) I W S T st0 hf hg ht (λfp L s' H'=>uC (he fp L s' H') hme) (by rw [Ja,CO.len]) (λj x v e1 e2 e3=>?_)
  (λp i m σ1 H1=>H p=fg/\m=ds.length - i/\i<=ds.length/\∃ F1 ρi accD xs rest,CW C own nt cap σ F H F g ft fe ds ys ρe p i σ1 H1 F1 ρi accD xs rest)
  (λp H1=>H p=fg/\∃ σ1 F1 xs,Rep C.K (vH own nt cap) F1 H1 σ1 ρe/\(∀ i∈ioC nt cap.length,σ1[i]?=(jN nt cap σ)[i]?)/\Chg (OA (vH own nt cap) σ1) F H F1 H1/\H1 p=ff (.lst xs)/\F1 p=fg/\IsL C.K F1 xs ys) (λp hp=>?_) ?_ RR ?_
 ·obtain ⟨j',k,rfl,h1,h2⟩:=get_cap.mp e2;obtain ⟨y,g1,g2,g3⟩:=CO.at_ j' k h1;rw [g1] at e1; cases e1;obtain ⟨k',hk'⟩:=e3;rcases g3 with ⟨g3,g4⟩ | g3;·exact ⟨k,g2,h2,g3,g4⟩
  ·exact absurd hk' (g3 k')
 ·obtain ⟨r1,c1,hF⟩:=Wx (C:=C) (u:=.lst []) (GI (nt:=nt) rp CO.nd) hp;exact ⟨ds.length,hp,by simp,aZ _,F,jN nt cap ρ1,[],[],ys,r1,λ_ _=>rfl,c1.ofNo,Same.refl _,qf,hF,.nil,am _,by simpa using hrun,rfl⟩
 ·rintro p i m σ1 H1 ⟨hp,rfl,hle,F1,ρi,accD,xs,rest,w⟩;by_cases t:i < ds.length
  ·have hd:ds.drop i=ds[i]::ds.drop (i+1):=List.drop_eq_getElem_cons t;have run:=w.run;rw [hd] at run;obtain ⟨ρa,ea,b,Z,eb,R⟩:=Vk run;have sub1:Same F H1:=w.gr.trans w.rep.sub;refine .inr ⟨O.go i H1 t sub1,λx H2 y=>?_⟩;obtain ⟨F2,c2,s2,is2⟩:=O.yld i F1 H1 x H2 ds[i] (by simp [t]) w.gr w.rep.sub y;have rp2:=w.rep.grow c2 s2;have M:∀ {Y:St},(∀ i∈ioC nt cap.length,Y[i]?=(jN nt cap σ)[i]?)->¬OA (vH own nt cap) Y p:=λU z=>oaH U z hp;have P:∀ {A:Addr->Prop} {Fa Ha Fb Hb:Hp} {zs:List V},Chg A Fa Ha Fb Hb->¬A p->Ha p=ff (.lst zs)->Fa p=fg->Hb p=ff (.lst zs)/\Fb p=none:=λ{A Fa Ha Fb Hb zs} c na e1 e2=>by
    refine ⟨c.keep p _ e1 na,?_⟩;cases q:Fb p with
    | none=>rfl
    | some u=>
     rcases c.new p (by rw [q]; simp) with z | z | z;·exact absurd e2 z
     ·rw [e1] at z; cases z
     ·exact absurd z na
   obtain ⟨at2,nF2⟩:=P c2 (λz=>z) w.at_ w.nF;refine ⟨F2,ρi,ds[i],rp2,is2,ρa,ea,λl rp3 oa3 io3=>?_⟩;have f:∀ i∈ioC nt cap.length,l[i]?=(jN nt cap σ)[i]?:=λi hi=>(io3 i hi).trans (w.io i hi);refine ⟨F2,ρa,rp3,?_⟩;rw [eb];intro F4 H4 rp4 c4;obtain ⟨at4,nF4⟩:=P c4 (M f) at2 nF2;have B:Chg (OA (vH own nt cap) l) F H F4 H4:=by
    have q1:Chg (OA own σ) F H F1 H1:=w.chg.mono λb z=>WF w.io z;have mv:∀ {b},OA (vH own nt cap) σ1 b->OA (vH own nt cap) l b:=λ{b} z=>by obtain ⟨i',hi',e'⟩:=z;obtain ⟨j,k,rfl,g1,g2⟩:=mem_ownC.mp hi';have hm:nt+j∈ioC nt cap.length:=mem_ioC.mpr ⟨j,(aq.mp g1).1,rfl⟩;exact ⟨nt+j,hi',by rw [f _ hm,<-w.io _ hm]; exact e'⟩
    exact ((w.chg.mono λb z=>mv z).trans' c2.ofNo).trans' c4
   have gr4:Same F F4:=(w.gr.trans c2.grow).trans c4.grow;have Q:IsL C.K F4 xs accD:=(w.is.mono c2.grow).mono c4.grow;rcases R with ⟨rfl,y',ρc,r,ec,er,hr⟩ | ⟨rfl,er⟩
   ·rw [if_pos rfl];refine ⟨F4,Z,rp4,?_⟩;rw [ec];intro v F5 H5 h c5 mo5;obtain ⟨at5,nF5⟩:=P c5 (M f) at4 nF4;have hlen:xs.length=accD.length:=Q.length;refine ⟨xs,at5,by have:=w.le; omega,ds.length - (i+1),by omega,hp,rfl,t,F5,ρc,accD++[y'],xs++[v],r,?_⟩;have cp:Chg (λb=>b=p) F5 H5 F5 (upd H5 p (.lst (xs++[v]))):=⟨λb o e n=>by rw [qp n]; exact e,λb e=>by
     by_cases q:b=p;·rw [q,qf]; simp
     ·rw [qp q]; exact e,Same.refl _,λb e=>.inl e⟩
    have sb5:Same F5 (upd H5 p (.lst (xs++[v]))):=λb o e=>by rw [qp (qx e nF5)]; exact h.sub b o e
    have rp6:Rep C.K (vH own nt cap) F5 (upd H5 p (.lst (xs++[v]))) l ρc:=by
     refine ⟨sb5,h.len,h.val,λi d hi e=>?_,h.opn,h.dis⟩;obtain ⟨a,h1,h2,h3⟩:=h.ow i d hi e;have na:a≠p:=λz=>by subst z; exact M f ⟨i,hi,h1⟩
     exact ⟨a,h1,h2,h3.grow (Same.refl _) λo z=>by rw [qp na]; exact z⟩
    refine ⟨rp6,f,?_,(gr4.trans c5.grow),qf,nF5,(Q.mono c5.grow).append (.cons mo5 .nil),by simp only [ap,af,aM]; have:=w.le; omega,er,?_⟩;·exact (B.trans' c5).trans cp λb z=>.inr (by rw [z]; exact hp)
    ·rw [cg,<-w.all,hr]; rfl
   ·rw [if_neg b8];exact ⟨ds.length - (i+1),by omega,hp,rfl,t,F4,Z,accD,xs,rest,rp4,f,B,gr4,at4,nF4,Q,by have:=w.le; omega,er,w.all⟩
  ·have e:i=ds.length:=by omega
   subst e;have run:=w.run;rw [List.drop_length] at run;unfold jn at run;cases run;have ha:=w.all;rw [bt] at ha;subst ha;exact .inl ⟨O.stop _ H1 (am _) (w.gr.trans w.rep.sub),hp,σ1,F1,xs,w.rep,w.io,w.chg,w.at_,w.nF,w.is⟩
 ·rintro p L H' s' ⟨hp,σ1,F1,xs,r1,io1,c1,e1,n1,is1⟩ hns hfp hinv;exact hRR p L s' F1 H' hp (WG rp CO.nd r1 io1 c1) (c1.mono λb z=>WF io1 z) n1 ⟨xs,e1,is1⟩ hns hfp hinv
theorem Jb:∀ (ds:List D) (ρ:Sl) (c:Str) (o:Sl),jn g ft fe ds ρ≠.exc c o:=by
 intro ds
 induction ds with
 | nil=>intro ρ c o z; cases z
 | cons d ds j=>
  intro ρ c o z;unfold jn yN at z;cases b:g d ρ with
  | exc c=>rw [b] at z; cases z
  | bad=>rw [b] at z; cases z
  | ok ρ1=>
   rw [b] at z;simp only [Out.plain,Out.og] at z;cases e:ft ρ1 with
   | exc c=>rw [e] at z; cases z
   | bad=>rw [e] at z; cases z
   | ok p=>
    rw [e] at z;simp only [Out.plain,Out.og] at z;by_cases h:p.1=fm
    ·rw [if_pos h] at z;cases a:fe p.2 with
     | exc c=>rw [a] at z; cases z
     | bad=>rw [a] at z; cases z
     | ok r=>
      rw [a] at z;simp only [Out.plain,Out.og] at z;cases q:jn g ft fe ds r.2 with
      | exc c=>exact j _ _ _ q
      | bad=>rw [q] at z; cases z
      | ok t=>rw [q] at z; cases z
    ·rw [if_neg h] at z;simp only [Out.og] at z;cases q:jn g ft fe ds p.2 with
     | exc c=>exact j _ _ _ q
     | bad=>rw [q] at z; cases z
     | ok t=>rw [q] at z; cases z
theorem gX {α:Type} {Z:gJ->Prop} (r:Rep C.K own F H σ ρ) (d:¬Z .bad) (hx:∀ c ρ',Z (.exc c ρ')->∀ F' H',Same F' H'->Yn C.K C.ox F' H' σ ρ'->Chg (OA own σ) F H F' H'->C.E (C.cv c) fg H') (h:Z (qB own nt cap fi g ft fe ρ)):tIt C own fi σ H λJ H1=>∃ ds ρ1 ys ρe F1,ds.length<=sizeLine/\jn g ft fe ds (jN nt cap ρ1)=.ok (ys,ρe)/\Rep C.K own F1 H1 σ ρ1/\Chg (OA own σ) F H F1 H1/\ItIs C.K F1 J ds/\Z (.ok (.lst ys,jq own ρe nt cap ρ1)):=by
 refine ⟨F,ρ,r,?_⟩;unfold qB at h;cases q:fi ρ with
 | exc c=>rw [q] at h; exact hx c _ h
 | bad=>rw [q] at h; exact (d h).elim
 | ok p=>
  obtain ⟨ds,ρ1⟩:=p;rw [q] at h;have h:Z (if ds.length<=sizeLine then (jn g ft fe ds (jN nt cap ρ1)).bind λq=>.ok (.lst q.1,jq own q.2 nt cap ρ1) else .bad):=h;by_cases z:ds.length<=sizeLine
  ·rw [if_pos z] at h;cases e:jn g ft fe ds (jN nt cap ρ1) with
   | exc c=>exact absurd e (Jb _ _ _ _)
   | bad=>rw [e] at h; exact (d h).elim
   | ok p=>obtain ⟨ys,ρe⟩:=p;rw [e] at h;exact λJ F1 H1 a k it=>⟨ds,ρ1,ys,ρe,F1,z,e,a,k,it,h⟩
  ·rw [if_neg z] at h; exact (d h).elim
theorem GJ (P:X.calm=fm) (S:ScOk X scope) (R:CapOk X scope N nt cap) (hi:PI X tg iter (tIt C own fi))
  (hg:∀ fp L s' H',PG (qT X scope N fp L s' H') tg (tGd (ctC C nt cap.length) (vH own nt cap) g)) (ht:∀ fp L s' H',PTs (qT X scope N fp L s' H') ifs (tT (ctC C nt cap.length) (vH own nt cap) ft))
  (E:∀ fp L s' H',PE (qT X scope N fp L s' H') elt (tE (ctC C nt cap.length) (vH own nt cap) me fe)) (i:me≠.any:=by decide) (hs:∀ x,foldedSetIterable iter X.env x=pure x:=by intro _; rfl) :
  PE X (.ListComp elt [⟨tg,iter,ifs,0⟩] scope pos) (tE C own .fr (qB own nt cap fi g ft fe)):=by
 refine ⟨?_⟩;intro pins s σ H Q I ⟨F,ρ,l,h⟩;rw [eval_ListComp];have n:=gX (α:=Unit) (Z:=λr=>Po C own .fr σ F H r Q) l (λz=>z) (λc _ z=>z) h;refine wpAny_comprehension_free (use:=fg) rfl hs (xO (yM I S)) S.kind S.names (thn (hi pins s σ H _ I n) λV s1 h1=>thn h1 λt s2 h2=>?_);obtain ⟨it,fp,tn,J,H2,e,M,T,K,f2,ds,ρ1,ys,ρe,F1,y,a,b,k,O,po⟩:=h2;subst e;refine gW (RR:=λacc U=>compPost (model X.prog X.w) X.A X.xe fg (EP X pins σ Q) acc U) M P S R T K f2 b O y hg ht E i a λp L s' F' H' hp d G nF o f D v=>?_;obtain ⟨m,B⟩:=f;refine ⟨m,B,λh' j=>⟨.ref p,H',v h' j,rfl,?_⟩⟩;refine po (.ref p) F' H' d (k.trans' G) ⟨p,rfl,?_,nF,o⟩;cases q:H p with
 | none=>rfl
 | some u=>exact absurd hp (k.stay p (by rw [q]; simp))
theorem Xb {pos' spos:Pos} (hN:X.N.Nodup) (V:X.N[i]?=ff x) (hx:Loc X.env.scope x) (P:X.calm=fm) (S:ScOk X scope) (CO:CapOk X scope N nt cap) (hi:PI X tg iter (tIt C own fi))
  (hg:∀ fp L s' H',PG (qT X scope N fp L s' H') tg (tGd (ctC C nt cap.length) (vH own nt cap) g)) (ht:∀ fp L s' H',PTs (qT X scope N fp L s' H') ifs (tT (ctC C nt cap.length) (vH own nt cap) ft))
  (he:∀ fp L s' H',PE (qT X scope N fp L s' H') elt (tE (ctC C nt cap.length) (vH own nt cap) me fe)) (M:me≠.any:=by decide) (W:i∉C.io:=by exact wX rfl)
  (E:swapsWith (.ListComp elt [⟨tg,iter,ifs,0⟩] scope pos) (ff (.Name x pos')) spos.line X.env=pure true:=by rfl) (hs:∀ x,foldedSetIterable iter X.env x=pure x:=by intro _; rfl)
  (Y:X.fn x=fm\/X.env.scope.names.lookup x=ff .local:=by first | exact .inl rfl | exact .inr rfl) :
  PS X (.Assign [.Name x pos'] (.ListComp elt [⟨tg,iter,ifs,0⟩] scope pos) spos) (tSt C own (i::kI own [i]) (kf i (qB own nt cap fi g ft fe))):=by
 refine ⟨?_⟩;intro pins s σ H D I ⟨F,ρ,rp,h⟩;rw [exec_Assign_Name_used _ _ _ _ E];refine fh (wpAny_standAt (fh ?_));show wpAny _ X.A (do let _ <-comprehension (.ListComp elt [⟨tg,iter,ifs,0⟩] scope pos) scope X.env _ (newList []) fk (eval iter X.env) (ff (assign (.Name x pos') X.env))) _ _ s;have n:=gX (α:=Unit) (Z:=λr=>PoS C own (i::kI own [i]) σ F H (r.bind λp=>if i < p.2.length then .ok (.nx,p.2.set i (ff p.1)) else .bad) D) rp (λz=>z) (λc _ z=>z) h;refine fh (g7 (wpAny_comprehension_free (use:=ff (assign (.Name x pos') X.env)) (Q:=λ_ s'=>SP X pins D .next s') rfl hs (xO (yM I S)) S.kind S.names (thn (hi pins s σ H _ I n) λxv s1 h1=>thn h1 λitv s2 h2=>?_)) (λ_ s' hq=>fy (fy hq)) λ_ _ e=>e);obtain ⟨it,fp,tn,J,H2,e,I2,T,K,f2,ds,ρ1,ys,ρe,F1,hz,f,t,c1,O,po⟩:=h2;subst e;refine gW (RR:=λacc C'=>compPost (model X.prog X.w) X.A X.xe (ff (assign (.Name x pos') X.env)) (λ_ s'=>SP X pins D .next s') acc C') I2 P S CO T K f2 t O hz hg ht he M f λp L s' F' H' hp d c' nF o G hfp k=>?_;obtain ⟨m,hn⟩:=G;have I3:Inv X pins σ H' s':=by simpa using k s'.heap (.refl ..)
 have hH:H p=none:=by
  cases q:H p with
  | none=>rfl
  | some u=>exact absurd hp (c1.stay p (by rw [q]; simp))
 show wpAny _ X.A (assign (.Name x pos') X.env (.ref p)) _ _ s';refine wpAny_assign_Name (gx I3 hN V hx (v:=.ref p) rfl (λs4 I4 ⟨a,l,ha⟩=>?_) Y);obtain ⟨f0,f1,f2',f3,f4,f5⟩:=hfp;have nL:L≠a:=by
  rcases ha with z | z;·rw [z]; exact f1
  ·exact λq=>f4 x a z q.symm
 refine ⟨m,hn.sameBut l nL,λh' sb=>?_⟩;have I5:Inv X pins (σ.set i (ff (.ref p))) H' { s4 with heap:=h' }:=by have:=I4.turned (h':=h') (t':=s4.toks) (it:=L) (λb o hb e=>(sb.2 b hb).trans e) f0 f1 f3 f4 f5;exact this
 refine ⟨_,H',I5,?_⟩;have po:PoS C own (i::kI own [i]) σ F H (if i < (jq own ρe nt cap ρ1).length then .ok (.nx,(jq own ρe nt cap ρ1).set i (ff (.lst ys))) else .bad) D:=po;by_cases z:i < (jq own ρe nt cap ρ1).length
 ·rw [if_pos z] at po;refine po _ F' H' ⟨d.putO z nF (λy=>(rp.OA_there y).1 hH) o,c1.trans' c',λb y=>?_,λj U=>ak λy=>W (by rw [y]; exact U)⟩;obtain ⟨j,U,e⟩:=y;by_cases B:j=i;·subst B;rw [aG (by rw [d.len]; exact z)] at e;cases e;exact .inr hH
  ·have R:=(qK j).mp ((ae.mp U).resolve_left B);rw [ak (bp B)] at e;exact .inl ⟨j,R.1,e⟩
 ·rw [if_neg z] at po; exact po.elim
end
def Fly (h:Heap) (ex T:Addr) (cls:fj):Prop:=∃ o vs a ts,h.get? ex=ff o/\o.cls=cls/\o.data=.fields vs/\vs[1]?=ff (.ref T)/\T≠ex/\h.get? T=ff a/\a.data=.fields ts/\ts[3]?=ff .none
def CXk (P:fz) (w:fA):CXT:=λouter H s E e s'=>∃ ex T C H',e=.ref ex/\s'.os=s.os/\hZ s'.gens/\Un (frs outer) [] H H' s.heap s'.heap/\HOk P w H' s'.heap/\Fly s'.heap ex T (.ref C)/\H' ex=fg/\H' T=fg/\s.heap.get? ex=fg/\s.heap.get? T=fg/\E (.ref C) fg H'
def InB (X:Cx) (H:Hp) (s:fq) (ex:Addr) (cls:fj):Prop:=H ex=fg/\X.s₀.heap.get? ex=fg /\
 ((∃ o vs,s.heap.get? ex=ff o/\o.cls=cls/\o.data=.fields vs/\vs[1]?=ff .none)\/∃ T,Fly s.heap ex T cls/\H T=fg/\X.s₀.heap.get? T=fg)
variable {ex:Addr} {T0:Option Addr}
section
variable {cls:fj}
noncomputable def gY (ex:Addr) (T:Option Addr) (X:Cx):List Addr:=ex::(T.toList++frs X.stack)
theorem Ke (I:Inv X pins σ H s) (d:b∈frs X.stack):∃ o,s.heap.get? b=ff o/\∀ vs,o.data≠.fields vs:=(I.stack.mem d).2
theorem WH (hs:X.stack=X.env::X.outer):∀ env∈X.stack,∀ b,env.frame=ff b->b∈frs X.stack:=λenv i b d=>cJ.mpr ⟨env,i,d⟩
structure Gone (X:Cx) (H:Hp) (s:fq) (ex:Addr) (cls:fj) (h2:Heap):Prop where
 keep:∀ b o,s.heap.get? b=ff o->H b≠fg\/(X.s₀.heap.get? b≠fg/\b∉frs X.stack)->h2.get? b=ff o
 slot:∀ b o,s.heap.get? b=ff o->b∈frs X.stack->∃ sl,h2.get? b=ff { o with slots:=sl }
 ok:HOk X.prog X.w H h2
 un:Un (frs X.stack) [] H H s.heap h2\/True
theorem WI {h2:Heap} (I:Inv X pins σ H s) (hex:H ex=fg) (hT:∀ T,T0=ff T->H T=fg) (n1:X.s₀.heap.get? ex=fg) (n2:∀ T,T0=ff T->X.s₀.heap.get? T=fg)
  (st:(bF s.heap (gY ex T0 X)).StaysIn h2) (sl:∀ b o,s.heap.get? b=ff o->(∀ vs,o.data≠.fields vs)->∃ sl,h2.get? b=ff { o with slots:=sl }):Gone X H s ex cls h2:=by
 have keep:∀ b o,s.heap.get? b=ff o->b≠ex->(∀ T,T0=ff T->b≠T)->b∉frs X.stack->h2.get? b=ff o:=λb o e h1 h2 i=>st b o (dt _ e λm=>by
  rcases ae.mp m with q | m;·exact h1 q
  ·rcases bn.mp m with q | q;·exact h2 b (Option.mem_toList.mp q) rfl
   ·exact i q)
 have k1:∀ b o,s.heap.get? b=ff o->H b≠fg->h2.get? b=ff o:=λb o e n=>keep b o e (λq=>n (by rw [q]; exact hex)) (λT h q=>n (by rw [q]; exact hT T h)) λq=>n (I.stkFree b q);refine ⟨λb o e d=>?_,λb o e d=>?_,λb u e=>?_,.inr trivial⟩
 ·rcases d with d | ⟨d,hf⟩
  ·exact k1 b o e d
  ·exact keep b o e (λq=>d (by rw [q]; exact n1)) (λT h q=>d (by rw [q]; exact n2 T h)) hf
 ·obtain ⟨o',a,y⟩:=Ke I d;rw [e] at a; cases a;exact sl b o e y
 ·refine (I.hok b u e).stay (λc v f q=>k1 c v q ?_) (λ_ q=>q) λ_ _ q=>q;rcases f with z | z;·rw [z,e]; simp
  ·rw [z]; simp
theorem gZ {h2:Heap} (I:Inv X pins σ H s) (hT:∀ T,T0=ff T->H T=fg) (n2:∀ T,T0=ff T->X.s₀.heap.get? T=fg) (g:Gone X H s ex cls h2) (c:X.ex=[])
  (tr:h2.Traced (bF s.heap (gY ex T0 X)) ex cls):∃ T,Fly h2 ex T cls/\H T=fg/\X.s₀.heap.get? T=none:=by
 obtain ⟨t,vs,T,w,ts,K,J,G,E,p,l,k,j,D⟩:=tr;have a:∀ o,s.heap.get? T=ff o->(∃ q,T0=ff q/\T=q):=λo e=>by
  have m:T∈gY ex T0 X:=by refine Classical.byContradiction λA=>?_;rw [dt _ e A] at p;cases p
  rcases ae.mp m with q | m;·exact absurd q l
  ·rcases bn.mp m with q | q;·exact ⟨T,Option.mem_toList.mp q,rfl⟩
   ·obtain ⟨o',d,x⟩:=Ke I q;obtain ⟨sl,i⟩:=g.slot T o' d q;rw [k] at i;cases i;exact absurd j (x ts)
 refine ⟨T,⟨t,vs,w,ts,K,J,G,E,l,k,j,D⟩,?_,?_⟩
 ·cases q:H T with
  | none=>rfl
  | some u=>
   have B:=I.hok.lt q;obtain ⟨o,e⟩:∃ o,s.heap.get? T=ff o:=by
    have:=(I.hok T u q)
    have st:=this.stay (H':=H) (h':=s.heap) (λb v _ z=>z) (λ_ z=>z) λ_ _ z=>z;cases z:s.heap.get? T with
    | some o=>exact ⟨o,rfl⟩
    | none=>
     exfalso;cases u with
     | lst xs=>obtain ⟨_,_,_,_,e⟩:=st; rw [z] at e; cases e
     | tup xs=>obtain ⟨_,_,_,_,e,_⟩:=st; rw [z] at e; cases e
     | dK kvs=>obtain ⟨_,_,_,_,o,_,_,e,_⟩:=st; rw [z] at e; cases e
     | dT kvs=>obtain ⟨_,_,_,_,o,_,_,e,_⟩:=st; rw [z] at e; cases e
     | set S n=>obtain ⟨o,_,_,_,e,_⟩:=st; rw [z] at e; cases e
     | ins C dx fs=>obtain ⟨_,_,_,e,_⟩:=st; rw [z] at e; cases e
     | own y=>obtain ⟨_,e⟩:=st; rw [z] at e; cases e
     | xd fs=>obtain ⟨_,⟨_,_,_,e,_⟩,_⟩:=st; rw [z] at e; cases e
     | rng lo hi=>obtain ⟨_,_,_,e⟩:=st; rw [z] at e; cases e
     | frz L u=>obtain ⟨e,_⟩:=st; rw [z] at e; cases e
     | tbl ps=>have e:s.heap.get? T=ff _:=st; rw [z] at e; cases e
     | met f y=>have e:s.heap.get? T=ff _:=st; rw [z] at e; cases e
     | ext φ=>obtain ⟨_,⟨_,e⟩,_⟩:=st; rw [z] at e; cases e
   obtain ⟨r,h,rfl⟩:=a o e;rw [hT _ h] at q; cases q
 ·cases q:X.s₀.heap.get? T with
  | none=>rfl
  | some o=>obtain ⟨o',d⟩:=I.base.there T o q (by rw [c]; simp);obtain ⟨r,h,rfl⟩:=a o' d;rw [n2 _ h] at q; cases q
theorem Vl {E:fj->fq->Prop} {Q:Unit->fq->Prop} (I:Inv X pins σ H s) (h:X.stack=X.env::X.outer) (r:X.env.frame=ff X.env.locals) (c:X.ex=[]) (x:InB X H s ex cls)
  (k:∀ h2 T,Gone X H s ex cls h2->Fly h2 ex T cls->H T=fg->X.s₀.heap.get? T=fg->Q () { s with heap:=h2 }):wpAny (model X.prog X.w) X.A (leaving X.env (.ref ex)) Q E s:=by
 obtain ⟨hex,n1,hx⟩:=x;have F:X.A.frames=ff (X.env::X.outer):=by rw [I.ok.frames,h]
 have B:∀ as,(bF s.heap as).StaysIn s.heap:=λas b o e=>PySem.W.of_hideAll as e;have hl:∀ T0,s.heap.FunFrames (bF s.heap (gY ex T0 X)) (X.env::X.outer):=λT0=>by rw [<-h];exact PySem.W.funFrames_hide I.stack λenv v b C=>ac _ (aP _ (WH h env v b C))
 have q:∀ T0,(bF s.heap (gY ex T0 X)).get? ex=none:=λT0=>dh _ (ae.mpr (.inl rfl));rcases hx with ⟨p,vs,m,j,i,y⟩ | ⟨T,⟨p,vs,u,ts,m,j,i,y,K,J,G,D⟩,hT,n2⟩
 ·refine wpAny_leaving_first (base:=bF s.heap (gY ex fg X)) F (hl fg) r m (B _) (q fg) i y λh2 ⟨st,_,tr,sl⟩=>?_;have g:Gone X H s ex cls h2:=WI I hex (T0:=fg) (λ_ z=>nomatch z) n1 (λ_ z=>nomatch z) st sl;rw [j] at tr;obtain ⟨l,f1,f2,f⟩:=gZ I (T0:=fg) (λ_ z=>nomatch z) (λ_ z=>nomatch z) g c tr;exact k h2 l g f1 f2 f
 ·have d:∀ a,ff T=ff a->H a=none:=λa z=>by cases z; exact hT
  have n:∀ a,ff T=ff a->X.s₀.heap.get? a=none:=λa z=>by cases z; exact n2
  have t:s.heap.Traced (bF s.heap (gY ex (ff T) X)) ex cls:=⟨p,vs,T,u,ts,m,j,i,y,dh _ (ac _ (cj _ (by simp))),K,J,G,D⟩
  refine wpAny_leaving_next (base:=bF s.heap (gY ex (ff T) X)) F (hl (ff T)) r t (B _) (q _) λh2 ⟨st,_,tr,sl⟩=>?_;have g:Gone X H s ex cls h2:=WI I hex d n1 n st sl;obtain ⟨l,f1,f2,f⟩:=gZ I d n g c tr;exact k h2 l g f1 f2 f
end
variable {P:fz} {w:fA} {mg:Str->Option fj} {base h:Heap} {qual:Str} {cd:fj} {outer:List Env} {s0:fq}
section
variable {A:fD} {E:XK}
abbrev cxk (P:fz) (w:fA) (K:Frag) (mg:Str->Option fj) (base:Heap) (N:List Str) (qual:Str) (scope:g6) (f:Addr) (cd:fj) (A:fD) (outer:List Env) (s0:fq) (H0:Hp) (E:XK):Cx:=Ge (CXk P w) P w K mg base N qual scope f cd A outer s0 H0 E
theorem qbA {C:Addr} (I:Inv (cxk P w K mg base N qual scope f cd A outer s0 H0 E) pins σ H s) (x:InB (cxk P w K mg base N qual scope f cd A outer s0 H0 E) H s ex (.ref C)) (k:E (.ref C) fg H):(cxk P w K mg base N qual scope f cd A outer s0 H0 E).xe (.ref ex) s:=by
 refine Vl I rfl rfl rfl x λh2 T g l hT j=>?_;have a:=I.base;have L:∀ b o,s0.heap.get? b=ff o->b≠(cxk P w K mg base N qual scope f cd A outer s0 H0 E).env.locals:=λb o e=>aF (aC (au e) I.ok.above);have t:∀ b o,s0.heap.get? b=ff o->b∉frs outer->b∉frs (cxk P w K mg base N qual scope f cd A outer s0 H0 E).stack:=λb o e d z=>by
  rcases ae.mp (I.stkSub b z) with q | q;·exact L b o e q
  ·exact d q
 have i:∀ b,b∈frs outer->b∈frs (cxk P w K mg base N qual scope f cd A outer s0 H0 E).stack:=λb d=>by show b∈frs (_::outer);unfold frs;rw [cA];exact ac _ d
 refine ⟨ex,T,C,H,rfl,I.os,I.bare,⟨λb o e n d hx=>?_,λb o e n d hx=>?_,a.free,λb o e hx=>?_,a.tups,a.frzs,a.tbls⟩,g.ok,l,x.1,hT,x.2.1,j,k⟩;·exact g.keep b o (a.keep b o e n d hx) (.inr ⟨by show s0.heap.get? b≠fg; rw [e]; simp,t b o e d⟩)
 ·obtain ⟨sl,q⟩:=a.slot b o e n d hx;obtain ⟨c,h⟩:=g.slot b _ q (i b d);exact ⟨c,h⟩
 ·obtain ⟨o',q⟩:=a.there b o e hx;by_cases d:b∈frs (cxk P w K mg base N qual scope f cd A outer s0 H0 E).stack;·obtain ⟨sl,h⟩:=g.slot b o' q d;exact ⟨_,h⟩
  ·exact ⟨o',g.keep b o' q (.inr ⟨by show s0.heap.get? b≠fg; rw [e]; simp,d⟩)⟩
theorem GK {e:fj} (c:X.ex=[]) (I:Inv X pins σ H s) (h:CXk X.prog X.w X.stack H s E e s'):∃ ex C H',e=.ref ex/\Inv X pins σ H' s'/\InB X H' s' ex (.ref C)/\E (.ref C) fg H':=by
 obtain ⟨ex,T,C,H',rfl,os,bare,un,hok,l,e1,i,n1,n2,k⟩:=h;have old:∀ b,s.heap.get? b=fg->X.s₀.heap.get? b=none:=λb d=>by
  cases q:X.s₀.heap.get? b with
  | none=>rfl
  | some o=>obtain ⟨o',a⟩:=I.base.there b o q (by rw [c]; simp);rw [d] at a; cases a
 exact ⟨ex,C,H',rfl,I.call' (ch:=[]) os un hok bare (λb z=>absurd z (by simp)),⟨e1,old ex n1,.inr ⟨T,l,i,old T n2⟩⟩,k⟩
theorem Vm:wU (CXk P w) (cxk P w K mg base N qual scope f cd A outer s0 H0 E) E:=λpins σ H s e s' I h=>by obtain ⟨ex,C,H',rfl,b,x,k⟩:=GK rfl I h;exact qbA b x k
theorem GL {C:Addr} {b:List fj} {d:String} (kin:K.In h) (c:mg x=ff (.ref C)) (q:cG K C b d=fm):OwnCls x C b d mg h:=by
 refine ⟨c,?_⟩;unfold cG at q;split at q
 case h_2=>cases q
 case h_1 dd cd sl lk=>
  split at q
  case h_2=>cases q
  case h_1 C' bm a0 a1 a2 a3 n a5 em es=>
   have g:=q;simp only [aT,beq_iff_eq,Bool.not_eq_true'] at g;obtain ⟨⟨⟨⟨⟨e1,i⟩,l⟩,tl⟩,k⟩,t⟩:=g;obtain ⟨nm,bs,mro,ns,a,hd,sn,sub,ab,col,del⟩:=cd;dsimp only at em l k t;obtain ⟨s⟩:=sl;dsimp only at es;subst em l es e1 i;exact ⟨bm,ns,nm,a,bs,hd,sn,sub,ab,col,dd,a0,a1,a2,a3,a5,_,kin _ _ lk,.of_isNs (PySem.W.isNs_of_in kin k),PySem.W.nsMap_none_of_in kin k t,PySem.W.tail_of_in kin tl⟩
end
theorem qbB {T:Addr} (hok:HOk P w H h) (q:H T=ff u):∃ o,h.get? T=ff o:=by
 have st:=hok T u q;cases z:h.get? T with
 | some o=>exact ⟨o,rfl⟩
 | none=>
  exfalso;cases u with
  | lst xs=>obtain ⟨_,_,_,_,e⟩:=st; rw [z] at e; cases e
  | tup xs=>obtain ⟨_,_,_,_,e,_⟩:=st; rw [z] at e; cases e
  | dK kvs=>obtain ⟨_,_,_,_,o,_,_,e,_⟩:=st; rw [z] at e; cases e
  | dT kvs=>obtain ⟨_,_,_,_,o,_,_,e,_⟩:=st; rw [z] at e; cases e
  | set S n=>obtain ⟨o,_,_,_,e,_⟩:=st; rw [z] at e; cases e
  | ins C dx fs=>obtain ⟨_,_,_,e,_⟩:=st; rw [z] at e; cases e
  | own y=>obtain ⟨_,e⟩:=st; rw [z] at e; cases e
  | xd fs=>obtain ⟨_,⟨_,_,_,e,_⟩,_⟩:=st; rw [z] at e; cases e
  | rng lo hi=>obtain ⟨_,_,_,e⟩:=st; rw [z] at e; cases e
  | frz b u=>obtain ⟨e,_⟩:=st; rw [z] at e; cases e
  | tbl ps=>have e:h.get? T=ff _:=st; rw [z] at e; cases e
  | met f y=>have e:h.get? T=ff _:=st; rw [z] at e; cases e
  | ext φ=>obtain ⟨_,⟨_,e⟩,_⟩:=st; rw [z] at e; cases e
abbrev bmV:List fj:=[.type "ValueError",.type "Exception",.type "BaseException",.type "object"]
noncomputable def zj (x:Str) (fr:vI):je:=λρ=>(fr ρ).bind λp=>.exc x p.2
theorem PoS.bindA {as:List AK} {o:Out (List D×Sl)} {k:List D×Sl->Out (Fl×Sl)} {D:Ends} {R:List V->Hp->Prop} (hp:PoS C own own' σ F H (o.bind k) D)
  (h:∀ vs F1 H1 ds ρ1,Rep C.K own F1 H1 σ ρ1->Chg (OA own σ) F H F1 H1->ArgV C.K H F1 H1 σ as vs ds->PoS C own own' σ F1 H1 (k (ds,ρ1)) D->R vs H1):PoA C own as σ F H o R:=by
 cases o with
 | ok p=>obtain ⟨ds,ρ1⟩:=p;exact λvs F1 H1 a c v=>h vs F1 H1 ds ρ1 a c v (PoS.shift (show PoS C own own' σ F H (k (ds,ρ1)) D from hp) (.ofE a c))
 | exc x=>exact hp
 | bad=>exact hp.elim
def Kf (X:Cx) (C:Ct):Prop:=∀ (pins:Pns) (σ:St) (H:Hp) (s:fq) (ex A:Addr),Inv X pins σ H s->InB X H s ex (.ref A)->C.E (.ref A) fg H->X.xe (.ref ex) s
theorem qbC {A:fD}:Kf (cxk P w K mg base N qual scope f cd A outer s0 H0 C.E) C:=λpins σ H s ex A I x k=>qbA I x k
variable {Cc:Addr}
section
variable {fr:vI} {np cpos:Pos}
theorem ArgV.len:∀ {as:List AK} {vs:List V} {ds:List D},ArgV K H0 F H σ as vs ds->vs.length=as.length
 | [],[],[],_=>rfl
 | .vl::as,v::vs,d::ds,h=>congrArg (·+1) (ArgV.len h.2)
 | .sl i::as,v::vs,d::ds,h=>congrArg (·+1) (ArgV.len h.2.2)
 | .fr::as,v::vs,d::ds,h=>congrArg (·+1) (ArgV.len h.2)
 | [],_::_,_,h=>h.elim
 | [],[],_::_,h=>h.elim
 | .vl::_,[],_,h=>h.elim
 | .vl::_,_::_,[],h=>h.elim
 | .sl _::_,[],_,h=>h.elim
 | .sl _::_,_::_,[],h=>h.elim
 | .fr::_,[],_,h=>h.elim
 | .fr::_,_::_,[],h=>h.elim
theorem WJ (d:X.ex=[]) (ht:Kf X C) (P:X.calm=fm) (hg:Gl X x) (m:X.mg x=ff (.ref Cc)) (v:C.cv x=.ref Cc) (q:cG X.K Cc bmV "ValueError.__new__"=fm) (z:PA X (e::es) (tAr C own as fr)) (hsz:as.length<=1000:=by decide) (g:∀ i∈C.ox,i∈own:=by exact wE rfl) (hd:Dbg x:=by decide)
  (j:starEach (e::es) X.env=(fk,eval e X.env)::starEach es X.env:=by exact jj rfl) (l:(backTo cpos (starEach es X.env)).any (·.1)=false:=by rfl) :
  PS X (.Raise (ff (.Call (.Name x np) (e::es) [] cpos)) fg pos) (tSt C own own' (zj x fr)):=by
 refine ⟨?_⟩;intro pins s σ H D I ⟨F,ρ,r,h⟩;obtain ⟨tl,N,nm,p,bs,hdct,sn,sub,ab,col,dd,k0,k1,k2,k3,k5,mN,hC,A,f,T⟩:=(GL I.ok.mod.kin m q).obj;refine wpAny_Raise_call_subT (C:=Cc) (nm:=nm) (q:=p) (N:=N) (bs:=bs) (bm:=tl) (hdct:=hdct) (sn:=sn) (sub:=sub) (ab:=ab) (col:=col) (dd:=dd) (k0:=k0) (k1:=k1) (k2:=k2) (k3:=k3) (k5:=k5)
  PySem.F.excBase_ValueError (mN:=mN) (T.hasType PySem.F.excBase_ValueError.hasBase) (I.ok.hd P) (by rw [j]; show (fk||(backTo cpos (starEach es X.env)).any (·.1))=fk; rw [l]; rfl) f (zb I hg m ⟨rfl,?_⟩ hd)
 have n:tAr C own as fr σ H λvs H1=>vs.length<=sizeLine/\C.E (.ref Cc) fg H1:=by
  refine ⟨F,ρ,r,PoS.bindA h λvs F1 H1 ds ρ1 a M G h1=>⟨?_,?_⟩⟩;·rw [G.len]; exact bu hsz (by rw [fE]; decide)
  ·rw [<-v]; exact h1 F1 H1 a.sub (a.ioIs g) .refl
 have run:=z cpos pins s σ H _ I n;rw [j] at run ⊢;refine dj (g7 run (λus s2 ⟨vs,H2,c,r2,O,B⟩=>?_) λ_ _ y=>y);refine ⟨rfl,by rw [<-r2.length]; exact O,c.bk _ _ hC,A.keeps c.bk,T.keeps c.bk,λh' ex mk=>?_⟩;have J:Inv X pins σ H2 { s2 with heap:=h' }:=c.kept (t':=s2.toks) mk.keeps;obtain ⟨t,h1,h2,L⟩:=mk.there;refine ht pins σ H2 _ ex Cc J ⟨?_,?_,.inl ⟨_,_,h1,rfl,rfl,rfl⟩⟩ B
 ·cases b:H2 ex with
  | none=>rfl
  | some u=>have w:=c.hok.lt b;refine absurd mk.new ?_;obtain ⟨o,e⟩:=qbB c.hok b;rw [e]; simp
 ·cases b:X.s₀.heap.get? ex with
  | none=>rfl
  | some o=>obtain ⟨o',k⟩:=c.base.there ex o b (by rw [d]; simp);rw [mk.new] at k; cases k
end
structure Caught (X:Cx) (pins:Pns) (H:Hp) (s:fq) (ex T Cc:Addr):Prop where
 fly:Fly s.heap ex T (.ref Cc)
 hex:H ex=fg
 hT:H T=fg
 n1:X.s₀.heap.get? ex=fg
 n2:X.s₀.heap.get? T=fg
 pp:∀ p∈X.pn++pins,p.1≠ex/\p.1≠T
section
variable {T:Addr}
theorem Caught.dT (c:Caught X pins H s ex T Cc):∃ o vs,s.heap.get? T=ff o/\o.data=.fields vs:=let ⟨o,vs,a,ts,m,b,z,y,q,l,k,_⟩:=c.fly; ⟨a,ts,l,k⟩
end
def DefOk (P:fz) (w:fA) (K:Frag) (mg:Str->Option fj) (base:Heap) (cv:Str->fj) (k:Nat) (x:Str) (ps:List Str) (ms:List PM) (mr:Mo) (G:jM):Prop:=
 ∃ f fd,FnOk P w K mg base (CXk P w) k f fd ps (spD K cv ms mr G)/\mg x=ff (.ref f)/\keepIn K (.ref f)=fm/\Binds K fd ps []
def vN (K:Frag) (mg:Str->Option fj) (x:Str) (st:Stmt) (ps:List Str):Prop:=∃ f fd,Fun K x x st f fd/\mg x=ff (.ref f)/\Binds K fd ps []
theorem qI {P:fz} {w:fA} {base:Heap} {cv:Str->fj} {k:Nat} {ms:List PM} {mr:Mo} {own':List Nat} {fb:je} (T:vN K mg x st ps) (S:FnScope N ps (ql st))
  (a:∀ (cdv:fj) (f:Addr) (A:fD) (outer:List Env) (s:fq) (H:Hp) (E:XK),Room k (A.deeper (envOfC x (ql st) s.heap.objs.size f cdv)) ->PSs (cxk P w K mg base N x (ql st) f cdv A outer s H E) (kG st) (tSt (qdm K cv E ms mr) (jA 0 ms) own' fb))
  (hl:ms.length=ps.length:=by rfl) (g:∀ i∈Vi 0 ms,i∈own':=by exact wE rfl) (r:mr=.sh\/∀ ds ρ,(fb (qw N ds))≠.ok (.nx,ρ):=by exact .inl rfl):DefOk P w K mg base cv (k+1) x ps ms mr (kW N ms fb):=by
 obtain ⟨f,fd,F,h,d⟩:=T;exact ⟨f,fd,qdS F S hl g r (λcdv A outer s H E c=>a cdv f A outer s H E c) λ_=>.inr rfl,h,F.kp,d⟩
variable {cv:Str->fj}
theorem DefOk.by {k:Nat} {G a:jM} (h:DefOk P w K mg base cv k x ps ms mr G) (e:∀ ds,Out.le (a ds) (G ds)):DefOk P w K mg base cv k x ps ms mr a:=by
 obtain ⟨f,fd,F,r⟩:=h;refine ⟨f,fd,F.imp λvs H Q E ⟨F1,ds,A,b,nd,po⟩=>⟨F1,ds,A,b,nd,?_⟩,r⟩;rcases e ds with z | z;·rw [z] at po; exact po.elim
 ·rw [<-z]; exact po
section
variable {G:jM} {fr:vI} {p:Pos} {k j:Nat}
theorem qG (F:DefOk X.prog X.w X.K X.mg X.base cv j x ps ms mr G) (c:Room k X.A) (D:j<=k) (hx:wU (CXk X.prog X.w) X C.E) (hg:Gl X x) (q:PA X (e::es) (tAr C own as fr)) (v:C.cv=cv:=by rfl) (n:C.K=X.K:=by rfl) (s:ms=as.map gl:=by rfl) (hs:∀ i∈qQ as,i∈own:=by decide) (nd:(qQ as).Nodup:=by decide) (d:frA as<=1:=by decide) (o:∀ i∈C.ox,i∈own:=by exact wE rfl)
  (b:Dbg x:=by decide) (g:starEach (e::es) X.env=(fk,eval e X.env)::starEach es X.env:=by exact jj rfl) (l:(backTo pos (starEach es X.env)).any (·.1)=false:=by exact yp rfl):PE X (.Call (.Name x p) (e::es) [] pos) (tE C own mr (qr as G fr)):=by
 subst v;obtain ⟨f,fd,F,h,a,m⟩:=F;rw [<-n] at F;exact GG (by rw [<-n]; exact F) (c.mono D) hg h a m hx q s hs nd d o b g l
noncomputable def GM:D->Out D
 | .int i=>.ok (.int (-i))
 | _=>.bad
theorem Kg:UnD X C .sh (unaryOp .USub) GM:=by
 intro pins s σ H x v Q I d h;obtain ⟨F,dx,A,t,po⟩:=h;cases dx <;> try exact po.elim
 obtain rfl:=t.int;exact qba pins s σ H _ v Q I d ⟨_,rfl,po _ F H A .refl (.int _)⟩
end
noncomputable def uI:Option (Option D)->Bool
 | some (ff (.lst _))=>fm
 | _=>fk
noncomputable def yu (i:Nat) (g:List D->D->Out (List D)) (fe:qO):qO:=λρ=>if uI ρ[i]?=fm then (fe ρ).bind λp=>match p.2[i]? with
 | some (ff (.lst xs))=>match g xs p.1 with
  | .ok ys=>.ok (.non,p.2.set i (ff (.lst ys)))
  | _=>.bad
 | _=>.bad
 else .bad
noncomputable def gp (xs:List D) (d:D):Out (List D):=if xs.length < sizeLine then .ok (xs++[d]) else .bad
noncomputable def qaJ (xs:List D):D->Out (List D)
 | .lst ys=>if xs.length+ys.length<=sizeLine then .ok (xs++ys) else .bad
 | .tup ys=>if xs.length+ys.length<=sizeLine then .ok (xs++ys) else .bad
 | _=>.bad
section
variable {fe:qO}
theorem Rep.write (r:Rep K own F H σ ρ) (hi:i∈own) (g:σ[i]?=ff (ff (V.ref a))) (ow:OwnIs K F (upd H a u) a d):Rep K own F (upd H a u) σ (ρ.set i (ff d))/\Chg (OA own σ) F H F (upd H a u):=by
 obtain ⟨f,h⟩:=r.opn i hi;obtain ⟨l,e1,E,k⟩:=r.ow i f hi h;rw [g] at e1; cases e1;have hl:i < ρ.length:=(aq.mp h).1;refine ⟨⟨λb o e=>by rw [qp (qx e E)]; exact r.sub b o e,by simp [r.len],λj d' D e=>?_,λj d' D e=>?_,λj D=>?_,r.dis⟩,⟨λb o e n=>?_,λb e=>?_,Same.refl _,λb e=>.inl e⟩⟩;·rw [ak (λz=>D (by rw [<-z]; exact hi))] at e;exact r.val j d' D e
 ·by_cases q:j=i;·subst q;rw [aG hl] at e;cases e;exact ⟨a,g,E,ow⟩
  ·rw [ak (bp q)] at e;obtain ⟨b,h1,h2,c⟩:=r.ow j d' D e;have A:b≠a:=λz=>by subst z; exact q (r.dis j i b D hi h1 g)
   exact ⟨b,h1,h2,c.grow (Same.refl _) λo z=>by rw [qp A]; exact z⟩
 ·by_cases q:j=i;·subst q; exact ⟨d,aG hl⟩
  ·rw [ak (bp q)]; exact r.opn j D
 ·have A:b≠a:=λz=>n (by rw [z]; exact ⟨i,hi,g⟩);rw [qp A]; exact e
 ·by_cases q:b=a;·rw [q,qf]; simp
  ·rw [qp q]; exact e
theorem Kh {o:Option (Option D)} (h:uI o=fm):∃ xs,o=ff (ff (.lst xs)):=by
 unfold uI at h;split at h;·exact ⟨_,rfl⟩
 ·cases h
theorem Ki {g:List D->D->Out (List D)} {R:V->V->Hp->VK->Prop} {σ:St} {H:Hp} {Q:VK} (l:i∈own) (t:m≠.any)
  (j:∀ (a:Addr) (xs:List V) (ds ys:List D) (v:V) (d:D) (F H:Hp),Same F H->H a=ff (.lst xs)->F a=fg->IsL C.K F xs ds->Is C.K F v d->g ds d=.ok ys->(∀ zs,IsL C.K F zs ys->Q .non (upd H a (.lst zs)))->R (.ref a) v H Q)
  (h:tE C own .sh (yu i g fe) σ H Q):∃ a xs,σ[i]?=ff (ff (V.ref a))/\H a=ff (.lst xs)/\tE C own .sh fe σ H λv H1=>R (.ref a) v H1 Q:=by
 obtain ⟨F,ρ,p,h⟩:=h;unfold yu at h;by_cases q:uI ρ[i]?=fm
 ·rw [if_pos q] at h;obtain ⟨ds,hd⟩:=Kh q;obtain ⟨a,h1,h2,xs,k,w⟩:=p.ow i _ l hd;refine ⟨a,xs,h1,k,F,ρ,p,Po.bind h λv F1 H1 d ρ1 r x f po=>?_⟩;cases b:ρ1[i]? with
  | none=>simp only [b] at po; exact po.elim
  | some o=>
   cases o with
   | none=>simp only [b] at po; exact po.elim
   | some dd=>
    simp only [b] at po;cases dd with
    | lst es=>
     simp only at po;cases e:g es d with
     | ok ys=>simp only [e] at po;obtain ⟨y,e1,s,vs,E,n⟩:=r.ow i _ l b;rw [h1] at e1; cases e1;refine j a vs es ys v d F1 H1 r.sub E s n f e λzs z=>?_;obtain ⟨r2,c2⟩:=r.write (u:=.lst zs) (d:=.lst ys) l h1 ⟨zs,qf,z⟩;exact po .non F1 _ r2 c2 .non
     | exc c o=>simp only [e] at po; exact po.elim
     | bad=>simp only [e] at po; exact po.elim
    | _=>exact po.elim
 ·rw [if_neg q] at h; exact h.elim
theorem vP {px apos cpos:Pos} (t:C.K=X.K) (r:X.N[i]?=ff x) (n:Vis X.env.scope x) (o:i∈own) (p:PE X e (tE C own m fe)) (j:m≠.any:=by decide)
  (hd:Dbg x:=by decide) (f:Cdk x:=by decide)
  (c:attributeBase (.Name x px) "append" X.env (eval (.Name x px) X.env)=eval (.Name x px) X.env:=by rfl)
  (w:((backTo cpos (starEach [e] X.env)).all (λx=>!x.1)&&(backToKw cpos (keywordEach [] X.env)).all (λx=>x.1.isSome)
   && decide ([e].length+([]:List fN).length+(if ([]:List fN).isEmpty then 0 else 1) < 30))=true:=by exact wY rfl)
  (b:(apos.endLine == cpos.line)=true:=by rfl) (hs:starEach [e] X.env=[(fk,eval e X.env)]:=by exact qy rfl) :
  PE X (.Call (.Attribute (.Name x px) "append" apos) [e] [] cpos) (tE C own .sh (yu i gp fe)):=by
 refine ji (YE cQ PySem.F.slot_list_append PySem.F.type_list_append gH (yD r n hd f) (qA (uC p j) qY hs) c w b hs rfl) λσ H Q h=>?_;have q:∀ (a:Addr) (xs:List V) (ds ys:List D) (v:V) (d:D) (F H:Hp),Same F H->H a=ff (.lst xs)->F a=fg->IsL C.K F xs ds->Is C.K F v d->gp ds d=.ok ys->(∀ zs,IsL C.K F zs ys->Q .non (upd H a (.lst zs)))->QU (.ref a) [v] H Q:=λa xs ds ys v d F H A s u ix l g k=>by
  unfold gp at g;split at g;·cases g;exact ⟨a,xs,v,rfl,rfl,s,by rw [ix.length]; assumption,k _ (ix.append (.cons l .nil))⟩
  ·cases g
 obtain ⟨a,xs,h1,h2,k⟩:=Ki (R:=λx v H Q=>QU x [v] H Q) o j q h;exact ⟨.ref a,h1,.inl ⟨rfl,xs,.inl (.inl h2)⟩,k⟩
theorem Qa {px apos cpos:Pos} (G:X.N[i]?=ff x) (y:Vis X.env.scope x) (l:i∈own) (A:PE X e (tE C own .fr fe))
  (hd:Dbg x:=by decide) (j:Cdk x:=by decide)
  (f:attributeBase (.Name x px) "extend" X.env (eval (.Name x px) X.env)=eval (.Name x px) X.env:=by rfl)
  (w:((backTo cpos (starEach [e] X.env)).all (λx=>!x.1)&&(backToKw cpos (keywordEach [] X.env)).all (λx=>x.1.isSome)
   && decide ([e].length+([]:List fN).length+(if ([]:List fN).isEmpty then 0 else 1) < 30))=true:=by exact wY rfl)
  (c:(apos.endLine == cpos.line)=true:=by rfl) (hs:starEach [e] X.env=[(fk,eval e X.env)]:=by exact qy rfl) :
  PE X (.Call (.Attribute (.Name x px) "extend" apos) [e] [] cpos) (tE C own .sh (yu i qaJ fe)):=by
 refine ji (YE cQ PySem.F.slot_list_extend PySem.F.type_list_extend VX (yD G y hd j) (qA A qY hs) f w c hs rfl) λσ H Q ⟨F,ρ,p,h⟩=>?_;unfold yu at h;by_cases q:uI ρ[i]?=fm
 ·rw [if_pos q] at h;obtain ⟨ds,hd⟩:=Kh q;obtain ⟨a,h1,h2,xs,I,K⟩:=p.ow i _ l hd;refine ⟨.ref a,h1,.inl ⟨rfl,xs,.inl (.inl I)⟩,F,ρ,p,Po.bind h λv F1 H1 d ρ1 r M m po=>?_⟩;obtain ⟨b,rfl,E,B,k⟩:=m;cases g:ρ1[i]? with
  | none=>simp only [g] at po; exact po.elim
  | some o=>
   cases o with
   | none=>simp only [g] at po; exact po.elim
   | some dd=>
    simp only [g] at po;cases dd with
    | lst es=>
     simp only at po;obtain ⟨O,e1,L,vs,J,s⟩:=r.ow i _ l g;rw [h1] at e1; cases e1;cases d with
     | lst ys=>
      obtain ⟨zs,t,n⟩:=k;have po:Po C own .sh σ F1 H1 (match (if es.length+ys.length<=sizeLine then .ok (es++ys) else .bad:Out (List D)) with | .ok ys=>.ok (.non,ρ1.set i (ff (.lst ys))) | _=>.bad) Q:=po;by_cases z:es.length+ys.length<=sizeLine;·rw [if_pos z] at po;refine ⟨a,b,vs,zs,rfl,rfl,J,t,by rw [s.length,n.length]; exact z,?_⟩;obtain ⟨r2,c2⟩:=r.write (u:=.lst (vs++zs)) (d:=.lst (es++ys)) l h1 ⟨_,qf,s.append n⟩;exact po .non F1 _ r2 c2 .non
      ·rw [if_neg z] at po; exact po.elim
     | dct ys=>exact po.elim
     | ins _ _=>exact po.elim
     | at_ _ _=>exact po.elim
     | _=>exact k.elim
    | _=>exact po.elim
 ·rw [if_neg q] at h; exact h.elim
end
noncomputable def scB (names:List (Str×fU)) (scope:g6):Bool:=decide (scope.kind=.function)&&scope.names.all λy=>decide (y.2≠.cell)&&(!decide (y.2=.local)||decide (scope.names.lookup y.1=ff .local)) &&
 (!decide (y.2=.free)||((decide (names.lookup y.1=ff .cell)||decide (names.lookup y.1=ff .free))&&decide (scope.names.lookup y.1=ff .free)))
variable {names:List (Str×fU)}
theorem qbD (h:X.env.scope.names=names) (b:scB names scope=fm):ScOk X scope:=by
 subst h;unfold scB at b;rw [aT,aO] at b;obtain ⟨c,a⟩:=b;refine ⟨of_decide_eq_true c,λy D=>?_,λy D e=>?_,λy D e=>?_,λy D e=>?_⟩;all_goals
  have q:=a y D;simp only [aT,Bool.or_eq_true,Bool.not_eq_true',decide_eq_true_eq,decide_eq_false_iff_not] at q
 ·exact q.1.1
 ·exact q.1.2.resolve_left λz=>z e
 ·exact (q.2.resolve_left λz=>z e).1
 ·exact (q.2.resolve_left λz=>z e).2
noncomputable def qcE (names:List (Str×fU)) (N:List Str) (scope:g6) (c:List Str) (nt:Nat) (cap:List Nat):Bool:=decide cap.Nodup&&decide (c.length=nt+cap.length)&&(aB cap.length).all λj=>match cap[j]? with
 | some k=>match c[nt+j]? with
  | some x=>decide (N[k]?=ff x)&&(((decide (names.lookup x=ff .local)||decide (names.lookup x=ff .cell)||decide (names.lookup x=ff .free))&&decide ((x,bo)∈scope.names))||scope.names.all λy=>decide (y.1≠x))
  | none=>fk
 | none=>fk
theorem Zn {c:List Str} (a:X.env.scope.names=names) (d:X.N=N) (b:qcE names N scope c nt cap=fm):CapOk X scope c nt cap:=by
 subst a d;unfold qcE at b;rw [aT,aT,aO] at b;obtain ⟨⟨i,g⟩,f⟩:=b;refine ⟨of_decide_eq_true i,of_decide_eq_true g,λj k D=>?_⟩;have q:=f j (aK.mpr (aq.mp D).1);rw [D] at q;cases e:c[nt+j]? with
 | none=>simp only [e] at q; cases q
 | some x=>
  simp only [e,aT,Bool.or_eq_true,decide_eq_true_eq] at q;refine ⟨x,rfl,q.1,?_⟩;rcases q.2 with ⟨z,q2⟩ | z
  ·refine .inl ⟨?_,q2⟩;rcases z with (z | z) | z;·exact .inl z
   ·exact .inr (.inl z)
   ·exact .inr (.inr z)
  ·refine .inr λk' h=>?_;rw [aO] at z;exact of_decide_eq_true (z (x,k') h) rfl
theorem vQ:wU (CXk P w) X (λ_ _ _=>False):=λ_ _ _ _ _ _ _ h=>by obtain ⟨_,_,_,_,_,_,_,_,_,_,_,_,_,_,k⟩:=h;exact k.elim
noncomputable def qdn (f:qO):qO:=λρ=>(qV f ρ).bind λp=>.ok (.bl (!p.1),p.2)
section
variable {i:Int}
theorem wu (h:∃ t,X.mg x=ff (.int i t)) (hg:Gl X x) (hd:Dbg x:=by decide):PE X (.Name x pos) (tE C own .sh (dC (.int i))):=by obtain ⟨t,h⟩:=h;exact Gs (v:=.int i) hg h ⟨t,rfl⟩ (λ_=>.int i) hd
end
section
variable {a b:Expr} {f fa fb:qO}
noncomputable def yO:D->Out D
 | .lst xs=>.ok (.tup xs)
 | .tup xs=>.ok (.tup xs)
 | _=>.bad
noncomputable def GN:D->Out D
 | .lst xs=>.ok (.lst xs)
 | .tup xs=>.ok (.lst xs)
 | _=>.bad
theorem Kj (n:C.K=X.K):xC X C .sh (.type "tuple") yO:=by
 intro pins s σ H xs us Q I r h;obtain ⟨x,F,dx,rfl,A,a,po⟩:=h;cases dx with
 | lst ds=>obtain ⟨p,vs,rfl,hq,t⟩:=a.lst A;refine wW pins s σ H _ us Q I r ⟨p,vs,rfl,.inl ⟨by rw [<-n]; exact hq,λl hl=>?_⟩⟩;obtain ⟨s2,c2⟩:=yJ (u:=.tup vs) A hl;exact po _ _ _ s2 c2 (.tup (.inl (.inl qf)) (t.mono c2.grow))
 | tup ds=>
  rcases a with a | ⟨_,_,a⟩
  ·have b:=a;cases a with
   | tup hq t=>exact wW pins s σ H _ us Q I r ⟨_,_,rfl,.inr ⟨by rw [<-n]; exact qP A hq,po _ F H A .refl b⟩⟩
  ·exact a.elim
 | _=>exact po.elim
theorem GO (n:C.K=X.K):xC X C .fr (.type "list") GN:=by
 intro pins s σ H xs us Q I r h;obtain ⟨x,F,dx,rfl,A,a,po⟩:=h;cases dx with
 | lst ds=>obtain ⟨p,vs,rfl,hq,t⟩:=a.lst A;refine uU pins s σ H _ us Q I r ⟨p,vs,rfl,.inl (by rw [<-n]; exact hq),λl hl=>?_⟩;obtain ⟨s2,c2,E⟩:=jL (u:=.lst vs) A hl;exact po _ _ _ s2 c2 ⟨l,rfl,hl,E,vs,qf,t⟩
 | tup ds=>obtain ⟨p,vs,rfl,hq,t⟩:=a.tup A;refine uU pins s σ H _ us Q I r ⟨p,vs,rfl,.inr (by rw [<-n]; exact hq),λl hl=>?_⟩;obtain ⟨s2,c2,E⟩:=jL (u:=.lst vs) A hl;exact po _ _ _ s2 c2 ⟨l,rfl,hl,E,vs,qf,t⟩
 | _=>exact po.elim
def WK (X:Cx) (C:Ct) (m:Mo) (f:fj) (g:D->D->Out D):Prop:=kX X f (λxs H Q=>∃ x y F dx d,xs=[x,y]/\Same F H/\TopIs C.K F H x dx/\TopIs C.K F H y d/\PoV C m F H (g dx d) Q)
theorem Kk {Q:VK} (k:ma≠.any) (h:tE C own m (d2 g fa fb) σ H Q):YB (tE C own ma fa) (YB (tE C own mb fb) qcA) σ H λxs H1=>∃ x y F dx a,xs=[x,y]/\Same F H1/\TopIs C.K F H1 x dx/\TopIs C.K F H1 y a/\PoV C m F H1 (g dx a) Q:=by
 obtain ⟨F,ρ,n,h⟩:=gK (mb:=mb) k h;refine ⟨F,ρ,n,?_⟩;cases q:fa ρ with
 | ok p=>
  rw [q] at h;obtain ⟨d,ρ1⟩:=p;intro v F1 H1 e o j;obtain ⟨t,ρ2,b,h2⟩:=h v F1 H1 e o j;refine ⟨t,ρ2,b,?_⟩;cases f:fb ρ2 with
  | ok p=>rw [f] at h2;obtain ⟨d',l⟩:=p;intro w u s r I i;obtain ⟨L,dx,a,z⟩:=h2 w u s r I i;exact ⟨v,w,L,dx,a,rfl,z⟩
  | exc c=>rw [f] at h2; exact h2
  | bad=>rw [f] at h2; exact h2.elim
 | exc c=>rw [q] at h; exact h
 | bad=>rw [q] at h; exact h.elim
theorem Qb {id:String} {p:Pos} (e:WK X C m (.builtin id) g) (hg:Gl X x) (d:X.mg x=fg) (v:bootBuiltins x=ff (.builtin id)) (j:PE X a (tE C own ma fa)) (i:PE X b (tE C own mb fb)) (f:ma≠.any:=by decide) (n:x ≠ "__name__":=by decide) (c:Dbg x:=by decide)
  (h1:starEach [a,b] X.env=(fk,eval a X.env)::starEach [b] X.env:=by rfl) (h2:starEach [b] X.env=[(fk,eval b X.env)]:=by exact qy rfl):PE X (.Call (.Name x p) [a,b] [] pos) (tE C own m (d2 g fa fb)):=
 ji (wn e hg d v (qA j (qA i qY h2) h1) n c (by rw [h1]) (by rw [h2]; rfl)) λ_ _ _ h=>Kk f h
noncomputable def qcF:D->D->Out D:=JR λi j=>.ok (.int (if j > i then j else i))
noncomputable def qcG:D->D->Out D:=JR λi j=>.ok (.int (if j < i then j else i))
theorem qbE (d:X.calm=fm):WK X C .sh (.builtin "max") qcF:=by
 intro pins s σ H xs us Q I r h;obtain ⟨x,y,F,dx,a,rfl,A,t,ty,po⟩:=h;cases dx <;> try exact po.elim
 cases a <;> try exact po.elim
 obtain rfl:=t.int;obtain rfl:=ty.int;exact VT d pins s σ H _ us Q I r ⟨_,_,rfl,po _ F H A .refl (.int _)⟩
theorem qbF (d:X.calm=fm):WK X C .sh (.builtin "min") qcG:=by
 intro pins s σ H xs us Q I r h;obtain ⟨x,y,F,dx,a,rfl,A,t,ty,po⟩:=h;cases dx <;> try exact po.elim
 cases a <;> try exact po.elim
 obtain rfl:=t.int;obtain rfl:=ty.int;exact VU d pins s σ H _ us Q I r ⟨_,_,rfl,po _ F H A .refl (.int _)⟩
noncomputable def jB (a T:String):Option Bool:=if (e7 a == e7 T)=fm then ff fm else if PySem.W.kitMeta T=fm then (fastBuiltinMro a).map (·.contains (.type T)) else fg
theorem Xc (K:Frag) (a T:String):bI K (.type a) (.type T)=jB a T:=rfl
noncomputable def tyN:D->Option String
 | .non=>ff "NoneType"
 | .bl _=>ff "bool"
 | .int _=>ff "int"
 | .str _=>ff "str"
 | .tup _=>ff "tuple"
 | .lst _=>ff "list"
 | .dct _=>ff "dict"
 | _=>fg
noncomputable def zk (T:String) (d:D):Out D:=match tyN d with
 | some a=>match jB a T with
  | some b=>.ok (.bl b)
  | none=>.bad
 | none=>.bad
theorem Xd (i:C.K=X.K):kX X (.builtin "isinstance") (λxs H Q=>∃ x F d,xs=[x,.ty T]/\Same F H/\TopIs C.K F H x d/\PoV C .sh F H (zk T d) Q):=by
 intro pins s σ H xs us Q I r h;obtain ⟨x,F,d,rfl,A,f,po⟩:=h;obtain ⟨u,c,rfl,B,j⟩:=Gc r;cases j;cases q:tyN d with
 | none=>unfold zk at po; rw [q] at po; exact po.elim
 | some a=>
  cases g:jB a T with
  | none=>unfold zk at po; rw [q] at po; simp only [g] at po; exact po.elim
  | some b=>
   have po:PoV C .sh F H (.ok (.bl b)) Q:=by unfold zk at po; rw [q] at po; simp only [g] at po; exact po
   have fin:∀ tk,EP X pins σ Q (.bool b) { s with toks:=tk }:=λtk=>⟨.bl b,H,I.tok tk,rfl,po _ F H A .refl (.bl b)⟩
   have e:bI X.K (.type a) (.type T)=ff b:=(Xc X.K a T).trans g;cases d with
   | non=>obtain rfl:=f.non; cases B; cases q; exact bX PySem.W.kitx_none I.kIn ck e (λz=>nomatch z) fin
   | bl y=>obtain rfl:=f.bl; cases B; cases q; exact bX PySem.W.kitx_bool I.kIn ck e (λz=>nomatch z) fin
   | int y=>obtain rfl:=f.int; obtain ⟨t,rfl⟩:=B; cases q; exact bX PySem.W.kitx_int I.kIn ck e (λz=>nomatch z) fin
   | str y=>obtain ⟨rfl,_⟩:=f.str; obtain ⟨t,rfl⟩:=B; cases q; exact bX PySem.W.kitx_str I.kIn ck e (λz=>nomatch z) fin
   | tup y=>obtain ⟨p,vs,rfl,hq,t⟩:=f.tup A;cases B; cases q;obtain ⟨its,_,⟨o,h1,h2,_⟩,_⟩:=I.tuple (show SqT X.K H p vs by rw [<-i]; exact hq);exact bX PySem.W.kitx_tuple I.kIn ⟨o,h1,h2⟩ e (λz=>nomatch z) fin
   | lst y=>obtain ⟨p,vs,rfl,hq,t⟩:=f.lst A;cases B; cases q;obtain ⟨its,_,⟨o,n,h1,h2,_⟩,_⟩:=I.list (show SqL X.K H p vs by rw [<-i]; exact hq);exact bX PySem.W.kitx_list I.kIn ⟨o,h1,h2⟩ e (λz=>nomatch z) fin
   | dct y=>
    obtain ⟨p,vs,rfl,hq,t⟩:=f.dct A;cases B; cases q;obtain ⟨_,_,ws,_,o,es,ep,h1,h2,_⟩:=(show ObjOk X.prog X.w H s.heap p (.dK vs) from I.hok p _ hq)
    exact bX PySem.W.kitx_dict I.kIn ⟨o,h1,h2.1⟩ e (λz=>nomatch z) fin
   | _=>cases q
theorem xP {tn:Str} {p t:Pos} (l:C.K=X.K) (hg:Gl X "isinstance") (j:X.mg "isinstance"=fg) (i:bootBuiltins "isinstance"=ff (.builtin "isinstance")) (ht:Gl X tn) (e:X.mg tn=fg) (b:bootBuiltins tn=ff (.type T)) (k:PE X a (tE C own ma fa)) (n:tn ≠ "__name__":=by decide) (f:Dbg tn:=by decide)
  (h1:starEach [a,.Name tn t] X.env=(fk,eval a X.env)::starEach [.Name tn t] X.env:=by rfl) (h2:starEach [.Name tn t] X.env=[(fk,eval (.Name tn t) X.env)]:=by rfl):PE X (.Call (.Name "isinstance" p) [a,.Name tn t] [] pos) (tE C own .sh (d1 (zk T) fa)):=by
 refine ji (wn (Xd (T:=T) l) hg j i (qA k (qA (ZT (v:=.ty T) ht e b rfl n f) qY h2) h1) (by decide) (by decide) (by rw [h1]) (by rw [h2]; rfl)) λσ H Q h=>?_;obtain ⟨F,ρ,g,h⟩:=YK (ma:=ma) h;refine ⟨F,ρ,g,?_⟩;cases q:fa ρ with
 | ok p=>rw [q] at h;obtain ⟨d,ρ1⟩:=p;intro v F1 H1 r o m;obtain ⟨s,dx,z⟩:=h v F1 H1 r o m;exact ⟨v,s,dx,rfl,z⟩
 | exc c=>rw [q] at h; exact h
 | bad=>rw [q] at h; exact h.elim
noncomputable def uW:List D->Option (List Bool)
 | []=>ff []
 | .bl b::ds=>(uW ds).map (b::·)
 | _::_=>fg
noncomputable def VI:D->Out D
 | .lst ds=>match uW ds with
  | some bs=>.ok (.bl (bs.all id))
  | none=>.bad
 | _=>.bad
theorem Xe {us:List fj} {bs:List Bool} (a:IsL K F vs ds) (l:Vals vs us) (e:uW ds=ff bs):us=bs.map b7:=by
 induction ds generalizing vs us bs with
 | nil=>cases a;cases l;cases e;rfl
 | cons d ds j=>
  cases a with
  | cons i a=>
   cases l with
   | cons r l=>
    cases d with
    | bl b=>obtain ⟨c,e1,rfl⟩:=aL.mp (show (uW ds).map (b::·)=ff bs from e);cases i;cases r;rw [j a l e1];rfl
    | _=>cases e
theorem Qc (n:C.K=X.K) (k:X.calm=fm):xC X C .sh (.builtin "all") VI:=by
 intro pins s σ H xs us Q I r h;obtain ⟨x,F,dx,rfl,d,g,po⟩:=h;cases dx <;> try exact po.elim
 rename_i ds;obtain ⟨p,vs,rfl,hq,t⟩:=g.lst d;obtain ⟨u,rfl,B⟩:=vE r;cases B;unfold VI at po;cases q:uW ds with
 | none=>simp only [q] at po; exact po.elim
 | some bs=>
  simp only [q] at po;obtain ⟨its,j,pl,z⟩:=I.list (show SqL X.K H p vs by rw [<-n]; exact hq);have J:=Xe t j q;subst J;have hp:p < s.heap.objs.size:=let ⟨o,h1,_⟩:=pl.isList; au h1;refine call_all_walk (f7 pl.isList ?_);have W:Walks X.prog X.w X.A.in1 s.heap.objs.size [s.heap.objs.size,p] [s.heap.objs.size] (bs.map b7).toArray.size (λi v=>(bs.map b7).toArray[i]?=ff v) (λi h=>h.IsListIter s.heap.objs.size p i/\h.IsList p (bs.map b7).toArray):=e9 (A:=X.A.in1) (show X.A.in1.handled=fg from I.ok.hd k) s.heap.objs.size p (aF hp) _;have st:(s.heap.push { cls:=.type "list_iterator",data:=.fields #[.ref p,.int 0 0] }).IsListIter s.heap.objs.size p 0/\(s.heap.push { cls:=.type "list_iterator",data:=.fields #[.ref p,.int 0 0] }).IsList p (bs.map b7).toArray:=⟨⟨_,ai _ rfl,rfl,rfl⟩,let ⟨o,h1,h2⟩:=pl.isList; ⟨o,aa _ h1,h2⟩⟩
  refine ⟨_,_,_,_,_,_,λi=>(bs[i]?).getD fk,rfl,W,st,λi v s' y E m c=>?_,λh' tk kp=>?_⟩
  ·have m:(bs.map b7).toArray[i]?=ff v:=m;rw [c7,aJ] at m;cases f:bs[i]? with
   | none=>rw [f] at m; cases m
   | some b=>have a:y ((bs[i]?).getD fk) s':=c;rw [f] at m a;cases m;exact fJ a
  ·have e:(aB (bs.map b7).toArray.size).all (λi=>(bs[i]?).getD fk)=bs.all id:=by
    rw [ao,ah,Bool.eq_iff_iff,aO,aO];constructor;·intro h b l;obtain ⟨i,hi,e⟩:=cq.mp l;have:=h i (aK.mpr hi);rw [aw hi,e] at this;exact this
    ·intro h i hi;have hi:=aK.mp hi;rw [aw hi];exact h _ (cx hi)
   rw [e];refine ⟨.bl (bs.all id),H,?_,rfl,po _ F H d .refl (.bl _)⟩;have k2:∀ b o,s.heap.get? b=ff o->h'.get? b=ff o:=λb o J=>kp b o (by simp; exact aF (au J)) (aa _ J);exact I.kept (t':=tk) k2
end
def PoO (C:Ct) (own:List Nat) (σ:St) (F H:Hp) (r:Out (Option Int×Sl)) (Q:Option Int->Hp->Prop):Prop:=match r with
 | .ok (b,ρ')=>∀ F' H',Rep C.K own F' H' σ ρ'->Chg (OA own σ) F H F' H'->Q b H'
 | .exc c ρ'=>∀ F' H',Same F' H'->Yn C.K C.ox F' H' σ ρ'->Chg (OA own σ) F H F' H'->C.E (C.cv c) fg H'
 | .bad=>False
def tO (C:Ct) (own:List Nat) (f:Sl->Out (Option Int×Sl)):TO:=λσ H Q=>∃ F ρ,Rep C.K own F H σ ρ/\PoO C own σ F H (f ρ) Q
noncomputable def zm:Option (qO)->Sl->Out (Option Int×Sl)
 | none,ρ=>.ok (fg,ρ)
 | some f,ρ=>(f ρ).bind λp=>match p.1 with
  | .int i=>.ok (ff i,p.2)
  | _=>.bad
theorem Po.bindO {o:Out (Option Int×Sl)} {k:Option Int×Sl->gJ} {Q:VK} {R:Option Int->Hp->Prop} (hp:Po C own m σ F H (o.bind k) Q)
  (h:∀ F1 H1 b ρ1,Rep C.K own F1 H1 σ ρ1->Chg (OA own σ) F H F1 H1->Po C own m σ F1 H1 (k (b,ρ1)) Q->R b H1):PoO C own σ F H o R:=by
 cases o with
 | ok p=>obtain ⟨d,ρ1⟩:=p;exact λF1 H1 a c=>h F1 H1 d ρ1 a c (Po.shift (show Po C own m σ F H (k (d,ρ1)) Q from hp) c)
 | exc x=>exact hp
 | bad=>exact hp.elim
section
variable {a:Expr} {fa f:qO} {p2:Pos}
theorem Kl:PO X fg (tO C own (zm fg)):=by intro pins s σ H Q I ⟨F,ρ,a,h⟩;exact Gg pins s σ H Q I (h F H a .refl)
theorem Km (h:PE X e (tE C own m f)):PO X (ff e) (tO C own (zm (ff f))):=by
 intro pins s σ H Q I ⟨F,ρ,r,hp⟩;refine Gh h pins s σ H Q I ⟨F,ρ,r,?_⟩;have hp:PoO C own σ F H ((f ρ).bind λp=>match p.1 with | .int i=>.ok (ff i,p.2) | _=>.bad) Q:=hp;cases q:f ρ with
 | ok p=>
  rw [q] at hp;obtain ⟨d,ρ1⟩:=p;cases d with
  | int i=>exact λv F1 H1 a k b=>⟨i,b.top.int,hp F1 H1 a k⟩
  | _=>exact hp.elim
 | exc c=>rw [q] at hp; exact hp
 | bad=>rw [q] at hp; exact hp.elim
end
noncomputable def Its (x:Str):It:=⟨λi _=>i < x.cps.size,λi H v H'=>H'=H/\∃ c,x.cps[i]?=ff c/\v=.str ⟨#[c]⟩,λi _=>x.cps.size<=i⟩
noncomputable def Qd (x:Str):List D:=x.cps.toList.map λc=>.str ⟨#[c]⟩
theorem Kn {P:fz} {w:fA} {K:Frag} {tg:Expr} (it:Addr) (x:Str) (t:Tok) (ty:String) (B:["enumerate", "zip", "dict_itemiterator", "dict_reverseitemiterator", "odict_iterator", "itertools.zip_longest", "itertools.pairwise"].contains ty=fk)
  (W:∀ A:fD,A.handled=fg->Walks P w A it [it] [it] x.cps.size (SignAt x) (λi h=>h.IsStrIter it ty x t i)) (y:∀ (A:fD) (i:Nat) (s:fq) (Q:fj->fq->Prop) (E:fj->fq->Prop),s.heap.IsStrIter it ty x t i->Q (.ref it) s->wpAny (model P w) A (pyIter (.ref it)) Q E s) :
  Turn P w K tg (Its x) [it] it (λi h=>h.IsStrIter it ty x t i/\i<=x.cps.size) where
 mem:=by simp
 obj:=λi h st b a=>by
  have e:b=it:=by simpa using a
  subst e;obtain ⟨o,e,c,d⟩:=st.1;exact ⟨o,e,λv z=>by rw [d] at z; cases z⟩
 keep:=λi h h' st k=>by obtain ⟨⟨o,e,r⟩,hi⟩:=st;exact ⟨⟨o,k it (by simp) o e,r⟩,hi⟩
 item:=by
  intro X m j n l i pins s σ H E I f st hg;subst m j n;obtain ⟨f0,f1,f2,p,f4,q⟩:=f it (by simp);refine (W X.A (I.ok.hd l)).item i s _ _ hg st.1 λv h' tk m g kp=>?_;have C:Inv X pins σ H { s with heap:=h',toks:=tk }:=I.turned (t':=tk) (λb o a e=>kp b o (by simpa using a) e) f0 f1 p f4 q;obtain ⟨o,e,c,d⟩:=id g;obtain ⟨T,u,h1,h2⟩:∃ T u,x.cps[i]?=ff T/\v=cr ⟨#[T]⟩ u:=by
   unfold SignAt at m;first
    | exact m
    | (obtain ⟨T,u,h1,h2⟩:=m; exact ⟨T,u,h1,h2⟩)
    | (obtain ⟨T,h1,u,h2⟩:=m; exact ⟨T,u,h1,h2⟩)
    | (obtain ⟨u,T,h1,h2⟩:=m; exact ⟨T,u,h1,h2⟩)
  subst h2;exact ⟨_,rfl,Yx (s:={ s with heap:=h',toks:=tk }) e c d B ⟨.str ⟨#[T]⟩,H,C,⟨u,rfl⟩,⟨rfl,T,h1,rfl⟩,⟨g,hg⟩,λb a=>(f b a).1⟩⟩
 done:=by intro X m j n l i pins s σ H E I f st hg;subst m j n;obtain ⟨f0,f1,f2,p,f4,q⟩:=f it (by simp);have hi:i=x.cps.size:=Nat.le_antisymm st.2 hg;subst hi;exact (W X.A (I.ok.hd l)).done s _ _ st.1 λh' tk kp=>⟨rfl,I.turned (t':=tk) (λb o a e=>kp b o (by simpa using a) e) f0 f1 p f4 q⟩
 self:=λA i s Q E st h=>y A i s Q E st.1 h
theorem qbG:ItIs K F (Its x) (Qd x) where
 go:=λi H hi _=>by
  have:i < x.cps.size:=by simpa [Qd] using hi
  exact this
 yld:=λi Fi H v H' d e s1 s2 y=>by
  obtain ⟨rfl,c,h1,rfl⟩:=y;have e:d=.str ⟨#[c]⟩:=by
   unfold Qd at e;rw [aJ] at e;have h1:x.cps.toList[i]?=ff c:=by simpa using h1
   rw [h1] at e;exact (aI.inj e).symm
  subst e;exact ⟨Fi,.refl,s2,.str (JX c)⟩
 stop:=λi H hi _=>by
  have:x.cps.size<=i:=by simpa [Qd] using hi
  exact this
noncomputable def qZ:D->Out (List D)
 | .lst xs=>.ok xs
 | .tup xs=>.ok xs
 | .str x=>.ok (Qd x)
 | _=>.bad
noncomputable def jg (f:qO):vI:=λρ=>(f ρ).bind λp=>(qZ p.1).bind λds=>.ok (ds,p.2)
section
variable {f:qO}
theorem qbH {l:Expr} {tl:TE} (hl:PE X l tl):PI X tg l (λσ H R=>tl σ H λx H1=>(∃ a,x=.ref a/\(((∃ xs,SqL X.K H1 a xs)/\R (Itl X.K a) H1)\/((∃ xs,SqT X.K H1 a xs)/\R (Itt X.K a) H1)))\/∃ z,x=.str z/\R (Its z) H1):=by
 refine ⟨?_⟩;intro pins s σ H R I h;refine thn (hl pins s σ H _ I h) λv s1 ⟨x,H1,d,r1,c⟩=>?_;have fp:∀ b∈[s1.heap.objs.size],QL X pins H1 b:=λb j=>by
  have e:b=s1.heap.objs.size:=by simpa using j
  subst e;exact d.fpOk (am _) (d.hok.fresh (am _))
 rcases c with ⟨a,rfl,q⟩ | ⟨z,rfl,q⟩
 ·cases r1;rcases q with ⟨⟨xs,hq⟩,q⟩ | ⟨⟨xs,hq⟩,q⟩
  ·obtain ⟨its,r,p,f⟩:=d.list hq;refine f7 p.isList ?_;exact ⟨s1.heap.objs.size,[s1.heap.objs.size],_,_,H1,rfl,d.kept (t':=s1.toks) λb o e=>aa _ e,VN a _,⟨_,ai _ rfl,rfl,rfl⟩,fp,q⟩
  ·obtain ⟨its,r,p,f⟩:=d.tuple hq;refine wpAny_pyIter_tuple (show s1.heap.IsTuple a its.toArray from p) ?_;exact ⟨s1.heap.objs.size,[s1.heap.objs.size],_,_,H1,rfl,d.kept (t':=s1.toks) λb o e=>aa _ e,Va a _,⟨_,ai _ rfl,rfl,rfl⟩,fp,q⟩
 ·obtain ⟨t,rfl⟩:=r1;cases g:z.cps.all (· < 128) with
  | true=>refine wpAny_pyIter_ascii g ?_;exact ⟨s1.heap.objs.size,[s1.heap.objs.size],_,_,H1,rfl,d.kept (t':=s1.toks) λb o e=>aa _ e,Kn _ z t "str_ascii_iterator" (by decide) (λA hA=>Walks.strAscii hA _ z t) (λA i s Q E st h=>wpAny_pyIter_striter_ascii st h),⟨⟨_,ai _ rfl,rfl,rfl⟩,aZ _⟩,fp,q⟩
  | false=>refine wpAny_pyIter_wide g ?_;exact ⟨s1.heap.objs.size,[s1.heap.objs.size],_,_,H1,rfl,d.kept (t':=s1.toks) λb o e=>aa _ e,Kn _ z t "str_iterator" (by decide) (λA hA=>Walks.strWide hA _ z t) (λA i s Q E st h=>wpAny_pyIter_striter_wide st h),⟨⟨_,ai _ rfl,rfl,rfl⟩,aZ _⟩,fp,q⟩
theorem qC (n:C.K=X.K) (h:PE X e (tE C own m f)) (b:m≠.any:=by decide):PI X tg e (tIt C own (jg f)):=by
 refine YX (qbH (uC h b)) λσ H R ⟨F,ρ,r,h⟩=>⟨F,ρ,r,PoI.bindV h λv F1 H1 d ρ1 a k c h1=>?_⟩
 have c:Is C.K F1 v d:=c;cases c with
 | lst p t=>exact .inl ⟨_,rfl,.inl ⟨⟨_,by rw [<-n]; exact a.sub.seq p⟩,by rw [<-n]; exact h1 _ F1 H1 a k (qbx p t)⟩⟩
 | tup p t=>exact .inl ⟨_,rfl,.inr ⟨⟨_,by rw [<-n]; exact qP a.sub p⟩,by rw [<-n]; exact h1 _ F1 H1 a k (qby p t)⟩⟩
 | str z=>exact .inr ⟨_,rfl,h1 _ F1 H1 a k qbG⟩
 | _=>exact h1.elim
end
end L2.D2
namespace L2.D2
open PySem PySem.Spec PySem.Calls PyProof.Rows PySem.W Builtin Builtin.ObjectAttr Builtin.Getset_descriptor
noncomputable def xcB (K:Frag) (C:Addr):Bool:=decide (subIn K (.ref C) (.type "BaseException")=ff fm)&&decide (findIn K (.ref C) "__getattribute__"=ff (ff (.builtin "BaseException.__getattribute__")))&&decide (findIn K (.ref C) "__getattr__"=ff fg) &&
 decide (findIn K (.ref C) "__class__"=ff (ff (.builtin "object.__class__")))&&decide (mroIn K C (.type "object")=ff fm)&&(clsIn K C).isSome
end L2.D2
namespace L2.D2
open PySem PySem.Spec PyProof.Rows
variable {P:fz} {w:fA} {K:Frag} {N:List Str} {A:fD} {C:Ct}
theorem qbI {mg:Str->Option fj} {base:Heap} {qual:Str} {scope:g6} {f:Addr} {cd:fj} {outer:List Env} {s0:fq} {H0:Hp} {E:XK} (h:C.E=E):Kf (cxk P w K mg base N qual scope f cd A outer s0 H0 E) C:=by subst h;exact qbC
noncomputable def qdT (ca:Str->Addr) (cs:List Str) (c:Str):Option Addr:=if c∈cs then ff (ca c) else fg
noncomputable def qdU (ca:Str->Addr) (cs:List Str) (x:Str) (C:Addr):Option Bool:=if C∈cs.map ca then ff (decide (C=ca x)) else fg
structure Xs (K:Frag) (cv:Str->fj) (ca:Str->Addr) (cs:List Str) (top:Str):Prop where
 val:∀ c∈cs,cv c=.ref (ca c)
 own:∀ c∈cs,cW K (.ref (ca c)) (cv top)=ff fm
 cls:∀ c∈cs,xcB K (ca c)=fm
 kit:∀ c∈cs,∀ d∈cs,bI K (.ref (ca c)) (.ref (ca d))=ff (decide (ca c=ca d))
 ve:∀ c∈cs,bI K (.ref (ca c)) (.type "ValueError")=ff fm
variable {x:Str}
section
variable {cv:Str->fj} {ca:Str->Addr} {cs:List Str} {top:Str}
theorem Xs.hit (z:Xs K cv ca cs top):∀ c Cc,qdT ca cs c=ff Cc->cv c=.ref Cc/\cW K (.ref Cc) (cv top)=ff true:=λc Cc h=>by
 unfold qdT at h;split at h;·cases h;exact ⟨z.val c (by assumption),z.own c (by assumption)⟩
 ·cases h
theorem Xs.ans (z:Xs K cv ca cs top) (hx:x∈cs):∀ Cc b,qdU ca cs x Cc=ff b->xcB K Cc=fm/\bI K (.ref Cc) (.ref (ca x))=ff b:=λCc b h=>by
 unfold qdU at h;split at h;·rename_i m;obtain ⟨c,d,rfl⟩:=aA.mp m;cases h;exact ⟨z.cls c d,z.kit c d x hx⟩
 ·cases h
end
inductive SK where
 | l | t
noncomputable def SK.itc:SK->String
 | .l => "list_iterator"
 | .t => "tuple_iterator"
def SeqK (h:Heap) (a:Addr):SK->Array fj->Prop
 | .l,xs=>h.IsList a xs
 | .t,xs=>h.IsTuple a xs
def ItK (h:Heap) (it a:Addr):SK->Nat->Prop
 | .l,i=>h.IsListIter it a i
 | .t,i=>h.IsTupleIter it a i
def SqK (K:Frag) (H:Hp) (a:Addr):SK->List V->Prop
 | .l,xs=>SqL K H a xs
 | .t,xs=>SqT K H a xs
variable {h h':Heap} {a:Addr} {xs:Array fj}
theorem SeqK.at:∀ {k:SK},SeqK h a k xs->(∀ o,h.get? a=ff o->h'.get? a=ff o)->SeqK h' a k xs
 | .l,⟨o,e,c⟩,k=>⟨o,k _ e,c⟩
 | .t,⟨o,e,c⟩,k=>⟨o,k _ e,c⟩
theorem SeqK.lt:∀ {k:SK},SeqK h a k xs->a < h.objs.size
 | .l,⟨o,e,c⟩=>au e
 | .t,⟨o,e,c⟩=>au e
variable {it:Addr} {i:Nat}
theorem ItK.obj:∀ {k:SK},ItK h it a k i->∃ o,h.get? it=ff o/\o.cls=.type k.itc/\o.data=.fields #[.ref a,.int i 0]
 | .l,⟨o,e,c,d⟩=>⟨o,e,c,d⟩
 | .t,⟨o,e,c,d⟩=>⟨o,e,c,d⟩
theorem ItK.of:∀ {k:SK},(∃ o,h.get? it=ff o/\o.cls=.type k.itc/\o.data=.fields #[.ref a,.int i 0])->ItK h it a k i
 | .l,⟨o,e,c,d⟩=>⟨o,e,c,d⟩
 | .t,⟨o,e,c,d⟩=>⟨o,e,c,d⟩
variable {E Q:fj->fq->Prop} {prog:fz} {s:fq} {o:Obj} {n:Nat}
section
theorem qbJ {k:SK} (h:SeqK s.heap a k xs) (c:Q (.ref s.heap.objs.size) { s with heap:=s.heap.push { cls:=.type k.itc,data:=.fields #[.ref a,.int 0 0] } }):wpAny (model prog w) A (pyIter (.ref a)) Q E s:=by
 cases k with
 | l=>exact f7 h c
 | t=>exact wpAny_pyIter_tuple h c
noncomputable def SK.cl:SK->String
 | .l => "list"
 | .t => "tuple"
theorem SeqK.of (e:h.get? a=ff o) (d:o.data=.seq xs n):∀ {k:SK},o.cls=.type k.cl->SeqK h a k xs
 | .l,c=>⟨o,e,c,n,d⟩
 | .t,c=>⟨o,e,c,n,d⟩
end
noncomputable def VJ:D->Option Key
 | .int i=>ff (.inl i)
 | .str x=>ff (.inr x)
 | _=>fg
noncomputable def WL (kvs:List (Key×D)) (k:Key) (d:D):List (Key×D):=if kvs.any (λp=>decide (p.1=k)) then kvs.map λp=>if p.1=k then (p.1,d) else p else kvs++[(k,d)]
variable {F H:Hp} {v:V} {d:D} {ds:List D}
theorem Zo (A:Same F H) (h:TopIs K F H v d) (e:WC d=.ok ds):∃ a k xs,v=.ref a/\SqK K H a k xs/\IsL K F xs ds:=by
 cases d with
 | lst es=>cases e; obtain ⟨a,xs,rfl,q,t⟩:=h.lst A; exact ⟨a,.l,xs,rfl,q,t⟩
 | tup es=>cases e; obtain ⟨a,xs,rfl,q,t⟩:=h.tup A; exact ⟨a,.t,xs,rfl,q,t⟩
 | _=>cases e
theorem IsK.any {k:Key}:∀ {kv:List (Key×V)} {ks:List (Key×D)},IsK K F kv ks->(kv.any λp=>decide (p.1=k))=(ks.any λp=>decide (p.1=k))
 | _,_,.nil=>rfl
 | _,_,.cons h t=>by rw [cF,cF,IsK.any t]
theorem IsK.repl {k:Key} (i:Is K F v d):∀ {kv:List (Key×V)} {ks:List (Key×D)},IsK K F kv ks->IsK K F (kv.map λp=>if p.1=k then (p.1,v) else p) (ks.map λp=>if p.1=k then (p.1,d) else p)
 | _,_,.nil=>.nil
 | _,_,.cons (k:=k') h t=>by
  rw [ax,ax];by_cases e:k'=k;·simp only [e,if_true]; exact .cons i (IsK.repl i t)
  ·simp only [e,if_false]; exact .cons h (IsK.repl i t)
theorem IsK.snoc {k:Key} (i:Is K F v d):∀ {kv:List (Key×V)} {ks:List (Key×D)},IsK K F kv ks->IsK K F (kv++[(k,v)]) (ks++[(k,d)])
 | _,_,.nil=>.cons i .nil
 | _,_,.cons h t=>.cons h (IsK.snoc i t)
variable {kv:List (Key×V)}
theorem IsK.put {k:Key} {ks:List (Key×D)} (h:IsK K F kv ks) (i:Is K F v d):IsK K F (QV kv k v) (WL ks k d):=by
 unfold QV WL;rw [h.any];by_cases e:(ks.any λp=>decide (p.1=k))=fm;·rw [if_pos e,if_pos e]; exact IsK.repl i h
 ·rw [if_neg e,if_neg e]; exact IsK.snoc i h
variable {X:Cx} {pins:Pns} {σ:St} {u:fj} {vs:List V}
section
theorem xL {k:Key} (i:Is C.K F v d) (r:RelV v u) (e:VJ d=ff k):QO k u=true:=by
 cases d with
 | int z=>cases i; cases e; obtain ⟨t,rfl⟩:=r; exact gt z t
 | str z=>cases i; cases e; obtain ⟨t,rfl⟩:=r; exact gu z t
 | _=>cases e
theorem Zp (I:Inv X pins σ H s):∀ {k:SK},SqK X.K H a k vs->∃ its o n,Vals vs its/\s.heap.get? a=ff o/\o.cls=.type k.cl/\o.dict=fg/\o.data=.seq its.toArray n/\vs.length<=sizeLine
 | .l,h=>let ⟨its,r,⟨o,n,e,c,b,hd⟩,z⟩:=I.list h; ⟨its,o,n,r,e,c,b,hd,z⟩
 | .t,h=>by obtain ⟨its,r,⟨o,e,c,n,hd⟩,z⟩:=I.tuple h;obtain ⟨o2,d,b⟩:=I.tupleN h;rw [e] at d; cases d;exact ⟨its,o,n,r,e,c,b,hd,z⟩
noncomputable def Jc (kvs:List (Key×D)) (k:Key):Bool:=kvs.any λp=>decide (p.1=k)
noncomputable def inA:D->D->Out D
 | x,.dct kvs=>match VJ x with
  | some k=>.ok (.bl (Jc kvs k))
  | none=>.bad
 | x,y=>qcB x y
noncomputable def QM:D->D->Out D
 | x,.dct kvs=>match VJ x with
  | some k=>.ok (.bl (!Jc kvs k))
  | none=>.bad
 | x,y=>Vg x y
theorem Ko {ks:List (Key×D)} {k:Key} (h:IsK K F kv ks):(JQ kv k).isSome=Jc ks k:=by rw [<-ze,h.any]; rfl
theorem qdo {k:Key} (h:TopIs C.K F H v d) (e:VJ d=ff k):v=kV k:=by
 cases d with
 | int z=>cases e; exact h.int
 | str z=>cases e; exact h.str.1
 | _=>cases e
theorem Zq (n:C.K=X.K) (f:X.A.units+64 < cLine):OpD X C .sh (compareOp .In) inA:=by
 intro pins s σ H x y v u Q I r c h;obtain ⟨F,dx,d,b,t,ty,po⟩:=h;by_cases hd:∃ kvs,d=.dct kvs
 ·obtain ⟨kvs,rfl⟩:=hd;cases q:VJ dx with
  | none=>unfold inA at po; simp only [q] at po; exact po.elim
  | some k=>
   unfold inA at po;simp only [q] at po;obtain ⟨a,kv,rfl,g,i⟩:=ty.dct b;cases c;have ex:=qdo t q;subst ex;refine qey (by omega) I (DGet.k (k:=k) g) r λs' j=>⟨.bl _,H,j,rfl,?_⟩
   rw [Ko i];exact po _ F H b .refl (.bl _)
 ·have e:inA dx d=qcB dx d:=by cases d <;> first | rfl | exact absurd ⟨_,rfl⟩ hd
  rw [e] at po;exact qdi n f pins s σ H x y v u Q I r c ⟨F,dx,d,b,t,ty,po⟩
theorem uk (n:C.K=X.K) (f:X.A.units+64 < cLine):OpD X C .sh (compareOp .NotIn) QM:=by
 intro pins s σ H x y v u Q I r c h;obtain ⟨F,dx,d,b,t,ty,po⟩:=h;by_cases hd:∃ kvs,d=.dct kvs
 ·obtain ⟨kvs,rfl⟩:=hd;cases q:VJ dx with
  | none=>unfold QM at po; simp only [q] at po; exact po.elim
  | some k=>
   unfold QM at po;simp only [q] at po;obtain ⟨a,kv,rfl,g,i⟩:=ty.dct b;cases c;have ex:=qdo t q;subst ex;refine Gp (by omega) I (DGet.k (k:=k) g) r λs' j=>⟨.bl _,H,j,rfl,?_⟩
   rw [Ko i];exact po _ F H b .refl (.bl _)
 ·have e:QM dx d=Vg dx d:=by cases d <;> first | rfl | exact absurd ⟨_,rfl⟩ hd
  rw [e] at po;exact YS n f pins s σ H x y v u Q I r c ⟨F,dx,d,b,t,ty,po⟩
end
theorem GP (t:fB) (es:Array (Int×fj)) (h:Int) (x:fj):(layNew t es h x).2.1.led=t.led:=by
 unfold layNew;cases t.freeSlot h with
 | none=>rfl
 | some p=>obtain ⟨sl,w⟩:=p;show (SetTable.orStandIn (t.put sl).1 _).led=t.led;unfold SetTable.orStandIn;split <;> rfl
theorem GQ {m f v:Nat} {l p:Bool} {hs:Array Int} {t:fB} {o:Array Nat} (h:eX m f v l p hs=ff (t,o)):t.led=l/\t.plain=p:=by
 unfold eX at h;cases e:SetTable.layClean m hs with
 | none=>rw [e] at h;cases h
 | some ow=>rw [e] at h;have h2:=congrArg Prod.fst (aI.inj h);subst h2;exact ⟨rfl,rfl⟩
theorem Jd (t:fB) (es:Array (Int×fj)) (n:Nat):(relayAll t es n).2.1.led=t.led/\(t.plain=fk->(relayAll t es n).2.1.plain=fk):=by
 unfold relayAll;cases e:t.relaid (es.map (·.1)) n with
 | none=>exact ⟨rfl,λ_=>rfl⟩
 | some q=>
  obtain ⟨t',o⟩:=q;have k:=GQ (show eX _ _ _ _ _ _=ff (t',o) from e);dsimp only;split;·exact ⟨k.1,λz=>k.2.trans z⟩
  ·exact ⟨rfl,λ_=>rfl⟩
variable {κ:Type}
noncomputable def ju [DecidableEq κ] (ks:List κ) (x:κ):List κ:=if x∈ks then ks else ks++[x]
noncomputable def Kp (ks:List Str) (x:Str):List Str:=if x∈ks then ks else ks++[x]
noncomputable def qX (es:Array (Int×fj)) (ep:Nat) (t:fB):Obj:={ cls:=.type "set",dict:=fg,data:=.set es ep t,slots:=#[] }
structure KP (κ:Type) [DecidableEq κ] where
 kd:∀ (p:fz) (w:fA),PySem.KeyKind p w κ
 of:fj->κ
 pb:Bool
 ofi:∀ {p:fz} {w:fA} {x:κ} {v:fj},(kd p w).is x v=fm->of v=x
 sc:∀ {p:fz} {w:fA} {x:κ} {v:fj},(kd p w).is x v=fm->v.scannable=fm
 pl:∀ {p:fz} {w:fA} {x:κ} {v:fj},(kd p w).is x v=fm->pb=fm->plainKind v=fk
noncomputable def KpS:KP Str where
 kd:=PySem.strKind
 of:=strOf
 pb:=fm
 ofi:=λh=>let ⟨_,e⟩:=bD h; by rw [e]; rfl
 sc:=λh=>let ⟨_,e⟩:=bD h; by rw [e]; rfl
 pl:=λh _=>let ⟨_,e⟩:=bD h; by rw [e]; rfl
structure SetG {κ:Type} [DecidableEq κ] (T:KP κ) (prog:fz) (w:fA) (es:Array (Int×fj)) (t:fB) (ks:List κ):Prop where
 el:ElemsOf (T.kd prog w) es.toList
 perm:(es.toList.map λe=>T.of e.2).Perm ks
 nd:ks.Nodup
 bd:es.size < scanBound
 fits:t.fits es.size=fm
 led:t.led=!(w.params.followText "set-order")
 plain:T.pb=fm->ks≠[]->t.plain=fk
def SetK {κ:Type} [DecidableEq κ] (T:KP κ) (prog:fz) (w:fA) (h:Heap) (a:Addr) (ks:List κ):Prop:=∃ es ep t,h.get? a=ff (qX es ep t)/\SetG T prog w es t ks
variable {es:Array (Int×fj)} {ep:Nat}
section
theorem qbK {l:List (Int×fj)} (h:ElemsOf (PySem.strKind prog w) l) {e:Int×fj} (i:e∈l):∃ x t,e.2=.str x t:=by obtain ⟨⟨k,a,_⟩,_⟩:=h e i;obtain ⟨t,ht⟩:=bD a;exact ⟨k,t,ht⟩
variable [DecidableEq κ] {T:KP κ}
theorem SetG.mem {t:fB} {ks:List κ} (h:SetG T prog w es t ks) {x:κ}:x∈ks↔∃ e∈es.toList,(T.kd prog w).is x e.2=true:=by
 rw [<-h.perm.mem_iff,aA];constructor;·rintro ⟨e,i,z⟩;obtain ⟨⟨k,a,_⟩,_⟩:=h.el e i;rw [T.ofi a] at z;exact ⟨e,i,z ▸ a⟩
 ·rintro ⟨e,i,z⟩;exact ⟨e,i,T.ofi z⟩
theorem SetG.size {t:fB} {ks:List κ} (h:SetG T prog w es t ks):es.size=ks.length:=by have e:=h.perm.length_eq;simpa using e
theorem Kq {es':Array (Int×fj)} {t t':fB} (l:h.get? a=ff (qX es ep t)):(h.update a (cK es' t')).get? a=ff (qX es' (ep+1) t'):=by have e:=bx (cK es' t') l (by rw [putSet_of (o:=qX es ep t) es' t' rfl]; rfl);rw [putSet_of (o:=qX es ep t) es' t' rfl] at e;exact e
theorem SetG.more {e:Array (Int×fj)} {t f:fB} {ks:List κ} {x:κ} {v:fj} (h:SetG T prog w es t ks) (c:(T.kd prog w).is x v=fm) (nx:x∉ks) (r:ks.length+1 < scanBound)
  (hp:e.toList.Perm (es.toList++[((T.kd prog w).hash x,v)])) (g:f.fits e.size=fm) (hl:f.led=t.led) (hq:T.pb=fm->f.plain=fk):SetG T prog w e f (ju ks x):=by
 have ex:ju ks x=ks++[x]:=if_neg nx;have d:e.size=ks.length+1:=by rw [<-ay,hp.length_eq,ap,ay,h.size];rfl
 rw [ex];refine ⟨(h.el.push c (T.sc c)).perm hp,?_,?_,?_,g,hl.trans h.led,λb _=>hq b⟩;·refine (hp.map _).trans ?_;rw [cI,List.map_singleton,T.ofi c];exact h.perm.append (bJ _)
 ·exact dL.mpr ⟨h.nd,by simp,λa j b i=>by rw [aH.mp i]; exact λz=>nx (z ▸ j)⟩
 ·rw [d];exact r
theorem GR {ks:List κ} {x:κ} {v:fj} {Q:Bool->fq->Prop} (m:(T.kd prog w).is x v=fm) (S:SetK T prog w s.heap a ks) (J:ks.length+1 < scanBound)
  (h:∀ h' b,bq a s.heap h'->SetK T prog w h' a (ju ks x)->Q b { s with heap:=h' }):wpAny (model prog w) A (setAddHashed a v ((T.kd prog w).hash x)) Q E s:=by
 obtain ⟨es,ep,t,o,d⟩:=S;unfold setAddHashed setAddHashedIn;refine fM (fh (fC o rfl d.fits ?_));dsimp only;rw [byScan_of (T.sc m) d.bd d.el,if_pos rfl];unfold setAddByScan;refine fh (fh (ip (fh (wpAny_setScan_of m o rfl d.fits d.el ?_))));cases hq:es.toList.findIdx? (λe=>(T.kd prog w).is x e.2) with
 | some j=>obtain ⟨N,hp,_⟩:=List.findIdx?_eq_some_iff_getElem.mp hq;have hx:x∈ks:=d.mem.mpr ⟨_,cx N,hp⟩;have q:=h s.heap fk (Heap.SameBut.refl a s.heap) ⟨es,ep,t,o,by rw [show ju ks x=ks from if_pos hx]; exact d⟩;dsimp only;exact fy (fy q)
 | none=>
  have hx:x∉ks:=λz=>by obtain ⟨e,O,q⟩:=d.mem.mp z;have:=List.findIdx?_eq_none_iff.mp hq e O;rw [q] at this;cases this
  dsimp only;have hp:=layNew_perm t es ((T.kd prog w).hash x) v;have n:=layNew_fits t es ((T.kd prog w).hash x) v;have hl:=GP t es ((T.kd prog w).hash x) v;generalize layNew t es ((T.kd prog w).hash x) v=L at hp n hl ⊢;obtain ⟨c,u,M,U⟩:=L;dsimp only at hp n hl ⊢;rw [Array.toList_push] at hp;have l:∀ f:fB,f.fits c.size=fm->f.led=t.led->(T.pb=fm->f.plain=fk)->wpAny (model prog w) A (do
    storeSet a c f
    if (!M&&f.tooFull)=fm then do
      (match (relayAll f c (bK c.size)).2.2 with | true=>rule "set.scan.the-table-gave-way" | false=>pure ())
      storeSet a (relayAll f c (bK c.size)).1 (relayAll f c (bK c.size)).2.1
      pure (ff fm)
     else pure (ff fm)) (λr s'=>∃ h',s'={ s with heap:=h' }/\r=ff fm/\bq a s.heap h'/\SetK T prog w h' a (ju ks x)) E s:=by
   intro f f2 I p2;have d2:=d.more m hx J hp f2 I p2;refine fh (f9 o rfl ?_ (g0 d2.bd));have i:=Kq (es':=c) (t':=f) o;have y:=aV s.heap a (cK c f);split
   ·have C:=relayAll_perm f c (bK c.size);have D:=relayAll_fits f c (bK c.size);have B:=Jd f c (bK c.size);generalize relayAll f c (bK c.size)=R at C D B ⊢;obtain ⟨p,H,Y⟩:=R;dsimp only at C D B ⊢;have K:=d.more m hx J (C.trans hp) D (B.1.trans I) (λb=>B.2 (p2 b));refine fh ?_;have go:wpAny (model prog w) A (storeSet a p H >>= λ_=>pure (ff fm)) (λr s'=>∃ h',s'={ s with heap:=h' }/\r=ff fm/\bq a s.heap h'/\SetK T prog w h' a (ju ks x)) E { s with heap:=s.heap.update a (cK c f) }:=
     fh (f9 i rfl (fy ⟨_,rfl,rfl,y.trans (aV _ a _),p,_,H,Kq i,K⟩) (g0 K.bd))
    cases Y;·exact fy go
    ·exact ip go
   ·exact fy ⟨_,rfl,rfl,y,c,_,f,i,d2⟩
  have fin:∀ (r:Option Bool) (s':fq),(∃ h',s'={ s with heap:=h' }/\r=ff fm/\bq a s.heap h'/\SetK T prog w h' a (ju ks x)) ->wpAny (model prog w) A (match r with | some k=>pure k | none=>setAddHashedIn a v ((T.kd prog w).hash x) 99999) Q E s':=by rintro r s' ⟨h',rfl,rfl,y,S⟩;exact fy (h h' fm y S)
  have P:∀ (b:Bool) {g:fq} {G:Unit->fq->Prop},G () g->wpAny (model prog w) A (match b with | true=>rule "set.scan.the-table-gave-way" | false=>pure ()) G E g:=λb g G q=>by
   cases b;·exact fy q
   ·exact ip q
  refine fh (P _ ?_);cases e1:u.plain with
  | true=>rw [if_pos rfl,hashByValue_scannable 8 (T.sc m)];refine fh (fy ?_);exact g7 (l (if plainKind v=fm then u else { u with plain:=fk }) (by split; exact n; exact SetTable.fits_plain_off n) (by split <;> exact hl) (λb=>by rw [T.pl m b]; rfl)) fin λ_ _ z=>z
  | false=>rw [if_neg (by simp)];refine fh (fy ?_);exact g7 (l u n hl λ_=>e1) fin λ_ _ z=>z
end
theorem Xf [DecidableEq κ] (ks:List κ) (x:κ):(ju ks x).length<=ks.length+1:=by
 unfold ju;split;·omega
 ·rw [ap];exact am _
theorem kQ [DecidableEq κ]:∀ (l ks:List κ),(l.foldl ju ks).length<=ks.length+l.length
 | [],ks=>am _
 | x::l,ks=>by have h1:=kQ l (ju ks x);have h2:=Xf ks x;rw [d8,af];omega
theorem Kr:(ju:List Str->Str->List Str)=Kp:=by funext ks x;unfold ju Kp;congr
theorem WM (l ks:List Str):(l.foldl Kp ks).length<=ks.length+l.length:=by rw [<-Kr];exact kQ l ks
theorem SetK.at [DecidableEq κ] {T:KP κ} {ks:List κ} (S:SetK T prog w h a ks) (k:∀ o,h.get? a=ff o->h'.get? a=ff o):SetK T prog w h' a ks:=
 let ⟨es,ep,t,l,d⟩:=S; ⟨es,ep,t,k _ l,d⟩
section
variable [DecidableEq κ] {T:KP κ} {R:Result->fq->Prop} {I:Addr} {fp wr:List Addr} {P:Nat->fj->Prop} {St:Nat->fq->Prop}
theorem Xg {G:Array ii->Array ii->Prop} (W:WalksS prog w A.in1 I fp wr G n P St) (S:Addr) (j:S∉fp) (ss:List κ) (K:ss.length=n) (J:∀ i v,P i v->∃ x,ss[i]?=ff x/\(T.kd prog w).is x v=fm) (d:n+1 < scanBound):∀ (k i:Nat) (s:fq),n - i=k->i<=n->St i s->SetK T prog w s.heap S ((ss.take i).foldl ju []) ->(∀ s',Moved (S::wr) G s s'->SetK T prog w s'.heap S (ss.foldl ju [])->R (.ok (.ret .none)) s')->codeAny (model prog w) A (.builtin "set.update.loop" ⟨[.ref S,.ref I],[]⟩) R s:=by
 have E:S∉wr:=λh=>j (W.sub _ h);have up:∀ b∈wr,b∈S::wr:=λb d=>ac _ d;intro k
 induction k with
 | zero=>
  intro i s q hi c r C;have y:i=n:=by omega
  subst y;refine fK b5 ?_;rw [bA bB _]; show wpAny _ A.in1 (pyNext (.ref I) >>= _) _ _ s;refine fh (W.done s _ _ c λs' g=>fy (C s' (g.mono up) ?_));rw [cX (cS K)] at r;exact r.at λo e=>g.heap S o E e
 | succ k H=>
  intro i s q hi c r C;have t:i < n:=by omega
  refine fK b5 ?_;rw [bA bB _]; show wpAny _ A.in1 (pyNext (.ref I) >>= _) _ _ s;refine fh (W.item i s _ _ t c λv s' L a g=>?_);obtain ⟨x,hx,q⟩:=J i v L;have B:SetK T prog w s'.heap S ((ss.take i).foldl ju []):=r.at λo e=>g.heap S o E e;show wpAny _ A.in1 (holding [v] (setAdd S v) >>= _) _ _ s';refine fh (fM ?_);unfold setAdd;refine fM (fh ((T.kd prog w).pyHash q ?_));have m:((ss.take i).foldl ju []).length+1 < scanBound:=by have h1:=kQ (ss.take i) [];rw [aR,aM] at h1;omega
  refine GR (s:={ s' with toks:=s'.toks+1 }) q B m λh' b D l=>?_;have M:ju ((ss.take i).foldl ju []) x=(ss.take (i+1)).foldl ju []:=by rw [ci,hx,cY];rfl
  rw [M] at l;refine fy ⟨g9 bB _,H (i+1) _ (by omega) t (W.frame _ s' _ _ a (e6 _) λb d o e=>?_) l λu f p=>?_⟩;·rw [D.2 b λz:b=S=>j (z ▸ d)];exact e
  ·refine C u (Moved.trans W.gtrans ((g.mono up).then_heap (e6 _) λb o d e=>?_) f) p;rw [D.2 b λz:b=S=>d (z ▸ aj)];exact e
end
section
variable [DecidableEq κ] {T:KP κ}
abbrev Xh (w:fA):Obj:=qX #[] 0 (.fresh 0 0 (!(w.params.followText "set-order")))
theorem WN (e:h.get? a=ff (Xh w)):SetK T prog w h a []:=
 ⟨_,_,_,e,⟨λe i=>by simp at i,by simp,dE,by decide,by rfl,rfl,λ_ z=>absurd rfl z⟩⟩
theorem WO (a:fj) {Q₁:fj->fq->Prop} (h:Q₁ (.ref s.heap.objs.size) { s with heap:=s.heap.push (Xh w) }):codeAny (model prog w) A (.call (.builtin "set.__new__") ⟨[.type "set",a],[]⟩) (wants Q₁ E) s:=by
 refine codeAny_of_tree ?_; show wpAny _ A.in1 (do checkBuiltinCall "set.__new__" ⟨[.type "set",a],[]⟩; again (.builtin "set.__new__" ⟨[.type "set",a],[]⟩)) _ _ s;refine fh (hJ (PySem.F.newCall_set_1 a) (fy ⟨g9 PySem.F.plain_set_new _,fK PySem.F.entry_set_new ?_⟩)); rw [bA PySem.F.plain_set_new _];unfold Builtin.«set.__new__» Builtin.Frozenset.newClass; have b:=sub_set_self; obtain ⟨hp,g,d,tk,os⟩:=s; dsimp only; wp_walk
 refine fI (fy ?_); dsimp only; simp only [newObj];exact fh (wpAny_alloc (fy (fy h)))
theorem Je:isSubtype (.type "tuple") (.type "set")=pure false:=by rw [g5]; kernel_rfl
theorem xD:isSubtype (.type "tuple") (.type "frozenset")=pure false:=by rw [g5]; kernel_rfl
theorem Ks:∀ sk:SK,isSubtype (.type sk.cl) (.type "set")=pure fk
 | .l=>PySem.F.sub_list_set
 | .t=>Je
theorem yP:∀ sk:SK,isSubtype (.type sk.cl) (.type "frozenset")=pure fk
 | .l=>PySem.F.sub_list_frozenset
 | .t=>xD
theorem Zr (a:A.handled=fg) (sk:SK) (it l:Addr) (e:l≠it) (items:Array fj):Walks prog w A it [it,l] [it] items.size (λi v=>items[i]?=ff v) (λi h=>ItK h it l sk i/\SeqK h l sk items):=by
 cases sk with
 | l=>exact e9 a it l e items
 | t=>exact Walks.tuple a it l e items
theorem SeqK.ty:∀ {sk:SK},SeqK s.heap a sk xs->s.TypeIs (.ref a) sk.cl
 | .l,⟨o,e,c,_⟩=>⟨o,e,c⟩
 | .t,⟨o,e,c,_⟩=>⟨o,e,c⟩
theorem qeC {sk:SK} {S l:Addr} {items:Array fj} {ss:List κ} {Q:Unit->fq->Prop} (r:A.handled=fg) (k:SetK T prog w s.heap S []) (hl:SeqK s.heap l sk items) (q:ss.length=items.size) (hi:∀ (i:Nat) (v:fj),items[i]?=ff v->∃ x,ss[i]?=ff x/\(T.kd prog w).is x v=fm) (j:items.size+1 < scanBound) (g:l≠S)
  (h:∀ h' tk,SetK T prog w h' S (ss.foldl ju [])->(∀ b o,b≠S->s.heap.get? b=ff o->h'.get? b=ff o)->Q () { s with heap:=h',toks:=tk }) :
  wpAny (model prog w) A (aS "set.__init__" S (.ref l)) Q E s:=by
 have hT:=hl.ty;unfold aS;refine fh (m:=bR _) ?_;unfold bR;refine fh (fO hT (Ks sk) ?_);refine fO hT (yP sk) ?_;rw [if_neg (by decide)];refine fh (h8 hT ?_);rw [if_neg (by cases sk <;> decide)];refine fh (qbJ hl ?_);have n:s.heap.objs.size≠S:=λz=>by obtain ⟨es,ep,t,p,_⟩:=k;exact aX _ (z ▸ au p)
 have f:l≠s.heap.objs.size:=aF hl.lt;refine fh (wpAny_runValue (Xg ((Zr (A:=A.in1) r sk _ l f items).toS) S ?_ ss q hi j items.size 0 _ (by omega) (aZ _) ⟨.of ⟨_,ai _ rfl,rfl,rfl⟩,hl.at λo e=>aa _ e⟩ ?_ ?_))
 ·intro z;rcases ae.mp z with z | z;·exact n z.symm
  ·exact g (aH.mp z).symm
 ·exact k.at λo e=>aa _ e
 ·intro s' c B;obtain ⟨h',g',d',a,d⟩:=s';have y:g'=s.gens:=c.gens;have C:d'=s.drawn:=c.drawn;have u:d=s.os:=c.os;subst y C u;refine fy (h h' a B λb o j e=>c.heap b o ?_ (aa _ e));intro z;rcases ae.mp z with z | z;·exact j z
  ·rw [aH.mp z] at e;exact aX _ (au e)
set_option maxHeartbeats 3200000 in
theorem WP {l:Addr} {ks:List κ} {Q:fj->fq->Prop}
  (p:∀ (A1:fD) (u:Unit->fq->Prop) (G:fj->fq->Prop),A1.handled=A.handled->(∀ h' tk,SetK T prog w h' s.heap.objs.size ks->(∀ b o,s.heap.get? b=ff o->h'.get? b=ff o)->u () { s with heap:=h',toks:=tk }) ->wpAny (model prog w) A1 (aS "set.__init__" s.heap.objs.size (.ref l)) u G { s with heap:=s.heap.push (Xh w) })
  (h:∀ h' tk,SetK T prog w h' s.heap.objs.size ks->(∀ b o,s.heap.get? b=ff o->h'.get? b=ff o)->Q (.ref s.heap.objs.size) { s with heap:=h',toks:=tk }) :
  wpAny (model prog w) A (call (.type "set") [.ref l]) Q E s:=by
 have d:∀ {Q₁:fj->fq->Prop},Q₁ (.ref s.heap.objs.size) { s with heap:=s.heap.push (Xh w) }->codeAny (model prog w) A.in1 (.call (.builtin "set.__new__") ⟨[.type "set",.ref l],[]⟩) (wants Q₁ E) s:=λh=>WO (.ref l) h;unfold Xh qX at d p;generalize (!(w.params.followText "set-order"))=led at d p;obtain ⟨c,tl,t⟩:=aN.mro;have m:=aN.made;have q:=aN.sub;refine wpAny_call (codeAny_of_tree ?_); show wpAny _ _ (callAny (.type "set") _) _ _ _;refine fy ⟨Code.quiet_builtin _ (by decide +kernel),fK PySem.F.entry_type_call ?_⟩; rw [Around.under_plain (weight_type_call_type "set" [.ref l] []) rfl];have h1:=aN.notType;have h2:=aN.canCreate;have y:=PySem.F.typeCall_set_1 (.ref l);repeat (any_goals (first | assumption | wp_step))
 refine fY (d (Q₁:=λobj g=>obj=.ref s.heap.objs.size/\g={ s with heap:=s.heap.push { cls:=.type "set",dict:=fg,data:=.set #[] 0 (.fresh 0 0 led) } }) ⟨rfl,rfl⟩) λr g k=>?_;cases r with
 | error e=>exact k
 | ok D=>
  cases D with
  | ret obj=>
   obtain ⟨rfl,rfl⟩:=k;have S:(s.heap.push { cls:=.type "set",dict:=fg,data:=.set #[] 0 (.fresh 0 0 led) }).get? s.heap.objs.size=ff { cls:=.type "set",dict:=fg,data:=.set #[] 0 (.fresh 0 0 led) }:=ai _ rfl;have hT:dR { s with heap:=s.heap.push { cls:=.type "set",dict:=fg,data:=.set #[] 0 (.fresh 0 0 led) } } (.ref s.heap.objs.size) "set":=⟨_,S,rfl⟩
   have v:=aN.init.lookup;have z:=aN.init.bind (.ref s.heap.objs.size);repeat (any_goals (first | assumption | wp_step))
   refine fY (codeAny_call_builtin (R:=wants (λr f=>r=.none/\∃ h' tk,f={ s with heap:=h',toks:=tk }/\SetK T prog w h' s.heap.objs.size ks/\(∀ b o,s.heap.get? b=ff o->h'.get? b=ff o)) E) aN.init.plain PySem.F.entry_set_init (check_set_init_1 hT ?_)) λj f a=>?_
   ·unfold Builtin.«set.__init__» noKeywords;generalize C:aS=U;wp_walk
    subst C;refine p _ _ _ rfl λh' tk B x=>?_;exact fy ⟨rfl,h',tk,rfl,B,x⟩
   ·cases j with
    | error e=>exact a
    | ok i=>
     cases i with
     | ret r=>
      obtain ⟨rfl,h',tk,rfl,B,n⟩:=a;repeat (any_goals (first | assumption | wp_step))
      exact h _ _ B n
     | _=>exact a.elim
  | _=>exact k.elim
end
theorem uJ {α:Type}:∀ {xs:List α} {i:Nat} (h:i < xs.length),(xs[i]::xs.eraseIdx i).Perm xs
 | [],_,h=>absurd h (dn _)
 | x::xs,0,h=>bJ _
 | x::xs,i+1,h=>(cZ _ _ _).trans ((uJ (xs:=xs) (i:=i) (Nat.lt_of_succ_lt_succ h)).cons x)
variable {M:Model}
theorem Vn {c:Source} {Q:Nat->fq->Prop} (a:n≠0) (h:∀ i d',i < n->Q i { s with drawn:=d' }):wpAny M A (choose c n) Q E s:=
 λ_ _ _=>⟨a,h _ _ (de _ (Nat.pos_of_ne_zero a))⟩
variable {α:Type}
theorem WQ:∀ (n:Nat) (xs:List α) (s:fq) {Q:List α->fq->Prop},n=xs.length->(∀ ys d',ys.Perm xs->Q ys { s with drawn:=d' })->wpAny M A (drawOrder n xs) Q E s
 | 0,xs,s,Q,hn,h=>by
  cases xs with
  | nil=>exact fy (h [] s.drawn (bJ _))
  | cons x l=>cases hn
 | n+1,[],s,Q,hn,h=>by cases hn
 | n+1,x::l,s,Q,hn,h=>by show wpAny M A (choose .order (x::l).length >>= _) Q E s;refine fh (Vn (by simp) λi d' hi=>?_);have e:(x::l)[i]?=ff (x::l)[i]:=aw hi;rw [e];refine fh (WQ n _ _ (by rw [List.length_eraseIdx_of_lt hi]; simp only [af] at hn ⊢; omega) λys d2 hp=>fy (h _ d2 ?_));exact (hp.cons _).trans (uJ hi)
theorem WR (next:Nat->Nat):∀ (f k:Nat) (left:List α) (out:Array α),f=left.length->(pickOrder.go next f k left out).toList.Perm (out.toList++left)
 | 0,k,left,out,hf=>by
  cases left with
  | nil=>rw [bt];exact bJ _
  | cons x l=>cases hf
 | f+1,k,left,out,hf=>by have t:next k % left.length < left.length:=de _ (by omega);have e:left[next k % left.length]?=ff left[next k % left.length]:=aw t;unfold pickOrder.go;rw [e];refine (WR next f (k+1) _ _ (by rw [List.length_eraseIdx_of_lt t]; omega)).trans ?_;rw [Array.toList_push,cg];exact List.Perm.append_left _ (uJ t)
theorem yQ (next:Nat->Nat) (xs:Array α):(pickOrder next xs).toList.Perm xs.toList:=by unfold pickOrder;exact WR next _ _ _ _ (by simp)
noncomputable def vR (first:fj) (i:Nat) (a:Addr) (n ep:Nat):Obj:={ cls:=.type "set_iterator",data:=.fields #[first,rawInt i,.ref a,rawInt n,rawInt ep] }
theorem slot_si_next:Slot "set_iterator" "__next__" "set_iterator.__next__":=
 .of (owner := "set_iterator") (n := "__next__") (by rw [typeLookup_type,builtinLookup_eq_fast]; kernel_rfl) (by decide +kernel) (by decide +kernel) (by decide +kernel) (by first | exact .inl (by decide +kernel) | exact .inr (by decide +kernel)) (by rw [g5]; kernel_rfl)
theorem uX:Slot "set_iterator" "__iter__" "set_iterator.__iter__":=
 .of (owner := "set_iterator") (n := "__iter__") (by rw [typeLookup_type,builtinLookup_eq_fast]; kernel_rfl) (by decide +kernel) (by decide +kernel) (by decide +kernel) (by first | exact .inl (by decide +kernel) | exact .inr (by decide +kernel)) (by rw [g5]; kernel_rfl)
theorem kg (a:fj):argsOk "set_iterator.__next__" ⟨[a],[]⟩:=by unfold argsOk; kernel_rfl
theorem Qe (a:fj):argsOk "set_iterator.__iter__" ⟨[a],[]⟩:=by unfold argsOk; kernel_rfl
theorem jP:entryFor table "set_iterator.__next__"=ff Builtin.«set_iterator.__next__»:=entryFor_of_tree (by kernel_rfl)
theorem zn:entryFor table "set_iterator.__iter__"=ff Builtin.«dict_keyiterator.__iter__»:=entryFor_alias (id' := "dict_keyiterator.__iter__") (by kernel_rfl) rfl (by decide +kernel) (by kernel_rfl)
theorem Qf:entryFor table "set.__iter__"=ff Builtin.«frozenset.__iter__»:=entryFor_alias (id' := "frozenset.__iter__") (by kernel_rfl) rfl (by decide +kernel) (by kernel_rfl)
variable {ks:List Str} {p:Addr} {b:Bool} {ps:List Nat}
section
theorem jY (d:w.params.followText "set-order"=b):({ program:=(model prog w).prog,params:=(model prog w).w.params }:Setting).params.followText "set-order"=b:=d
theorem Qg {sl nx:Nat} {t:fB} {x:fj} {Q:Option fj->fq->Prop} (hi:s.heap.get? it=ff (vR (rawInt sl) i a n ep)) (g:s.heap.get? a=ff (qX es ep t)) (f:t.fits es.size=fm) (z:es.size=n)
  (h:∀ (A1:fD) (u:Option (fj×Nat)->fq->Prop) (G:fj->fq->Prop),u (ff (x,nx)) s->wpAny (model prog w) A1 (setNext a sl i ep) u G s)
  (c:∀ h',h'.get? it=ff (vR (rawInt nx) (i+1) a n ep)->bq it s.heap h'->Q (ff x) { s with heap:=h' }):wpAny (model prog w) A (pyNext (.ref it)) Q E s:=by
 have hT:s.TypeIs (.ref it) "set_iterator":=⟨_,hi,rfl⟩
 unfold pyNext;refine fh (ig (fV (name:=ba "__next__") hT slot_si_next (fL slot_si_next hT jP ?_ (kg _))));show wpAny _ _ (fieldsOf (.ref it) >>= _) _ _ s;refine fh (ia hi rfl ?_);show wpAny _ _ (setEntries a >>= _) _ _ s;refine fh (fS g rfl f ?_);rw [if_neg (by rw [z]; simp)];show wpAny _ _ (setNext a sl i ep >>= _) _ _ s;refine fh (h _ _ _ ?_);show wpAny _ _ (setField (.ref it) 0 (rawInt nx) >>= _) _ _ s;refine fh (fX hi rfl (by simp) ?_);have h1:(s.heap.update it (Obj.mapFields (·.setIfInBounds 0 (rawInt nx)))).get? it=ff (vR (rawInt nx) i a n ep):=bx _ hi rfl;refine fh (fX h1 rfl (by simp) (fy ⟨x,rfl,fy (c _ ?_ ((aV ..).trans (aV ..)))⟩));exact bx _ h1 rfl
theorem Qh {sl:Nat} {t:fB} {Q:Option fj->fq->Prop} (h:A.handled=fg) (hi:s.heap.get? it=ff (vR (rawInt sl) i a n ep)) (g:s.heap.get? a=ff (qX es ep t)) (f:t.fits es.size=fm) (z:es.size=n)
  (c:∀ (A1:fD) (u:Option (fj×Nat)->fq->Prop) (G:fj->fq->Prop),u fg s->wpAny (model prog w) A1 (setNext a sl i ep) u G s)
  (d:∀ h',Heap.ExtBut it s.heap h'->Q fg { s with heap:=h' }):wpAny (model prog w) A (pyNext (.ref it)) Q E s:=by
 have hT:s.TypeIs (.ref it) "set_iterator":=⟨_,hi,rfl⟩
 unfold pyNext;refine fh (ig (fV (name:=ba "__next__") hT slot_si_next (fL slot_si_next hT jP ?_ (kg _))));show wpAny _ _ (fieldsOf (.ref it) >>= _) _ _ s;refine fh (ia hi rfl ?_);show wpAny _ _ (setEntries a >>= _) _ _ s;refine fh (fS g rfl f ?_);rw [if_neg (by rw [z]; simp)];show wpAny _ _ (setNext a sl i ep >>= _) _ _ s;refine fh (c _ _ _ ?_);show wpAny _ _ (setField (.ref it) 2 c9 >>= _) _ _ s;refine fh (fX hi rfl (by simp) ?_); show wpAny _ _ (newExc (.type "StopIteration") [] >>= _) _ _ _;refine fh ?_; simp only [newExc,newTuple]; refine fh (fG ?_ (by size_fits));refine fh (m:=firstArgMember _ _) (hJ (a:=c9) (by first | rfl | (simp only [firstArgMember]; rfl)) ?_); refine fG ?_ (by size_fits); simp only [raiseNew];refine fh (wpAny_handled ?_); first | rw [show A.in1.handled=fg from h] | rw [h]
 refine fh (fy (wpAny_throw ?_)); refine fh (fO (T := "StopIteration") (b:=fm) ⟨_,ai _ rfl,rfl⟩ isSubtype_stop ?_);exact fy (d _ (((aV ..).extBut.push _).push _))
theorem Vo {pl m:Nat} {t:fB} {hx:Int} {x:fj} {ps:Array fj} {Q:Option fj->fq->Prop} (hi:s.heap.get? it=ff (vR (.ref p) i a n ep)) (g:s.heap.get? a=ff (qX es ep t)) (h:t.fits es.size=fm) (z:es.size=n)
  (hp:s.heap.get? p=ff { cls:=.type "tuple",data:=.seq ps m }) (l:ps[i]?=ff (rawInt pl)) (hx:es[pl]?=ff (hx,x))
  (c:∀ h',h'.get? it=ff (vR (.ref p) (i+1) a n ep)->bq it s.heap h'->Q (ff x) { s with heap:=h' }):wpAny (model prog w) A (pyNext (.ref it)) Q E s:=by
 have hT:s.TypeIs (.ref it) "set_iterator":=⟨_,hi,rfl⟩
 unfold pyNext;refine fh (ig (fV (name:=ba "__next__") hT slot_si_next (fL slot_si_next hT jP ?_ (kg _))));show wpAny _ _ (fieldsOf (.ref it) >>= _) _ _ s;refine fh (ia hi rfl ?_);show wpAny _ _ (setEntries a >>= _) _ _ s;refine fh (fS g rfl h ?_);rw [if_neg (by rw [z]; simp)];show wpAny _ _ (seqItems? (.ref p) >>= _) _ _ s;refine fh (ib hp rfl ?_);dsimp only;rw [show ps[Int.toNat (i:Int)]?=ff (rawInt pl) from l];show wpAny _ _ (setNextDrawn a pl ep >>= _) _ _ s;refine fh ?_;unfold setNextDrawn;refine fh (fC g rfl h ?_);dsimp only;rw [if_neg (by simp),hx];refine fy ?_;show wpAny _ _ (setField (.ref it) 1 (rawInt (i+1)) >>= _) _ _ s;refine fh (fX hi rfl (by simp) (fy ⟨x,rfl,fy (c _ ?_ (aV ..))⟩));exact bx _ hi rfl
theorem WS {m:Nat} {t:fB} {ps:Array fj} {Q:Option fj->fq->Prop} (h:A.handled=fg) (hi:s.heap.get? it=ff (vR (.ref p) i a n ep)) (g:s.heap.get? a=ff (qX es ep t)) (f:t.fits es.size=fm) (z:es.size=n)
  (hp:s.heap.get? p=ff { cls:=.type "tuple",data:=.seq ps m }) (l:ps[i]?=fg)
  (c:∀ h',Heap.ExtBut it s.heap h'->Q fg { s with heap:=h' }):wpAny (model prog w) A (pyNext (.ref it)) Q E s:=by
 have hT:s.TypeIs (.ref it) "set_iterator":=⟨_,hi,rfl⟩
 unfold pyNext;refine fh (ig (fV (name:=ba "__next__") hT slot_si_next (fL slot_si_next hT jP ?_ (kg _))));show wpAny _ _ (fieldsOf (.ref it) >>= _) _ _ s;refine fh (ia hi rfl ?_);show wpAny _ _ (setEntries a >>= _) _ _ s;refine fh (fS g rfl f ?_);rw [if_neg (by rw [z]; simp)];show wpAny _ _ (seqItems? (.ref p) >>= _) _ _ s;refine fh (ib hp rfl ?_);dsimp only;rw [show ps[Int.toNat (i:Int)]?=fg from l];show wpAny _ _ (setField (.ref it) 0 (rawInt 0) >>= _) _ _ s;refine fh (fX hi rfl (by simp) ?_);have h1:(s.heap.update it (Obj.mapFields (·.setIfInBounds 0 (rawInt 0)))).get? it=ff (vR (rawInt 0) i a n ep):=bx _ hi rfl;refine fh (fX h1 rfl (by simp) ?_); show wpAny _ _ (newExc (.type "StopIteration") [] >>= _) _ _ _;refine fh ?_; simp only [newExc,newTuple]; refine fh (fG ?_ (by size_fits));refine fh (m:=firstArgMember _ _) (hJ (a:=c9) (by first | rfl | (simp only [firstArgMember]; rfl)) ?_); refine fG ?_ (by size_fits); simp only [raiseNew];refine fh (wpAny_handled ?_); first | rw [show A.in1.handled=fg from h] | rw [h]
 refine fh (fy (wpAny_throw ?_)); refine fh (fO (T := "StopIteration") (b:=fm) ⟨_,ai _ rfl,rfl⟩ isSubtype_stop ?_);exact fy (c _ (((((aV ..).trans (aV ..))).extBut.push _).push _))
theorem yR (hi:s.heap.get? it=ff o) (d:o.cls=.type "set_iterator") (h:Q (.ref it) s):wpAny (model prog w) A (pyIter (.ref it)) Q E s:=by
 have hT:s.TypeIs (.ref it) "set_iterator":=⟨_,hi,d⟩
 refine wpAny_pyIter_slot hT uX (fL uX hT zn ?_ (Qe _)); show wpAny _ _ (ret (.ref it)) _ _ s;exact fy ⟨_,rfl, "set_iterator",_,hT,slot_si_next.lookup,h⟩
theorem WT {ep:Nat} {t:fB} (y:A.handled=fg) (d:w.params.followText "set-order"=fm) (f:t.fits es.size=fm) (j:a≠it):Walks prog w A it [it,a] [it] es.size (λi v=>((pickOrder (w.params.setOrder a ep) es).toList.map (·.2))[i]?=ff v) (λi h=>h.get? it=ff (vR (rawInt 0) i a es.size ep)/\h.get? a=ff (qX es ep t)) where
 sub:=λb d=>by simp at d; simp [d]
 frame:=λ_ _ _ st r=>⟨r it (by simp) _ st.1,r a (by simp) _ st.2⟩
 item:=λi s Q E hi st c=>by
  have n:(pickOrder (w.params.setOrder a ep) es).size=es.size:=by have:=(yQ (w.params.setOrder a ep) es).length_eq;simpa using this
  have k:i < (pickOrder (w.params.setOrder a ep) es).size:=by omega
  obtain ⟨e,he⟩:∃ e,(pickOrder (w.params.setOrder a ep) es)[i]?=ff e:=⟨_,bw k⟩
  refine Qg (x:=e.2) (nx:=0) st.1 st.2 f rfl (λA1 B G q=>?_) λh' l p=>c e.2 h' s.toks ?_ ⟨l,?_⟩ λb o g u=>?_;·unfold setNext;refine fh (fC st.2 rfl f ?_);dsimp only;refine fh (m:=setsByText) (fh (fI (fy ?_)));rw [jY d,if_pos rfl,if_neg (by simp)];refine fh ?_;unfold setWalk;refine fh (fC st.2 rfl f ?_);dsimp only;refine fh (m:=setsByText) (fh (fI (fy ?_)));rw [jY d,if_pos rfl];refine fh (fI (fy ?_));refine fy ?_;rw [show (pickOrder ((⟨(model prog w).prog,(model prog w).w.params⟩:Setting).params.setOrder a ep) es)[i]?=ff e from he];exact q
  ·rw [aJ,aD,he];rfl
  ·rw [p.2 a j];exact st.2
  ·rw [p.2 b (λz=>g (by simp [z]))];exact u
 done:=λs Q E st c=>by
  have n:(pickOrder (w.params.setOrder a ep) es).size=es.size:=by have:=(yQ (w.params.setOrder a ep) es).length_eq;simpa using this
  refine Qh y st.1 st.2 f rfl (λA1 B G q=>?_) λh' J=>c h' s.toks λb o g u=>J b o (λz=>g (by simp [z])) u;unfold setNext;refine fh (fC st.2 rfl f ?_);dsimp only;refine fh (m:=setsByText) (fh (fI (fy ?_)));rw [jY d,if_pos rfl,if_neg (by simp)];refine fh ?_;unfold setWalk;refine fh (fC st.2 rfl f ?_);dsimp only;refine fh (m:=setsByText) (fh (fI (fy ?_)));rw [jY d,if_pos rfl];refine fh (fI (fy ?_));refine fy ?_;rw [show (pickOrder ((⟨(model prog w).prog,(model prog w).w.params⟩:Setting).params.setOrder a ep) es)[es.size]?=fg from b9 (cS n)];exact q
 self:=λi s Q E st c=>yR st.1 rfl c
noncomputable def wN (t:fB) (i:Nat):Nat:=if i=0 then 0 else t.place.getD 0 0+1
theorem Qi (j k:Nat):aE #[j] k=if j < k then 1 else 0:=by unfold aE;show aE.go #[j] k 1 0 1=_;unfold aE.go;rw [if_pos (by omega)];show (if (#[j]:Array Nat).getD 0 k < k then aE.go #[j] k 0 1 1 else aE.go #[j] k 0 0 0)=_;show (if j < k then aE.go #[j] k 0 1 1 else aE.go #[j] k 0 0 0)=_;split <;> rfl
theorem Kt {t:fB} {Q:Option (fj×Nat)->fq->Prop} (d:w.params.followText "set-order"=fk) (f:t.fits es.size=fm) (hl:t.led=fm) (c:es.size<=1) (g:s.heap.get? a=ff (qX es ep t)) (hi:i<=es.size)
  (q:Q (match es[i]? with | some e=>ff (e.2,wN t (i+1)) | none=>fg) s):wpAny (model prog w) A (setNext a (wN t i) i ep) Q E s:=by
 have h:t.place.size=es.size:=by have:=f;simp only [SetTable.fits,aT,beq_iff_eq] at this;exact this.1
 unfold setNext;refine fh (fC g rfl f ?_);dsimp only;refine fh (m:=setsByText) (fh (fI (fy ?_)));rw [jY d,if_neg (by simp)];show wpAny _ _ (if (!t.plain&&decide (es.size > 1))=fm then _ else _) _ _ _;rw [if_neg (by simp; intro _; omega)];refine fh ?_;show wpAny _ _ (if (!t.led&&!es.isEmpty)=fm then _ else _) _ _ _;rw [hl,if_neg (by simp)];refine fy (fy ?_);have e:(match es[aE t.place (wN t i)]?,t.place[aE t.place (wN t i)]? with | some (_,x),ff j=>ff (x,j+1) | _,_=>fg)=(match es[i]? with | some e=>ff (e.2,wN t (i+1)) | none=>fg:Option (fj×Nat)):=by
  obtain ⟨l⟩:=es;obtain ⟨mask,⟨pl⟩,u,fi,le,o,pn⟩:=t;cases l with
  | nil=>simp
  | cons e0 l=>
   cases l with
   | cons _ _=>exact absurd c (by simp)
   | nil=>
    cases pl with
    | nil=>exact absurd h (by simp)
    | cons j pl=>
     cases pl with
     | cons _ _=>exact absurd h (by simp)
     | nil=>
      have b:i=0\/i=1:=by simp at hi; omega
      rcases b with rfl | rfl;·show (match (#[e0]:Array (Int×fj))[aE #[j] 0]?,(#[j]:Array Nat)[aE #[j] 0]? with | some (_,x),ff j=>ff (x,j+1) | _,_=>fg)=ff (e0.2,j+1);rw [Qi,if_neg (by omega)];rfl
      ·show (match (#[e0]:Array (Int×fj))[aE #[j] (j+1)]?,(#[j]:Array Nat)[aE #[j] (j+1)]? with | some (_,x),ff j=>ff (x,j+1) | _,_=>fg)=fg;rw [Qi,if_pos (by omega)];rfl
 exact Eq.mp (congrArg (λz=>Q z s) e.symm) q
theorem Xi {ep:Nat} {t:fB} (p:A.handled=fg) (d:w.params.followText "set-order"=fk) (f:t.fits es.size=fm) (hl:t.led=fm) (k:es.size<=1) (e:a≠it):Walks prog w A it [it,a] [it] es.size (λi v=>(es.toList.map (·.2))[i]?=ff v) (λi h=>h.get? it=ff (vR (rawInt (wN t i)) i a es.size ep)/\h.get? a=ff (qX es ep t)) where
 sub:=λb d=>by simp at d; simp [d]
 frame:=λ_ _ _ st l=>⟨l it (by simp) _ st.1,l a (by simp) _ st.2⟩
 item:=λi s Q E hi st c=>by
  have m:es[i]?=ff es[i]:=bw hi;refine Qg (x:=es[i].2) (nx:=wN t (i+1)) st.1 st.2 f rfl (λA1 r G q=>Kt d f hl k st.2 (cR hi) (by rw [m]; exact q)) λh' g j=>c es[i].2 h' s.toks ?_ ⟨g,?_⟩ λb o n u=>?_;·rw [aJ,aD,m];rfl
  ·rw [j.2 a e];exact st.2
  ·rw [j.2 b (λz=>n (by simp [z]))];exact u
 done:=λs Q E st c=>Qh p st.1 st.2 f rfl (λA1 r G q=>Kt d f hl k st.2 (am _) (by rw [b9 (am _)]; exact q)) λh' J=>c h' s.toks λb o n u=>J b o (λz=>n (by simp [z])) u
 self:=λi s Q E st c=>yR st.1 rfl c
noncomputable def qbL (es:Array (Int×fj)) (ps:List Nat):List fj:=ps.map λk=>(es[k]?.map (·.2)).getD .none
theorem WU (h:ps.Perm (aB es.size)):(qbL es ps).Perm (es.toList.map (·.2)):=by
 have e:qbL es (aB es.size)=es.toList.map (·.2):=by
  apply dN;intro i;unfold qbL;rw [aJ,aJ,show es.toList[i]?=es[i]? from aD];by_cases hi:i < es.size;·rw [List.getElem?_range hi,bw hi];simp [hi]
  ·rw [bG (by rw [bg]; omega),b9 (by omega)];rfl
 rw [<-e];exact h.map _
theorem Vp {ep m:Nat} {t:fB} (B:A.handled=fg) (q:t.fits es.size=fm) (hp:ps.Perm (aB es.size)) (g:a≠it) (f:p≠it):Walks prog w A it [it,a,p] [it] es.size (λi v=>(qbL es ps)[i]?=ff v) (λi h=>h.get? it=ff (vR (.ref p) i a es.size ep)/\h.get? a=ff (qX es ep t)/\h.get? p=ff { cls:=.type "tuple",data:=.seq (ps.map λ(i:Nat)=>rawInt i).toArray m }) where
 sub:=λb y=>by simp at y; simp [y]
 frame:=λ_ _ _ st k=>⟨k it (by simp) _ st.1,k a (by simp) _ st.2.1,k p (by simp) _ st.2.2⟩
 item:=λi s Q E hi st c=>by
  have n:ps.length=es.size:=by rw [hp.length_eq,bg]
  have l:i < ps.length:=by omega
  have k:ps[i] < es.size:=aK.mp (hp.mem_iff.mp (cx l));have r:es[ps[i]]?=ff es[ps[i]]:=bw k;refine Vo (x:=es[ps[i]].2) (hx:=es[ps[i]].1) (pl:=ps[i]) st.1 st.2.1 q rfl st.2.2 ?_ r λh' j d=>c es[ps[i]].2 h' s.toks ?_ ⟨j,?_,?_⟩ λb o e u=>?_;·rw [c7,aJ,aw l];rfl
  ·unfold qbL;rw [aJ,aw l];simp [r]
  ·rw [d.2 a g];exact st.2.1
  ·rw [d.2 p f];exact st.2.2
  ·rw [d.2 b (λz=>e (by simp [z]))];exact u
 done:=λs Q E st c=>by
  have n:ps.length=es.size:=by rw [hp.length_eq,bg]
  refine WS B st.1 st.2.1 q rfl st.2.2 ?_ λh' J=>c h' s.toks λb o e u=>J b o (λz=>e (by simp [z])) u;rw [c7,bG (by simp; omega)]
 self:=λi s Q E st c=>yR st.1 rfl c
theorem Xj {t:fB} {A1:fD} {Q:fj->fq->Prop} (n:A1.handled=fg) (g:s.heap.get? a=ff (qX es ep t)) (d:SetG KpS prog w es t ks)
  (q:∀ (it:Addr) (h':Heap) (r:Drawn) (ord:List fj) (fp:List Addr) (St:Nat->Heap->Prop),(∀ b o,s.heap.get? b=ff o->h'.get? b=ff o)->ord.Perm (es.toList.map (·.2))->Walks prog w A1 it fp [it] es.size (λi v=>ord[i]?=ff v) St->St 0 h' ->(∀ b∈fp,b=a\/s.heap.objs.size<=b)->s.heap.objs.size<=it->Q (.ref it) { s with heap:=h',drawn:=r }):wpAny (model prog w) A (pyIter (.ref a)) Q E s:=by
 have hT:s.TypeIs (.ref a) "set":=⟨_,g,rfl⟩
 have f:a < s.heap.objs.size:=au g;refine wpAny_pyIter_slot hT PySem.F.slot_set_iter (fL PySem.F.slot_set_iter hT Qf ?_ (PySem.F.args_set_iter_1 _));show wpAny _ _ (Builtin.Frozenset.sizeOf a >>= _) _ _ s;refine fh (m:=Builtin.Frozenset.sizeOf a) (fh (fS g rfl d.fits (fy ?_)));refine fh (m:=setDrawn a) ?_;unfold setDrawn;refine fh (fC g rfl d.fits ?_);dsimp only;refine fh (m:=setsByText) (fh (fI (fy ?_)));refine fy ?_;cases h:w.params.followText "set-order" with
 | true=>
  rw [jY h,if_neg (by simp)];refine fh (fy ?_);refine fh (m:=setEpoch a) (wpAny_setEpoch_of g rfl d.fits ?_);refine fh (fG (fy ⟨_,rfl, "set_iterator",_,⟨_,ai _ rfl,rfl⟩,slot_si_next.lookup,?_⟩));refine q _ _ s.drawn _ _ _ (λb o e=>aa _ e) ((yQ (w.params.setOrder a ep) es).map _) (WT n h d.fits (aF f)) ⟨ai _ rfl,aa _ g⟩ ?_ (am _);intro b h;rcases ae.mp h with z | z;·exact .inr (z ▸ am _)
  ·exact .inl (aH.mp z)
 | false=>
  have k:t.led=true:=by rw [d.led,h]; rfl
  rw [jY h];show wpAny _ _ (if (!false&&(!t.plain&&decide (es.size > 1)))=fm then _ else _) _ _ _;by_cases u:es.size<=1
  ·rw [if_neg (by simp; intro _; omega)];refine fh (fy ?_);refine fh (m:=setEpoch a) (wpAny_setEpoch_of g rfl d.fits ?_);refine fh (fG (fy ⟨_,rfl, "set_iterator",_,⟨_,ai _ rfl,rfl⟩,slot_si_next.lookup,?_⟩));refine q _ _ s.drawn _ _ _ (λb o e=>aa _ e) (bJ _) (Xi n h d.fits k u (aF f)) ⟨ai _ rfl,aa _ g⟩ ?_ (am _);intro b h;rcases ae.mp h with z | z;·exact .inr (z ▸ am _)
   ·exact .inl (aH.mp z)
  ·have l:t.plain=false:=d.plain rfl λz=>by have x:=d.size;rw [z,aM] at x;omega
   rw [if_pos (by rw [l]; simp; omega)];refine fh (WQ es.size (aB es.size) s (by simp) λps r hp=>?_);have j:ps.length=es.size:=by rw [hp.length_eq,bg]
   have hsz:(ps.map λ(i:Nat)=>rawInt i).length<=sizeLine:=by rw [ah,j]; exact g0 d.bd
   refine fh (wpAny_newTuple ?_ hsz);refine fh (m:=setEpoch a) (wpAny_setEpoch_of (aa _ g) rfl d.fits ?_);refine fh (fG (fy ⟨_,rfl, "set_iterator",_,⟨_,ai _ rfl,rfl⟩,slot_si_next.lookup,?_⟩));have c:s.heap.objs.size < (s.heap.push ({ cls:=.type "tuple",data:=.seq (ps.map λ(i:Nat)=>rawInt i).toArray }:Obj)).objs.size:=by rw [bP]; exact da _
   refine q _ _ r _ _ _ (λb o e=>aa _ (aa _ e)) (WU hp) (Vp (p:=s.heap.objs.size) n d.fits hp (aF (dw f c)) (aF c)) ⟨ai _ rfl,aa _ (aa _ g),aa _ (ai _ rfl)⟩ ?_ (cR c);intro b h;rcases ae.mp h with z | z;·exact .inr (z ▸ cR c)
   ·rcases ae.mp z with z | z;·exact .inl z
    ·exact .inr (cS (aH.mp z).symm)
end
section
theorem Xk {ord:List fj} {acc:Array fj} (hl:ord.length=n) (h:ItemsOf (λi v=>ord[i]?=ff v) acc n):acc.toList=ord:=by
 apply dN;intro i;rw [show acc.toList[i]?=acc[i]? from aD];by_cases hi:i < acc.size;·rw [bw hi];exact (h.2 i _ (bw hi)).symm
 ·rw [b9 (by omega),bG (by have:=h.1; omega)]
theorem Jf {t:fB} {Q:List fj->fq->Prop} (N:A.handled=fg) (K:s.heap.get? a=ff (qX es ep t)) (d:SetG KpS prog w es t ks)
  (O:∀ h' y tk ord,(∀ b o,s.heap.get? b=ff o->h'.get? b=ff o)->ord.Perm (es.toList.map (·.2))->Q ord { s with heap:=h',drawn:=y,toks:=tk }):wpAny (model prog w) A (collect (.ref a)) Q E s:=by
 have p:a < s.heap.objs.size:=au K;unfold collect;refine fh (wpAny_runValue (fK PySem.F.entry_proto_collect ?_)); rw [bA PySem.F.plain_proto_collect _];show wpAny _ A.in1 (newList [] >>= λl=>again (.builtin "list.__iadd__" ⟨[l,.ref a],[]⟩)) _ _ s; refine fh (fG ?_);refine fy ⟨g9 PySem.F.plain_list_iadd _,fK PySem.F.entry_list_iadd ?_⟩; rw [bA PySem.F.plain_list_iadd _];have g:(s.heap.push { cls:=.type "list",data:=.seq ([]:List fj).toArray }).get? a=ff (qX es ep t):=aa _ K;have hT:dR { s with heap:=s.heap.push { cls:=.type "list",data:=.seq ([]:List fj).toArray } } (.ref a) "set":=⟨_,g,rfl⟩
 show wpAny _ A.in1 (Builtin.List.listExtendWith (.ref s.heap.objs.size) (.ref a) (.ref s.heap.objs.size)) _ _ _; unfold Builtin.List.listExtendWith;refine fh (h8 hT ?_);have h1:Builtin.List.listSameRef (.ref s.heap.objs.size) (.ref a)=false:=by simp [Builtin.List.listSameRef,d4 p]
 rw [if_neg (by rw [h1]; decide)];refine fh (Xj (A1:=A.in1) N g d λit h2 y ord fp St k2 hp W D G hit=>?_);have v:h2.get? s.heap.objs.size=ff { cls:=.type "list",data:=.seq ([]:List fj).toArray }:=k2 _ _ (ai _ rfl);have H:h2.get? a=ff (qX es ep t):=k2 _ _ g;refine fh (fM ?_);unfold Builtin.List.listLengthHint;have i:dR { s with heap:=h2,drawn:=y } (.ref a) "set":=⟨_,H,rfl⟩
 refine fh (wpAny_specialOf i PySem.F.slot_set_len.lookup ?_)
 (generalize f:("set.__len__":String)=id0; (fail_if_success (clear f id0)); wp_delta; rw [show splitId id0=ff ("set", "__len__") from by subst f; decide +kernel]; subst f)
 refine fh (fO (b:=fm) i (by rw [g5]; kernel_rfl) ?_);refine fh (m:=typeOf (.ref a)) (h8 i ?_);refine fy ?_;show wpAny _ A.in1 (rule "list.extend.makes-room" >>= λ_=>Builtin.List.listTouch (.ref s.heap.objs.size) >>= λ_=>again (.builtin "list.extend.loop" ⟨[.ref s.heap.objs.size,.ref it,.ref s.heap.objs.size],[]⟩)) _ _ _;refine fh (ip (fh ?_)); show wpAny _ A.in1 (updateSeq s.heap.objs.size (·.push .none) >>= λ_=>updateSeq s.heap.objs.size (·.pop)) _ _ _;refine fh (wpAny_updateSeq v rfl ?_); have h:=bx (dD (·.push c9)) v rfl;refine wpAny_updateSeq h rfl ?_; have j:=bx (dD (·.pop)) h rfl;have n:(s.heap.push ({ cls:=.type "list",data:=.seq ([]:List fj).toArray }:Obj)).objs.size=s.heap.objs.size+1:=bP ..;have k:∀ b o,b≠s.heap.objs.size->h2.get? b=ff o->((h2.update s.heap.objs.size (dD (·.push c9))).update s.heap.objs.size (dD (·.pop))).get? b=ff o:=λb o c e=>(cU _ _ (bp c)).trans ((cU _ _ (bp c)).trans e);have J:s.heap.objs.size∉fp:=λz=>by
  rcases G _ z with q | q;·exact d4 p q
  ·exact Nat.not_succ_le_self _ (n ▸ q)
 have r:ord.length=es.size:=by rw [hp.length_eq];simp
 refine fy ⟨g9 PySem.F.plain_extend_loop _,codeAny_extend_loopS W.toS (g0 d.bd) _ J _ es.size 0 _ _ _ rfl (aZ _) (W.frame 0 h2 _ D λb c o e=>k b o (λz=>J (z ▸ c)) e) j (ItemsOf.nil _) λs' M T x I u=>?_⟩;show wpAny _ A (load s.heap.objs.size >>= _) _ _ s';refine fh (wpAny_load I (fy ?_));rw [Xk r u];obtain ⟨h',g',d',B,C⟩:=s';have R:g'=s.gens:=x.gens;have S:d'=y:=x.drawn;have P:C=s.os:=x.os;subst R S P;refine O h' d' B ord (λb o e=>?_) hp;have c:=au e;refine x.heap b o (λz=>?_) (k b o (aF c) (k2 b o (aa _ e)));rcases ae.mp z with z | z;·exact aF c z
 ·have L:s.heap.objs.size+1<=it:=n ▸ hit;rw [<-aH.mp z] at L;exact aX _ (dw c L)
theorem Vq {Q:fj->fq->Prop} (q:A.handled=fg) (T:SetK KpS prog w s.heap a ks) (j:ks.length < 64)
  (x:∀ (h1 h':Heap) r tk vs e ss,(∀ b o,s.heap.get? b=ff o->h1.get? b=ff o)->(∀ b o,h1.get? b=ff o->h'.get? b=ff o)->h'.get? h1.objs.size=ff (seqObj "list" vs e)->ic vs.toList ss->ss.Perm ks->sortedS ss=fm->Q (.ref h1.objs.size) { s with heap:=h',drawn:=r,toks:=tk }) :
  wpAny (model prog w) A (call (.builtin "sorted") [.ref a]) Q E s:=by
 obtain ⟨es,ep,t,u,d⟩:=T;refine Calls.call_function_entry kind_sorted plain_sorted entry_sorted (args_sorted1 _) ?_; unfold Builtin.«sorted»;refine fh (m:=checkCount "sorted" 1 1 _) (fy ?_);refine fh (Jf (by exact q) u d λh1 r tk ord k1 hp=>?_);have c:ic ord (ord.map strOf):=strsAre_map ord λv p=>by obtain ⟨e,i,rfl⟩:=aA.mp (hp.mem_iff.mp p);exact qbK d.el i
 have h:(ord.map strOf).Perm ks:=(hp.map strOf).trans (by rw [bb]; exact d.perm);have n:ord.length=ks.length:=by have:=h.length_eq;rwa [ah] at this
 refine fh (wpAny_newList ?_ (by rw [n,fE]; omega));have Y:(h1.push (seqObj "list" ord.toArray 0)).get? h1.objs.size=ff (seqObj "list" ord.toArray 0):=ai _ rfl;refine fh (fM (fL slot_list_sort (s:={ s with heap:=h1.push (seqObj "list" ord.toArray 0),drawn:=r,toks:=tk }) ⟨_,Y,rfl⟩ entry_list_sort (list_sort_treeK strKind_oneLt Y c.keysOf (λv₁ k rest e=>keyKind_strs (by rw [<-e]; exact c)) (by rw [n]; exact j) λg D C=>⟨_,rfl,?_⟩) (args_list_sort _)));obtain ⟨f,B,z,y⟩:=sorted_out_str c D C;obtain ⟨e,i⟩:=sortedHeap_at (out:=(arrOf g).map (·.2)) Y;refine fy ⟨_,rfl,x h1 _ r tk _ e f k1 (λb o J=>?_) i B (z.trans h) y⟩;have l:=au J;rw [sortedHeap_old (aF l) (by rw [bP]; exact cf l)];exact aa _ J
end
section
variable {z TI TO i1 i2:Addr} {fp1 fp2:List Addr} {n1 n2:Nat} {P1 P2:Nat->fj->Prop} {S1 S2:Nat->Heap->Prop} {a b:fj}
end
variable {t':Nat}
section
theorem WV {ch:List Addr} (I:Inv X pins σ H s) (k:∀ b o,b∉ch->s.heap.get? b=ff o->h'.get? b=ff o) (h:∀ b∈ch,QL X pins H b):Inv X pins σ H { s with heap:=h',toks:=t' }:=by
 have t:∀ b u,H b=ff u->b∉ch:=λb u e z=>by rw [(h b z).1] at e;cases e
 refine I.step (g':=s.gens) (d':=s.drawn) (ch:=ch) (λb f=>?_) (λb o _ _ d e _=>k b o d e) (λb o _ _ d e _=>⟨o.slots,k b o d e⟩) (λ_ _ _ _ n=>n) (λb o d e=>⟨o,k b o d e⟩) (λ_ _ e=>e) (λ_ _ _ e=>e) (λb ps e=>⟨#[],by rw [e]; simp⟩) (λm a=>?_) (λb u e=>?_) I.bare;·obtain ⟨f0,f1,f2,i,f4,g⟩:=h b f;exact ⟨i,f1,f4,g⟩
 ·obtain ⟨o,es,ep,l,r⟩:=a;exact ⟨o,es,ep,k _ o (λz=>(h _ z).2.1 rfl) l,r⟩
 ·refine (I.hok b u e).stay (λc v d q=>k c v ?_ q) (λ_ q=>q) λ_ _ q=>q;rcases d with z | z
  ·rw [z];exact t b u e
  ·exact t c _ z
theorem qeD {d':Drawn} (I:Inv X pins σ H s) (k:∀ b u,s.heap.get? b=ff u->h'.get? b=ff u):Inv X pins σ H { s with heap:=h',drawn:=d',toks:=t' }:=by refine I.step (g':=s.gens) (d':=d') (ch:=[]) (λ_ z=>nomatch z) (λb o _ _ _ e _=>k b o e) (λb o _ _ _ e _=>⟨o.slots,k b o e⟩) (λ_ _ _ _ n=>n) (λb o _ e=>⟨o,k b o e⟩) (λ_ _ e=>e) (λ_ _ _ e=>e) (λb ps e=>⟨#[],by rw [e]; simp⟩) (λm c=>?_) (I.hok.kept k) I.bare;obtain ⟨o,es,ep,l,r⟩:=c;exact ⟨o,es,ep,k _ o l,r⟩
end
variable {us:List fj}
theorem WW {xs:List V} (r:Vals xs us) (h:us[i]?=ff u):∃ x,xs[i]?=ff x/\RelV x u:=by
 have hi:i < us.length:=(aq.mp h).1;have hx:i < xs.length:=by rw [r.length]; exact hi
 obtain ⟨a,h1,h2⟩:=r.get (aw hx);rw [h] at h1;cases h1;exact ⟨xs[i],aw hx,h2⟩
def leS (x y:Str):Prop:=¬y.cps.toList < x.cps.toList
noncomputable def qaK (x:Str):List Str->List Str
 | []=>[x]
 | y::l=>if wL y x=fm then y::qaK x l else x::y::l
noncomputable def kJ:List Str->List Str
 | []=>[]
 | x::l=>qaK x (kJ l)
variable {y:Str}
theorem Qj {z:Str} (a:leS x y) (b:leS y z):leS x z:=List.le_trans (α:=Nat) a b
theorem WX (x y:Str):leS x y\/leS y x:=List.le_total (α:=Nat) x.cps.toList y.cps.toList
theorem Xl (a:leS x y) (b:leS y x):x=y:=by have e:=List.le_antisymm (α:=Nat) (as:=x.cps.toList) (bs:=y.cps.toList) a b;obtain ⟨⟨l⟩⟩:=x;obtain ⟨⟨m⟩⟩:=y;simp at e;rw [e]
theorem strLt_false:wL y x=fk↔leS x y:=by unfold wL leS;exact decide_eq_false_iff_not
theorem yS (x:Str):∀ l,(qaK x l).Perm (x::l)
 | []=>bJ _
 | y::l=>by
  unfold qaK;split;·exact ((yS x l).cons y).trans (cZ _ _ _)
  ·exact bJ _
theorem qR:∀ l,(kJ l).Perm l
 | []=>bJ _
 | x::l=>(yS x _).trans ((qR l).cons x)
theorem yT (x:Str):∀ l,l.Pairwise leS->(qaK x l).Pairwise leS
 | [],_=>List.pairwise_singleton _ _
 | y::l,h=>by
  have d:=bj.mp h;unfold qaK;split
  ·rename_i t;have c:leS y x:=by
    rcases WX y x with q | q;·exact q
    ·rw [<-strLt_false] at q;rw [q] at t;cases t
   refine bj.mpr ⟨λz a=>?_,yT x l d.2⟩;rcases ae.mp ((yS x l).mem_iff.mp a) with rfl | a;·exact c
   ·exact d.1 z a
  ·rename_i t;have b:leS x y:=strLt_false.mp (by cases e:wL y x with | true=>exact absurd e t | false=>rfl);refine bj.mpr ⟨λz a=>?_,h⟩;rcases ae.mp a with rfl | a;·exact b
   ·exact Qj b (d.1 z a)
theorem kh:∀ l,(kJ l).Pairwise leS
 | []=>cV
 | x::l=>yT x _ (kh l)
theorem yU:∀ {l m:List Str},l.Perm m->l.Pairwise leS->m.Pairwise leS->l=m
 | [],m,p,_,_=>p.nil_eq
 | x::l,[],p,_,_=>absurd p.length_eq (by simp)
 | x::l,y::m,p,hl,hm=>by
  have a:=bj.mp hl;have b:=bj.mp hm;have c:x=y:=by
   have h1:y∈x::l:=p.mem_iff.mpr (aj ..);have h2:x∈y::m:=p.mem_iff.mp (aj ..);rcases ae.mp h1 with e | e;·exact e.symm
   ·rcases ae.mp h2 with d | d;·exact d
    ·exact Xl (a.1 y e) (b.1 x d)
  subst c;rw [yU p.cons_inv a.2 b.2]
theorem xQ:∀ (x:Str) (l:List Str),risingS x l=fm->(x::l).Pairwise leS
 | x,[],_=>List.pairwise_singleton _ _
 | x,y::l,h=>by
  have h:(!ltCps y.cps.toList x.cps.toList&&risingS y l)=true:=h;rw [aT] at h;have j:=xQ y l h.2;have b:leS x y:=by have h1:=h.1;rw [ltCps_eq] at h1;unfold leS;simpa using h1
  refine bj.mpr ⟨λz a=>?_,j⟩;rcases ae.mp a with rfl | a;·exact b
  ·exact Qj b ((bj.mp j).1 z a)
theorem Jg:∀ (l:List Str),sortedS l=fm->l.Pairwise leS
 | [],_=>cV
 | x::l,h=>xQ x l h
variable {ss:List Str}
theorem Qk (p:ss.Perm ks) (h:sortedS ss=fm):ss=kJ ks:=yU (p.trans (qR ks).symm) (Jg ss h) (kh ks)
noncomputable def wO:List D->Option (List Str)
 | []=>ff []
 | .str x::l=>(wO l).map (x::·)
 | _::_=>fg
noncomputable def vS:D->Option (List Str)
 | .lst ds=>wO ds
 | .tup ds=>wO ds
 | _=>fg
noncomputable def qaL [DecidableEq κ] (T:KP κ) (P:fz) (w:fA) (p:Addr) (ks:List κ):HO:=.ext λh=>SetK T P w h p ks
theorem GS [DecidableEq κ] {T:KP κ} {ks:List κ} (x:SetK T P w h p ks):ObjOk P w H h p (qaL T P w p ks):=
 ⟨x,let ⟨_,_,_,e,_⟩:=x; ⟨_,e⟩,λ_ _ a k=>a.at k⟩
structure KD {κ:Type} [DecidableEq κ] (T:KP κ) where
 sqd:D->Option (List κ)
 ok:κ->Prop
 get:∀ {K:Frag} {F:Hp} {dx:D} {ss:List κ},sqd dx=ff ss->∃ ds,WC dx=.ok ds/\∀ {vs:List V} {us:List fj},IsL K F vs ds->Vals vs us->us.length=ss.length/\(∀ (i:Nat) (v:fj),us[i]?=ff v->∃ x,ss[i]?=ff x/\∀ p w,(T.kd p w).is x v=fm)/\∀ x∈ss,ok x
theorem yV (a:IsL K F vs ds) (l:Vals vs us) (e:wO ds=ff ss):ic us ss/\∀ x∈ss,x.length<=sizeLine:=by
 induction ds generalizing vs us ss with
 | nil=>cases a;cases l;cases e;exact ⟨.nil,λx h=>nomatch h⟩
 | cons d ds j=>
  cases a with
  | cons i a=>
   cases l with
   | cons r l=>
    cases d with
    | str x=>
     obtain ⟨sl,q,rfl⟩:=aL.mp (show (wO ds).map (x::·)=ff ss from e);cases i with
     | str b=>obtain ⟨t,rfl⟩:=r;obtain ⟨i1,i2⟩:=j a l q;exact ⟨.cons x t i1,λy D=>(ae.mp D).elim (λz=>z ▸ b) (i2 y)⟩
    | _=>cases e
section
variable {own:List Nat} {e:Expr} {fa:qO} {ma:Mo} {pos:Pos}
theorem Ql:∀ (l ks:List Str) {x:Str},x∈l.foldl Kp ks->x∈ks\/x∈l
 | [],ks,x,h=>.inl h
 | y::l,ks,x,h=>by
  rcases Ql l (Kp ks y) h with q | q
  ·unfold Kp at q;split at q;·exact .inl q
   ·rcases bn.mp q with q | q;·exact .inl q
    ·exact .inr (by rw [aH.mp q]; exact aj ..)
  ·exact .inr (ac _ q)
theorem Ku (e:wO ds=ff ss) (l:IsL K F vs ds) (d:Vals vs us):us.length=ss.length/\(∀ (i:Nat) (v:fj),us[i]?=ff v->∃ x,ss[i]?=ff x/\∀ p w,(KpS.kd p w).is x v=fm)/\∀ x∈ss,x.length<=sizeLine:=by obtain ⟨st,D⟩:=yV l d e;refine ⟨st.length,λi v h=>?_,D⟩;obtain ⟨y,t,e1,a⟩:=st.item i v h;refine ⟨y,a,λp w=>?_⟩;rw [e1];show cB y (.str y t)=fm;simp [cB]
noncomputable def KdS:KD KpS where
 sqd:=vS
 ok:=λy=>y.length<=sizeLine
 get:=λ{K F dx ss} e=>by
  cases dx with
  | lst ds=>exact ⟨ds,rfl,Ku e⟩
  | tup ds=>exact ⟨ds,rfl,Ku e⟩
  | _=>cases e
theorem Zs [DecidableEq κ] {T:KP κ} (U:KD T) (z:C.K=X.K) (m:X.calm=fm):kX X (.type "set") (λxs H Q=>∃ x F dx ss,xs=[x]/\Same F H/\TopIs C.K F H x dx/\U.sqd dx=ff ss/\ss.length < 4000/\((∀ y∈ss,U.ok y)->∀ p,H p=fg->Q (.ref p) (upd H p (qaL T X.prog X.w p (ss.foldl ju []))))):=by
 intro pins s σ H xs us Q I r h;obtain ⟨x,F,dx,ss,rfl,A,t,es,hl,q⟩:=h;obtain ⟨u,rfl,B⟩:=vE r;obtain ⟨ds,e,hg⟩:=U.get (K:=C.K) (F:=F) es;obtain ⟨a,sk,vs,rfl,hq,g⟩:=Zo A t e;cases B;rw [z] at hq;obtain ⟨its,o,n,f,l,c,j,hd,E⟩:=Zp I hq;obtain ⟨d,hi,D⟩:=hg g f;refine WP (T:=T) (λA1 G L hA k=>?_) λh' tk S kp=>⟨.ref s.heap.objs.size,_,I.laid (t':=tk) kp (am _) (GS S),rfl,q D _ (I.hok.fresh (am _))⟩
 exact qeC (sk:=sk) (items:=its.toArray) (hA.trans (I.ok.hd m)) (WN (ai _ rfl)) (.of (aa _ l) hd c) (by simp [d]) (λi v e=>(hi i v (by simpa using e)).imp λx h=>⟨h.1,h.2 _ _⟩) (by rw [ao,d]; unfold scanBound; omega) (aF (au l)) λh' tk S kp=>k h' tk S λb o J=>kp b o (aF (au J)) (aa _ J)
theorem yW:∀ {us:List fj} {ss:List Str},ic us ss->Vals (ss.map V.str) us
 | _,_,.nil=>.nil
 | _,_,.cons y t h=>.cons ⟨t,rfl⟩ (yW h)
theorem WY (c:X.calm=fm):kX X (.builtin "sorted") (λxs H Q=>∃ a ks,xs=[.ref a]/\H a=ff (qaL KpS X.prog X.w a ks)/\ks.length < 64/\∀ p,H p=fg->Q (.ref p) (upd H p (.lst ((kJ ks).map V.str)))):=by
 intro pins s σ H xs us Q I r h;obtain ⟨a,ks,rfl,g,j,q⟩:=h;obtain ⟨u,rfl,B⟩:=vE r;cases B;have T:SetK KpS X.prog X.w s.heap a ks:=(I.hok a _ g).1;refine Vq (I.ok.hd c) T j λh1 h' b tk vs e ss k1 k2 hp st pm so=>?_;rw [Qk pm so] at st;have d:Inv X pins σ H { s with heap:=h1,drawn:=b,toks:=tk }:=qeD I k1;have z:(kJ ks).length<=sizeLine:=by rw [(qR ks).length_eq,fE];omega
 refine ⟨.ref h1.objs.size,_,d.laid (t':=tk) (o:=.lst ((kJ ks).map V.str)) k2 (am _) ⟨by rw [ah]; exact z,vs.toList,e,yW st,by simpa [seqObj] using hp⟩,rfl,q _ (d.hok.fresh (am _))⟩
theorem GT [DecidableEq κ] {T:KP κ}:kX X (.builtin "len") (λxs H Q=>∃ a ks,xs=[.ref a]/\H a=ff (qaL T X.prog X.w a ks)/\Q (.int ks.length) H):=by intro pins s σ H xs us Q I r h;obtain ⟨a,ks,rfl,g,q⟩:=h;obtain ⟨u,rfl,B⟩:=vE r;cases B;obtain ⟨es,ep,t,l,d⟩:SetK T X.prog X.w s.heap a ks:=(I.hok a _ g).1;have b:=d.bd;refine call_len_set l ⟨rfl,rfl,rfl⟩ rfl d.fits (by unfold scanBound at b; omega) ?_;exact ⟨.int ks.length,H,I.tok _,⟨_,by rw [d.size]⟩,q⟩
theorem uK {m:Mo} {f:qO} {Q R:VK} (h:tE C own m f σ H Q) (i:∀ v H1,Q v H1->R v H1):tE C own m f σ H R:=by
 obtain ⟨F,ρ,r,po⟩:=h;refine ⟨F,ρ,r,?_⟩;cases q:f ρ with
 | ok p=>rw [q] at po;obtain ⟨d,ρ1⟩:=p;exact λv F1 H1 a b c=>i _ _ (po v F1 H1 a b c)
 | exc c ρ1=>rw [q] at po;exact po
 | bad=>rw [q] at po;exact po.elim
noncomputable def yv (d:D):Out D:=match vS d with
 | some ss=>if ss.length < 64 then .ok (.lst ((kJ (ss.foldl Kp [])).map D.str)) else .bad
 | none=>.bad
noncomputable def yX (d:D):Out D:=match vS d with
 | some ss=>if ss.length < 4000 then .ok (.int (ss.foldl Kp []).length) else .bad
 | none=>.bad
theorem yw:∀ {ss:List Str},(∀ x∈ss,x.length<=sizeLine)->IsL K F (ss.map V.str) (ss.map D.str)
 | [],_=>.nil
 | x::l,h=>.cons (.str (h x (aj ..))) (yw λy a=>h y (ac _ a))
theorem Vr {p p2 a:Pos} (s:C.K=X.K) (k:X.calm=fm) (hg:Gl X "sorted") (o:X.mg "sorted"=fg) (v:bootBuiltins "sorted"=ff (.builtin "sorted")) (i:Gl X "set") (g:X.mg "set"=fg) (d:bootBuiltins "set"=ff (.type "set")) (r:PE X e (tE C own ma fa))
  (j:starEach [e] X.env=[(fk,eval e X.env)]:=by exact qy rfl) (c:starEach [.Call (.Name "set" p2) [e] [] a] X.env=[(fk,eval (.Call (.Name "set" p2) [e] [] a) X.env)]:=by exact qy rfl) :
  PE X (.Call (.Name "sorted" p) [.Call (.Name "set" p2) [e] [] a] [] pos) (tE C own .fr (d1 yv fa)):=by
 refine ji (wn (WY k) hg o v (qA (jH (Zs KdS s k) i g d (qA r qY j) (by decide) (by decide) (by rw [j]; rfl) rfl) qY c) (by decide) (by decide) (by rw [c]; rfl) rfl) λσ H Q h=>?_;refine uK (uE (ma:=ma) h) λx H1 ⟨E,F,dx,ex,A,m,po⟩=>?_;cases ex;unfold yv at po;cases es:vS dx with
 | none=>rw [es] at po;exact po.elim
 | some ss=>
  rw [es] at po;by_cases hl:ss.length < 64
  ·have po:PoV C .fr F H1 (if ss.length < 64 then .ok (.lst ((kJ (ss.foldl Kp [])).map D.str)) else .bad) Q:=po;rw [if_pos hl,<-Kr] at po;refine ⟨x,F,dx,ss,rfl,A,m,es,by omega,λn q hq=>⟨q,_,rfl,qf,?_,λl f=>?_⟩⟩;·have:=kQ ss [];rw [aM] at this;omega
   ·obtain ⟨s1,B,f1⟩:=jL (u:=qaL KpS X.prog X.w q (ss.foldl ju [])) A hq;obtain ⟨s2,c2,f2⟩:=jL (u:=.lst ((kJ (ss.foldl ju [])).map V.str)) s1 f;have t:H1 l=none:=by
     by_cases z:l=q;·rw [z] at f;rw [qf] at f;cases f
     ·rwa [qp z] at f
    refine po _ _ _ s2 (B.trans' c2) ⟨l,rfl,t,f2,_,qf,yw λy b=>n y ?_⟩;rw [Kr] at b;rcases Ql ss [] ((qR _).mem_iff.mp b) with z | z;·cases z
    ·exact z
  ·have po:PoV C .fr F H1 (if ss.length < 64 then .ok (.lst ((kJ (ss.foldl Kp [])).map D.str)) else .bad) Q:=po;rw [if_neg hl] at po;exact po.elim
noncomputable def qcH [DecidableEq κ] {T:KP κ} (U:KD T) (add:List κ->κ->List κ) (d:D):Out D:=match U.sqd d with
 | some ss=>if ss.length < 4000 then .ok (.int (ss.foldl add []).length) else .bad
 | none=>.bad
theorem Vs [DecidableEq κ] {T:KP κ} (U:KD T) {p p2 a:Pos} (n:C.K=X.K) (f:X.calm=fm) (hg:Gl X "len") (m:X.mg "len"=fg) (v:bootBuiltins "len"=ff (.builtin "len")) (i:Gl X "set") (g:X.mg "set"=fg) (d:bootBuiltins "set"=ff (.type "set")) (j:PE X e (tE C own ma fa))
  (b:starEach [e] X.env=[(fk,eval e X.env)]:=by exact qy rfl) (c:starEach [.Call (.Name "set" p2) [e] [] a] X.env=[(fk,eval (.Call (.Name "set" p2) [e] [] a) X.env)]:=by exact qy rfl) :
  PE X (.Call (.Name "len" p) [.Call (.Name "set" p2) [e] [] a] [] pos) (tE C own .sh (d1 (qcH U ju) fa)):=by
 refine ji (wn (GT (T:=T)) hg m v (qA (jH (Zs U n f) i g d (qA j qY b) (by decide) (by decide) (by rw [b]; rfl) rfl) qY c) (by decide) (by decide) (by rw [c]; rfl) rfl) λσ H Q h=>?_;refine uK (uE (ma:=ma) h) λx H1 ⟨l,F,dx,ex,A,t,po⟩=>?_;cases ex;unfold qcH at po;cases es:U.sqd dx with
 | none=>rw [es] at po;exact po.elim
 | some ss=>
  rw [es] at po;have po:PoV C .sh F H1 (if ss.length < 4000 then .ok (.int (ss.foldl ju []).length) else .bad) Q:=po;by_cases hl:ss.length < 4000;·rw [if_pos hl] at po;refine ⟨x,F,dx,ss,rfl,A,t,es,hl,λD q hq=>⟨q,_,rfl,qf,?_⟩⟩;obtain ⟨s1,k,f1⟩:=jL (u:=qaL T X.prog X.w q (ss.foldl ju [])) A hq;exact po _ _ _ s1 k (.int _)
  ·rw [if_neg hl] at po;exact po.elim
theorem WZ {p p2 a:Pos} (n:C.K=X.K) (f:X.calm=fm) (hg:Gl X "len") (m:X.mg "len"=fg) (v:bootBuiltins "len"=ff (.builtin "len")) (i:Gl X "set") (g:X.mg "set"=fg) (h:bootBuiltins "set"=ff (.type "set")) (j:PE X e (tE C own ma fa))
  (b:starEach [e] X.env=[(fk,eval e X.env)]:=by exact qy rfl) (c:starEach [.Call (.Name "set" p2) [e] [] a] X.env=[(fk,eval (.Call (.Name "set" p2) [e] [] a) X.env)]:=by exact qy rfl) :
  PE X (.Call (.Name "len" p) [.Call (.Name "set" p2) [e] [] a] [] pos) (tE C own .sh (d1 yX fa)):=by
 rw [show yX=qcH KdS ju by rw [Kr];funext d;have q:KdS.sqd d=vS d:=rfl;unfold yX qcH;rw [q];cases vS d <;> rfl];exact Vs KdS n f hg m v i g h j b c
end
variable {β:Type}
@[simp] theorem jo {a:α} {k:α->Out β}:(Out.ok a).bind k=k a:=rfl
@[simp] theorem qdV {c:Str} {o:Sl} {k:α->Out β}:(Out.exc c o:Out α).bind k=.exc c o:=rfl
@[simp] theorem qdW {k:α->Out β}:(Out.bad:Out α).bind k=.bad:=rfl
@[simp] theorem Jh {a:α}:(Out.ok a).plain=.ok a:=rfl
@[simp] theorem qdX:(Out.bad:Out α).plain=.bad:=rfl
variable {c:Prop}
@[simp] theorem qdY [Decidable c] {a b:Out α} {k:α->Out β}:(if c then a else b).bind k=if c then a.bind k else b.bind k:=by split <;> rfl
@[simp] theorem qdZ [Decidable c] {a b:Out α}:(if c then a else b).plain=if c then a.plain else b.plain:=by split <;> rfl
noncomputable def Xm (d:D) (A B:Out α):Out α:=match d with
 | .bl b=>if b=fm then A else B
 | _=>.bad
@[simp] theorem qcI {A B:Out α}:Xm (.bl b) A B=if b=fm then A else B:=rfl
noncomputable def qcJ (p:D×Sl):Out (Bool×Sl):=match p.1 with
 | .bl b=>.ok (b,p.2)
 | _=>.bad
variable {ρ:Sl}
@[simp] theorem qdp:qcJ (.bl b,ρ)=.ok (b,ρ):=rfl
noncomputable def Ua (ms:List PM):Out (Fl×Sl)->Out (D×List D)
 | .ok (.nx,ρ)=>.ok (.non,qv ρ 0 ms)
 | .ok (.rt d,ρ)=>.ok (d,qv ρ 0 ms)
 | .ok _=>.bad
 | .exc c ρ=>.exc c ((qv ρ 0 ms).map ff)
 | .bad=>.bad
variable {ms:List PM}
theorem runD_ap {f:je}:kW N ms f ds=Ua ms (f (qw N ds)):=by unfold kW Ua;rfl
@[simp] theorem qd0:Ua ms (.ok (.rt d,ρ))=.ok (d,qv ρ 0 ms):=rfl
@[simp] theorem qd1:Ua ms (.ok (.nx,ρ))=.ok (.non,qv ρ 0 ms):=rfl
@[simp] theorem qdq {c:Str}:Ua ms (.exc c ρ)=.exc c ((qv ρ 0 ms).map ff):=rfl
@[simp] theorem qdr [Decidable c] {a b:Out (Fl×Sl)}:Ua ms (if c then a else b)=if c then Ua ms a else Ua ms b:=by split <;> rfl
noncomputable def Vt (as:List AK) (ρ:Sl):Out (D×List D)->gJ
 | .ok q=>.ok (q.1,jE as q.2 ρ)
 | .exc c o=>.exc c (jE as (o.map (·.getD .non)) ρ)
 | .bad=>.bad
variable {as:List AK}
@[simp] theorem zo {q:D×List D}:Vt as ρ (.ok q)=.ok (q.1,jE as q.2 ρ):=rfl
@[simp] theorem qbM {c:Str} {o:Sl}:Vt as ρ (.exc c o)=.exc c (jE as (o.map (·.getD .non)) ρ):=rfl
@[simp] theorem qbN [Decidable c] {a b:Out (D×List D)}:Vt as ρ (if c then a else b)=if c then Vt as ρ a else Vt as ρ b:=by split <;> rfl
variable {ρ:Sl}
@[simp] theorem wP:qc i ρ=match ρ[i]? with | some (ff d)=>.ok (d,ρ) | _=>.bad:=rfl
@[simp] theorem qeE:dC d ρ=.ok (d,ρ):=rfl
variable {gg:D->Sl->Out Sl}
section
variable {g g':D->D->Out D} {g1:D->Out D} {fa fb fc f:qO} {ft fu:ub} {fr:vI} {fs ft1:je} {fi:vI} {G:jM}
@[simp] theorem vT:d1 g1 fa ρ=(fa ρ).bind λp=>(g1 p.1).plain.bind λd=>.ok (d,p.2):=rfl
@[simp] theorem Xn:d2 g fa fb ρ=(fa ρ).bind λp=>(fb p.2).bind λq=>(g p.1 q.1).plain.bind λd=>.ok (d,q.2):=rfl
@[simp] theorem qds:yh f ρ=(f ρ).bind λp=>(yq p.1).bind λb=>.ok (b,p.2):=rfl
@[simp] theorem Kv:qV f ρ=(f ρ).bind qcJ:=rfl
@[simp] theorem qdt:gO ft ρ=(ft ρ).bind λp=>.ok (!p.1,p.2):=rfl
@[simp] theorem qcK:qdn f ρ=(qV f ρ).bind λp=>.ok (.bl (!p.1),p.2):=rfl
@[simp] theorem qdu:qdj ft fu ρ=(ft ρ).bind λp=>if p.1=fm then fu p.2 else .ok (fk,p.2):=rfl
@[simp] theorem qd2:dOr ft fu ρ=(ft ρ).bind λp=>if p.1=fm then .ok (fm,p.2) else fu p.2:=rfl
@[simp] theorem qcL:Vh fa fb ρ=(fa ρ).bind λp=>Xm p.1 (fb p.2) (.ok (.bl fk,p.2)):=by
 unfold Vh;cases fa ρ with
 | ok p=>
  obtain ⟨d,r⟩:=p;cases d <;> try rfl
  rename_i b;cases b <;> rfl
 | exc c o=>rfl
 | bad=>rfl
@[simp] theorem qdv:qcC fa fb ρ=(fa ρ).bind λp=>Xm p.1 (.ok (.bl fm,p.2)) (fb p.2):=by
 unfold qcC;cases fa ρ with
 | ok p=>
  obtain ⟨d,r⟩:=p;cases d <;> try rfl
  rename_i b;cases b <;> rfl
 | exc c o=>rfl
 | bad=>rfl
@[simp] theorem qd3:dIf ft fa fb ρ=(ft ρ).bind λp=>if p.1=fm then fa p.2 else fb p.2:=rfl
@[simp] theorem qbO:uc g g' fa fb fc ρ=(fa ρ).bind λp=>(fb p.2).bind λq=>(g p.1 q.1).plain.bind λz=>Xm z ((fc q.2).bind λr=>(g' q.1 r.1).plain.bind λd=>.ok (d,r.2)) (.ok (.bl fk,q.2)):=by
 unfold uc;congr 1;funext p;congr 1;funext q;congr 1;funext z;cases z <;> try rfl
 rename_i b;cases b <;> rfl
@[simp] theorem yY:qE ρ=.ok ([],ρ):=rfl
@[simp] theorem yx:qd fa fr ρ=(fa ρ).bind λp=>(fr p.2).bind λq=>.ok (p.1::q.1,q.2):=rfl
@[simp] theorem qcM:yi fr ρ=(fr ρ).bind λq=>.ok (D.non::q.1,q.2):=rfl
@[simp] theorem Ub:gj fr ρ=(fr ρ).bind λp=>if p.1.length<=sizeLine then .ok (.tup p.1,p.2) else .bad:=rfl
@[simp] theorem GU:gk fr ρ=(fr ρ).bind λp=>if p.1.length<=sizeLine then .ok (.lst p.1,p.2) else .bad:=rfl
@[simp] theorem Xo:jK ρ=.ok (.nx,ρ):=rfl
@[simp] theorem zp:jf fs ft1 ρ=(fs ρ).bind λp=>match p.1 with | .nx=>ft1 p.2 | _=>.ok p:=by
 show _=_;unfold jf;cases fs ρ with
 | ok p=>obtain ⟨l,r⟩:=p; cases l <;> rfl
 | exc c o=>rfl
 | bad=>rfl
@[simp] theorem qbP:sIf ft fs ft1 ρ=(ft ρ).bind λp=>if p.1=fm then fs p.2 else ft1 p.2:=rfl
@[simp] theorem Xp:kY f ρ=(f ρ).bind λp=>.ok (.nx,p.2):=rfl
@[simp] theorem uL:jO f ρ=(f ρ).bind λp=>.ok (.rt p.1,p.2):=rfl
@[simp] theorem wQ:kf i f ρ=(f ρ).bind λp=>if i < p.2.length then .ok (.nx,p.2.set i (ff p.1)) else .bad:=rfl
@[simp] theorem zq:qr as G fr ρ=(fr ρ).bind λp=>match qD as p.1 p.2 with | some ds=>Vt as p.2 (G ds) | none=>.bad:=rfl
@[simp] theorem qdw:qeA f ρ=(f ρ).bind λp=>(WC p.1).bind λds=>.ok (ds,p.2):=rfl
@[simp] theorem Uc:jg f ρ=(f ρ).bind λp=>(qZ p.1).bind λds=>.ok (ds,p.2):=rfl
@[simp] theorem qd4:gNm i d ρ=if i < ρ.length then .ok (ρ.set i (ff d)) else .bad:=rfl
@[simp] theorem yZ:Kb fi gg fs ρ=(fi ρ).bind λp=>kP gg fs p.1 p.2:=rfl
@[simp] theorem qdx:qeB f gg ρ=(f ρ).bind λp=>match gg p.1 p.2 with | .ok ρ'=>.ok (.nx,ρ') | _=>.bad:=rfl
@[simp] theorem GV {gg:List D->D->Out (List D)}:yu i gg f ρ=if uI ρ[i]?=fm then (f ρ).bind λp=>(match p.2[i]? with | some (ff (.lst xs))=>(match gg xs p.1 with | .ok ys=>.ok (.non,p.2.set i (ff (.lst ys))) | _=>.bad) | _=>.bad) else .bad:=rfl
@[simp] theorem qd5:ftT ρ=.ok (fm,ρ):=rfl
end
end L2.D2
namespace L2.D2
open PySem PySem.Spec PyProof.Rows
def qaG (i j:Int):Prop:=(0<=j/\j<=64)/\-4611686018427387904 < i/\i < 4611686018427387904
instance:∀ i j,Decidable (qaG i j):=λi j=>inferInstanceAs (Decidable (_/\_))
variable {X:Cx} {C:Ct}
section
theorem Zf:OpR X (binaryOp .Pow) (rI qaG λi j=>.int (i ^ j.toNat)):=opI λi j _ _ _ _ _ d q=>by obtain ⟨⟨a,h1⟩,h2,h⟩:=d;exact pow_int_small a (by omega) (by omega) q
noncomputable def qdy:D->D->Out D:=JR λi j=>if qaG i j then .ok (.int (i ^ j.toNat)) else .bad
theorem qbQ:OpD X C .sh (binaryOp .Pow) qdy:=Wi Zf λ_ _ _=>.int _
end
noncomputable def Ud (sep:Str):D->Out D
 | .lst ds=>match wO ds with
  | some ss=>if (ss.map (·.length)).sum+ss.length * sep.length<=16777216/\(dX sep ss).length<=sizeLine then .ok (.str (dX sep ss)) else .bad
  | none=>.bad
 | _=>.bad
variable {own:List Nat} {e:Expr} {m:Mo}
section
variable {fe:qO} {apos cpos:Pos} {sep:Str}
theorem GW:MtR X "str.join" (λx vs H Q=>∃ (sep:Str) (a:Addr) (xs:List V) (ss:List Str),x=.str sep/\vs=[.ref a]/\SqL X.K H a xs/\(∀ us,Vals xs us->ic us ss)/\(ss.map (·.length)).sum+ss.length * sep.length<=16777216/\Q (.str (dX sep ss)) H):=by intro pins s σ H x vs v us Q I d c h;obtain ⟨sep,a,xs,ss,rfl,rfl,hq,f,z,q⟩:=h;obtain ⟨t,rfl⟩:=d;obtain ⟨u,rfl,B⟩:=c.one;cases B;obtain ⟨its,r,pl,_⟩:=I.list hq;obtain ⟨o,n,l,e,hd,b⟩:=pl;exact join_list ⟨o,l,e,n,b⟩ (by simpa using f its r) z λt' k=>⟨.str (dX sep ss),H,I.tok _,⟨_,rfl⟩,q⟩
theorem GX {k c2} (u:C.K=X.K) (s:PE X e (tE C own m fe))
  (f:attributeBase (.Constant (.str sep) k c2) "join" X.env (eval (.Constant (.str sep) k c2) X.env)=eval (.Constant (.str sep) k c2) X.env:=by rfl)
  (w:((backTo cpos (starEach [e] X.env)).all (λx=>!x.1)&&(backToKw cpos (keywordEach [] X.env)).all (λx=>x.1.isSome)
   && decide ([e].length+([]:List fN).length+(if ([]:List fN).isEmpty then 0 else 1) < 30))=true:=by exact wY rfl)
  (b:(apos.endLine == cpos.line)=true:=by rfl) (hs:starEach [e] X.env=[(fk,eval e X.env)]:=by exact qy rfl) :
  PE X (.Call (.Attribute (.Constant (.str sep) k c2) "join" apos) [e] [] cpos) (tE C own .sh (d1 (Ud sep) fe)):=by
 refine ji (YE PySem.F.plainAttrs_str PySem.F.slot_str_join PySem.F.type_str_join GW Zd (qA s qY hs) f w b hs rfl) λσ H Q h=>?_;refine ⟨rfl,?_⟩;obtain ⟨F,ρ,o,h⟩:=YK (ma:=m) h;refine ⟨F,ρ,o,?_⟩;cases q:fe ρ with
 | ok p=>
  rw [q] at h;obtain ⟨d,ρ1⟩:=p;intro v F1 H1 g k j;obtain ⟨y,dx,A,n,po⟩:=h v F1 H1 g k j;cases dx <;> try exact po.elim
  rename_i ds;unfold Ud at po;cases i:wO ds with
  | none=>simp only [i] at po; exact po.elim
  | some ss=>
   simp only [i] at po;by_cases z:(ss.map (·.length)).sum+ss.length * sep.length<=16777216/\(dX sep ss).length<=sizeLine
   ·rw [if_pos z] at po;obtain ⟨a,vs,rfl,hq,t⟩:=n.lst A;have l:SqL X.K H1 a vs:=by rw [<-u]; exact hq
    exact ⟨sep,a,vs,ss,rfl,rfl,l,λus r=>(yV t r i).1,z.1,po _ y H1 A .refl (.str z.2)⟩
   ·rw [if_neg z] at po;exact po.elim
 | exc c=>rw [q] at h; exact h
 | bad=>rw [q] at h; exact h.elim
end
noncomputable def dM (k:D->Bool) (g:D->D->Out D) (f fa:qO):qO:=λρ=>(f ρ).bind λp=>if k p.1 then (fa p.2).bind λq=>(g p.1 q.1).plain.bind λd=>.ok (d,q.2) else .bad
variable {a:Expr} {ma mb:Mo} {pos:Pos} {σ:St} {F H:Hp} {Q:VK}
section
variable {b:Expr} {fa fb:qO}
theorem Po.imp {r:gJ} {R:VK} (h:Po C own m σ F H r Q) (i:∀ v H',Q v H'->R v H'):Po C own m σ F H r R:=by
 cases r with
 | ok p=>exact λv F' H' a c o=>i v H' (h v F' H' a c o)
 | exc x=>exact h
 | bad=>exact h.elim
theorem GY {k:D->Bool} {g:D->D->Out D} (f:ma≠.any) (h:tE C own m (dM k g fa fb) σ H Q):tE C own ma fa σ H λx H1=>(∃ F dx,Same F H1/\TopIs C.K F H1 x dx/\k dx=fm)/\tE C own mb fb σ H1 λy H2=>∃ F dx j,Same F H2/\TopIs C.K F H2 x dx/\TopIs C.K F H2 y j/\PoV C m F H2 (g dx j) Q:=by
 obtain ⟨F,ρ,p,h⟩:=h;refine ⟨F,ρ,p,Po.bind h λv F1 H1 d ρ1 a n c h1=>?_⟩;cases i:k d with
 | false=>simp only [i] at h1; exact h1.elim
 | true=>simp only [i,if_true] at h1;exact ⟨⟨F1,d,a.sub,c.top,i⟩,F1,ρ1,a,Po.bind h1 λw l H2 e ρ2 r c2 b h2=>⟨l,d,e,r.sub,(c.grow f c2 λx z=>(p.OA_there z).1).top,b.top,PoV.of r h2⟩⟩
def MtD (X:Cx) (C:Ct) (m:Mo) (id:String) (g:D->D->Out D):Prop:=
 MtR X id (λx vs H Q=>∃ y F dx d,vs=[y]/\Same F H/\TopIs C.K F H x dx/\TopIs C.K F H y d/\PoV C m F H (g dx d) Q)
end
variable {s:fq} {n:Nat}
theorem Ue {pins:Pns} (I:Inv X pins σ H s) (A:Same F H) {e:D}:∀ {vs:List V} {ds:List D} {us:List fj} {b:Bool},IsL X.K F vs ds->Vals vs us->yI n e ds=ff b ->us.map (VH X F n e)=ds.map λd=>eqN n d e == ff fm
 | _,_,_,b,.nil,.nil,h=>rfl
 | _,_,_,b,.cons i t,.cons r rs,h=>by obtain ⟨a,c,q,f,rfl⟩:=gM h;rw [ax,ax,Ue I A t rs f,Wq I A i r q,q];cases a <;> rfl
variable {w:fA}
section
variable {prog:fz} {A:fD} {E:fj->fq->Prop}
theorem Ji {l:Addr} {T:String} {o:Obj} {its:List fj} {ss:List Str} {Q:fj->fq->Prop} (hT:T = "list"\/T = "tuple") (h:s.heap.get? l=ff o) (a:o.cls=.type T) (hd:o.data=.seq its.toArray n) (c:ic its ss) (j:its.length < 64)
  (p:∀ (h1 h':Heap) vs e f,(∀ b o,s.heap.get? b=ff o->h1.get? b=ff o)->(∀ b o,h1.get? b=ff o->h'.get? b=ff o)->h'.get? h1.objs.size=ff (seqObj "list" vs e)->ic vs.toList f->f.Perm ss->sortedS f=fm->Q (.ref h1.objs.size) { s with heap:=h' }) :
  wpAny (model prog w) A (call (.builtin "sorted") [.ref l]) Q E s:=by
 refine Calls.call_function_entry kind_sorted plain_sorted entry_sorted (args_sorted1 _) ?_; unfold Builtin.«sorted»;refine fh (m:=checkCount "sorted" 1 1 _) (fy ?_);refine fh (wpAny_collect_seq l hT h a hd (λh1 k1=>?_) (by rw [ao,fE]; omega));show wpAny _ _ _ _ _ { s with heap:=h1 };refine fh (wpAny_newList ?_ (by rw [dv,fE]; omega));rw [dv];have Y:(h1.push (seqObj "list" its.toArray 0)).get? h1.objs.size=ff (seqObj "list" its.toArray 0):=ai _ rfl;refine fh (fM (fL slot_list_sort (s:={ s with heap:=h1.push (seqObj "list" its.toArray 0) }) ⟨_,Y,rfl⟩ entry_list_sort (list_sort_treeK strKind_oneLt Y c.keysOf (λv₁ k rest e=>keyKind_strs (by rw [<-e]; exact c)) j λg u t=>⟨_,rfl,?_⟩) (args_list_sort _)));obtain ⟨f,r,q,y⟩:=sorted_out_str c u t;obtain ⟨e,i⟩:=sortedHeap_at (out:=(arrOf g).map (·.2)) Y;refine fy ⟨_,rfl,p h1 _ _ e f k1 (λb o J=>?_) i r q y⟩;have d:=au J;rw [sortedHeap_old (aF d) (by rw [bP]; exact cf d)];exact aa _ J
end
noncomputable def wR (d:D):Out D:=match vS d with
 | some ss=>if ss.length < 64 then .ok (.lst ((kJ ss).map D.str)) else .bad
 | none=>.bad
section
theorem Uf (m:C.K=X.K):xC X C .fr (.builtin "sorted") wR:=by
 intro pins s σ H xs us Q I r h;obtain ⟨x,F,dx,rfl,i,k,po⟩:=h;obtain ⟨u,rfl,B⟩:=vE r;unfold wR at po;cases es:vS dx with
 | none=>rw [es] at po; exact po.elim
 | some ss=>
  rw [es] at po;by_cases hl:ss.length < 64
  ·have po:PoV C .fr F H (if ss.length < 64 then .ok (.lst ((kJ ss).map D.str)) else .bad) Q:=po;rw [if_pos hl] at po;have fin:∀ {l:Addr} {T:String} {o:Obj} {its:List fj} {n:Nat},T = "list"\/T = "tuple"->s.heap.get? l=ff o->o.cls=.type T->o.data=.seq its.toArray n->ic its ss->(∀ y∈ss,y.length<=sizeLine)->wpAny (model X.prog X.w) X.A (call (.builtin "sorted") [.ref l]) (EP X pins σ Q) X.xe s:=by
    intro l T o its n hT f g hd d c;refine Ji hT f g hd d (by rw [d.length]; exact hl) λh1 h' vs e q k1 k2 hp st pm so=>?_;rw [Qk pm so] at st;have p:Inv X pins σ H { s with heap:=h1 }:=I.kept (t':=s.toks) k1;have z:(kJ ss).length<=sizeLine:=by rw [(qR ss).length_eq,fE];omega
    have hq:H h1.objs.size=none:=p.hok.fresh (am _);obtain ⟨s2,c2,f2⟩:=jL (u:=.lst ((kJ ss).map V.str)) i hq;exact ⟨.ref h1.objs.size,_,p.laid (t':=s.toks) (o:=.lst ((kJ ss).map V.str)) k2 (am _) ⟨by rw [ah]; exact z,vs.toList,e,yW st,by simpa [seqObj] using hp⟩,rfl,po _ _ _ s2 c2 ⟨_,rfl,hq,f2,_,qf,yw λy j=>c y ((qR _).mem_iff.mp j)⟩⟩
   cases dx with
   | lst ds=>obtain ⟨a,vs,rfl,hq,t⟩:=k.lst i;rw [m] at hq;cases B;obtain ⟨its,v,pl,_⟩:=I.list hq;obtain ⟨o,n,f,g,hd,b⟩:=pl;obtain ⟨st,c⟩:=yV t v es;exact fin (.inl rfl) f g b st c
   | tup ds=>obtain ⟨a,vs,rfl,hq,t⟩:=k.tup i;rw [m] at hq;cases B;obtain ⟨its,v,pl,_⟩:=I.tuple hq;obtain ⟨o,f,g,n,b⟩:=pl;obtain ⟨st,c⟩:=yV t v es;exact fin (.inr rfl) f g b st c
   | _=>cases es
  ·have po:PoV C .fr F H (if ss.length < 64 then .ok (.lst ((kJ ss).map D.str)) else .bad) Q:=po;rw [if_neg hl] at po;exact po.elim
end
noncomputable def qdz:je:=λ_=>.bad
section
variable {own':List Nat} {sts:List Stmt}
theorem GZ:PSs X sts (tSt C own own' qdz):=by refine ⟨?_⟩;intro pins s σ H D I h;obtain ⟨_,_,_,h⟩:=h;exact h.elim
end
theorem PoI.shift {F1 H1:Hp} {r:Out (List D×Sl)} {R:It->Hp->Prop} (h:PoI C own σ F H r R) (c:Chg (OA own σ) F H F1 H1):PoI C own σ F1 H1 r R:=by
 cases r with
 | ok p=>exact λJ F' H' a T j=>h J F' H' a (c.trans' T) j
 | exc x=>exact λF' H' s io T=>h F' H' s io (c.trans' T)
 | bad=>exact h.elim
def Ug (i j:Int):Prop:=(-(2 ^ 62)<=i/\i < 2 ^ 62)/\-(2 ^ 62)<=j/\j < 2 ^ 62
instance:∀ i j,Decidable (Ug i j):=λi j=>inferInstanceAs (Decidable (_/\_))
noncomputable def wS (fa fb:qO):vI:=λρ=>(fa ρ).bind λp=>(fb p.2).bind λq=>match p.1,q.1 with
 | .int i,.int j=>if Ug i j then .ok (yK i (j - i).toNat,q.2) else .bad
 | _,_=>.bad
variable {K:Frag}
section
variable {b tg:Expr} {fa fb:qO}
theorem xR {p:Pos} (hg:Gl X "range") (l:X.mg "range"=fg) (o:PE X a (tE C own .sh fa)) (n:PE X b (tE C own mb fb)) (hs:starEach [a,b] X.env=[(fk,eval a X.env),(fk,eval b X.env)]:=by exact YJ rfl rfl) (f:starEach [b] X.env=[(fk,eval b X.env)]:=by exact qy rfl):PI X tg (.Call (.Name "range" p) [a,b] [] pos) (tIt C own (wS fa fb)):=by
 refine YX (VP hg l (qA o (qA n qY f) (by rw [hs,f])) hs f) λσ H R ⟨F,ρ,k,h⟩=>⟨F,ρ,k,PoI.bindV h λv F1 H1 d ρ1 g q c h1=>⟨F1,ρ1,g,PoI.bindV (h1.shift q) λw s H2 e ρ2 r c2 m h2=>?_⟩⟩
 have c:Is C.K F1 v d:=c;cases d with
 | int i=>
  cases e with
  | int j=>
   cases c;obtain rfl:=m.top.int;have h2:PoI C own σ F1 H1 (if Ug i j then .ok (yK i (j - i).toNat,ρ2) else .bad) R:=h2;by_cases z:Ug i j;·rw [if_pos z] at h2;exact ⟨i,j,rfl,⟨z.1.1,z.1.2,z.2.1,z.2.2⟩,h2 _ s H2 r c2 Zl⟩
   ·rw [if_neg z] at h2; exact h2.elim
  | _=>exact h2.elim
 | _=>exact h2.elim
theorem Uh:∀ {xs:List V} {us:List fj},xs.length=us.length->(∀ (j:Nat) (x:V) (u:fj),xs[j]?=ff x->us[j]?=ff u->RelV x u)->Vals xs us
 | [],[],_,_=>.nil
 | x::xs,u::us,hl,h=>.cons (h 0 x u rfl rfl) (Uh (Nat.succ.inj hl) λj y w a b=>h (j+1) y w (by simpa using a) (by simpa using b))
 | [],_::_,hl,_=>nomatch hl
 | _::_,[],hl,_=>nomatch hl
noncomputable def qaM (p:Addr) (lo hi:Int):HO:=.ext λh=>∃ t u v,IsRange h p lo hi 1 t u v
theorem Ui {P:fz} {h:Heap} {p:Addr} {lo hi:Int} {t u v:Tok} (x:IsRange h p lo hi 1 t u v):ObjOk P w H h p (qaM p lo hi):=
 ⟨⟨t,u,v,x⟩,⟨_,x⟩,λ_ _ ⟨t,u,v,x⟩ k=>⟨t,u,v,k _ x⟩⟩
theorem Uj:kX X (.type "range") (λxs H Q=>∃ j:Int,xs=[.int j]/\∀ p,H p=fg->Q (.ref p) (upd H p (qaM p 0 j))):=by intro pins s σ H xs us Q I r h;obtain ⟨j,rfl,q⟩:=h;obtain ⟨u,rfl,B⟩:=vE r;obtain ⟨t,rfl⟩:=B;exact call_range_1 ⟨.ref s.heap.objs.size,_,I.laid (t':=s.toks+1+1) (λb o e=>aa _ e) (am _) (Ui (e5 ..)),rfl,q _ (I.hok.fresh (am _))⟩
theorem Kw (e:X.calm=fm):kX X (.type "list") (λxs H Q=>∃ r lo hi,xs=[.ref r]/\H r=ff (qaM r lo hi)/\(Ug lo hi/\hi - lo<=1000000)/\∀ p,H p=fg->Q (.ref p) (upd H p (.lst ((aB (hi - lo).toNat).map λk=>V.int (lo+(k:Nat)))))):=by
 intro pins s σ H xs us Q I r h;obtain ⟨a,lo,hi,rfl,g,z,q⟩:=h;obtain ⟨u,rfl,B⟩:=vE r;cases B;obtain ⟨t,u,v,d⟩:=(I.hok a _ g).1;have l:Builtin.Range.rangeSize lo hi 1=(((hi - lo).toNat:Nat):Int):=by rw [rangeSize_one]; split <;> omega
 refine call_list_range (n:=(hi - lo).toNat) (I.ok.hd e) d (small_one z.1.1.1 z.1.1.2 z.1.2.1 z.1.2.2) l (by omega) λh' tk acc c k hp b=>?_;refine ⟨.ref s.heap.objs.size,_,I.laid (t':=tk) (o:=.lst ((aB (hi - lo).toNat).map λk=>V.int (lo+(k:Nat)))) k (am _) ⟨by rw [ah,bg,fE]; omega,acc.toList,c,?_,by simpa using hp⟩,rfl,q _ (I.hok.fresh (am _))⟩;refine Uh (by rw [ah,bg,ay,b.1]) λj x w ex f=>?_;rw [aJ] at ex;obtain ⟨k,i,rfl⟩:=aL.mp ex;obtain ⟨D,rfl⟩:=aq.mp i;obtain ⟨t,rfl⟩:=b.2 j w (by simpa using f);exact ⟨t,by simp⟩
noncomputable def wv:D->Out D
 | .int j=>if Ug 0 j/\j - 0<=1000000 then .ok (.lst (yK 0 (j - 0).toNat)) else .bad
 | _=>.bad
theorem Jj {lo:Int}:∀ l:List Nat,IsL K F (l.map λk=>V.int (lo+(k:Nat))) (l.map λk=>D.int (lo+(k:Nat)))
 | []=>.nil
 | k::l=>.cons (.int _) (Jj l)
theorem Vu {p p2 a:Pos} (r:X.calm=fm) (hg:Gl X "list") (o:X.mg "list"=fg) (v:bootBuiltins "list"=ff (.type "list")) (i:Gl X "range") (g:X.mg "range"=fg) (d:bootBuiltins "range"=ff (.type "range")) (s:PE X e (tE C own ma fa))
  (m:starEach [e] X.env=[(fk,eval e X.env)]:=by exact qy rfl) (c:starEach [.Call (.Name "range" p2) [e] [] a] X.env=[(fk,eval (.Call (.Name "range" p2) [e] [] a) X.env)]:=by exact qy rfl) :
  PE X (.Call (.Name "list" p) [.Call (.Name "range" p2) [e] [] a] [] pos) (tE C own .fr (d1 wv fa)):=by
 refine ji (jH (Kw r) hg o v (qA (jH Uj i g d (qA s qY m) (by decide) (by decide) (by rw [m]; rfl) rfl) qY c) (by decide) (by decide) (by rw [c]; rfl) rfl) λσ H Q h=>?_;refine uK (uE (ma:=ma) h) λx H1 ⟨y,F,dx,ex,A,n,po⟩=>?_;cases ex;cases dx <;> try exact po.elim
 rename_i j;unfold wv at po;by_cases b:Ug 0 j/\j - 0<=1000000
 ·simp only [if_pos b] at po;obtain rfl:=n.int;refine ⟨j,rfl,λq hq=>⟨q,0,j,rfl,qf,b,λl f=>?_⟩⟩;obtain ⟨s1,w,f1⟩:=jL (u:=qaM q 0 j) A hq;obtain ⟨s2,c2,f2⟩:=jL (u:=.lst ((aB (j - 0).toNat).map λk=>V.int (0+(k:Nat)))) s1 f;have t:H1 l=none:=by
   by_cases z:l=q;·rw [z] at f;rw [qf] at f;cases f
   ·rwa [qp z] at f
  exact po _ _ _ s2 (w.trans' c2) ⟨l,rfl,t,f2,_,qf,Jj _⟩
 ·simp only [if_neg b] at po;exact po.elim
end
noncomputable def Ite (K:Frag) (a:Addr) (xs:List V):It:=
 ⟨λi H=>i < xs.length/\SqL K H a xs,λi H v H'=>∃ x p,xs[i]?=ff x/\H p=fg/\v=.ref p/\H'=upd H p (.tup [.int (i:Nat),x]),λi H=>xs.length<=i/\SqL K H a xs⟩
theorem Uk {P:fz} {w:fA} {K:Frag} {t:List Expr} {x1} {pos:Pos} (b a:Nat) (xs:List V) (h1:a < b):Turn P w K (.Tuple t x1 pos) (Ite K a xs) [b+1,b] (b+1) (λi h=>(∃ old,IsEnum h (b+1) b i old)/\h.IsListIter b a i) where
 mem:=by simp
 obj:=λi h st c d=>by
  obtain ⟨⟨old,f⟩,o,j,l,hd⟩:=st;simp only [ae,bH,or_false] at d;rcases d with rfl | rfl;·exact ⟨_,f,λv z=>by cases z⟩
  ·exact ⟨o,j,λv z=>by rw [hd] at z; cases z⟩
 keep:=λi h h' st k=>by obtain ⟨⟨old,f⟩,o,j,l,hd⟩:=st;exact ⟨⟨old,k _ (by simp) _ f⟩,o,k _ (by simp) _ j,l,hd⟩
 item:=by
  intro X B A C d i pins s σ H E I p st hg;subst B A C;obtain ⟨⟨old,f⟩,hit⟩:=st;obtain ⟨hl,q⟩:=hg;obtain ⟨its,r,pl,_⟩:=I.list q;have hi:i < its.length:=by rw [<-r.length]; exact hl
  have hx:its.toArray[i]?=ff its[i]:=by simp [hi]
  refine wpAny_pyNext_enum_item f hit pl.isList hx (Nat.succ_ne_self b) λh' M y J S kp=>?_;refine ⟨_,rfl,wpAny_letOwnedTupleGo_enum M λhq O g=>?_⟩;obtain ⟨x,ex,L⟩:=WW r (aw hi);have hT:H s.heap.objs.size=none:=I.hok.fresh (am _);have u:b+1 < s.heap.objs.size:=au f;have T:∀ c∈[b+1,b],c≠s.heap.objs.size:=λc d=>by simp only [ae,bH,or_false] at d;have lt':b+1 < s.heap.objs.size:=u;generalize s.heap.objs.size=m at lt';intro z;omega
  have R:Inv X pins σ (upd H s.heap.objs.size (.tup [.int (i:Nat),x])) { s with heap:=s.heap.push { cls:=.type "tuple",data:=.seq #[.int i s.toks,its[i]] } }:=
   I.laid (t':=s.toks) (λ_ _ e=>aa _ e) (am _) ⟨⟨by simp only [af,aM]; rw [fE]; decide,_,ai _ rfl,rfl⟩,[.int i s.toks,its[i]],.cons ⟨_,rfl⟩ (.cons L .nil),⟨_,ai _ rfl,rfl,_,rfl⟩⟩
  have Q:Inv X pins σ (upd H s.heap.objs.size (.tup [.int (i:Nat),x])) { s with heap:=hq,toks:=s.toks+1 }:=by
   refine WV (s:={ s with heap:=s.heap.push { cls:=.type "tuple",data:=.seq #[.int i s.toks,its[i]] } }) (ch:=[b+1,b]) R (λc o n e=>?_) λc d=>⟨by rw [qp (T c d)]; exact (p c d).1,(p c d).2⟩
   simp only [ae,bH,or_false,not_or] at n;rw [g.2 c n.1];by_cases D:c=s.heap.objs.size;·subst D;have G:(s.heap.push ({ cls:=.type "tuple",data:=.seq #[.int i s.toks,its[i]] }:Obj)).get? s.heap.objs.size=ff { cls:=.type "tuple",data:=.seq #[.int i s.toks,its[i]] }:=ai _ rfl;rw [show (s.heap.push ({ cls:=.type "tuple",data:=.seq #[.int i s.toks,its[i]] }:Obj)).get? s.heap.objs.size=ff o from e] at G;rw [G];exact J
   ·have N:s.heap.get? c=ff o:=by have:=e;rwa [show (s.heap.push ({ cls:=.type "tuple",data:=.seq #[.int i s.toks,its[i]] }:Obj)).get? c=s.heap.get? c from Heap.get?_push_ne _ _ _ D] at this
    exact kp c o n.1 n.2 N
  refine ⟨.ref s.heap.objs.size,_,Q,rfl,⟨x,_,ex,hT,rfl,rfl⟩,⟨⟨_,by simpa using O⟩,?_⟩,λc d=>by rw [qp (T c d)]; exact (p c d).1⟩;obtain ⟨o,j,l,hd⟩:=y;exact ⟨o,(g.2 _ (Nat.succ_ne_self b).symm).trans j,l,hd⟩
 done:=by
  intro X B A C d i pins s σ H E I p st hg;subst B A C;obtain ⟨⟨old,f⟩,hit⟩:=st;obtain ⟨hl,q⟩:=hg;obtain ⟨its,r,pl,_⟩:=I.list q;refine wpAny_pyNext_enum_end (I.ok.hd d) f hit pl.isList (by simp; rw [<-r.length]; exact hl) λh' ex=>⟨rfl,WV (t':=s.toks) (ch:=[b+1,b]) I (λc o n e=>?_) p⟩
  simp only [ae,bH,or_false,not_or] at n;exact ex c o n.2 e
 self:=λ_ _ _ _ _ st h=>wpAny_pyIter_enum st.1.choose_spec h
theorem Ul:bootBuiltins "enumerate"=ff (.type "enumerate"):=by decide +kernel
noncomputable def Qm (xs:List D):List D:=(xs.zipIdx).map λp=>.tup [.int (p.2:Nat),p.1]
noncomputable def xE (f:qO):vI:=λρ=>(f ρ).bind λp=>match p.1 with
 | .lst xs=>.ok (Qm xs,p.2)
 | _=>.bad
theorem qbR {a:Addr} {xs:List V} {ds:List D} (p:SqL K F a xs) (t:IsL K F xs ds):ItIs K F (Ite K a xs) (Qm ds) where
 go:=λi H hi s=>by unfold Qm at hi;rw [ah,List.length_zipIdx] at hi;exact ⟨by rw [t.length]; exact hi,s.seq p⟩
 yld:=λi Fi H v H' d e s1 s2 y=>by
  obtain ⟨x,q,hx,n,rfl,rfl⟩:=y;obtain ⟨d1,e1,i1⟩:=t.get hx;have o:d=.tup [.int (i:Nat),d1]:=by unfold Qm at e;rw [aJ,List.getElem?_zipIdx,e1] at e;simpa using e.symm
  subst o;obtain ⟨g1,Y⟩:=yJ (u:=.tup [.int (i:Nat),x]) s2 n;exact ⟨_,Y,g1,.tup (.of qf) (.cons (.int _) (.cons ((i1.mono s1).mono Y.grow) .nil))⟩
 stop:=λi H hi s=>by unfold Qm at hi;rw [ah,List.length_zipIdx] at hi;exact ⟨by rw [t.length]; exact hi,s.seq p⟩
section
variable {fa:qO}
theorem qaa {ta:TA} {p tpos:Pos} {t:List Expr} {x1} (hg:Gl X "enumerate") (j:X.mg "enumerate"=fg) (k:PA X [a] ta) (hs:starEach [a] X.env=[(fk,eval a X.env)]):PI X (.Tuple t x1 tpos) (.Call (.Name "enumerate" p) [a] [] pos) (λσ H R=>ta σ H λvs H1=>∃ m xs,vs=[.ref m]/\SqL X.K H1 m xs/\R (Ite X.K m xs) H1):=by
 refine ⟨?_⟩;intro pins s σ H R I h;refine Call_ (xJ I hg j Ul (bN (thn (k pos pins s σ H _ I h) λus s1 ⟨vs,H1,d,r1,g⟩=>?_) hs rfl));obtain ⟨m,xs,rfl,w,q⟩:=g;obtain ⟨u,rfl,e1⟩:=vE r1;cases e1;obtain ⟨its,v,pl,_⟩:=d.list w;have c:m < s1.heap.objs.size:=let ⟨o,_,e,_⟩:=pl; au e;refine call_enumerate_list pl.isList λh' i hit z kp=>?_;refine wpAny_pyIter_enum i ?_;refine ⟨s1.heap.objs.size+1,_,_,Ite X.K m xs,H1,rfl,d.kept (t':=s1.toks) kp,Uk s1.heap.objs.size m xs c,⟨⟨_,i⟩,hit⟩,λb f=>?_,q⟩;have S:s1.heap.objs.size<=b:=by
  simp only [ae,bH,or_false] at f;rcases f with rfl | rfl;·exact cy _ _
  ·exact am _
 exact d.fpOk S (d.hok.fresh S)
theorem zr {p tpos:Pos} {e:List Expr} {x1} (n:C.K=X.K) (hg:Gl X "enumerate") (m:X.mg "enumerate"=fg) (g:PE X a (tE C own ma fa)) (h1:ma≠.any:=by decide) (hs:starEach [a] X.env=[(fk,eval a X.env)]:=by exact qy rfl):PI X (.Tuple e x1 tpos) (.Call (.Name "enumerate" p) [a] [] pos) (tIt C own (xE fa)):=by
 refine YX (qaa hg m (qA (uC g h1) qY hs) hs) λσ H R ⟨F,ρ,b,h⟩=>⟨F,ρ,b,PoI.bindV h λv F1 H1 d ρ1 r k c h1=>?_⟩
 have c:Is C.K F1 v d:=c;cases c with
 | lst p t=>exact ⟨_,_,rfl,by rw [<-n]; exact r.sub.seq p,by rw [<-n]; exact h1 _ F1 H1 r k (qbR p t)⟩
 | _=>exact h1.elim
end
mutual
def qbS:Nat->Expr->Option D
 | 0,_=>fg
 | n+1,e=>match e with
  | .Constant c _ _=>match c with
   | .none=>ff .non
   | .bool b=>ff (.bl b)
   | .int i=>ff (.int i)
   | .str x=>if x.length<=sizeLine then ff (.str x) else fg
   | _=>fg
  | .UnaryOp .USub (.Constant (.int i) _ _) _=>ff (.int (-i))
  | .List es _=>(qaN n es).bind λds=>if ds.length<=sizeLine then ff (.lst ds) else fg
  | .Tuple es _ _=>(qaN n es).bind λds=>if ds.length<=sizeLine then ff (.tup ds) else fg
  | _=>fg
def qaN:Nat->List Expr->Option (List D)
 | _,[]=>ff []
 | 0,_::_=>fg
 | n+1,e::es=>(qbS n e).bind λd=>(qaN n es).bind λds=>ff (d::ds)
end
theorem Ky {α:Type}:∀ l:List α,((l.map λ_=>AK.vl).all λa=>decide (a=.vl))=fm
 | []=>rfl
 | _::l=>by rw [ax,dQ,Ky l]; rfl
theorem Um {n:Nat} {e:Expr} {d:D} (h:qbS n e=ff d):QX e=true:=by
 cases n with
 | zero=>cases h
 | succ n=>cases e <;> first | rfl | (simp [qbS] at h)
section
variable {X:Cx} {C:Ct} {own:List Nat}
mutual
theorem qbT:∀ (n:Nat) {e:Expr} {d:D},qbS n e=ff d->PE X e (tE C own .sh (dC d))
 | 0,_,_,h=>by cases h
 | n+1,e,d,h=>by
  unfold qbS at h;split at h
  ·split at h;·cases h; exact qbn
   ·cases h; exact wZ
   ·cases h; exact qu
   ·split at h;·rename_i z;cases h;exact gL z
    ·cases h
   ·cases h
  ·cases h;exact ji (YM Kg qu) λσ H Q h=>h
  ·obtain ⟨ds,h1,h2⟩:=bz.mp h;split at h2
   ·rename_i z;cases h2;have i:gk (λρ=>.ok (ds,ρ))=dC (.lst ds):=by funext ρ;unfold gk dC;rw [Out.og,if_pos z]
    rw [<-i];exact uC (kO (zt n h1) (Ky _)) (by decide)
   ·cases h2
  ·obtain ⟨ds,h1,h2⟩:=bz.mp h;split at h2
   ·rename_i z;cases h2;have i:gj (λρ=>.ok (ds,ρ))=dC (.tup ds):=by funext ρ;unfold gj dC;rw [Out.og,if_pos z]
    rw [<-i];exact ud (zt n h1) (Ky _)
   ·cases h2
  ·cases h
theorem zt:∀ (n:Nat) {es:List Expr} {ds:List D},qaN n es=ff ds->PA X es (tAr C own (es.map λ_=>.vl) λρ=>.ok (ds,ρ))
 | 0,[],ds,h=>by cases h;exact qg
 | _+1,[],ds,h=>by cases h;exact qg
 | 0,_::_,ds,h=>by cases h
 | n+1,e::es,ds,h=>by unfold qaN at h;obtain ⟨d,h1,h⟩:=bz.mp h;obtain ⟨f,h2,h⟩:=bz.mp h;cases h;have i:qd (dC d) (λρ=>.ok (f,ρ))=λρ=>.ok (d::f,ρ):=rfl;rw [<-i];exact qb (qbT n h1) (zt n h2) (by decide) (jj (Um h1))
end
theorem qab {es:List Expr} {ds:List D} {pos:Pos} (n:Nat) (h:qaN n es=ff ds):PE X (.List es pos) (tE C own .fr (gk λρ=>.ok (ds,ρ))):=kO (zt n h) (Ky _)
end
noncomputable def txI (i:Int):Str:=toString i
def CTx (i:Int):Prop:=i.natAbs.log2 < 1920/\(txI i).length<=sizeLine
instance:∀ i,Decidable (CTx i):=λi=>inferInstanceAs (Decidable (_/\_))
end L2.D2
namespace PySem
open Builtin Builtin.Str
end PySem
namespace L2.D2
open PySem PySem.Spec PyProof.Rows
def qeF (x y:Str):Prop:=(y.length == 0)=fk/\(Txt.split x y).length<=sizeLine/\∀ z∈Txt.split x y,z.length<=sizeLine
instance:∀ x y,Decidable (qeF x y):=λx y=>inferInstanceAs (Decidable (_/\_))
inductive IntsAre:List fj->List Int->Prop
 | nil:IntsAre [] []
 | cons (y:Int) (t:Tok) {vs:List fj} {ys:List Int} (h:IntsAre vs ys):IntsAre (dB y t::vs) (y::ys)
theorem IntsAre.length:∀ {vs:List fj} {ys:List Int},IntsAre vs ys->vs.length=ys.length
 | _,_,.nil=>rfl
 | _,_,.cons _ _ h=>congrArg (·+1) h.length
theorem IntsAre.item:∀ {vs:List fj} {ys:List Int},IntsAre vs ys->∀ (i:Nat) (v:fj),vs[i]?=ff v->∃ y t,v=dB y t/\ys[i]?=ff y
 | _,_,.nil,i,v,e=>by simp at e
 | _,_,.cons y t h,0,v,e=>by simp at e; subst e; exact ⟨y,t,rfl,rfl⟩
 | _,_,.cons y t h,i+1,v,e=>by obtain ⟨z,t',e1,a⟩:=h.item i v (by simpa using e);exact ⟨z,t',e1,by simpa using a⟩
noncomputable def yk:List D->Option (List Int)
 | []=>ff []
 | .int x::l=>(yk l).map (x::·)
 | _::_=>fg
variable {K:Frag} {F:Hp}
theorem Uo {vs:List V} {us:List fj} {ds:List D} {ss:List Int} (a:IsL K F vs ds) (l:Vals vs us) (e:yk ds=ff ss):IntsAre us ss:=by
 induction ds generalizing vs us ss with
 | nil=>cases a;cases l;cases e;exact .nil
 | cons d ds j=>
  cases a with
  | cons i a=>
   cases l with
   | cons r l=>
    cases d with
    | int x=>obtain ⟨sl,q,rfl⟩:=aL.mp (show (yk ds).map (x::·)=ff ss from e);cases i;obtain ⟨t,rfl⟩:=r;exact .cons x t (j a l q)
    | _=>cases e
variable {H:Hp}
section
theorem TopIs.ins {v:V} {c:Addr} {fs:List (Str×D)} (s:Same F H) (h:TopIs K F H v (.ins c fs)):∃ a dx fv,v=.ref a/\H a=ff (.ins c dx fv)/\IsF K F fv fs:=by
 rcases h with h | ⟨a,rfl,dx,fv,e,t⟩
 ·cases h with
  | ins e t=>exact ⟨_,_,_,rfl,s _ _ e,t⟩
 ·exact ⟨a,dx,fv,rfl,e,t⟩
end
variable {own:List Nat} {σ:St} {ρ:Sl} {b:Addr}
section
variable {own1:List Nat} {i:Nat}
theorem Rep.frz {o:HO} (r:Rep K own F H σ ρ) (h:H b=ff o) (E:F b=fg) (n:¬OA own σ b):Rep K own (upd F b o) H σ ρ:=by
 have gr:Same F (upd F b o):=λc w e=>by rw [qp (qx e E)]; exact e
 refine ⟨λc w e=>?_,r.len,λj d D e=>?_,λj d D e=>?_,r.opn,r.dis⟩
 ·by_cases q:c=b;·subst q; rw [qf] at e; cases e; exact h
  ·rw [qp q] at e; exact r.sub c w e
 ·obtain ⟨v,h1,h2⟩:=r.val j d D e;exact ⟨v,h1,h2.mono gr⟩
 ·obtain ⟨a,h1,h2,i⟩:=r.ow j d D e;exact ⟨a,h1,by rw [qp (λz=>n ⟨j,D,by rw [<-z]; exact h1⟩)]; exact h2,i.grow gr λ_ q=>q⟩
end
noncomputable def ctB (C:Ct):Ct:={ C with ox:=[],oxs:=λ_ h=>by cases h }
variable {X:Cx} {C:Ct} {pos:Pos} {x:Str}
section
theorem vr (i:Nat) (h:X.N[i]?=ff x:=by rfl) (c:Vis X.env.scope x:=by first | exact cc rfl | exact dF (cc rfl) | exact dF (dF rfl)) (l:i∉own:=by decide) (hd:Dbg x:=by decide) (d:Cdk x:=by decide):PE X (.Name x pos) (tE C own .sh (qc i)):=qbl h c l hd d
end
section
theorem Rep.swap {F' H':Hp} {g:Nat} {o:D} (r:Rep K own F H σ ρ) (hg:g∈own) (J:σ[g]?=ff (ff (V.ref b))) (c:Chg (λz=>z=b) F H F' H') (A:Same F' H') (fb:F' b=fg) (ow:OwnIs K F' H' b o):Rep K own F' H' σ (ρ.set g (ff o))/\Chg (OA own σ) F H F' H':=by
 obtain ⟨m,f⟩:=r.opn g hg;have hl:g < ρ.length:=(aq.mp f).1;refine ⟨⟨A,by simp [r.len],λj d h e=>?_,λj d h e=>?_,λj h=>?_,r.dis⟩,c.mono λz l=>⟨g,hg,by rw [l]; exact J⟩⟩;·rw [ak (λz=>h (by rw [<-z]; exact hg))] at e;obtain ⟨v,h1,h2⟩:=r.val j d h e;exact ⟨v,h1,h2.mono c.grow⟩
 ·by_cases q:j=g;·subst q;rw [aG hl] at e;cases e;exact ⟨b,J,fb,ow⟩
  ·rw [ak (bp q)] at e;obtain ⟨a,h1,h2,i⟩:=r.ow j d h e;have na:a≠b:=λz=>by subst z; exact q (r.dis j g a h hg h1 J)
   refine ⟨a,h1,?_,i.grow c.grow λo q=>c.keep a o q na⟩;cases k:F' a with
   | none=>rfl
   | some u=>
    rcases c.new a (by rw [k]; simp) with z | z | z;·exact absurd h2 z
    ·exact absurd z i.there
    ·exact absurd z na
 ·by_cases q:j=g;·subst q; exact ⟨o,aG hl⟩
  ·rw [ak (bp q)]; exact r.opn j h
end
theorem xa (ks:List Int):∀ n,n<=ks.length->preSum (λi=>ks.getD i 0) n=(ks.take n).sum
 | 0,_=>rfl
 | n+1,h=>by
  have j:=xa ks n (by omega);show preSum (λi=>ks.getD i 0) n+ks.getD n 0=_;rw [j,ci,List.sum_append];have:ks[n]?=ff (ks.getD n 0):=by rw [bS,aw (by omega)]; rfl
  rw [this];simp
theorem Zu:∀ (ks:List Int),(ks.all λk=>decide (0<=k/\k<=100000))=fm->0<=ks.sum/\ks.sum<=100000 * ks.length
 | [],_=>by simp
 | k::ks,h=>by rw [dQ,aT] at h;have h1:=of_decide_eq_true h.1;have j:=Zu ks h.2;rw [List.sum_cons,af];omega
def FlyA (h:Heap) (ex T:Addr) (cls:fj):Prop:=∃ o vs a ts l,h.get? ex=ff o/\o.cls=cls/\o.data=.fields vs/\vs[1]?=ff (.ref T)/\T≠ex/\h.get? T=ff a/\a.data=.fields ts/\ts[3]?=ff l
theorem FlyA.tr {h base:Heap} {ex T:Addr} {cls:fj} (f:FlyA h ex T cls) (d:base.get? T=fg):∃ g l,h.TracedAtW base ex cls g l:=by obtain ⟨o,vs,a,ts,l,m,e,c,y,q,b,k,j⟩:=f;have z:0 < vs.size:=Nat.lt_of_succ_lt (aQ.mp y).1;exact ⟨vs[0],l,o,vs,T,a,ts,m,⟨e,by simp [z]⟩,c,y,d,q,b,k,j⟩
section
variable {a b e:Expr} {fa fb:qO} {m ma mb:Mo}
theorem Up:kX X (.type "range") (λxs H Q=>∃ i j:Int,xs=[.int i,.int j]/\∀ p,H p=fg->Q (.ref p) (upd H p (qaM p i j))):=by
 intro pins s σ H xs us Q I r h;obtain ⟨i,j,rfl,q⟩:=h;cases r with
 | cons c a=>obtain ⟨t,rfl⟩:=c;obtain ⟨u,rfl,B⟩:=vE a;obtain ⟨t',rfl⟩:=B;exact call_range_2 ⟨.ref s.heap.objs.size,_,I.laid (t':=s.toks+1) (λb o e=>aa _ e) (am _) (Ui (e5 ..)),rfl,q _ (I.hok.fresh (am _))⟩
noncomputable def xb:D->D->Out D
 | .int i,.int j=>if Ug i j/\j - i<=1000000 then .ok (.lst (yK i (j - i).toNat)) else .bad
 | _,_=>.bad
theorem Jk {p p2 a:Pos} {b:Expr} (D:X.calm=fm) (hg:Gl X "list") (B:X.mg "list"=fg) (w:bootBuiltins "list"=ff (.type "list")) (s:Gl X "range") (r:X.mg "range"=fg) (n:bootBuiltins "range"=ff (.type "range")) (G:PE X e (tE C own ma fa)) (E:PE X b (tE C own mb fb)) (o:ma≠.any:=by decide)
  (g:starEach [b] X.env=[(fk,eval b X.env)]:=by exact qy rfl) (c:starEach [e,b] X.env=[(fk,eval e X.env),(fk,eval b X.env)]:=by rfl) (d:starEach [.Call (.Name "range" p2) [e,b] [] a] X.env=[(fk,eval (.Call (.Name "range" p2) [e,b] [] a) X.env)]:=by exact qy rfl) :
  PE X (.Call (.Name "list" p) [.Call (.Name "range" p2) [e,b] [] a] [] pos) (tE C own .fr (d2 xb fa fb)):=by
 refine ji (jH (Kw D) hg B w (qA (jH Up s r n (qA G (qA E qY g) (by rw [c,g])) (by decide) (by decide) (by rw [c,g]) (by rw [g]; rfl)) qY d) (by decide) (by decide) (by rw [d]; rfl) rfl) λσ H Q h=>?_;refine uK (Kk (ma:=ma) (mb:=mb) o h) λx H0 I=>uK I λy H1 ⟨M,L,F,dx,J,ex,A,v,ty,po⟩=>?_;cases ex;cases dx <;> try exact po.elim
 rename_i i;cases J <;> try exact po.elim
 rename_i j;unfold xb at po;by_cases m:Ug i j/\j - i<=1000000
 ·simp only [if_pos m] at po;obtain rfl:=v.int;obtain rfl:=ty.int;refine ⟨i,j,rfl,λq hq=>⟨q,i,j,rfl,qf,m,λl f=>?_⟩⟩;obtain ⟨s1,K,f1⟩:=jL (u:=qaM q i j) A hq;obtain ⟨s2,c2,f2⟩:=jL (u:=.lst ((aB (j - i).toNat).map λk=>V.int (i+(k:Nat)))) s1 f;have t:H1 l=none:=by
   by_cases z:l=q;·rw [z] at f;rw [qf] at f;cases f
   ·rwa [qp z] at f
  exact po _ _ _ s2 (K.trans' c2) ⟨l,rfl,t,f2,_,qf,Jj _⟩
 ·simp only [if_neg m] at po;exact po.elim
end
section
variable {G:jM} {mr:Mo} {p:Pos} {ps:List Str} {k j:Nat} {cv:Str->fj}
theorem xc (F:DefOk X.prog X.w X.K X.mg X.base cv j x ps [] mr G) (c:Room k X.A) (D:j<=k) (hx:wU (CXk X.prog X.w) X C.E) (hg:Gl X x) (v:C.cv=cv:=by rfl) (n:C.K=X.K:=by rfl) (o:∀ i∈C.ox,i∈own:=by exact wE rfl)
  (b:Dbg x:=by decide):PE X (.Call (.Name x p) [] [] pos) (tE C own mr (qr [] G qE)):=by
 subst v;obtain ⟨f,fd,F,m,d,e⟩:=F;rw [<-n] at F;refine ji (YC (E:=C.E) (F:=by rw [<-n]; exact F) (c.mono D) hg m d e .nil hx b) λσ H Q h=>?_;obtain ⟨F,ρ,a,h⟩:=WB (as:=[]) o (λi hi=>nomatch hi) (by decide) (by decide) h;exact h [] F H a .refl trivial
end
noncomputable def qac (n:Nat) (fw fx:qO):je:=λρ=>(fw ρ).bind λp=>(fx p.2).bind λq=>match (q.2[n]?:Option (Option D)) with
 | some (ff (.dct kvs))=>(match VJ q.1 with
  | some k=>if kvs.length < sizeLine then .ok (.nx,q.2.set n (ff (.dct (WL kvs k p.1)))) else .bad
  | none=>.bad)
 | _=>.bad
section
variable {w ix:Expr} {fw fx:qO} {mw mx:Mo} {p1 p2 p3:Pos}
theorem Xq {n:Nat} (O:X.A.units+64 < cLine) (B:X.N[n]?=ff x) (y:Vis X.env.scope x) (l:n∈own) (t:PE X w (tE C own mw fw)) (hx:PE X ix (tE C own mx fx)) (f:mw≠.any:=by decide)
  (hd:Dbg x:=by decide) (j:Cdk x:=by decide) (hs:swapsWith w (ff (.Subscript (.Name x p1) ix p2)) p3.line X.env=pure false:=by rfl) :
  PS X (.Assign [.Subscript (.Name x p1) ix p2] w p3) (tSt C own own (qac n fw fx)):=by
 refine gS (Gq (by omega) (yD B y hd j) hx (uC t f) hs) λS σ H ⟨F,ρ,s,h⟩=>⟨F,ρ,s,PoS.bindE h λv F1 H1 d ρ1 b Q c h1=>?_⟩
 have c:Is C.K F1 v d:=c;obtain ⟨G,i⟩:=b.opn n l;obtain ⟨a,e1,P,L⟩:=b.ow n G l i;refine ⟨_,e1,F1,ρ1,b,PoS.bindE h1 λM J H2 E ρ2 r c2 m h2=>?_⟩;obtain ⟨d2,hd2⟩:=r.opn n l;obtain ⟨R,p,D,o2⟩:=r.ow n d2 l hd2;rw [e1] at p;cases p;simp only [hd2] at h2;cases d2 with
 | dct kvs=>
  cases q:VJ E with
  | none=>simp only [q] at h2; exact h2.elim
  | some k=>
   simp only [q] at h2;have g:=qdo m.top q;subst g;obtain ⟨kv,ex,o⟩:=o2;by_cases e:kvs.length < sizeLine;·simp only [if_pos e] at h2;obtain ⟨r3,I⟩:=r.write (u:=.dK (QV kv k v)) (d:=.dct (WL kvs k d)) l e1 ⟨_,qf,o.put (c.mono c2.grow)⟩;exact ⟨a,_,rfl,DPut.k ex (by rw [o.length]; exact e),h2 σ J _ ⟨r3,I,λ_ z=>.inl z,λ_ _=>rfl⟩⟩
   ·simp only [if_neg e] at h2; exact h2.elim
 | _=>exact h2.elim
end
end L2.D2
namespace L2.D2
open PySem PySem.Spec PyProof.Rows PySem.W
theorem IsK.keys {K:Frag} {F:Hp}:∀ {kv:List (Key×V)} {ks:List (Key×D)},IsK K F kv ks->kv.map (·.1)=ks.map (·.1)
 | _,_,.nil=>rfl
 | _,_,.cons h t=>by rw [ax,ax,IsK.keys t]
theorem KV.keys:∀ {kv:List (Key×V)} {vs:List (Key×fj)},KV kv vs->kv.map (·.1)=vs.map (·.1)
 | _,_,.nil=>rfl
 | _,_,.cons h t=>by rw [ax,ax,h.1,KV.keys t]
end L2.D2
namespace PySem.F
end PySem.F
namespace L2.D2
open PySem PySem.Spec PyProof.Rows PySem.W
end L2.D2
namespace L2.D2
open PySem PySem.Spec PyProof.Rows
noncomputable def zu:D->Out D
 | .lst ds=>(match yk ds with
  | some ks=>if ks.length<=1000/\(ks.all λk=>decide (0<=k/\k<=100000))=fm then .ok (.int ks.sum) else .bad
  | none=>.bad)
 | _=>.bad
section
variable {X:Cx} {C:Ct} {own:List Nat} {mb mx:Mo} {b ix:Expr} {fb:qO} {pos apos cpos px:Pos}
theorem Jl (S:C.K=X.K) (R:X.calm=fm):xC X C .sh (.builtin "sum") zu:=by
 intro pins s σ H xs us Q I r h;obtain ⟨x,F,dx,rfl,J,M,po⟩:=h;cases dx with
 | lst ds=>
  obtain ⟨u,rfl,O⟩:=vE r;obtain ⟨a,vs,rfl,hq,P⟩:=M.lst J;cases O;rw [S] at hq;obtain ⟨its,N,p,V⟩:=I.list hq;have pl:s.heap.IsList a its.toArray:=by obtain ⟨o,n,f,B,_,w⟩:=p;exact ⟨o,f,B,n,w⟩
  cases e:yk ds with
  | none=>have po:PoV C .sh F H (match yk ds with | some ks=>if ks.length<=1000/\(ks.all λk=>decide (0<=k/\k<=100000))=fm then .ok (.int ks.sum) else .bad | none=>.bad) Q:=po;rw [e] at po; exact po.elim
  | some ks=>
   have po:PoV C .sh F H (match yk ds with | some ks=>if ks.length<=1000/\(ks.all λk=>decide (0<=k/\k<=100000))=fm then .ok (.int ks.sum) else .bad | none=>.bad) Q:=po;rw [e] at po;by_cases m:ks.length<=1000/\(ks.all λk=>decide (0<=k/\k<=100000))=fm
   ·have po:PoV C .sh F H (if ks.length<=1000/\(ks.all λk=>decide (0<=k/\k<=100000))=fm then .ok (.int ks.sum) else .bad) Q:=po;rw [if_pos m] at po;have st:=Uo P N e;have d:a < s.heap.objs.size:=let ⟨o,f,_⟩:=pl; au f;have L:its.length=ks.length:=st.length;refine call_sum_walk (f7 (show s.heap.IsList a its.toArray from pl) ?_);refine ⟨s.heap.objs.size,_,_,_,_,_,λi=>ks.getD i 0,rfl,e9 (A:=X.A.in1) (I.ok.hd R) _ a (aF d) its.toArray,⟨⟨_,ai _ rfl,rfl,rfl⟩,?_⟩,?_,λi v ev=>?_,λj D=>?_,λh' tk t' kp=>?_⟩;·obtain ⟨o,e,c⟩:=pl;exact ⟨o,aa _ e,c⟩
    ·intro z b;rw [bP];simp only [ae,bH,or_false] at b;rcases b with rfl | rfl;·exact da _
     ·exact cf d
    ·obtain ⟨y,t,e1,T⟩:=st.item i v (by simpa using ev);exact ⟨t,by rw [e1]; show dB y t=dB (ks.getD i 0) t; rw [bS,T]; rfl⟩
    ·rw [ao,L] at D;have l:=m.2;rw [aO] at l;have h1:=of_decide_eq_true (l (ks.getD j 0) (by rw [bS,aw D]; exact cx D));have h2:=Zu (ks.take (j+1)) (aO.mpr λk g=>l k (List.mem_of_mem_take g));have W:(ks.take (j+1)).length<=1000:=by rw [aR]; omega
     have G:=xa ks (j+1) D;refine ⟨⟨by show (-2 ^ 63:Int)<=ks.getD j 0; omega,by show ks.getD j 0 < (2 ^ 63:Int); omega⟩,?_⟩;rw [G];exact ⟨by omega,by omega⟩
    ·have U:Inv X pins σ H { s with heap:=h',toks:=tk }:=I.kept (t':=tk) λz o E=>kp z o (λq=>by rw [aH.mp q] at E;exact aX _ (au E)) (aa _ E);have G:preSum (λi=>ks.getD i 0) its.toArray.size=ks.sum:=by rw [ao,L,xa ks _ (am _),List.take_length]
     exact ⟨.int ks.sum,H,U,⟨t',by rw [G]⟩,po _ F H J .refl (.int _)⟩
   ·have po:PoV C .sh F H (if ks.length<=1000/\(ks.all λk=>decide (0<=k/\k<=100000))=fm then .ok (.int ks.sum) else .bad) Q:=po;rw [if_neg m] at po; exact po.elim
 | _=>exact po.elim
end
open PySem.SeqAt
open AutoSeq1 (wpAny_loadPart')
open MeetsSeq MeetsSeq2 MeetsSeq3
def RcLtAt (A:fD) (s:fq) (y x:fj) (b:Bool):Prop:=
 ∀ (prog:fz) (w:fA) (E:fj->fq->Prop) (Q:fj->fq->Prop),Q (.bool b) s->wpAny (model prog w) A (richCompare .Lt y x) Q E s
def LtL (A:fD) (s:fq) (k b:Bool):List (fj×fj)->Prop
 | []=>b=k
 | (y,x)::t=>(EqAt A.in1 s y x fm/\LtL A s k b t)\/(EqAt A.in1 s y x fk/\RcLtAt A.in1 s y x b)
theorem Vv (l b:Addr) (items i:Array fj) (n n2:Nat) (dd f:Option Addr) (sl e:Array (Option fj)) (c:Bool):Meets (Builtin.«tuple.__lt__» ⟨[.ref l,.ref b],[]⟩)
   (λA R s=>s.heap.get? l=ff { cls:=.type "tuple",dict:=dd,data:=.seq items n,slots:=sl }/\s.heap.get? b=ff { cls:=.type "tuple",dict:=f,data:=.seq i n2,slots:=e } /\
    LtL A s (decide (items.size < i.size)) c (items.toList.zip i.toList)/\R (.ok (.ret (.bool c))) s):=
 .of_wp λprog w A R s h=>by
  obtain ⟨hp,g,d,tk,os⟩:=s; obtain ⟨hl,k,j,h⟩:=h;have f2:=AutoSeq1.sub_tuple_tuple;wp_walk using wpAny_loadPart' hl,wpAny_loadPart' k,g8 _ (λrest b s'=>b.1=fg/\s'=⟨hp,g,d,tk,os⟩/\LtL A ⟨hp,g,d,tk,os⟩ (decide (items.size < i.size)) c rest) _
  case turn=>
   rintro ⟨y,x⟩ rest b s' ⟨a,rfl,z⟩;rcases z with ⟨e1,z⟩ | ⟨e1,z⟩
   ·refine fh (e1 prog w _ _ ?_);wp_walk
    exact ⟨rfl,rfl,z⟩
   ·refine fh (e1 prog w _ _ ?_);refine fh (ip (fh (z prog w _ _ ?_)));wp_walk
    exact ⟨_,rfl,h⟩
  case fin=>
   rintro ⟨o,m⟩ s' ⟨a,rfl,z⟩;simp only at a;subst a;have z:c=_:=z;subst z;wp_walk
   exact ⟨_,rfl,by simpa [Builtin.Tuple.tupleCompareSizes] using h⟩
  case h=>
   exact ⟨rfl,rfl,j⟩
theorem RcLtAt.tuples {A:fD} {s:fq} {l b:Addr} {items i:Array fj} {c:Bool} (hl:s.heap.IsTuple l items) (p:s.heap.IsTuple b i) (u:A.units < cLine)
  (m:LtL A s (decide (items.size < i.size)) c (items.toList.zip i.toList)):RcLtAt A s (.ref l) (.ref b) c:=λprog w E Q h=>by
 obtain ⟨⟨cls,dd,data,sl⟩,o,j,n,hd⟩:=id hl;obtain ⟨⟨k,f,g,e⟩,a,d,n2,hd2⟩:=id p;simp only at j hd d hd2;subst j hd d hd2;exact richCompare_meets_room (op:=.Lt) ⟨_,o,rfl⟩ ⟨_,a,rfl⟩ F.slot_tuple_lt F.entry_tuple_lt (F.args_tuple_lt_2 _ _) (Vv l b items i n n2 dd f sl e c)
  ⟨o,a,m,show b7 c≠Value.notImplemented/\Q (.bool c) s from ⟨(λx=>nomatch x),h⟩⟩ u
end L2.D2
namespace L2.D2
open PySem PySem.Spec PyProof.Rows
open PySem.SeqAt
noncomputable def ltZ:List Int->List Int->Bool
 | x::xs,y::ys=>if x=y then ltZ xs ys else decide (x < y)
 | [],_::_=>fm
 | _,[]=>fk
noncomputable def qd6 (t:List Int) (ts:List (List Int)):List Int:=ts.foldl (λb t=>if ltZ t b then t else b) t
noncomputable def btZ (T:List (List Int)) (i j:Nat):Bool:=ltZ (T.getD i []) (T.getD j [])
theorem Jm (t:List Int) (ts:List (List Int)):∀ k,k<=ts.length->(t::ts).getD (argBest (btZ (t::ts)) k) []=qd6 t (ts.take k)
 | 0,_=>rfl
 | k+1,h=>by
  have j:=Jm t ts k (by omega);have a:k < ts.length:=by omega
  have e:ts.take (k+1)=ts.take k++[ts[k]]:=by rw [ci,aw a]; rfl
  have i:(t::ts).getD (k+1) []=ts[k]:=by rw [bS,be,aw a]; rfl
  rw [e];unfold qd6 at j ⊢;rw [cY,<-j];show (t::ts).getD (if btZ (t::ts) (k+1) (argBest (btZ (t::ts)) k) then k+1 else argBest (btZ (t::ts)) k) []=if ltZ ts[k] ((t::ts).getD (argBest (btZ (t::ts)) k) []) then ts[k] else (t::ts).getD (argBest (btZ (t::ts)) k) []
  rw [show btZ (t::ts) (k+1) (argBest (btZ (t::ts)) k)=ltZ ts[k] ((t::ts).getD (argBest (btZ (t::ts)) k) []) by unfold btZ; rw [i]];by_cases q:ltZ ts[k] ((t::ts).getD (argBest (btZ (t::ts)) k) [])=fm;·rw [if_pos q,if_pos q,i]
  ·rw [if_neg q,if_neg q]
end L2.D2
namespace L2.D2
open PySem PySem.Spec PyProof.Rows
open AutoSeq1 (wpAny_loadPart')
end L2.D2
namespace L2.D2
open PySem PySem.Spec PyProof.Rows
noncomputable def Kz (t:Int) (ts:List Int):Int:=ts.foldl max t
theorem Jn:∀ (ts:List Int) (t:Int),(Kz t ts=t\/Kz t ts∈ts)/\t<=Kz t ts/\∀ a∈ts,a<=Kz t ts
 | [],t=>⟨.inl rfl,Int.le_refl _,λa h=>by cases h⟩
 | b::ts,t=>by
  obtain ⟨h1,h2,i⟩:=Jn ts (max t b);have e:Kz t (b::ts)=Kz (max t b) ts:=rfl;rw [e];refine ⟨?_,by omega,λa g=>?_⟩
  ·rcases h1 with h1 | h1
   ·by_cases q:t<=b;·exact .inr (by rw [h1,show max t b=b by omega]; exact aj)
    ·exact .inl (by rw [h1]; omega)
   ·exact .inr (ac _ h1)
  ·rcases ae.mp g with rfl | g;·omega
   ·exact i a g
theorem qad {t M:Int} {ts:List Int} (U:M∈t::ts) (h:∀ a∈t::ts,a<=M):M=Kz t ts:=by
 obtain ⟨h1,h2,i⟩:=Jn ts t;have m:M<=Kz t ts:=by
  rcases ae.mp U with rfl | q;·exact h2
  ·exact i M q
 have k:Kz t ts<=M:=by
  rcases h1 with q | q;·rw [q]; exact h t aj
  ·exact h _ (ac _ q)
 omega
noncomputable def Vw:D->Out D
 | .lst ds=>(match yk ds with
  | some (t::ts)=>.ok (.int (Kz t ts))
  | _=>.bad)
 | _=>.bad
theorem Zv:∀ {vs:List fj} {ns:List Int},IntsAre vs ns->PyProof.Rows.IntsAre vs ns
 | _,_,.nil=>.nil
 | _,_,.cons y t h=>.cons y t (Zv h)
section
variable {X:Cx} {C:Ct} {own:List Nat} {m ma mb:Mo} {a b e:Expr} {fa fb fe:qO} {apos cpos px:Pos}
theorem Uq (E:C.K=X.K) (z:X.calm=fm):xC X C .sh (.builtin "max") Vw:=by
 intro pins s σ H xs us Q I r h;obtain ⟨x,F,dx,rfl,c,d,po⟩:=h;cases dx with
 | lst ds=>
  obtain ⟨u,rfl,l⟩:=vE r;obtain ⟨a,vs,rfl,hq,m⟩:=d.lst c;cases l;rw [E] at hq;obtain ⟨its,k,p,J⟩:=I.list hq;have pl:s.heap.IsList a its.toArray:=by obtain ⟨o,n,w,B,_,b⟩:=p;exact ⟨o,w,B,n,b⟩
  have po:PoV C .sh F H (match yk ds with | some (t::ts)=>.ok (.int (Kz t ts)) | _=>.bad) Q:=po
  match e:yk ds with
  | none=>rw [e] at po; exact po.elim
  | some []=>rw [e] at po; exact po.elim
  | some (t::ts)=>
   rw [e] at po;have st:=Zv (Uo m k e);obtain ⟨ys,f⟩:=st.allInts.items;have A:t::ts=ys.toList.map (·.1):=by rw [<-st.numsOf,<-nums_intItems,<-f]
   have hsz:0 < ys.size:=by have G:=congrArg eI A;simp at G;omega
   rw [f] at pl;refine max_intList (I.ok.hd z) pl hsz λv h' tk q y=>?_;obtain ⟨t',rfl⟩:=intItems_at q;obtain ⟨h1,h2⟩:=argBest_gt (numAt ys) (ys.size - 1);have U:numAt ys (argBest (λi j=>decide (numAt ys i > numAt ys j)) (ys.size - 1))=Kz t ts:=by
    refine qad ?_ λa g=>?_;·rw [A,numAt_eq]; exact getD_mem (by rw [ah,ay]; omega)
    ·rw [A] at g;obtain ⟨j,D,rfl⟩:=mem_getD g;rw [ah,ay] at D;rw [<-numAt_eq]; exact h2 j (by omega)
   rw [U];exact ⟨.int (Kz t ts),H,I.kept (t':=tk) y,⟨t',rfl⟩,po _ F H c .refl (.int _)⟩
 | _=>exact po.elim
noncomputable def qcN (y:Str):fj->Bool
 | .str x _=>x.cps.toList == y.cps.toList
 | _=>fk
theorem Zw {y:Str}:∀ (ss:List Str) (its:List fj),Vals (ss.map V.str) its->y∈ss->∃ j,∃ D:j < its.length,qcN y its[j]=fm/\(∀ m (c:m < its.length),m < j->qcN y its[m]=fk)/\Vals ((ss.erase y).map V.str) (its.eraseIdx j)
 | x::ss,u::its,.cons r rs,hy=>by
  obtain ⟨t,rfl⟩:=(show ∃ t,u=cr x t from r)
  by_cases q:x=y;·subst q;refine ⟨0,by simp,by simp [qcN],λm c h=>absurd h (dn _),?_⟩;rw [List.erase_cons_head];exact rs
  ·obtain ⟨j,D,h1,h2,i⟩:=Zw ss its rs ((ae.mp hy).resolve_left λz=>q z.symm);refine ⟨j+1,by simp; omega,h1,λm c h=>?_,?_⟩
   ·cases m with
    | zero=>show (x.cps.toList == y.cps.toList)=fk;refine beq_eq_false_iff_ne.mpr λz=>q ?_;obtain ⟨x⟩:=x;obtain ⟨y⟩:=y;have z:x.toList=y.toList:=z;rw [Array.toList_inj.mp z]
    | succ m=>exact h2 m (by simpa using c) (by omega)
   ·rw [List.erase_cons_tail (by simpa using q)];exact .cons ⟨t,rfl⟩ i
def qdA:V->List V->Hp->VK->Prop:=λx vs H Q=>∃ (l:Addr) (ss:List Str) (y:Str),x=.ref l/\vs=[.str y]/\H l=ff (.lst (ss.map V.str))/\y∈ss/\Q .non (upd H l (.lst ((ss.erase y).map V.str)))
theorem qbU:MtM X "list.remove" qdA:=by
 intro pins s σ H x vs v us Q I d g h;obtain ⟨l,ss,y,rfl,rfl,c,D,q⟩:=h;cases d;obtain ⟨u,rfl,B⟩:=g.one;obtain ⟨t,rfl⟩:=B;obtain ⟨z,its,n,r,hl,e⟩:=I.lstM c;obtain ⟨j,p,h1,h2,A⟩:=Zw ss its r D;refine ir PySem.F.slot_list_remove ⟨_,e,rfl⟩ PySem.F.entry_list_remove (PySem.F.args_list_remove_2 _ _)
  (MeetsSeq.list_remove l its.toArray n (.str y t) (qcN y) (λw k=>?_) j (by simpa using p) (by simpa using h1) (λm o b=>by simpa using h2 m (by simpa using o) b) (by rw [ao]; omega)) ⟨e,?_⟩
 ·obtain ⟨i,hi,rfl⟩:=cq.mp (show w∈its by simpa using k);obtain ⟨x,ex,d⟩:=Vals.getE r hi;rw [aJ] at ex;obtain ⟨f,_,rfl⟩:=aL.mp ex;obtain ⟨t',C⟩:=(show ∃ t,its[i]=cr f t from d)
  rw [C];exact SeqRoads2.EqGives.str _ _ _ _
 ·refine ⟨.non,_,I.lset (its':=its.eraseIdx j) c e ?_ A ?_,rfl,q⟩;·show its.toArray.eraseIdxIfInBounds j=(its.eraseIdx j).toArray;rw [List.eraseIdxIfInBounds_toArray]
  ·have:=List.length_erase_le (a:=y) (l:=ss);rw [ah] at z ⊢;omega
noncomputable def qae (ds:List D) (d:D):Out (List D):=match wO ds,d with
 | some ss,.str y=>if y∈ss then .ok ((ss.erase y).map D.str) else .bad
 | _,_=>.bad
theorem qbV {K:Frag} {F:Hp} {vs:List V} {ds:List D} {ss:List Str} (l:IsL K F vs ds) (e:wO ds=ff ss):vs=ss.map V.str/\∀ x∈ss,x.length<=sizeLine:=by
 induction ds generalizing vs ss with
 | nil=>cases l;cases e;exact ⟨rfl,λx h=>nomatch h⟩
 | cons d ds j=>
  cases l with
  | cons i l=>
   cases d with
   | str x=>
    obtain ⟨s2,q,rfl⟩:=aL.mp (show (wO ds).map (x::·)=ff ss from e);obtain ⟨h1,h2⟩:=j l q;cases i with
    | str a=>exact ⟨by rw [h1]; rfl,λy b=>(ae.mp b).elim (λz=>z ▸ a) (h2 y)⟩
   | _=>cases e
theorem Ur {i:Nat} {x:Str} {px apos cpos:Pos} (t:X.N[i]?=ff x) (p:Vis X.env.scope x) (q:i∈own) (r:PE X e (tE C own m fe)) (j:m≠.any:=by decide)
  (hd:Dbg x:=by decide) (f:Cdk x:=by decide)
  (c:attributeBase (.Name x px) "remove" X.env (eval (.Name x px) X.env)=eval (.Name x px) X.env:=by rfl)
  (w:((backTo cpos (starEach [e] X.env)).all (λx=>!x.1)&&(backToKw cpos (keywordEach [] X.env)).all (λx=>x.1.isSome)
   && decide ([e].length+([]:List fN).length+(if ([]:List fN).isEmpty then 0 else 1) < 30))=true:=by exact wY rfl)
  (b:(apos.endLine == cpos.line)=true:=by rfl) (hs:starEach [e] X.env=[(fk,eval e X.env)]:=by exact qy rfl) :
  PE X (.Call (.Attribute (.Name x px) "remove" apos) [e] [] cpos) (tE C own .sh (yu i qae fe)):=by
 refine ji (YE cQ PySem.F.slot_list_remove PySem.F.type_list_remove qbU (yD t p hd f) (qA (uC r j) qY hs) c w b hs rfl) λσ H Q h=>?_;have s:∀ (a:Addr) (xs:List V) (ds ys:List D) (v:V) (d:D) (F H:Hp),Same F H->H a=ff (.lst xs)->F a=fg->IsL C.K F xs ds->Is C.K F v d->qae ds d=.ok ys->(∀ zs,IsL C.K F zs ys->Q .non (upd H a (.lst zs)))->qdA (.ref a) [v] H Q:=λa xs ds ys v d F H A u B ix l g k=>by
  unfold qae at g;split at g
  ·rename_i ss y e1;split at g;·rename_i o;cases g;cases l;obtain ⟨hx,hl⟩:=qbV ix e1;subst hx;exact ⟨a,ss,y,rfl,rfl,u,o,k _ (yw λz n=>hl z (List.mem_of_mem_erase n))⟩
   ·cases g
  ·cases g
 obtain ⟨a,xs,h1,h2,k⟩:=Ki (R:=λx v H Q=>qdA x [v] H Q) q j s h;exact ⟨.ref a,h1,.inl ⟨rfl,xs,.inl (.inl h2)⟩,k⟩
theorem qbW {o e:Expr} {to:TE} {t:TA} {name:Str} {id:String} {r:V->List V->Hp->VK->Prop} (slot:Slot "tuple" name id) (y:typeOf (.builtin id)=pure (.type "method_descriptor")) (m:MtR X id r) (l:PE X o to) (i:PA X [e] t)
  (c:attributeBase o name X.env (eval o X.env)=eval o X.env)
  (w:((backTo cpos (starEach [e] X.env)).all (λx=>!x.1)&&(backToKw cpos (keywordEach [] X.env)).all (λx=>x.1.isSome)
   && decide ([e].length+([]:List fN).length+(if ([]:List fN).isEmpty then 0 else 1) < 30))=fm)
  (b:(apos.endLine == cpos.line)=fm) (hs:starEach [e] X.env=[(fk,eval e X.env)]) :
  PE X (.Call (.Attribute o name apos) [e] [] cpos) (λσ H Q=>to σ H λx H1=>(∃ p xs,x=.ref p/\SqT X.K H1 p xs)/\t σ H1 λxs H2=>r x xs H2 Q):=by
 refine ⟨?_⟩;intro pins s σ H Q I h;refine wpAny_Call_method_late c w b rfl (thn (l pins s σ H _ I h) λv s1 ⟨x,H1,d,r1,ty,f⟩=>?_);obtain ⟨p,xs,rfl,hq⟩:=ty;cases r1;obtain ⟨o',e1,j⟩:=d.tupleN hq;obtain ⟨its,n,⟨o2,E,g,_⟩,_⟩:=d.tuple hq;refine ⟨"tuple",id,PySem.F.plainAttrs_tuple,slot,y,⟨o2,E,g⟩,λa z=>by cases z; exact ⟨o',e1,j⟩,?_⟩;have hA:=i cpos pins s1 σ H1 _ d f;rw [hs] at hA ⊢;refine Calls.callWith_builtin rfl (dj ?_);exact thn hA λus s2 ⟨vs,H2,k,r2,q⟩=>m pins s2 σ H2 (.ref p) vs _ us Q k rfl r2 q
noncomputable def qaO:D->Bool
 | .tup _=>fm
 | _=>fk
noncomputable def wG:D->D->Out D
 | .tup ds,e=>match yI 7 e ds with
  | some _=>.ok (.int ((ds.map λd=>eqN 7 d e == ff fm).countP id:Nat))
  | none=>.bad
 | _,_=>.bad
theorem Us (G:C.K=X.K) (D:X.A.units+64 < cLine):MtD X C .sh "tuple.count" wG:=by
 intro pins s σ H x vs v us Q I k m h;obtain ⟨y,F,dx,g,rfl,f,i,ty,po⟩:=h;rw [G] at i ty;obtain ⟨u,rfl,B⟩:=m.one;unfold wG at po;cases dx <;> try exact po.elim
 rename_i ds;cases e:yI 7 g ds with
 | none=>simp only [e] at po; exact po.elim
 | some b=>simp only [e] at po;obtain ⟨F',g',c,q⟩:=ty.is f;obtain ⟨a,xs,rfl,p,l⟩:=i.tup f;cases k;obtain ⟨its,r,pl,J⟩:=I.tuple p;obtain ⟨h1,h2⟩:=gN (A:=X.A) (y:=.non) (a:=a) (u:=.none) I D c q B (l.mono g') r e;have E:=Ue I c (l.mono g') r e;obtain ⟨⟨cls,dd,data,sl⟩,o,j,n,t⟩:=pl;simp only at j t;subst j t;refine ir PySem.F.slot_tuple_count ⟨_,o,rfl⟩ PySem.F.entry_tuple_count (PySem.F.args_tuple_count_2 _ _) (SeqAt.tuple_countAt a _ n dd sl u (VH X F' 7 g)) ⟨o,λw z=>h2 w z,?_⟩;refine ⟨.int ((ds.map λd=>eqN 7 d g == ff fm).countP id:Nat),H,I.tok _,⟨s.toks,?_⟩,po _ F H f .refl (.int _)⟩;rw [<-E,List.countP_map];rfl
theorem Ut (n:C.K=X.K) (u:X.A.units+64 < cLine)
  (i:PE X a (tE C own ma fa)) (g:PE X b (tE C own mb fb)) (f:ma≠.any:=by decide)
  (c:attributeBase a "count" X.env (eval a X.env)=eval a X.env:=by rfl)
  (w:((backTo cpos (starEach [b] X.env)).all (λx=>!x.1)&&(backToKw cpos (keywordEach [] X.env)).all (λx=>x.1.isSome)
   && decide ([b].length+([]:List fN).length+(if ([]:List fN).isEmpty then 0 else 1) < 30))=true:=by exact wY rfl)
  (e:(apos.endLine == cpos.line)=true:=by rfl) (hs:starEach [b] X.env=[(fk,eval b X.env)]:=by exact qy rfl) :
  PE X (.Call (.Attribute a "count" apos) [b] [] cpos) (tE C own .sh (dM qaO wG fa fb)):=by
 refine ji (qbW PySem.F.slot_tuple_count PySem.F.type_tuple_count (Us n u) i (qA g qY hs) c w e hs) λσ H Q h=>?_;obtain ⟨F,ρ,p,h⟩:=GY (ma:=ma) (mb:=mb) f h;refine ⟨F,ρ,p,Po.imp h λx H1 h1=>?_⟩;obtain ⟨⟨F1,dx,s,d,k⟩,h2⟩:=h1;refine ⟨?_,?_⟩
 ·cases dx <;> try (cases k; done)
  obtain ⟨a,vs,rfl,hq,t⟩:=d.tup s;exact ⟨a,vs,rfl,by rw [<-n]; exact hq⟩
 ·obtain ⟨j,ρ2,r,h2⟩:=h2;exact ⟨j,ρ2,r,Po.imp h2 λy H2 q=>⟨y,q.choose,q.choose_spec.choose,q.choose_spec.choose_spec.choose,rfl,q.choose_spec.choose_spec.choose_spec⟩⟩
end
end L2.D2
namespace L2.D2
open PySem PySem.Spec PyProof.Rows PySem.W
theorem xf:∀ l:List Int,yk (l.map D.int)=ff l
 | []=>rfl
 | x::l=>by show (yk (l.map D.int)).map (x::·)=ff (x::l);rw [xf l];rfl
end L2.D2
namespace L2.D2
open PySem PySem.Spec PyProof.Rows
noncomputable def Uu:D->Out D
 | .dct kvs=>.ok (.dct kvs)
 | _=>.bad
variable {X:Cx} {C:Ct}
theorem Xr (n:C.K=X.K):xC X C .fr (.type "dict") Uu:=by
 intro pins s σ H xs us Q I r h;obtain ⟨x,F,dx,rfl,A,t,po⟩:=h;cases dx <;> try exact po.elim
 rename_i ks;have po:PoV C .fr F H (.ok (.dct ks)) Q:=po;obtain ⟨a,kv,rfl,hq,i⟩:=t.dct A;obtain ⟨u,rfl,g⟩:=vE r;cases g;obtain ⟨z,T,vs,B,hd⟩:=(show ObjOk X.prog X.w H s.heap a (.dK kv) from I.hok a _ hq)
 have hl:=B.length;refine kt_call_dict T hd (by omega) λh' f d=>?_;have kp:∀ b o,s.heap.get? b=ff o->h'.get? b=ff o:=λb o e=>(d.2 b (aF (au e))).trans (aa _ e);have hp:H s.heap.objs.size=none:=I.hok.fresh (am _);obtain ⟨s2,c2,E⟩:=jL (u:=.dK kv) A hp;have c:(s.heap.objs.size == sysModules)=false:=beq_eq_false_iff_ne.mpr (d4 I.big);exact ⟨.ref s.heap.objs.size,_,I.laid (o:=.dK kv) (t':=s.toks) kp (am _) (Zj z c B f),rfl,po _ F _ s2 c2 ⟨_,rfl,hp,E,_,qf,i⟩⟩
noncomputable def Xu {α:Type} (ds:List α) (lo hi:Option Int):List α:=(ds.drop (HT.sIx ds.length 0 lo)).take (HT.sIx ds.length ds.length hi - HT.sIx ds.length 0 lo)
noncomputable def qbX (lo hi:Option Int):D->Out D
 | .lst ds=>.ok (.lst (Xu ds lo hi))
 | _=>.bad
noncomputable def jZ (fa:qO) (l u:Option (qO)):qO:=λρ=>(fa ρ).bind λp=>(zm l p.2).bind λa=>(zm u a.2).bind λb=>(qbX a.1 b.1 p.1).plain.bind λd=>.ok (d,b.2)
section
variable {own:List Nat} {e:Expr} {fa:qO} {ma:Mo} {pos p2:Pos}
theorem qdB (n:C.K=X.K):SlR X (λx lo hi H Q=>∃ F d,Same F H/\Is C.K F x d/\PoV C .sh F H (qbX lo hi d) Q):=by
 intro pins s σ H x v vl b lo hi sl Q I r hs pl c h;obtain ⟨F,d,A,is,po⟩:=h;cases d with
 | lst ds=>
  cases is with
  | @lst a xs _ hq t=>
   have po:PoV C .sh F H (.ok (.lst (Xu ds lo hi))) Q:=po;refine Gm pins s σ H _ v vl b lo hi sl Q I r hs pl c ⟨a,xs,rfl,by rw [<-n]; exact A.seq hq,λp hp=>?_⟩;obtain ⟨s2,c2⟩:=yJ (u:=.lst (Gi xs lo hi)) A hp;have w:IsL C.K F (Gi xs lo hi) (Xu ds lo hi):=by unfold Gi Xu;rw [t.length];exact IsL.take _ (IsL.drop _ t)
   exact po _ _ _ s2 c2 (.lst (.inl (.inl qf)) (w.mono c2.grow))
 | _=>exact po.elim
theorem Qn {lo hi:Option Expr} {l u:Option (qO)} (n:C.K=X.K) (j:PE X e (tE C own ma fa)) (hl:PO X lo (tO C own (zm l))) (i:PO X hi (tO C own (zm u))) (g:ma≠.any:=by decide):PE X (.Subscript e (.Slice lo hi fg p2) pos) (tE C own .sh (jZ fa l u)):=by
 refine ji (YD (qdB (C:=C) n) (uC j g) hl i) λσ H Q ⟨F,ρ,p,h⟩=>⟨F,ρ,p,Po.bind h λv F1 H1 d ρ1 f t m h1=>?_⟩
 refine ⟨F1,ρ1,f,Po.bindO h1 λs H2 a ρ2 r c2 h2=>⟨s,ρ2,r,Po.bindO h2 λq w b k c I o=>?_⟩⟩;exact ⟨q,d,c.sub,(m.mono c2.grow).mono I.grow,PoV.of c o⟩
end
theorem fsc {N P:List Str} {sc:g6} (a:sc.kind=.function:=by rfl) (b:sc.isCoroutine=false:=by rfl) (c:sc.isGenerator=false:=by rfl) (d:N.Nodup:=by decide +kernel) (e:N.take P.length=P:=by rfl) (f:∀ x∈P,sc.names.lookup x=ff .local\/sc.names.lookup x=ff .cell:=by decide +kernel) (g:∀ y∈sc.names,y.2≠.free:=by decide +kernel):FnScope N P sc:=⟨a,b,c,d,e,f,g⟩
end L2.D2
namespace L2.D2
open PySem PySem.Spec PyProof.Rows PySem.W
theorem lk_mem {α:Type} {x:Addr} {a:α}:∀ {l:List (Addr×α)},l.lookup x=ff a->(x,a)∈l
 | [],h=>by simp at h
 | (n,k)::r,h=>by
  rw [cw] at h;by_cases e:(x == n)=fm
  ·rw [e] at h;have h:ff k=ff a:=h;cases h;have:x=n:=by simpa using e
   rw [this];exact aj ..
  ·rw [Bool.not_eq_true] at e;rw [e] at h;exact ac _ (lk_mem h)
variable {s:fq}
section
variable {prog:fz} {w:fA} {A:fD} {E:fj->fq->Prop}
variable {z TI TO i1 i2:Addr} {fp1 fp2:List Addr} {n1 n2 i:Nat} {P1 P2:Nat->fj->Prop} {S1 S2:Nat->Heap->Prop} {a b:fj}
end
section
variable {X:Cx} {pins:Pns} {σ:St} {H H':Hp} {h':Heap}
theorem Inv.grown {t':Nat} (I:Inv X pins σ H s) (k:∀ b u,s.heap.get? b=ff u->h'.get? b=ff u) (old:∀ b o,H b=ff o->H' b=ff o) (low:∀ b,b < s.heap.objs.size->H b=fg->H' b=fg)
  (new:∀ b o,H b=fg->H' b=ff o->ObjOk X.prog X.w H' h' b o):Inv X pins σ H' { s with heap:=h',toks:=t' }:=by
 refine I.un ⟨λb u q _ _ _=>k b u q,λb u q _ _ _=>⟨u.slots,k b u q⟩,λb u q n _=>low b (au q) n,λb u q _=>⟨u,k b u q⟩,λb xs q=>old _ _ q,λb u xs q=>old _ _ q,λb ps q=>⟨#[],by rw [old _ _ q]; simp⟩⟩ λb u e=>?_;cases q:H b with
 | none=>exact new b u q e
 | some o=>have:=old b o q;rw [e] at this;cases this;exact (I.hok b u q).stay (λc v _ q=>k c v q) (λc q=>old _ _ q) λc xs q=>old _ _ q
end
end L2.D2
namespace L2.D2
open PySem PySem.Spec PyProof.Rows
variable {X:Cx} {C:Ct} {own:List Nat} {x:Str} {pos':Pos}
section
variable {own':List Nat} {as:List AK} {G:jM} {fr:vI} {m ma mb mr:Mo} {a b e:Expr} {es:List Expr} {p pos px:Pos} {ms:List PM} {ps:List Str} {k j:Nat} {cv:Str->fj} {fe f fa fb:qO}
theorem cN (F:DefOk X.prog X.w X.K X.mg X.base cv j x ps ms mr G) (c:Room k X.A) (g:PA X (e::es) (tAr C own as fr)) (D:j<=k:=by decide) (hx:wU (CXk X.prog X.w) X C.E:=by exact Vm) (hg:Gl X x:=by rfl) (v:C.cv=cv:=by rfl) (n:C.K=X.K:=by rfl) (s:ms=as.map gl:=by rfl) (hs:∀ i∈qQ as,i∈own:=by decide) (nd:(qQ as).Nodup:=by decide) (h:frA as<=1:=by decide) (o:∀ i∈C.ox,i∈own:=by exact wE rfl)
  (b:Dbg x:=by decide) (a:starEach (e::es) X.env=(fk,eval e X.env)::starEach es X.env:=by exact jj rfl) (l:(backTo pos (starEach es X.env)).any (·.1)=false:=by exact yp rfl):PE X (.Call (.Name x p) (e::es) [] pos) (tE C own mr (qr as G fr)):=
 qG F c D hx hg g v n s hs nd h o b a l
theorem sl (i:Nat) {x:Str} {px:Pos} (g:PA X es (tAr C own as fr)) (h:X.N[i]?=ff x:=by rfl) (c:Vis X.env.scope x:=by exact cc rfl) (l:i∈own:=by decide) (hs:starEach (.Name x px::es) X.env=(fk,eval (.Name x px) X.env)::starEach es X.env:=by rfl)
  (hd:Dbg x:=by decide) (d:Cdk x:=by decide):PA X (.Name x px::es) (tAr C own (.sl i::as) (yi fr)):=zf h c l g hs hd d
theorem vO (i:Nat) {x:Str} (h:X.N[i]?=ff x:=by rfl) (c:Vis X.env.scope x:=by exact cc rfl) (l:i∈own:=by decide) (hd:Dbg x:=by decide) (d:Cdk x:=by decide):PE X (.Name x pos) (tE C own .any (qc i)):=Gr h c l hd d
theorem se (i:Nat) {x:Str} {pos':Pos} (b:X.N.Nodup) (a:PE X e (tE C own m fe)) (hi:X.N[i]?=ff x:=by rfl) (hx:Loc X.env.scope x:=by first | exact cc rfl | exact dF rfl) (c:m≠.any:=by decide) (o:i∉C.io:=by exact wX rfl) (hs:swapsWith e (ff (.Name x pos')) pos.line X.env=pure false:=by rfl)
  (h:X.fn x=fm\/X.env.scope.names.lookup x=ff .local:=by first | exact .inl rfl | exact .inr rfl):PS X (.Assign [.Name x pos'] e pos) (tSt C own (kI own [i]) (kf i fe)):=GA b hi hx a c o hs h
theorem sO (i:Nat) {x:Str} {pos':Pos} (b:X.N.Nodup) (a:PE X e (tE C own .fr fe)) (hi:X.N[i]?=ff x:=by rfl) (hx:Loc X.env.scope x:=by first | exact cc rfl | exact dF rfl) (o:i∉C.io:=by exact wX rfl) (hs:swapsWith e (ff (.Name x pos')) pos.line X.env=pure false:=by rfl)
  (h:X.fn x=fm\/X.env.scope.names.lookup x=ff .local:=by first | exact .inl rfl | exact .inr rfl):PS X (.Assign [.Name x pos'] e pos) (tSt C own (i::kI own [i]) (kf i fe)):=YT b hi hx a o hs h
theorem gn (i:Nat) {x:Str} (a:X.N.Nodup) (hi:X.N[i]?=ff x:=by rfl) (hx:Loc X.env.scope x:=by first | exact cc rfl | exact dF rfl) (l:i∉own:=by decide) (o:i∉C.io:=by exact wX rfl) (h:X.fn x=fm\/X.env.scope.names.lookup x=ff .local:=by first | exact .inl rfl | exact .inr rfl):PG X (.Name x pos) (tGd C own (gNm i)):=Ka a hi hx l o h
theorem ix (c:Room k X.A) (g:PE X a (tE C own ma fa)) (d:PE X b (tE C own mb fb)) (hs:QT b:=by exact λ_ _=>rfl) (n:C.K=X.K:=by rfl) (f:ma≠.any:=by decide):PE X (.Subscript a b pos) (tE C own .sh (d2 ixD fa fb)):=qdl n c.units g d hs f
theorem tv (h:PE X e (tE C own m f)) (n:C.K=X.K:=by rfl) (i:∀ whole,isTrue e X.env whole=(do let v <-whole; standAt e.pos; holding [v] (truthy v)):=by exact λ_=>rfl):PT X e (tT C own (yh f)):=Gw n h i
end
noncomputable def tgN:Expr->List Str
 | .Name x _=>[x]
 | .Tuple es _ _=>es.flatMap λe=>match e with
  | .Name x _=>[x]
  | _=>[]
 | _=>[]
noncomputable def cNm (tg:Expr) (N:List Str) (cap:List Nat):List Str:=tgN tg++cap.map λk=>N.getD k Str.empty
section
variable {elt iter tg:Expr} {ifs:List Expr} {scope:g6} {pos spos:Pos} {fi:vI} {g:D->Sl->Out Sl} {ft:ub} {fe:qO} {me:Mo} {nt:Nat} {cap:List Nat}
theorem gC (i:Nat) (a:decide X.N.Nodup=true:=by kernel_rfl) (hi:X.N[i]?=ff x:=by rfl) (hx:Loc X.env.scope x:=by first | exact cc rfl | exact dF rfl) (l:i∉own:=by decide) (o:i∉C.io:=by exact wX rfl) (h:X.fn x=fm\/X.env.scope.names.lookup x=ff .local:=by first | exact .inl rfl | exact .inr rfl):PG X (.Name x pos) (tGd C own (gNm i)):=Ka (of_decide_eq_true a) hi hx l o h
theorem cmp (hi:PI X tg iter (tIt C own fi)) (h:∀ fp L s' H',PE (qT X scope (cNm tg X.N cap) fp L s' H') elt (tE (ctC C nt cap.length) (vH own nt cap) me fe)) (hg:∀ fp L s' H',PG (qT X scope (cNm tg X.N cap) fp L s' H') tg (tGd (ctC C nt cap.length) (vH own nt cap) g):=by exact λ_ _ _ _=>gC 0) (ht:∀ fp L s' H',PTs (qT X scope (cNm tg X.N cap) fp L s' H') ifs (tT (ctC C nt cap.length) (vH own nt cap) ft):=by exact λ_ _ _ _=>Kc)
  (P:X.calm=true:=by rfl) (bs:scB X.env.scope.names scope=true:=by kernel_rfl) (b:qcE X.env.scope.names X.N scope (cNm tg X.N cap) nt cap=true:=by kernel_rfl) (i:me≠.any:=by decide) (hs:∀ x,foldedSetIterable iter X.env x=pure x:=by intro _; rfl) :
  PE X (.ListComp elt [⟨tg,iter,ifs,0⟩] scope pos) (tE C own .fr (qB own nt cap fi g ft fe)):=GJ P (qbD rfl bs) (Zn rfl rfl b) hi hg ht h i hs
theorem qaP (i:Nat) {x:Str} (a:X.N.Nodup) (hi:PI X tg iter (tIt C own fi)) (e:∀ fp L s' H',PE (qT X scope (cNm tg X.N cap) fp L s' H') elt (tE (ctC C nt cap.length) (vH own nt cap) me fe)) (hg:∀ fp L s' H',PG (qT X scope (cNm tg X.N cap) fp L s' H') tg (tGd (ctC C nt cap.length) (vH own nt cap) g):=by exact λ_ _ _ _=>gC 0) (ht:∀ fp L s' H',PTs (qT X scope (cNm tg X.N cap) fp L s' H') ifs (tT (ctC C nt cap.length) (vH own nt cap) ft):=by exact λ_ _ _ _=>Kc)
  (V:X.N[i]?=ff x:=by rfl) (hx:Loc X.env.scope x:=by first | exact cc rfl | exact dF rfl) (P:X.calm=true:=by rfl) (bs:scB X.env.scope.names scope=true:=by kernel_rfl) (b:qcE X.env.scope.names X.N scope (cNm tg X.N cap) nt cap=true:=by kernel_rfl) (h:me≠.any:=by decide) (o:i∉C.io:=by exact wX rfl)
  (E:swapsWith (.ListComp elt [⟨tg,iter,ifs,0⟩] scope pos) (ff (.Name x pos')) spos.line X.env=pure true:=by rfl) (hs:∀ x,foldedSetIterable iter X.env x=pure x:=by intro _; rfl) (Y:X.fn x=fm\/X.env.scope.names.lookup x=ff .local:=by first | exact .inl rfl | exact .inr rfl) :
  PS X (.Assign [.Name x pos'] (.ListComp elt [⟨tg,iter,ifs,0⟩] scope pos) spos) (tSt C own (i::kI own [i]) (kf i (qB own nt cap fi g ft fe))):=Xb a V hx P (qbD rfl bs) (Zn rfl rfl b) hi hg ht e h o E hs Y
end
end L2.D2
namespace L2.D2
open PySem
def Uv (l:List Nat):Prop:=l.Pairwise (· < ·)
variable {xs:Array Nat} {j:Nat}
theorem zv (c:Uv xs.toList):∀ (f lo hi:Nat),hi - lo<=f->lo<=hi->hi<=xs.size->(∀ k,k < lo->∀ x,xs[k]?=ff x->x < j)->(∀ k,hi<=k->∀ x,xs[k]?=ff x->j<=x) ->(∀ k,k < aE.go xs j f lo hi->∀ x,xs[k]?=ff x->x < j)/\(∀ k,aE.go xs j f lo hi<=k->∀ x,xs[k]?=ff x->j<=x)/\aE.go xs j f lo hi<=xs.size
 | 0,lo,hi,h1,h2,h3,a,b=>by
  have:lo=hi:=by omega
  subst this;exact ⟨a,b,h3⟩
 | f+1,lo,hi,h1,h2,h3,a,b=>by
  unfold aE.go;by_cases h:lo < hi
  ·rw [if_pos h];have m:(lo+hi) / 2 < xs.size:=by omega
   have hg:xs.getD ((lo+hi) / 2) j=xs[(lo+hi) / 2]:=by simp [eZ,m]
   have mono:∀ (p q:Nat) (x y:Nat),p < q->xs[p]?=ff x->xs[q]?=ff y->x < y:=λp q x y g hp hq=>by
    have l:xs.toList[p]?=ff x:=by rw [aD]; exact hp
    have d:xs.toList[q]?=ff y:=by rw [aD]; exact hq
    obtain ⟨h1,e1⟩:=aq.mp l;obtain ⟨h2,o⟩:=aq.mp d;rw [<-e1,<-o];exact bU.mp c p q h1 h2 g
   have i:xs[(lo+hi) / 2]?=ff xs[(lo+hi) / 2]:=by simp [m]
   dsimp only;by_cases hl:xs.getD ((lo+hi) / 2) j < j
   ·rw [if_pos hl];rw [hg] at hl;refine zv c f _ hi (by omega) (by omega) h3 (λk n x hx=>?_) b;by_cases e:k=(lo+hi) / 2;·subst e; rw [i] at hx; cases hx; exact hl
    ·exact dw (mono k _ x _ (by omega) hx i) hl
   ·rw [if_neg hl];rw [hg] at hl;refine zv c f lo _ (by omega) (by omega) (by omega) a λk n x hx=>?_;by_cases e:k=(lo+hi) / 2;·subst e; rw [i] at hx; cases hx; omega
    ·have:=mono _ k _ x (by omega) i hx;omega
  ·rw [if_neg h];have:lo=hi:=by omega
   subst this;exact ⟨a,b,h3⟩
theorem KA (c:Uv xs.toList):(∀ k,k < aE xs j->∀ x,xs[k]?=ff x->x < j)/\(∀ k,aE xs j<=k->∀ x,xs[k]?=ff x->j<=x)/\aE xs j<=xs.size:=
 zv c xs.size 0 xs.size (by omega) (by omega) (by omega) (λk h=>by omega) λk h x hx=>by have:=(aQ.mp hx).1;omega
theorem Uw {i:Nat} (r:Uv xs.toList) (h:xs[i]?=ff j):aE xs j=i:=by
 obtain ⟨a,b,c⟩:=KA (j:=j) r;have h1:¬i < aE xs j:=λz=>aX _ (a i z j h);by_cases e:aE xs j=i;·exact e
 ·have t:aE xs j < xs.size:=by have:=(aQ.mp h).1;omega
  have hx:xs[aE xs j]?=ff xs[aE xs j]:=by simp [t]
  have h2:=b _ (am _) _ hx;have g:xs[aE xs j] < j:=by have hi:=h;rw [<-aD] at hx hi;obtain ⟨d,e1⟩:=aq.mp hx;obtain ⟨l,f⟩:=aq.mp hi;have:=bU.mp r _ i d l (by omega);rw [e1,f] at this;exact this
  omega
theorem kR {t:fB} {i:Nat} (c:Uv t.place.toList) (h:t.place[i]?=ff j):t.slot j=.live i:=by unfold SetTable.slot;rw [Uw c h];dsimp only;rw [h];simp
theorem Vx {t:fB} (hd:t.dummies=#[]) (h:j∉t.place.toList):t.slot j=.empty:=by
 unfold SetTable.slot;have h1:¬(t.place[aE t.place j]? == ff j)=true:=λz=>h (by
  have z:t.place[aE t.place j]?=ff j:=by simpa using z
  rw [<-aD] at z;exact bh z)
 dsimp only;rw [if_neg h1,hd];rfl
end L2.D2
namespace L2.D2
open PySem PySem.SetTable
noncomputable def adv (m:Nat) (p:Probe):Probe:=if p.more > 0 then { p with j:=p.j+1,more:=p.more - 1 } else { p with j:=(leap m p.i p.perturb).1,more:=runEnd m (leap m p.i p.perturb).1 - (leap m p.i p.perturb).1,i:=(leap m p.i p.perturb).1,perturb:=(leap m p.i p.perturb).2 }
noncomputable def atL (m i q:Nat):Probe:={ j:=i,more:=runEnd m i - i,i:=i,perturb:=q,dummy:=fg }
noncomputable def pth (m:Nat) (h:Int):Nat->Probe
 | 0=>atL m (bits h % (m+1)) (bits h)
 | n+1=>adv m (pth m h n)
noncomputable def lp (m:Nat) (h:Int):Nat->Nat×Nat
 | 0=>(bits h % (m+1),bits h)
 | c+1=>leap m (lp m h c).1 (lp m h c).2
theorem Ux (m i:Nat):runEnd m i - i<=9/\i<=runEnd m i:=by unfold runEnd;split <;> omega
variable {m n:Nat} {h:Int}
theorem xS {i q:Nat} (e:pth m h n=atL m i q):∀ k,k<=runEnd m i - i->pth m h (n+k)={ j:=i+k,more:=runEnd m i - i - k,i:=i,perturb:=q,dummy:=fg }
 | 0,_=>e
 | k+1,hk=>by have a:=xS e k (by omega);show adv m (pth m h (n+k))=_;rw [a];unfold adv;rw [if_pos (by show runEnd m i - i - k > 0; omega)];rfl
theorem Uy (m:Nat) (h:Int):∀ c,∃ n,n<=10 * c/\pth m h n=atL m (lp m h c).1 (lp m h c).2
 | 0=>⟨0,am _,rfl⟩
 | c+1=>by obtain ⟨n,a,e⟩:=Uy m h c;have r:=(Ux m (lp m h c).1).1;have i:=xS e _ (am _);refine ⟨n+(runEnd m (lp m h c).1 - (lp m h c).1)+1,by omega,?_⟩;show adv m (pth m h (n+(runEnd m (lp m h c).1 - (lp m h c).1)))=_;rw [i];unfold adv;rw [if_neg (by show ¬runEnd m (lp m h c).1 - (lp m h c).1 - (runEnd m (lp m h c).1 - (lp m h c).1) > 0; omega)];rfl
theorem qd7 (m:Nat) (h:Int):∀ c,(lp m h c).2=bits h / 32 ^ c
 | 0=>by show bits h=_; simp
 | c+1=>by show (lp m h c).2 / 32=_;rw [qd7 m h c,Nat.div_div_eq_div_mul,Nat.pow_succ]
theorem qdC (m:Nat) (h:Int):∀ c,(lp m h c).1 < m+1
 | 0=>de _ (d5 _)
 | c+1=>de _ (d5 _)
theorem qaf (h:Int):bits h < 2 ^ 64:=by unfold bits;have h1:0<=h % (2 ^ 64:Int):=d9 _ (by decide);have h2:h % (2 ^ 64:Int) < 2 ^ 64:=dG _ (by decide);omega
theorem qag (m:Nat) (h:Int) (c:Nat):(lp m h (13+c)).2=0:=by rw [qd7];refine Nat.div_eq_of_lt (aC (qaf h) ?_);rw [Nat.pow_add];exact bu (by decide:2 ^ 64<=32 ^ 13) (Nat.le_mul_of_pos_right _ (Nat.pow_pos (by decide)))
noncomputable def stp (m i:Nat):Nat:=(i * 5+1) % (m+1)
noncomputable def its (m:Nat):Nat->Nat->Nat
 | 0,i=>i
 | k+1,i=>stp m (its m k i)
theorem Uz (m:Nat) (h:Int):∀ k,(lp m h (13+k)).1=its m k (lp m h 13).1
 | 0=>rfl
 | k+1=>by show ((lp m h (13+k)).1 * 5+1+(lp m h (13+k)).2 / 32) % (m+1)=stp m (its m k (lp m h 13).1);rw [qag,Uz m h k];rfl
noncomputable def Zx (m:Nat):Bool:=(aB (m+1)).all λi=>(aB (m+1)).all λj=>(aB (m+1)).any λk=>its m k i == j
def Mk (m:Nat):Prop:=m=7\/m=31
variable {j:Nat}
theorem Zy (h:Mk m) {i:Nat} (hi:i < m+1) (D:j < m+1):∃ k,k < m+1/\its m k i=j:=by
 have c:Zx m=true:=by rcases h with rfl | rfl <;> decide +kernel
 unfold Zx at c;have b:=aO.mp (aO.mp c i (aK.mpr hi)) j (aK.mpr D);obtain ⟨k,a,e⟩:=List.any_eq_true.mp b;exact ⟨k,aK.mp a,by simpa using e⟩
theorem qbY (b:Mk m) (h:Int) (D:j < m+1):∃ n c,n<=10 * c/\c<=13+m/\(pth m h n).j=j:=by obtain ⟨k,d,e⟩:=Zy b (qdC m h 13) D;obtain ⟨n,a,i⟩:=Uy m h (13+k);refine ⟨n,13+k,a,by omega,?_⟩;rw [i];show (lp m h (13+k)).1=j;rw [Uz,e]
theorem Jo:∀ (a b:List Nat),a.Nodup->(∀ x∈a,x∈b)->a.length<=b.length
 | [],b,_,_=>aZ _
 | x::a,b,nd,s=>by have hx:=s x aj;obtain ⟨n1,n2⟩:=aU.mp nd;have j:=Jo a (b.erase x) n2 λy D=>(List.mem_erase_of_ne (show y≠x from λz=>n1 (by rw [<-z]; exact D))).mpr (s y (ac _ D));rw [List.length_erase_of_mem hx] at j;have:=List.length_pos_of_mem hx;rw [af];omega
variable {l:List Nat}
theorem qah (c:Uv l) (hl:l.length<=m):∃ j,j < m+1/\j∉l:=by
 by_cases h:∃ j,j < m+1/\j∉l;·exact h
 ·exfalso;have sub:∀ j∈aB (m+1),j∈l:=λj D=>by
   by_cases z:j∈l;·exact z
   ·exact absurd ⟨j,aK.mp D,z⟩ h
  have:=Jo _ l (dY (n:=m+1)) sub;rw [bg] at this;omega
theorem Xv (b:Mk m) (h:Int) (r:Uv l) (hl:l.length<=m):∃ n,n < 10 * turns m/\(pth m h n).j∉l:=by obtain ⟨j,D,a⟩:=qah r hl;obtain ⟨n,c,h1,h2,e⟩:=qbY b h D;refine ⟨n,by unfold turns; omega,by rw [e]; exact a⟩
theorem Qo (m:Nat) (h:Int):∀ n,(pth m h n).dummy=fg
 | 0=>rfl
 | n+1=>by show (adv m (pth m h n)).dummy=fg;unfold adv;split <;> exact Qo m h n
theorem qbZ {t:fB} (hd:t.dummies=#[]) (c:Uv t.place.toList) {hashAt:Nat->Int}:∀ (f n e:Nat),n<=e->e < n+f->(pth t.mask h e).j∉t.place.toList ->∃ n1,n<=n1/\n1<=e/\(∀ k,n<=k->k < n1->(pth t.mask h k).j∈t.place.toList/\∀ i,t.place[i]?=ff (pth t.mask h k).j->hashAt i≠h) /\
   ((eJ.go t hashAt h f (pth t.mask h n)=ff (.empty (pth t.mask h n1).j fg)/\(pth t.mask h n1).j∉t.place.toList) \/
    ∃ i,t.place[i]?=ff (pth t.mask h n1).j/\hashAt i=h/\eJ.go t hashAt h f (pth t.mask h n)=ff (.candidate (pth t.mask h n1).j i (pth t.mask h (n1+1))))
 | 0,n,e,h1,h2,_=>by omega
 | f+1,n,e,h1,h2,h3=>by
  unfold eJ.go;by_cases y:(pth t.mask h n).j∈t.place.toList
  ·obtain ⟨i,hi⟩:=bi y;rw [aD] at hi;rw [kR c hi];dsimp only;by_cases hq:hashAt i=h;·rw [if_pos (by simpa using hq)];refine ⟨n,am _,h1,λk a b=>absurd b (by omega),.inr ⟨i,hi,hq,rfl⟩⟩
   ·rw [if_neg (by simpa using hq)];have l:n≠e:=λz=>h3 (z ▸ y);obtain ⟨n1,u,q,p,o⟩:=qbZ hd c f (n+1) e (by omega) (by omega) h3;refine ⟨n1,by omega,q,λk s m=>?_,o⟩;by_cases z:k=n;·subst z;refine ⟨y,λr d=>?_⟩;have e1:=kR c hi;have g:=kR c d;rw [e1] at g;cases g;exact hq
    ·exact p k (by omega) m
  ·rw [Vx hd y];dsimp only;refine ⟨n,am _,h1,λk a b=>absurd b (by omega),.inl ⟨by rw [Qo],y⟩⟩
theorem Zz {m:Nat} {h:Int}:∀ n,(pth m h n).j+(pth m h n).more<=m
 | 0=>by have:bits h % (m+1) < m+1:=de _ (d5 m);show bits h % (m+1)+(runEnd m (bits h % (m+1)) - bits h % (m+1))<=m;unfold runEnd;split <;> omega
 | n+1=>by
  have a:=Zz (m:=m) (h:=h) n;show (adv m (pth m h n)).j+(adv m (pth m h n)).more<=m;unfold adv;split;·show (pth m h n).j+1+((pth m h n).more - 1)<=m;omega
  ·have:(leap m (pth m h n).i (pth m h n).perturb).1 < m+1:=de _ (d5 m);show (leap m (pth m h n).i (pth m h n).perturb).1+(runEnd m (leap m (pth m h n).i (pth m h n).perturb).1 - (leap m (pth m h n).i (pth m h n).perturb).1)<=m;unfold runEnd;split <;> omega
def Rch (m:Nat) (L:Nat->Prop) (j:Nat) (h:Int):Prop:=∃ n,(pth m h n).j=j/\∀ k,k < n->L (pth m h k).j
theorem Rch.mono {L b:Nat->Prop} (r:Rch m L j h) (k:∀ x,L x->b x):Rch m b j h:=let ⟨n,e,a⟩:=r; ⟨n,e,λi hi=>k _ (a i hi)⟩
structure TabOk (t:fB) (es:List (Int×fj)):Prop where
 km:Mk t.mask
 dm:t.dummies=#[]
 rise:Uv t.place.toList
 le:∀ j∈t.place.toList,j<=t.mask
 sz:t.place.size=es.length
 rch:∀ q∈t.place.toList.zip es,Rch t.mask (·∈t.place.toList) q.1 q.2.1
variable {α:Type}
noncomputable def QN (l:List α) (p:Nat) (x:α):List α:=l.take p++x::l.drop p
variable {p:Nat}
theorem insL_mem {l:List α} {x y:α}:y∈QN l p x↔y=x\/y∈l:=by
 unfold QN
 conv=>rhs; rw [<-bT p l]
 simp only [bn,ae];constructor
 ·rintro (h | h | h);·exact .inr (.inl h)
  ·exact .inl h
  ·exact .inr (.inr h)
 ·rintro (h | h | h);·exact .inr (.inl h)
  ·exact .inl h
  ·exact .inr (.inr h)
variable {β:Type}
theorem KB {a:List α} {b:List β} {x:α} {y:β} (hl:a.length=b.length) {q:α×β} (h:q∈(QN a p x).zip (QN b p y)):q=(x,y)\/q∈a.zip b:=by
 unfold QN at h;rw [List.zip_append (by rw [aR,aR,hl]),List.zip_cons_cons] at h;rw [<-bT p a,<-bT p b,List.zip_append (by rw [aR,aR,hl])];rcases bn.mp h with h | h;·exact .inr (cj _ h)
 ·rcases ae.mp h with h | h;·exact .inl h
  ·exact .inr (aP _ h)
variable {es:Array (Int×fj)}
theorem UA {t:fB} {v:fj} (T:TabOk t es.toList) (hl:∀ k,k < n->(pth t.mask h k).j∈t.place.toList) (p:(pth t.mask h n).j∉t.place.toList):TabOk (t.put (pth t.mask h n).j).1 (insertAt es (t.put (pth t.mask h n).j).2 (h,v)).toList/\(t.put (pth t.mask h n).j).1.mask=t.mask/\(t.put (pth t.mask h n).j).1.led=t.led/\(t.put (pth t.mask h n).j).1.plain=t.plain/\(t.put (pth t.mask h n).j).1.moves=t.moves:=by
 have hp:(t.put (pth t.mask h n).j).1.place.toList=QN t.place.toList (below t.place (pth t.mask h n).j) (pth t.mask h n).j:=toList_insertAt ..;have hq:(insertAt es (t.put (pth t.mask h n).j).2 (h,v)).toList=QN es.toList (below t.place (pth t.mask h n).j) (h,v):=toList_insertAt ..;have hd:(t.put (pth t.mask h n).j).1.dummies=#[]:=by show (if has t.dummies _ then _ else t.dummies)=_;rw [T.dm];rfl
 obtain ⟨r,o,y⟩:=KA (j:=(pth t.mask h n).j) T.rise;have l:t.place.toList.length=es.toList.length:=by rw [ay,T.sz]
 refine ⟨⟨T.km,hd,?_,λj D=>?_,?_,λq d=>?_⟩,rfl,rfl,rfl,rfl⟩
 ·rw [hp];unfold QN Uv;rw [List.pairwise_append];refine ⟨T.rise.sublist (List.take_sublist _ _),?_,λa g b i=>?_⟩;·rw [bj];refine ⟨λa g=>?_,T.rise.sublist (List.drop_sublist _ _)⟩;obtain ⟨k,c⟩:=bi g;rw [dH,aD] at c;have h1:=o _ (cy _ k) a c;have h2:a≠(pth t.mask h n).j:=λz=>p (z ▸ List.mem_of_mem_drop g);show (pth t.mask h n).j < a;omega
  ·obtain ⟨k,c⟩:=bi g;rw [List.getElem?_take] at c;split at c
   ·rename_i f;rw [aD] at c;have h1:=r k f a c;rcases ae.mp i with rfl | i;·exact h1
    ·obtain ⟨k2,e⟩:=bi i;rw [dH,aD] at e;exact aC h1 (o _ (cy _ k2) b e)
   ·cases c
 ·rw [hp] at D;rcases insL_mem.mp D with rfl | D
  ·have:=Zz (m:=t.mask) (h:=h) n;show (pth t.mask h n).j<=t.mask;omega
  ·exact T.le j D
 ·rw [<-ay,hp,hq];unfold QN;simp only [ap,af,aR,db,l]
 ·rw [hp,hq] at d;have up:∀ x,x∈t.place.toList->x∈(t.put (pth t.mask h n).j).1.place.toList:=λx hx=>by rw [hp]; exact insL_mem.mpr (.inr hx)
  rcases KB l d with rfl | d;·exact ⟨n,rfl,λk c=>up _ (hl k c)⟩
  ·exact (T.rch q d).mono up
def Vy (ow:Array (Option Nat)) (x:Nat):Prop:=∃ y,ow[x]?=ff (ff y)
variable {ow:Array (Option Nat)} {x:Nat}
theorem ul (hx:x < ow.size):((ow.getD x (ff 0)).isNone=fm↔ow[x]?=ff fg)/\((ow.getD x (ff 0)).isNone=fk↔Vy ow x):=by
 have e:ow[x]?=ff ow[x]:=by simp [hx]
 have i:ow.getD x (ff 0)=ow[x]:=by simp [eZ,hx]
 unfold Vy;rw [e,i];cases ow[x] <;> simp
theorem UB {M:Nat} (hs:ow.size=m+1) (u:ow[(lp m h M).1]?=ff fg):∀ (f c n:Nat),pth m h n=atL m (lp m h c).1 (lp m h c).2->(∀ k,k < n->Vy ow (pth m h k).j)->c<=M->M < c+f ->∃ n1,layClean.free m ow f (lp m h c).1 (lp m h c).2=ff (pth m h n1).j/\ow[(pth m h n1).j]?=ff fg/\∀ k,k < n1->Vy ow (pth m h k).j
 | 0,c,n,_,_,h1,h2=>by omega
 | f+1,c,n,e,ho,h1,h2=>by
  unfold layClean.free;have hi:=qdC m h c;have s:=Ux m (lp m h c).1;have S:∀ k,k<=runEnd m (lp m h c).1 - (lp m h c).1->(lp m h c).1+k < ow.size:=λk a=>by rw [hs];unfold runEnd at a;split at a <;> omega
  cases q:(aB (runEnd m (lp m h c).1+1 - (lp m h c).1)).find? λk=>(ow.getD ((lp m h c).1+k) (ff 0)).isNone with
  | some k=>
   obtain ⟨l,i,g⟩:=List.find?_range_eq_some.mp q;have a:k<=runEnd m (lp m h c).1 - (lp m h c).1:=by have:=aK.mp i;omega
   have b:=xS e k a;refine ⟨n+k,by rw [b],?_,λk' p=>?_⟩;·rw [b];exact (ul (S k a)).1.mp l
   ·by_cases z:k' < n;·exact ho k' z
    ·obtain ⟨d,rfl⟩:∃ d,k'=n+d:=⟨k' - n,by omega⟩
     rw [xS e d (by omega)];have:=g d (by omega);exact (ul (S d (by omega))).2.mp (by simpa using this)
  | none=>
   have all:∀ d,d<=runEnd m (lp m h c).1 - (lp m h c).1->Vy ow ((lp m h c).1+d):=λd hd=>by have:=List.find?_eq_none.mp q d (aK.mpr (by omega));exact (ul (S d hd)).2.mp (by cases z:(ow.getD ((lp m h c).1+d) (ff 0)).isNone with | true=>exact absurd z this | false=>rfl)
   have o:c≠M:=λz=>by subst z;obtain ⟨y,D⟩:=all 0 (aZ _);rw [Nat.add_zero,u] at D;cases D
   have r:=xS e _ (am _);have E:pth m h (n+(runEnd m (lp m h c).1 - (lp m h c).1)+1)=atL m (lp m h (c+1)).1 (lp m h (c+1)).2:=by show adv m (pth m h (n+(runEnd m (lp m h c).1 - (lp m h c).1)))=_;rw [r];unfold adv;rw [if_neg (by show ¬runEnd m (lp m h c).1 - (lp m h c).1 - (runEnd m (lp m h c).1 - (lp m h c).1) > 0; omega)];rfl
   exact UB hs u f (c+1) _ E (λk a=>by
    by_cases z:k < n;·exact ho k z
    ·obtain ⟨d,rfl⟩:∃ d,k=n+d:=⟨k - n,by omega⟩
     rw [xS e d (by omega)];exact all d (by omega)) (by omega) (by omega)
structure Ow (m:Nat) (ow:Array (Option Nat)) (hs:List Int) (k:Nat):Prop where
 size:ow.size=m+1
 rch:∀ (j k':Nat),ow[j]?=ff (ff k')->k' < k/\∃ h,hs[k']?=ff h/\Rch m (Vy ow) j h
 all:∀ k',k' < k->∃ j:Nat,ow[j]?=ff (ff k')
 one:∀ (j j' k':Nat),ow[j]?=ff (ff k')->ow[j']?=ff (ff k')->j=j'
 few:∃ l:List Nat,l.length=k/\∀ j,Vy ow j->j∈l
variable {hs:List Int}
theorem Xw {k:Nat} (A:Mk m) (O:Ow m ow hs k) (C:k<=m) (G:hs[k]?=ff h):∃ j,layClean.free m ow (turns m) (bits h % (m+1)) (bits h)=ff j/\Ow m (ow.setIfInBounds j (ff k)) hs (k+1):=by
 obtain ⟨l,hl,f⟩:=O.few;have un:∃ j,j < m+1/\¬Vy ow j:=by
  by_cases u:∃ j,j < m+1/\¬Vy ow j;·exact u
  ·exfalso;have:=Jo (aB (m+1)) l dY λj D=>by
    by_cases z:Vy ow j;·exact f j z
    ·exact absurd ⟨j,aK.mp D,z⟩ u
   rw [bg] at this;omega
 obtain ⟨p,d,o⟩:=un;obtain ⟨c,I,e⟩:=Zy A (qdC m h 13) d;have D:(lp m h (13+c)).1=p:=by rw [Uz,e]
 have w:ow[(lp m h (13+c)).1]?=ff none:=by
  rw [D];have t:p < ow.size:=by rw [O.size]; exact d
  cases q:(ow.getD p (ff 0)).isNone with
  | true=>exact (ul t).1.mp q
  | false=>exact absurd ((ul t).2.mp q) o
 obtain ⟨n,f1,f2,H⟩:=UB O.size w (turns m) 0 0 rfl (λk C=>by omega) (by omega) (by unfold turns; omega);have E:(pth m h n).j < ow.size:=(aQ.mp f2).1;have get:∀ x,(ow.setIfInBounds (pth m h n).j (ff k))[x]?=if (pth m h n).j=x then ff (ff k) else ow[x]?:=λx=>by
  rw [Array.getElem?_setIfInBounds];split;·rfl
  ·rfl
 have up:∀ x,Vy ow x->Vy (ow.setIfInBounds (pth m h n).j (ff k)) x:=λx hx=>by
  unfold Vy;rw [get];split;·exact ⟨k,rfl⟩
  ·exact hx
 refine ⟨(pth m h n).j,f1,⟨by rw [Array.size_setIfInBounds,O.size],λj k' D=>?_,λk' B=>?_,λj j' k' a b=>?_,(pth m h n).j::l,by rw [af,hl],λj D=>?_⟩⟩
 ·rw [get] at D;split at D;·rename_i z;cases D;exact ⟨da _,h,G,n,z,λi hi=>up _ (H i hi)⟩
  ·obtain ⟨a,h',b,r⟩:=O.rch j k' D;exact ⟨cf a,h',b,r.mono up⟩
 ·by_cases z:k'=k;·subst z;exact ⟨(pth m h n).j,by rw [get,if_pos rfl]⟩
  ·obtain ⟨j,D⟩:=O.all k' (by omega);refine ⟨j,?_⟩;rw [get];split;·rename_i g;rw [<-g,f2] at D;cases D
   ·exact D
 ·rw [get] at a b;split at a
  ·rename_i v;cases a;split at b;·rename_i g;exact v.symm.trans g
   ·exact absurd (O.rch j' k b).1 (aX _)
  ·split at b;·cases b;exact absurd (O.rch j k a).1 (aX _)
   ·exact O.one j j' k' a b
 ·by_cases z:(pth m h n).j=j;·exact ae.mpr (.inl z.symm)
  ·refine ac _ (f j ?_);obtain ⟨y,s⟩:=D;rw [get,if_neg z] at s;exact ⟨y,s⟩
theorem UC (c:Mk m) (hl:hs.length<=m+1):∀ (rest:List Int) (ow:Array (Option Nat)) (k:Nat),hs.drop k=rest->k+rest.length=hs.length->Ow m ow hs k ->∃ o,rest.foldl (λ(acc:Option (Array (Option Nat)×Nat)) h=>do
   let (owner,k) <-acc
   let j <-layClean.free m owner (turns m) (bits h % (m+1)) (bits h)
   pure (owner.setIfInBounds j (ff k),k+1)) (ff (ow,k))=ff (o,hs.length)/\Ow m o hs hs.length
 | [],ow,k,_,e,O=>by
  have:k=hs.length:=by simpa using e
  subst this;exact ⟨ow,rfl,O⟩
 | h::rest,ow,k,d,e,O=>by
  have g:k < hs.length:=by rw [af] at e; omega
  have a:hs[k]?=ff h:=by
   have:(hs.drop k)[0]?=ff h:=by rw [d]; rfl
   rw [dH] at this;simpa using this
  obtain ⟨j,f,b⟩:=Xw c O (by omega) a;rw [d8];show ∃ o,rest.foldl _ (do let j <-layClean.free m ow (turns m) (bits h % (m+1)) (bits h); pure (ow.setIfInBounds j (ff k),k+1))=_/\_;rw [f];exact UC c hl rest _ (k+1) (by rw [<-List.drop_drop,d]; rfl) (by rw [af] at e; omega) b
theorem UD (c:Mk m) {hs:Array Int} (hl:hs.size<=m+1):∃ ow,layClean m hs=ff ow/\Ow m ow hs.toList hs.size:=by
 have a:Ow m (eh (m+1) fg) hs.toList 0:=by
  have no:∀ (j y:Nat),(eh (m+1) (fg:Option Nat))[j]?=ff (ff y)->False:=λj y h=>by rw [Array.getElem?_replicate] at h;split at h <;> cases h
  exact ⟨by simp,λj k' h=>(no _ _ h).elim,λk' h=>by omega,λj j' k' h=>(no _ _ h).elim,[],rfl,λj ⟨y,h⟩=>(no _ _ h).elim⟩
 obtain ⟨ow,e,O⟩:=UC c (by rw [ay]; exact hl) hs.toList (eh (m+1) fg) 0 rfl (by simp) a;rw [ay] at e O;refine ⟨ow,?_,O⟩;unfold layClean;rw [<-Array.foldl_toList];rw [e];rfl
theorem ZA {α:Type} {g:Nat->Option α}:∀ {L:List (Nat×Nat)},(∀ p∈L,∃ e,g p.2=ff e)->((L.map (·.2)).filterMap g).length=L.length/\∀ q∈(L.map (·.1)).zip ((L.map (·.2)).filterMap g),∃ p∈L,q.1=p.1/\g p.2=ff q.2
 | [],_=>⟨rfl,λq hq=>by simp at hq⟩
 | p::L,h=>by
  obtain ⟨e,i⟩:=h p aj;obtain ⟨i1,i2⟩:=ZA (L:=L) λp hp=>h p (ac _ hp);rw [ax,ax,List.filterMap_cons_some i];refine ⟨by rw [af,af,i1],λq hq=>?_⟩;rw [List.zip_cons_cons] at hq;rcases ae.mp hq with rfl | hq;·exact ⟨p,aj,rfl,i⟩
  ·obtain ⟨a,hp,r⟩:=i2 q hq;exact ⟨a,ac _ hp,r⟩
theorem qai {f v:Nat} {ld pl:Bool} (A:Mk m) (hl:es.size<=m):∃ t' o,laid m f v ld pl (es.map (·.1))=ff (t',o)/\(o.filterMap (es[·]?)).toList.Perm es.toList/\TabOk t' (o.filterMap (es[·]?)).toList/\t'.mask=m/\t'.led=ld/\t'.plain=pl:=by
 obtain ⟨ow,e,O⟩:=UD A (hs:=es.map (·.1)) (by rw [Array.size_map]; omega);rw [Array.size_map] at O;generalize w:((aB (m+1)).filterMap λj=>(ow.getD j fg).map (j,·))=L;have d:laid m f v ld pl (es.map (·.1))=ff ({ mask:=m,place:=(L.map (·.1)).toArray,dummies:=#[],finger:=f,led:=ld,moves:=v,plain:=pl },(L.map (·.2)).toArray):=by unfold laid;rw [e,<-w];rfl
 have mem:∀ j k,(j,k)∈L↔ow[j]?=ff (ff k):=λj k=>by
  rw [<-w,cJ];constructor
  ·rintro ⟨a,u,h⟩;have t:a < ow.size:=by rw [O.size]; exact aK.mp u
   have e1:ow.getD a fg=ow[a]:=by simp [eZ,t]
   rw [e1] at h;cases q:ow[a] with
   | none=>rw [q] at h; cases h
   | some y=>rw [q] at h;cases h;simp [t,q]
  ·intro h;have t:j < ow.size:=(aQ.mp h).1;have e1:ow.getD j fg=ff k:=by have:=(aQ.mp h).2;simp [eZ,t,this]
   refine ⟨j,aK.mpr (by rw [<-O.size]; exact t),?_⟩;rw [e1];rfl
 have rise:L.Pairwise λa b=>a.1 < b.1:=by rw [<-w];refine List.Pairwise.filterMap _ (λa N s b n M l=>?_) List.pairwise_lt_range;obtain ⟨y,_,rfl⟩:=aL.mp n;obtain ⟨K,_,rfl⟩:=aL.mp l;exact s
 have nd:(L.map (·.2)).Nodup:=by unfold List.Nodup;rw [List.pairwise_map];refine rise.imp_of_mem λ{a b} u n I z=>?_;have h1:=(mem a.1 a.2).mp u;have h2:=(mem b.1 b.2).mp n;rw [<-z] at h2;have:=O.one _ _ _ h1 h2;omega
 have inr:∀ k,k∈L.map (·.2)↔k∈aB es.size:=λk=>by
  rw [aK,aA];constructor;·rintro ⟨p,hp,rfl⟩;exact (O.rch _ _ ((mem p.1 p.2).mp hp)).1
  ·intro G;obtain ⟨j,D⟩:=O.all k G;exact ⟨(j,k),(mem j k).mpr D,rfl⟩
 have perm:(L.map (·.2)).Perm (aB es.size):=(List.perm_ext_iff_of_nodup nd dY).mpr inr;have get:∀ p∈L,∃ e,es[p.2]?=ff e:=λp hp=>by have:=aK.mp ((inr p.2).mp (aA.mpr ⟨p,hp,rfl⟩));exact ⟨es[p.2],by simp [this]⟩
 obtain ⟨C,B⟩:=ZA (g:=λi=>es[i]?) get;have c:((L.map (·.2)).toArray.filterMap (es[·]?)).toList=(L.map (·.2)).filterMap λi=>es[i]?:=by rw [Array.toList_filterMap]
 refine ⟨_,_,d,?_,⟨A,rfl,?_,λj D=>?_,?_,λq hq=>?_⟩,rfl,rfl,rfl⟩;·rw [c];exact (perm.filterMap _).trans (by rw [filterMap_getElem?_range])
 ·show Uv (L.map (·.1)).toArray.toList;unfold Uv;rw [dv,List.pairwise_map];exact rise
 ·obtain ⟨p,hp,rfl⟩:=aA.mp (show j∈L.map (·.1) from D);have:=(aQ.mp ((mem p.1 p.2).mp hp)).1;rw [O.size] at this;show p.1<=m;omega
 ·rw [c,C];show (L.map (·.1)).toArray.size=_;rw [ao,ah]
 ·rw [c] at hq;obtain ⟨p,hp,e1,J⟩:=B q hq;obtain ⟨a,h,b,r⟩:=O.rch _ _ ((mem p.1 p.2).mp hp);have H:h=q.2.1:=by rw [aD,Array.getElem?_map,J] at b;exact (aI.inj b).symm
  rw [e1,<-H];refine r.mono λx ⟨y,E⟩=>?_;exact aA.mpr ⟨(x,y),(mem x y).mpr E,rfl⟩
abbrev tK (prog:fz) (w:fA) (k:List Str):Int:=tupleKeyHash (strKind prog w) k
def ElT (prog:fz) (w:fA) (h:Heap) (e:Int×fj) (k:List Str):Prop:=∃ b,e=(tK prog w k,.ref b)/\fF (strKind prog w) h k b
structure SetT (prog:fz) (w:fA) (h:Heap) (es:Array (Int×fj)) (t:fB) (kl:List (List Str)):Prop where
 tab:TabOk t es.toList
 few:es.size<=t.mask
 len:kl.length=es.size
 el:∀ (i:Nat) (e:Int×fj) (k:List Str),es[i]?=ff e->kl[i]?=ff k->ElT prog w h e k
variable {prog:fz} {w:fA} {A:fD} {E:fj->fq->Prop} {s:fq} {kl:List (List Str)} {a:Addr} {Q:Bool->fq->Prop}
section
theorem SetT.fits {h:Heap} {t:fB} (S:SetT prog w h es t kl):t.fits es.size=true:=by have h1:=S.tab.sz;have h2:=S.few;rw [ay] at h1;unfold SetTable.fits SetTable.fill;rw [S.tab.dm];simp [h1,h2]
theorem SetT.stays {h:Heap} {t:fB} (S:SetT prog w h es t kl):t.gaveWay=false:=by unfold SetTable.gaveWay;rcases S.tab.km with e | e <;> rw [e] <;> rfl
theorem KC {k:List Str} (f:fF (strKind prog w) s.heap k a) (h:Q fk s):wpAny (model prog w) A (ofAClassStatement 8 (.ref a)) Q E s:=by
 have hT:=f.typeIs;obtain ⟨o,items,n,l,_,hd,hi⟩:=f;unfold ofAClassStatement;refine fh (h8 hT ?_);dsimp only;rw [if_pos (by decide)];refine fh (fy ?_);simp only [dg,aY,if_false];refine fh (ib l hd ?_);dsimp only;refine fh ?_;rw [<-Array.forIn_toList];refine g8 _ (λrest r s'=>r.1=fg/\s'=s/\∀ v∈rest,∃ x t,v=cr x t) _ ?_ ?_ _ _ ⟨rfl,rfl,?_⟩;·rintro v rest r s' ⟨d,rfl,c⟩;obtain ⟨x,t,rfl⟩:=c v aj;refine fh (hJ (a:=fk) (by unfold ofAClassStatement; rfl) ?_);simp only [aY,if_false];exact fy ⟨rfl,rfl,λu g=>c u (ac _ g)⟩
 ·rintro ⟨r1,r2⟩ s' ⟨d,rfl,_⟩;simp only at d;subst d;exact fy h
 ·intro v b;have:∀ {ks:List Str} {vs:List fj},ItemsAre (strKind prog w) ks vs->∀ v∈vs,∃ x t,v=cr x t:=by
   intro ks vs hi
   induction hi with
   | nil=>intro v b; cases b
   | cons h1 _ j=>
    intro v b;rcases ae.mp b with rfl | b
    ·obtain ⟨t,e⟩:=bD h1;exact ⟨_,t,e⟩
    ·exact j v b
  exact this hi v b
theorem qb0 {k:List Str} (e:fF (strKind prog w) s.heap k a) {l:List fj} (hl:∀ v∈l,∃ b k',v=.ref b/\fF (strKind prog w) s.heap k' b) (h:Q fk s):wpAny (model prog w) A (searchCouldBeSeen (.ref a) l) Q E s:=by
 unfold searchCouldBeSeen;refine fh ?_;refine g8 _ (λrest r s'=>r.1=fg/\s'=s/\∀ v∈rest,∃ b k',v=.ref b/\fF (strKind prog w) s.heap k' b) _ ?_ ?_ _ _ ⟨rfl,rfl,hl⟩
 ·rintro v rest r s' ⟨d,rfl,c⟩;obtain ⟨b,k',rfl,f⟩:=c v aj;have nx:∀ u∈rest,∃ b k',u=.ref b/\fF (strKind prog w) s'.heap k' b:=λu g=>c u (ac _ g);dsimp only;split;·exact fy ⟨rfl,rfl,nx⟩
  ·refine fh (wpAny_eqIsQuiet_tuple e ?_);simp only [dg,aY,if_false];refine fh (wpAny_eqIsQuiet_tuple f ?_);simp only [dg,aY,if_false];refine fh (KC e ?_);simp only [aY,if_false];refine fh (KC f ?_);simp only [aY,if_false];exact fy ⟨rfl,rfl,nx⟩
 ·rintro ⟨r1,r2⟩ s' ⟨d,rfl,_⟩;simp only at d;subst d;exact fy h
end
variable {ep:Nat}
section
theorem qaj {t:fB} {k:List Str} {Q:SetFound->fq->Prop} {G:Sem SetFound} {hs:Int} {c:Bool} (hx:fF (strKind prog w) s.heap k x) (S:SetT prog w s.heap es t kl) (h:wpAny (model prog w) A G Q E s):wpAny (model prog w) A (if c=fm then searchCouldBeSeen (.ref x) ((es.filter (·.1 == hs)).toList.map (·.2)) >>= λb=>if b=fm then (unsupported "set:the-search-would-show-the-table":Sem PUnit) >>= λ_=>G else G else G) Q E s:=by
 split
 ·refine fh (qb0 hx (λv f=>?_) ?_)
  ·obtain ⟨g,a,rfl⟩:=aA.mp f;have a:=Array.mem_filter.mp (Array.mem_toList_iff.mp a);obtain ⟨j,D⟩:=Array.getElem?_of_mem a.1;have d:j < kl.length:=by rw [S.len]; exact (aQ.mp D).1
   obtain ⟨i,q,e⟩:=S.el j g kl[j] D (by simp [d]);exact ⟨i,kl[j],by rw [q],e⟩
  ·simp only [aY,if_false];exact h
 ·exact h
theorem Qp {a:Nat} {t:fB} {k:List Str} {Q:SetFound->fq->Prop} (M:A.units < cLine) (C:s.heap.get? a=ff (qX es ep t)) (S:SetT prog w s.heap es t kl) (hx:fF (strKind prog w) s.heap k x)
  (h1:k∈kl->Q (.there fg) s) (h2:k∉kl->∀ n,(∀ i,i < n->(pth t.mask (tK prog w k) i).j∈t.place.toList)->(pth t.mask (tK prog w k) n).j∉t.place.toList->Q (.free (pth t.mask (tK prog w k) n).j fk) s)
  (e:Nat) (T:e < 10 * turns t.mask) (g:(pth t.mask (tK prog w k) e).j∉t.place.toList):∀ (f n:Nat) (st:Option Probe),st.getD (t.probeStart (tK prog w k))=pth t.mask (tK prog w k) n->n<=e->e < n+f->(∀ i,i < n->(pth t.mask (tK prog w k) i).j∈t.place.toList)->(∀ i,i < n->∀ j:Nat,t.place[j]?=ff (pth t.mask (tK prog w k) i).j->kl[j]?≠ff k) ->
  wpAny (model prog w) A (setSearchFrom a (.ref x) (tK prog w k) fm f st) Q E s
 | 0,n,st,_,c1,c2,_,_=>by omega
 | f+1,n,st,hst,c1,c2,live,seen=>by
  have I:∀ {j:Nat} {p:Nat},t.place[j]?=ff p->∃ b k',es[j]?=ff (tK prog w k',.ref b)/\kl[j]?=ff k'/\fF (strKind prog w) s.heap k' b:=λ{j p} hp=>by
   have D:j < t.place.size:=(aQ.mp hp).1;have B:=S.tab.sz;rw [ay] at B;have l:j < es.size:=by omega
   have q:j < kl.length:=by rw [S.len]; exact l
   obtain ⟨b,e1,d⟩:=S.el j es[j] kl[j] (by simp [l]) (by simp [q]);exact ⟨b,kl[j],by rw [<-e1]; simp [l],by simp [q],d⟩
  obtain ⟨n1,g1,Y,W,U⟩:=qbZ (hashAt:=λi=>(es[i]?.map (·.1)).getD 0) (h:=tK prog w k) S.tab.dm S.tab.rise (10 * turns t.mask) n e c1 (by omega) g;have c:∀ i,i < n1->(pth t.mask (tK prog w k) i).j∈t.place.toList/\∀ j:Nat,t.place[j]?=ff (pth t.mask (tK prog w k) i).j->kl[j]?≠ff k:=λi hi=>by
   by_cases z:i < n;·exact ⟨live i z,seen i z⟩
   ·obtain ⟨v,L⟩:=W i (by omega) hi;refine ⟨v,λj D O=>L j D ?_⟩;obtain ⟨b,k',e1,d,_⟩:=I D;rw [O] at d;cases d;rw [e1];rfl
  unfold setSearchFrom;refine fh (fC C rfl S.fits ?_);dsimp only;rw [S.stays,hst];simp only [aY,if_false];rcases U with ⟨e1,d⟩ | ⟨i,e1,d,u⟩
  ·have e1:t.probe (λi=>(es[i]?.map (·.1)).getD 0) (tK prog w k) (pth t.mask (tK prog w k) n)=ff (.empty (pth t.mask (tK prog w k) n1).j fg):=e1;split
   ·rename_i met m;obtain rfl:met=.empty (pth t.mask (tK prog w k) n1).j none:=aI.inj (m.symm.trans e1);dsimp only;refine fy (h2 (λz=>?_) n1 (λi hi=>(c i hi).1) d);obtain ⟨i,hi⟩:=bi z;have r:i < es.size:=by rw [<-S.len];exact (aq.mp hi).1
    have B:=S.tab.sz;rw [ay] at B;have o:i < t.place.size:=by omega
    obtain ⟨b,v,L⟩:=S.el i es[i] k (by simp [r]) hi;obtain ⟨n2,r1,r2⟩:=S.tab.rch (t.place[i],es[i]) (bh (i:=i) (by simp [bV,r,o]));rw [v] at r1 r2;have r1:(pth t.mask (tK prog w k) n2).j=t.place[i]:=r1;have G:n2 < n1:=by
     by_cases y:n2 < n1;·exact y
     ·exfalso;by_cases N:n2=n1;·subst N;exact d (by rw [r1]; exact Array.getElem_mem_toList o)
      ·exact d (r2 n1 (by omega))
    exact (c n2 G).2 i (by rw [r1]; simp [o]) hi
   ·rename_i m;exact absurd e1 (m _)
  ·have u:t.probe (λi=>(es[i]?.map (·.1)).getD 0) (tK prog w k) (pth t.mask (tK prog w k) n)=ff (.candidate (pth t.mask (tK prog w k) n1).j i (pth t.mask (tK prog w k) (n1+1))):=u;obtain ⟨b,k',K,J,P⟩:=I e1;have R:t.sameMemory t.moves t.mask=ff true:=by unfold SetTable.sameMemory; simp
   split
   ·rename_i met m;obtain rfl:met=.candidate (pth t.mask (tK prog w k) n1).j i (pth t.mask (tK prog w k) (n1+1)):=aI.inj (m.symm.trans u);dsimp only;refine qaj hx S ?_;rw [K];dsimp only;refine fh (fM (wpAny_eqBool_tuple M P hx ?_));refine fh (fC C rfl S.fits ?_);dsimp only;by_cases H:k'=k;·subst H;simp only [decide_true,Bool.and_self,if_true];exact fy (h1 (bh J))
    ·simp only [H,decide_false,Bool.and_false,aY,if_false,R,if_true,kR S.tab.rise e1,K];refine fh (wpAny_isSame_ref_self (fh (fy ?_)));simp only [if_true];refine Qp M C S hx h1 h2 e T g f (n1+1) _ rfl ?_ (by omega) (λi hi=>?_) λi hi j D=>?_;·have:n1≠e:=λz=>g (by rw [<-z]; exact bh (by rw [aD]; exact e1));omega
     ·by_cases z:i < n1;·exact (c i z).1
      ·have:i=n1:=by omega
       subst this;exact bh (by rw [aD]; exact e1)
     ·by_cases z:i < n1;·exact (c i z).2 j D
      ·have:i=n1:=by omega
       subst this;have s1:=kR S.tab.rise e1;rw [kR S.tab.rise D] at s1;cases s1;rw [J];intro z;cases z;exact H rfl
   ·rename_i m;exact absurd u (m _)
end
theorem Xx {f:α->β} {a b:List β} (h:a.Perm b):∀ l:List α,b=l.map f->∃ c:List α,c.Perm l/\c.map f=a:=by
 induction h with
 | nil=>
  intro l e;cases l with
  | nil=>exact ⟨[],.nil,rfl⟩
  | cons=>cases e
 | cons x _ k=>
  intro l e;cases l with
  | nil=>cases e
  | cons y l=>rw [ax] at e;injection e with e1 e2;obtain ⟨c,h1,h2⟩:=k l e2;exact ⟨y::c,h1.cons y,by rw [ax,h2,e1]⟩
 | swap x y t=>
  intro l e;cases l with
  | nil=>cases e
  | cons p l=>
   cases l with
   | nil=>rw [ax] at e; injection e with e1 e2; cases e2
   | cons q l=>rw [ax,ax] at e;injection e with e1 e2;injection e2 with e2 e3;exact ⟨q::p::l,cZ ..,by rw [ax,ax,<-e1,<-e2,<-e3]⟩
 | trans _ _ j g=>intro l e;obtain ⟨i,h1,h2⟩:=g l e;obtain ⟨d,n,m⟩:=j i h2.symm;exact ⟨d,n.trans h1,m⟩
def SetTT (prog:fz) (w:fA) (h:Heap) (a:Addr) (ks:List (List Str)):Prop:=∃ es ep t kl,h.get? a=ff (qX es ep t)/\SetT prog w h es t kl/\kl.Perm ks/\ks.Nodup/\(t.mask=7->es.size<=4)
variable {h':Heap}
section
theorem zw {h:Heap} {b:Addr} {k:List Str} {t:fB} (f:fF (strKind prog w) h k b) (l:h.get? a=ff (qX es ep t)) (A:bq a h h'):fF (strKind prog w) h' k b:=by obtain ⟨o,items,n,e,c,d,i⟩:=f;refine ⟨o,items,n,(A.2 b λz=>?_).trans e,c,d,i⟩;subst z;rw [e] at l;cases l;cases d
theorem Xy {k:List Str} (f:fF (strKind prog w) s.heap k a) (h:∀ b,Q b s):wpAny (model prog w) A (hashByValue 8 (.ref a)) Q E s:=by
 have hT:=f.typeIs;obtain ⟨o,items,n,g,_,hd,hi⟩:=f;unfold hashByValue;refine fh (wpAny_specialOf hT F.slot_tuple_hash.lookup ?_);show wpAny _ _ (seqItems? (.ref a) >>= _) _ _ s;refine fh (ib g hd ?_);refine fh ?_;show wpAny _ _ (forIn items _ _) _ _ s;rw [<-Array.forIn_toList];have key:∀ {ks:List Str} {vs:List fj},ItemsAre (strKind prog w) ks vs->∀ v∈vs,∃ x t,v=cr x t:=by
  intro ks vs hi
  induction hi with
  | nil=>intro v c; cases c
  | cons h1 _ j=>
   intro v c;rcases ae.mp c with rfl | c
   ·obtain ⟨t,e⟩:=bD h1;exact ⟨_,t,e⟩
   ·exact j v c
 refine g8 _ (λrest r s'=>r.1=fg/\s'=s/\∀ v∈rest,∃ x t,v=cr x t) _ ?_ ?_ _ _ ⟨rfl,rfl,key hi⟩;·rintro v rest r s' ⟨d,rfl,l⟩;obtain ⟨x,t,rfl⟩:=l v aj;refine fh (hJ (a:=fk) (by unfold hashByValue; rfl) ?_);exact fy (fy (h fk))
 ·rintro ⟨r1,r2⟩ s' ⟨d,rfl,_⟩;simp only at d;subst d;exact fy (h fm)
theorem SetT.put {h:Heap} {t:fB} {k:List Str} (S:SetT prog w h es t kl) (l:h.get? a=ff (qX es ep t)) (A:bq a h h') (hx:fF (strKind prog w) h k x) (hl:∀ i,i < n->(pth t.mask (tK prog w k) i).j∈t.place.toList) (g:(pth t.mask (tK prog w k) n).j∉t.place.toList) (f:es.size < t.mask) (pl:Bool):∃ c,SetT prog w h' (insertAt es (t.put (pth t.mask (tK prog w k) n).j).2 (tK prog w k,.ref x)) { (t.put (pth t.mask (tK prog w k) n).j).1 with plain:=pl } c/\c.Perm (kl++[k]):=by
 obtain ⟨T,m1,_⟩:=UA (v:=.ref x) S.tab hl g;have hq:(insertAt es (t.put (pth t.mask (tK prog w k) n).j).2 (tK prog w k,.ref x)).toList=QN es.toList (below t.place (pth t.mask (tK prog w k) n).j) (tK prog w k,.ref x):=toList_insertAt ..;have z:(insertAt es (t.put (pth t.mask (tK prog w k) n).j).2 (tK prog w k,.ref x)).size=es.size+1:=by rw [<-ay,hq];unfold QN;simp only [ap,af,aR,db,ay];omega
 have d:kl.length=es.toList.length:=by rw [ay]; exact S.len
 refine ⟨QN kl (below t.place (pth t.mask (tK prog w k) n).j) k,⟨⟨T.km,T.dm,T.rise,T.le,T.sz,T.rch⟩,?_,?_,λi e k' h1 h2=>?_⟩,?_⟩;·rw [z];exact f
 ·rw [z,<-S.len];unfold QN;simp only [ap,af,aR,db];omega
 ·rw [<-aD,hq] at h1;have m:(e,k')∈(QN es.toList (below t.place (pth t.mask (tK prog w k) n).j) (tK prog w k,cu x)).zip (QN kl (below t.place (pth t.mask (tK prog w k) n).j) k):=bh (i:=i) (by rw [bV]; exact ⟨h1,h2⟩);rcases KB d.symm m with e1 | e1
  ·cases e1;exact ⟨x,rfl,zw hx l A⟩
  ·obtain ⟨j,D⟩:=bi e1;obtain ⟨r,q⟩:=bV.mp D;obtain ⟨b,p,o⟩:=S.el j e k' (by rw [<-aD]; exact r) q;exact ⟨b,p,zw o l A⟩
 ·unfold QN;refine List.perm_middle.trans ?_;rw [bT];exact (List.perm_append_singleton k kl).symm
theorem Xz {a:Nat} {ks:List (List Str)} {k:List Str} {Q:Bool->fq->Prop} (hu:A.units < cLine) (hS:SetTT prog w s.heap a ks) (hx:fF (strKind prog w) s.heap k x) (hb:ks.length<=17)
  (h:∀ h' b,bq a s.heap h'->SetTT prog w h' a (ju ks k)->Q b { s with heap:=h' }):wpAny (model prog w) A (setAddHashed a (.ref x) (tK prog w k)) Q E s:=by
 obtain ⟨es,ep,t,kl,D,S,H,nd,few⟩:=hS;have hsz:es.size=ks.length:=by rw [<-S.len,H.length_eq]
 unfold setAddHashed setAddHashedIn;refine fM (fh (fC D rfl S.fits ?_));dsimp only;rw [if_neg (by show ¬(fk&&_&&_)=fm; simp)];have U:t.place.toList.length<=t.mask:=by have:=S.tab.sz;have h2:=S.few;rw [ay] at this ⊢;omega
 obtain ⟨e,he,V⟩:=Xv S.tab.km (tK prog w k) S.tab.rise U;have W:t.mask=7\/t.mask=31:=S.tab.km;have hm:es.size < t.mask:=by
  rcases W with z | z;·have:=few z; omega
  ·omega
 refine fh (Qp (f:=100000) (n:=0) (st:=fg) hu D S hx (λu=>?_) (λu n hl hn=>?_) e he V rfl (aZ _) ?_ (λi hi=>by omega) (λi hi=>by omega));·exact fy (by have:=h s.heap fk (Heap.SameBut.refl a s.heap) ⟨es,ep,t,kl,D,S,by rw [show ju ks k=ks from if_pos (H.mem_iff.mp u)]; exact H,by rw [show ju ks k=ks from if_pos (H.mem_iff.mp u)]; exact nd,few⟩;exact this)
 ·have F:k∉ks:=λz=>u (H.mem_iff.mpr z);have P:ju ks k=ks++[k]:=if_neg F;have K:(ks++[k]).Nodup:=dL.mpr ⟨nd,by simp,λy hy z hz=>by rw [aH.mp hz]; exact λq=>F (q ▸ hy)⟩;dsimp only;refine fh (fC D rfl S.fits ?_);dsimp only;have g:∀ pl:Bool,wpAny (model prog w) A (do
    storeSet a (insertAt es (t.put (pth t.mask (tK prog w k) n).j).2 (tK prog w k,.ref x)) { (t.put (pth t.mask (tK prog w k) n).j).1 with plain:=pl }
    if (!false&&({ (t.put (pth t.mask (tK prog w k) n).j).1 with plain:=pl }:fB).tooFull)=fm then (do
      setRelay a (bK (es.size+1))
      pure fm)
     else pure fm) Q E s:=by
   intro pl;obtain ⟨r,p,J⟩:=S.put D (aV s.heap a (cK (insertAt es (t.put (pth t.mask (tK prog w k) n).j).2 (tK prog w k,.ref x)) { (t.put (pth t.mask (tK prog w k) n).j).1 with plain:=pl })) hx hl hn hm pl;have G:({ (t.put (pth t.mask (tK prog w k) n).j).1 with plain:=pl }:fB).mask=t.mask:=rfl;have ps:r.Perm (ks++[k]):=J.trans (H.append (bJ _));have c:(insertAt es (t.put (pth t.mask (tK prog w k) n).j).2 (tK prog w k,cu x)).size=es.size+1:=by rw [<-p.len,J.length_eq,ap,S.len];rfl
   generalize ({ (t.put (pth t.mask (tK prog w k) n).j).1 with plain:=pl }:fB)=t1 at p G ⊢;generalize insertAt es (t.put (pth t.mask (tK prog w k) n).j).2 (tK prog w k,cu x)=es1 at p c ⊢;have Z:=aV s.heap a (cK es1 t1);refine fh (f9 D rfl ?_ (by rw [c,fE]; omega));have o:=Kq (es':=es1) (t':=t1) D;have B:t1.fill=es.size+1:=by unfold SetTable.fill;rw [p.tab.dm,p.tab.sz,ay,c];rfl
   split
   ·rename_i l;have l:t1.tooFull=true:=by simpa using l
    have M:(es.size+1) * 5 ≥ t1.mask * 3:=by unfold SetTable.tooFull at l;rw [B] at l;simpa using l
    have O:es.size=4:=by
     rcases W with z | z;·have:=few z;rw [G,z] at M;omega
     ·rw [G,z] at M;omega
    obtain ⟨C,od,l1,R,l3,l4,_,_⟩:=qai (m:=31) (f:=t1.finger) (v:=t1.movedTo 31) (ld:=t1.led) (pl:=t1.plain) (es:=es1) (.inr rfl) (by rw [c,O]; decide);have L:t1.relaid (es1.map (·.1)) (bK (es.size+1))=ff (C,od):=by rw [O];exact l1
    obtain ⟨Y,p1,p2⟩:=Xx R (es1.toList.zip r) (by rw [List.map_fst_zip]; rw [ay,p.len]; exact am _);have d:(od.filterMap (es1[·]?)).size=es1.size:=by rw [<-ay,R.length_eq,ay]
    have T:Y.map (·.2) |>.Perm r:=by have:=p1.map (·.2);rw [List.map_snd_zip (by have:=p.len; have e:=ay (xs:=es1); omega)] at this;exact this
    refine fh ?_;unfold setRelay;refine fh (fC o rfl p.fits ?_);dsimp only;rw [if_neg (by rw [O,fE]; decide),L];refine fh (hJ (a:=(od.filterMap (es1[·]?),C)) ?_ ?_)
    ·show (if ((od.filterMap (es1[·]?)).size != es1.size)=fm then (unsupported "internal:set-table-lost-an-element":Sem PUnit) >>= λ_=>pure (od.filterMap (es1[·]?),C) else pure (od.filterMap (es1[·]?),C))=pure (od.filterMap (es1[·]?),C);rw [if_neg (by simp [d])]
    ·dsimp only;refine f9 o rfl ?_ (by rw [d,c,fE]; omega);have I:=aV (s.heap.update a (cK es1 t1)) a (cK (od.filterMap (es1[·]?)) C);refine fy (h _ fm (Z.trans I) ⟨_,_,C,Y.map (·.2),Kq o,⟨l3,?_,?_,λi e' k' N X=>?_⟩,?_,by rw [P]; exact K,λz=>by rw [l4] at z; cases z⟩);·rw [d,l4,c,O];decide
     ·rw [ah,d,<-ay (xs:=es1),<-R.length_eq,<-p2,ah]
     ·rw [<-aD,<-p2,aJ] at N;rw [aJ] at X;cases q:Y[i]? with
      | none=>rw [q] at N; cases N
      | some y=>rw [q] at N X;cases N;cases X;obtain ⟨j,hj⟩:=bi (p1.mem_iff.mp (bh q));obtain ⟨b1,b2⟩:=bV.mp hj;obtain ⟨b,c1,c2⟩:=p.el j y.1 y.2 (by rw [<-aD]; exact b1) b2;exact ⟨b,c1,zw c2 o I⟩
     ·rw [P];exact T.trans ps
   ·rename_i l;have l:t1.tooFull=false:=by simpa using l
    refine fy (h _ fm Z ⟨es1,_,t1,r,o,p,by rw [P]; exact ps,by rw [P]; exact K,λz=>?_⟩);unfold SetTable.tooFull at l;rw [B,z] at l;rw [c];have:¬(es.size+1) * 5 ≥ 7 * 3:=by simpa using l
    omega
  have ep1:(t.put (pth t.mask (tK prog w k) n).j).1.plain=t.plain:=rfl;cases e1:(t.put (pth t.mask (tK prog w k) n).j).1.plain with
  | true=>
   rw [if_pos rfl];refine fh (Xy hx λb=>?_);cases b with
   | false=>exact g fk
   | true=>have:=g fm;rw [show ({ (t.put (pth t.mask (tK prog w k) n).j).1 with plain:=fm }:fB)=(t.put (pth t.mask (tK prog w k) n).j).1 by rw [<-e1]] at this;exact this
  | false=>rw [if_neg (by simp)];refine fh (fy ?_);have:=g fk;rw [show ({ (t.put (pth t.mask (tK prog w k) n).j).1 with plain:=fk }:fB)=(t.put (pth t.mask (tK prog w k) n).j).1 by rw [<-e1]] at this;exact this
 ·have:turns t.mask<=46:=by rcases W with z | z <;> rw [z] <;> decide
  omega
end
end L2.D2
namespace L2.D2
open PySem PySem.Spec PyProof.Rows
def KeysAt (prog:fz) (w:fA) (h:Heap) (no:List Addr) (P:Nat->fj->Prop) (kss:List (List Str)):Prop:=∀ i v,P i v->∃ k b,kss[i]?=ff k/\v=.ref b/\b∉no/\fF (strKind prog w) h k b
variable {prog:fz} {w:fA} {h h':Heap} {P:Nat->fj->Prop} {kss:List (List Str)}
theorem KeysAt.mono {no:List Addr} (K:KeysAt prog w h no P kss) (k:∀ b o,b∉no->h.get? b=ff o->h'.get? b=ff o):KeysAt prog w h' no P kss:=λi v a=>by obtain ⟨x,b,e1,f,E,o,items,n,e,c,d,q⟩:=K i v a;exact ⟨x,b,e1,f,E,o,items,n,k b o E e,c,d,q⟩
variable {a:Addr}
theorem SetTT.at {ks:List (List Str)} (T:SetTT prog w h a ks) (f:∀ o,h.get? a=ff o->h'.get? a=ff o) (k:∀ b o (n:Nat) items,h.get? b=ff o->o.cls=.type "tuple"->o.data=.seq items n->h'.get? b=ff o):SetTT prog w h' a ks:=by obtain ⟨es,ep,t,kl,l,S,r⟩:=T;refine ⟨es,ep,t,kl,f _ l,⟨S.tab,S.few,S.len,λi e x h1 h2=>?_⟩,r⟩;obtain ⟨b,e1,o,items,n,g,c,d,q⟩:=S.el i e x h1 h2;exact ⟨b,e1,o,items,n,k b o n items g c d,c,d,q⟩
variable {A:fD}
section
variable {R:Result->fq->Prop} {I:Addr} {fp wr:List Addr} {n:Nat} {St:Nat->fq->Prop}
theorem UE {G:Array ii->Array ii->Prop} (W:WalksS prog w A.in1 I fp wr G n P St) (S:Addr) (q:S∉fp) (kss:List (List Str)) (U:kss.length=n) (g:n<=17) (N:A.in1.units < cLine) (M:∀ (s:fq) (i:Nat),St i s->∀ b∈wr,∀ o,s.heap.get? b=ff o->o.cls≠.type "tuple"):∀ (k i:Nat) (s:fq),n - i=k->i<=n->St i s->KeysAt prog w s.heap (S::wr) P kss->SetTT prog w s.heap S ((kss.take i).foldl ju []) ->(∀ s',Moved (S::wr) G s s'->SetTT prog w s'.heap S (kss.foldl ju [])->R (.ok (.ret .none)) s')->codeAny (model prog w) A (.builtin "set.update.loop" ⟨[.ref S,.ref I],[]⟩) R s:=by
 have L:S∉wr:=λh=>q (W.sub _ h);have up:∀ b∈wr,b∈S::wr:=λb g=>ac _ g;intro k
 induction k with
 | zero=>
  intro i s B hi t O T K;have H:i=n:=by omega
  subst H;refine fK b5 ?_;rw [bA bB _]; show wpAny _ A.in1 (pyNext (.ref I) >>= _) _ _ s;refine fh (W.done s _ _ t λs' a=>fy (K s' (a.mono up) ?_));rw [cX (cS U)] at T;exact T.at (λo e=>a.heap S o L e) λb o m items e c d=>a.heap b o (λz=>M s _ t b z o e c) e
 | succ k Q=>
  intro i s B hi t O T K;have p:i < n:=by omega
  refine fK b5 ?_;rw [bA bB _]; show wpAny _ A.in1 (pyNext (.ref I) >>= _) _ _ s;refine fh (W.item i s _ _ p t λv s' V j a=>?_);have y:KeysAt prog w s'.heap (S::wr) P kss:=O.mono λb o E e=>a.heap b o (λz=>E (up b z)) e;have J:SetTT prog w s'.heap S ((kss.take i).foldl ju []):=T.at (λo e=>a.heap S o L e) λb o m items e c d=>a.heap b o (λz=>M s _ t b z o e c) e;obtain ⟨x,b,hx,rfl,_,B⟩:=y i v V;show wpAny _ A.in1 (holding [.ref b] (setAdd S (.ref b)) >>= _) _ _ s';refine fh (fM ?_);unfold setAdd;refine fM (fh (wpAny_pyHash_tuple N B ?_));have f:((kss.take i).foldl ju []).length<=17:=by have h1:=kQ (kss.take i) [];rw [aR,aM] at h1;omega
  refine Xz (s:={ s' with toks:=s'.toks+(x.length+1) }) N J B f λh' Y C r=>?_;have X:ju ((kss.take i).foldl ju []) x=(kss.take (i+1)).foldl ju []:=by rw [ci,hx,cY];rfl
  rw [X] at r;refine fy ⟨g9 bB _,Q (i+1) _ (by omega) p (W.frame _ s' _ _ j (cy _ _) λb g o e=>?_) (y.mono λb o E e=>(C.2 b λz=>E (z ▸ aj)).trans e) r λD l u=>?_⟩;·rw [C.2 b λz:b=S=>q (z ▸ g)];exact e
  ·refine K D (Moved.trans W.gtrans ((a.mono up).then_heap (cy _ _) λb o g e=>?_) l) u;rw [C.2 b λz:b=S=>g (z ▸ aj)];exact e
end
variable {s:fq}
section
variable {E:fj->fq->Prop}
theorem Vz (e:h.get? a=ff (Xh w)):SetTT prog w h a []:=
 ⟨_,_,_,[],e,⟨⟨.inl rfl,rfl,cV,(λ_ z=>nomatch z),rfl,(λ_ z=>nomatch z)⟩,aZ _,rfl,λi e k h1 _=>by simp at h1⟩,.nil,dE,λ_=>aZ _⟩
theorem qeG {sk:SK} {S l:Addr} {items:Array fj} {Q:Unit->fq->Prop} (H:A.handled=fg) (C:A.in1.units < cLine) (q:SetTT prog w s.heap S []) (hl:SeqK s.heap l sk items) (G:kss.length=items.size) (hi:∀ (i:Nat) (v:fj),items[i]?=ff v->∃ k b,kss[i]?=ff k/\v=.ref b/\b≠S/\fF (strKind prog w) s.heap k b) (d:items.size<=17) (n:l≠S)
  (h:∀ h' tk,SetTT prog w h' S (kss.foldl ju [])->(∀ b o,b≠S->s.heap.get? b=ff o->h'.get? b=ff o)->Q () { s with heap:=h',toks:=tk }) :
  wpAny (model prog w) A (aS "set.__init__" S (.ref l)) Q E s:=by
 have hT:=hl.ty;unfold aS;refine fh (m:=bR _) ?_;unfold bR;refine fh (fO hT (Ks sk) ?_);refine fO hT (yP sk) ?_;rw [if_neg (by decide)];refine fh (h8 hT ?_);rw [if_neg (by cases sk <;> decide)];refine fh (qbJ hl ?_);have x:s.heap.objs.size≠S:=λz=>by obtain ⟨es,ep,t,kl,D,_⟩:=q;exact aX _ (z ▸ au D)
 have j:l≠s.heap.objs.size:=aF hl.lt;refine fh (wpAny_runValue (UE ((Zr (A:=A.in1) H sk _ l j items).toS) S ?_ kss G d C ?_ items.size 0 _ (by omega) (aZ _) ⟨.of ⟨_,ai _ rfl,rfl,rfl⟩,hl.at λo e=>aa _ e⟩ ?_ ?_ ?_))
 ·intro z;rcases ae.mp z with z | z;·exact x z.symm
  ·exact n (aH.mp z).symm
 ·intro s' i st b d o e c;rw [aH.mp d] at e;obtain ⟨o',u,T,_⟩:=st.1.obj;rw [e] at u;cases u;rw [c] at T;injection T with T;cases sk <;> exact absurd T (by decide)
 ·intro i v y;obtain ⟨k,b,e1,M,L,o,its,m,p,r⟩:=hi i v y;refine ⟨k,b,e1,M,λz=>?_,o,its,m,aa _ p,r⟩;rcases ae.mp z with z | z;·exact L z
  ·rw [aH.mp z] at p;exact aX _ (au p)
 ·exact q.at (λo e=>aa _ e) λb o m its e _ _=>aa _ e
 ·intro s' a B;obtain ⟨h',g',d',f,g⟩:=s';have J:g'=s.gens:=a.gens;have K:d'=s.drawn:=a.drawn;have I:g=s.os:=a.os;subst J K I;refine fy (h h' f B λb o d e=>a.heap b o ?_ (aa _ e));intro z;rcases ae.mp z with z | z;·exact d z
  ·rw [aH.mp z] at e;exact aX _ (au e)
set_option maxHeartbeats 3200000 in
theorem UF {l:Addr} {PS:Heap->Prop} {Q:fj->fq->Prop}
  (p:∀ (A1:fD) (u:Unit->fq->Prop) (G:fj->fq->Prop),A1.handled=A.handled->A1.units<=A.units+9->(∀ h' tk,PS h'->(∀ b o,s.heap.get? b=ff o->h'.get? b=ff o)->u () { s with heap:=h',toks:=tk }) ->wpAny (model prog w) A1 (aS "set.__init__" s.heap.objs.size (.ref l)) u G { s with heap:=s.heap.push (Xh w) })
  (h:∀ h' tk,PS h'->(∀ b o,s.heap.get? b=ff o->h'.get? b=ff o)->Q (.ref s.heap.objs.size) { s with heap:=h',toks:=tk }) :
  wpAny (model prog w) A (call (.type "set") [.ref l]) Q E s:=by
 have d:∀ {Q₁:fj->fq->Prop},Q₁ (.ref s.heap.objs.size) { s with heap:=s.heap.push (Xh w) }->codeAny (model prog w) A.in1 (.call (.builtin "set.__new__") ⟨[.type "set",.ref l],[]⟩) (wants Q₁ E) s:=λh=>WO (.ref l) h;unfold Xh qX at d p;generalize (!(w.params.followText "set-order"))=led at d p;obtain ⟨c,tl,t⟩:=aN.mro;have m:=aN.made;have q:=aN.sub;refine wpAny_call (codeAny_of_tree ?_); show wpAny _ _ (callAny (.type "set") _) _ _ _;refine fy ⟨Code.quiet_builtin _ (by decide +kernel),fK PySem.F.entry_type_call ?_⟩; rw [Around.under_plain (weight_type_call_type "set" [.ref l] []) rfl];have h1:=aN.notType;have h2:=aN.canCreate;have y:=PySem.F.typeCall_set_1 (.ref l);repeat (any_goals (first | assumption | wp_step))
 refine fY (d (Q₁:=λobj g=>obj=.ref s.heap.objs.size/\g={ s with heap:=s.heap.push { cls:=.type "set",dict:=fg,data:=.set #[] 0 (.fresh 0 0 led) } }) ⟨rfl,rfl⟩) λr g k=>?_;cases r with
 | error e=>exact k
 | ok D=>
  cases D with
  | ret obj=>
   obtain ⟨rfl,rfl⟩:=k;have T:(s.heap.push { cls:=.type "set",dict:=fg,data:=.set #[] 0 (.fresh 0 0 led) }).get? s.heap.objs.size=ff { cls:=.type "set",dict:=fg,data:=.set #[] 0 (.fresh 0 0 led) }:=ai _ rfl;have hT:dR { s with heap:=s.heap.push { cls:=.type "set",dict:=fg,data:=.set #[] 0 (.fresh 0 0 led) } } (.ref s.heap.objs.size) "set":=⟨_,T,rfl⟩
   have v:=aN.init.lookup;have z:=aN.init.bind (.ref s.heap.objs.size);repeat (any_goals (first | assumption | wp_step))
   refine fY (codeAny_call_builtin (R:=wants (λr f=>r=.none/\∃ h' tk,f={ s with heap:=h',toks:=tk }/\PS h'/\(∀ b o,s.heap.get? b=ff o->h'.get? b=ff o)) E) aN.init.plain PySem.F.entry_set_init (check_set_init_1 hT ?_)) λj f a=>?_
   ·unfold Builtin.«set.__init__» noKeywords;generalize C:aS=U;wp_walk
    subst C;refine p _ _ _ rfl (by first | exact Nat.le_add_right_of_le (am _) | (simp only [Around.in1_units]; omega)) λh' tk B x=>?_;exact fy ⟨rfl,h',tk,rfl,B,x⟩
   ·cases j with
    | error e=>exact a
    | ok i=>
     cases i with
     | ret r=>
      obtain ⟨rfl,h',tk,rfl,B,n⟩:=a;repeat (any_goals (first | assumption | wp_step))
      exact h _ _ B n
     | _=>exact a.elim
  | _=>exact k.elim
end
noncomputable def ZC:List D->Option (List (List Str))
 | []=>ff []
 | .tup xs::l=>(wO xs).bind λk=>(ZC l).map (k::·)
 | _::_=>fg
noncomputable def Qq:D->Option (List (List Str))
 | .lst ds=>ZC ds
 | .tup ds=>ZC ds
 | _=>fg
noncomputable def szO (p:Addr) (n:Nat):HO:=.ext λh=>∃ es ep t,h.get? p=ff (qX es ep t)/\t.fits es.size=fm/\es.size=n
noncomputable def ww (d:D):Out D:=match Qq d with
 | some ss=>if ss.length<=17 then .ok (.int (ss.foldl ju []).length) else .bad
 | none=>.bad
theorem UG {d:D} (h:Qq d=ff kss):∃ ds,WC d=.ok ds/\ZC ds=ff kss:=by
 cases d with
 | lst ds=>exact ⟨ds,rfl,h⟩
 | tup ds=>exact ⟨ds,rfl,h⟩
 | _=>cases h
theorem vL:∀ {us:List fj} {ss:List Str},ic us ss->ItemsAre (strKind prog w) ss us
 | _,_,.nil=>.nil
 | _,_,.cons x t h=>.cons (by show cB x (.str x t)=fm; simp [cB]) (vL h)
section
variable {X:Cx} {C:Ct} {own:List Nat} {e:Expr} {fa:qO} {ma:Mo} {pos:Pos}
theorem qak {pins:Pns} {σ:St} {F H:Hp} (u:C.K=X.K) (I:Inv X pins σ H s) (A:Same F H):∀ {ds:List D} {vs:List V} {us:List fj} {kss:List (List Str)},IsL C.K F vs ds->Vals vs us->ZC ds=ff kss->us.length=kss.length/\∀ (i:Nat) (v:fj),us[i]?=ff v->∃ k b,kss[i]?=ff k/\v=.ref b/\fF (strKind X.prog X.w) s.heap k b:=by
 intro ds
 induction ds with
 | nil=>intro vs us kss c l e;cases c;cases l;cases e;exact ⟨rfl,λi v h=>by simp at h⟩
 | cons d ds p=>
  intro vs us kss c l e;cases c with
  | cons i c=>
   cases l with
   | cons r l=>
    cases d with
    | tup xs=>
     have e:((wO xs).bind λk=>(ZC ds).map (k::·))=ff kss:=e;obtain ⟨k,e1,x⟩:=bz.mp e;obtain ⟨y,E,rfl⟩:=aL.mp x;obtain ⟨h1,h2⟩:=p c l E;refine ⟨by rw [af,af,h1],λj v f=>?_⟩;cases j with
     | zero=>
      rw [bf] at f;cases f;cases i with
      | @tup a ys _ hq t=>cases r;have hq:=qP A hq;rw [u] at hq;obtain ⟨its,m,⟨o,q,g,n,hd⟩,_⟩:=I.tuple hq;obtain ⟨st,_⟩:=yV t m e1;exact ⟨k,a,rfl,rfl,o,its.toArray,n,q,g,hd,by simpa using vL st⟩
     | succ j=>rw [be] at f ⊢;exact h2 j v f
    | _=>cases e
theorem qal (j:C.K=X.K) (L:X.calm=fm) (Z:X.A.units+10 < cLine):kX X (.type "set") (λxs H Q=>∃ x F dx kss,xs=[x]/\Same F H/\TopIs C.K F H x dx/\Qq dx=ff kss/\kss.length<=17/\∀ p,H p=fg->Q (.ref p) (upd H p (szO p (kss.foldl ju []).length))):=by
 intro pins s σ H xs us Q I r h;obtain ⟨x,F,dx,kss,rfl,d,m,es,hl,q⟩:=h;obtain ⟨u,rfl,B⟩:=vE r;obtain ⟨ds,e,N⟩:=UG es;obtain ⟨a,sk,vs,rfl,hq,D⟩:=Zo d m e;cases B;rw [j] at hq;obtain ⟨its,o,n,y,f,l,G,hd,Y⟩:=Zp I hq;obtain ⟨g,hi⟩:=qak j I d D y N;refine UF (PS:=λh'=>SetTT X.prog X.w h' s.heap.objs.size (kss.foldl ju [])) (λA1 Q1 E1 hA M k=>?_) λh' tk T kp=>⟨.ref s.heap.objs.size,_,I.laid (t':=tk) kp (am _) ?_,rfl,q _ (I.hok.fresh (am _))⟩
 ·exact qeG (sk:=sk) (items:=its.toArray) (hA.trans (I.ok.hd L)) (by rw [Around.in1_units]; omega) (Vz (ai _ rfl)) (.of (aa _ f) hd l) (by simp [g]) (λi v e=>by obtain ⟨k1,b,e1,O,o1,i1,n1,E,r⟩:=hi i v (by simpa using e);exact ⟨k1,b,e1,O,aF (au E),o1,i1,n1,aa _ E,r⟩) (by rw [ao,g]; exact hl) (aF (au f)) λh' tk T kp=>k h' tk T λb o J=>kp b o (aF (au J)) (aa _ J)
 ·obtain ⟨es',ep,t,kl,c,S,z,_⟩:=T;exact ⟨⟨es',ep,t,c,S.fits,by rw [<-S.len,z.length_eq]⟩,⟨_,c⟩,λh1 h2 ⟨W,V,U,R,P⟩ k=>⟨W,V,U,k _ R,P⟩⟩
theorem qam:kX X (.builtin "len") (λxs H Q=>∃ a n,xs=[.ref a]/\H a=ff (szO a n)/\n<=100/\Q (.int n) H):=by intro pins s σ H xs us Q I r h;obtain ⟨a,n,rfl,g,b,q⟩:=h;obtain ⟨u,rfl,B⟩:=vE r;cases B;obtain ⟨es,ep,t,l,f,rfl⟩:=(I.hok a _ g).1;refine call_len_set l ⟨rfl,rfl,rfl⟩ rfl f (by omega) ?_;exact ⟨.int es.size,H,I.tok _,⟨_,rfl⟩,q⟩
theorem VA {p p2 a:Pos} (n:C.K=X.K) (f:X.calm=fm) (o:X.A.units+64 < cLine) (hg:Gl X "len") (m:X.mg "len"=fg) (v:bootBuiltins "len"=ff (.builtin "len")) (i:Gl X "set") (g:X.mg "set"=fg) (d:bootBuiltins "set"=ff (.type "set")) (j:PE X e (tE C own ma fa))
  (b:starEach [e] X.env=[(fk,eval e X.env)]:=by exact qy rfl) (c:starEach [.Call (.Name "set" p2) [e] [] a] X.env=[(fk,eval (.Call (.Name "set" p2) [e] [] a) X.env)]:=by exact qy rfl) :
  PE X (.Call (.Name "len" p) [.Call (.Name "set" p2) [e] [] a] [] pos) (tE C own .sh (d1 ww fa)):=by
 refine ji (wn qam hg m v (qA (jH (qal n f (by omega)) i g d (qA j qY b) (by decide) (by decide) (by rw [b]; rfl) rfl) qY c) (by decide) (by decide) (by rw [c]; rfl) rfl) λσ H Q h=>?_;refine uK (uE (ma:=ma) h) λx H1 ⟨l,F,dx,ex,s,t,po⟩=>?_;cases ex;unfold ww at po;cases es:Qq dx with
 | none=>rw [es] at po;exact po.elim
 | some ss=>
  rw [es] at po;have po:PoV C .sh F H1 (if ss.length<=17 then .ok (.int (ss.foldl ju []).length) else .bad) Q:=po;by_cases hl:ss.length<=17
  ·rw [if_pos hl] at po;refine ⟨x,F,dx,ss,rfl,s,t,es,hl,λq hq=>⟨q,_,rfl,qf,?_,?_⟩⟩;·have:=kQ ss [];rw [aM] at this;omega
   ·obtain ⟨s1,k,f1⟩:=jL (u:=szO q (ss.foldl ju []).length) s hq;exact po _ _ _ s1 k (.int _)
  ·rw [if_neg hl] at po;exact po.elim
end
end L2.D2
set_option maxHeartbeats 4000000
namespace Kx
open PySem PySem.Spec PyProof.Rows L2 L2.D2
noncomputable def top (i:Nat):Stmt:=PySem.Challenge.pw_lookwords_k18_whole_best_looks.main.body.getD i (.Pass ⟨0,0,0,0⟩)
noncomputable def CS:List Str:=["NoWords", "NoLook"]
noncomputable def FS:List Str:=[]
structure Zt (K:Frag) (mg:Str->Option fj) (cv:Str->fj) (ca:Str->Addr):Prop where
 xs:Xs K cv ca CS "WordError"
 mref:∀ c∈CS,mg c=ff (.ref (ca c))
 xin:∀ c∈CS,cG K (ca c) bmV "ValueError.__new__"=fm
 fref:∀ x∈FS,mg x=ff (.ref (ca x))
 z_all:mg "all"=fg
 z_bool:mg "bool"=fg
 z_dict:mg "dict"=fg
 z_enumerate:mg "enumerate"=fg
 z_int:mg "int"=fg
 z_isinstance:mg "isinstance"=fg
 z_len:mg "len"=fg
 z_list:mg "list"=fg
 z_max:mg "max"=fg
 z_min:mg "min"=fg
 z_range:mg "range"=fg
 z_set:mg "set"=fg
 z_sorted:mg "sorted"=fg
 z_str:mg "str"=fg
 z_sum:mg "sum"=fg
 z_tuple:mg "tuple"=fg
 c_LEAST_PLACE:∃ t,mg "LEAST_PLACE"=ff (.int (-3) t)
 c_MOST_LETTERS:∃ t,mg "MOST_LETTERS"=ff (.int 6 t)
 c_MOST_PLACE:∃ t,mg "MOST_PLACE"=ff (.int 2 t)
 c_MOST_WORDS:∃ t,mg "MOST_WORDS"=ff (.int 6 t)
theorem Qr:bootBuiltins "all"=ff (.builtin "all"):=by decide +kernel
theorem qan:bootBuiltins "bool"=ff (.type "bool"):=by decide +kernel
theorem qao:bootBuiltins "dict"=ff (.type "dict"):=by decide +kernel
theorem qb1:bootBuiltins "int"=ff (.type "int"):=by decide +kernel
theorem jh:bootBuiltins "isinstance"=ff (.builtin "isinstance"):=by decide +kernel
theorem ja:bootBuiltins "len"=ff (.builtin "len"):=by decide +kernel
theorem Jp:bootBuiltins "list"=ff (.type "list"):=by decide +kernel
theorem UH:bootBuiltins "max"=ff (.builtin "max"):=by decide +kernel
theorem qb2:bootBuiltins "min"=ff (.builtin "min"):=by decide +kernel
theorem KF:bootBuiltins "range"=ff (.type "range"):=by decide +kernel
theorem UI:bootBuiltins "set"=ff (.type "set"):=by decide +kernel
theorem Qs:bootBuiltins "sorted"=ff (.builtin "sorted"):=by decide +kernel
theorem ZD:bootBuiltins "str"=ff (.type "str"):=by decide +kernel
theorem UJ:bootBuiltins "sum"=ff (.builtin "sum"):=by decide +kernel
theorem yy:bootBuiltins "tuple"=ff (.type "tuple"):=by decide +kernel
variable {ca:Str->Addr}
theorem rz {X:Cx} {C:Ct} {own own':List Nat} {as:List AK} {e:Expr} {es:List Expr} {fr:vI} {np cpos pos:Pos} (Z:Zt X.K X.mg C.cv ca) (c:Str) (g:PA X (e::es) (tAr C own as fr)) (h:c∈CS:=by decide +kernel) (d:X.ex=[]:=by rfl) (ht:Kf X C:=by exact qbI rfl) (P:X.calm=true:=by rfl) (hg:Gl X c:=by rfl) (hsz:as.length<=1000:=by decide) (o:∀ i∈C.ox,i∈own:=by exact wE rfl) (hd:Dbg c:=by decide)
  (a:starEach (e::es) X.env=(fk,eval e X.env)::starEach es X.env:=by exact jj rfl) (l:(backTo cpos (starEach es X.env)).any (·.1)=false:=by rfl):PS X (.Raise (ff (.Call (.Name c np) (e::es) [] cpos)) fg pos) (tSt C own own' (zj c fr)):=
 WJ d ht P hg (Z.mref c h) (Z.xs.val c h) (Z.xin c h) g hsz o hd a l
instance {α:Type}:Inhabited (Out α):=⟨.bad⟩
structure Ev where
 P:fz
 w:fA
 K:Frag
 mg:Str->Option fj
 base:Heap
 cv:Str->fj
abbrev qJ (e0:Ev):=DefOk e0.P e0.w e0.K e0.mg e0.base e0.cv
abbrev wH (e0:Ev):=vN e0.K e0.mg
abbrev ZtE (e0:Ev) (ca:Str->Addr):=Zt e0.K e0.mg e0.cv ca
section
variable {e0:Ev}
abbrev vc:Stmt:=top 10
abbrev xg:List Str:=["thing"]
theorem Qt:FnScope xg ["thing"] (ql vc):=fsc
noncomputable def kb:je:=(jO (Vh (d1 (zk "str") (qc 0)) (Vh (d2 eqD (d1 jz (qc 0)) (dC (.int 1))) (uc leD leD (dC (.str "a")) (qc 0) (dC (.str "z"))))))
noncomputable abbrev vd:jM:=kW xg [.val] (kb)
abbrev uY (e0:Ev):=qJ e0 1 "is_letter" ["thing"] [.val] .sh (vd)
theorem Qu (Z:ZtE e0 ca) (T:wH e0 "is_letter" vc ["thing"]):uY e0:=
 qI (k:=0) (own':=[]) (fb:=kb) T Qt λcdv f A outer s H E c=>(qh (qo (Wu (xP rfl rfl Z.z_isinstance jh rfl Z.z_str ZD (vr 0)) (Wu (yG (ua rfl c.units) (qt (jk rfl) rfl Z.z_len ja (vr 0)) qu) (Wt (JW gR gR gL (vr 0) gL))))))
abbrev um:Stmt:=top 11
abbrev Qv:List Str:=["thing"]
theorem VB:FnScope Qv ["thing"] (ql um):=fsc
noncomputable def xh:je:=(jf (sIf (dOr (gO (yh (d1 (zk "str") (qc 0)))) (gO (qV (uc leD leD (dC (.int 1)) (d1 jz (qc 0)) (dC (.int 6)))))) (jO (dC (.bl fk))) jK)
  (jO (d1 VI (qB [] 1 [] (jg (qc 0)) (gNm 0) ftT (qr [.vl] vd (qd (qc 0) qE))))))
noncomputable abbrev uo:jM:=kW Qv [.val] (xh)
abbrev xT (e0:Ev):=qJ e0 2 "is_word" ["thing"] [.val] .sh (uo)
theorem VC (Z:ZtE e0 ca) (T:wH e0 "is_word" um ["thing"]) (o:uY e0):xT e0:=
 qI (k:=1) (own':=[]) (fb:=xh) T VB λcdv f A outer s H E c=>(qe (jw (PW.pt (gP (jJ (tv (xP rfl rfl Z.z_isinstance jh rfl Z.z_str ZD (vr 0)))) (uD (jJ (gQ gR gR qu (qt (jk rfl) rfl Z.z_len ja (vr 0)) (wu Z.c_MOST_LETTERS rfl)))))) (qh (qo wZ)) qW)
  (qh (qo (qt (Qc rfl rfl) rfl Z.z_all Qr (cmp (qC rfl (vr 0)) (λ_ _ _ _=>(qG o c (by decide) vQ rfl (qb (vr 0) qg))))))))
abbrev wx:Stmt:=top 12
abbrev xU:List Str:=["thing"]
theorem Jq:FnScope xU ["thing"] (ql wx):=fsc
noncomputable def uM:je:=(jf (sIf (dOr (gO (yh (d1 (zk "tuple") (qc 0)))) (gO (qV (uc leD leD (dC (.int 1)) (d1 jz (qc 0)) (dC (.int 6)))))) (jO (dC (.bl fk))) jK)
  (jO (Vh (d1 VI (qB [] 1 [] (jg (qc 0)) (gNm 0) ftT (qr [.vl] uo (qd (qc 0) qE)))) (d2 eqD (d1 yX (qc 0)) (d1 jz (qc 0))))))
noncomputable abbrev uN:jM:=kW xU [.val] (uM)
abbrev xi (e0:Ev):=qJ e0 3 "is_words" ["thing"] [.val] .sh (uN)
theorem Jr (Z:ZtE e0 ca) (T:wH e0 "is_words" wx ["thing"]) (o:xT e0):xi e0:=
 qI (k:=2) (own':=[]) (fb:=uM) T Jq λcdv f A outer s H E c=>(qe (jw (PW.pt (gP (jJ (tv (xP rfl rfl Z.z_isinstance jh rfl Z.z_tuple yy (vr 0)))) (uD (jJ (gQ gR gR qu (qt (jk rfl) rfl Z.z_len ja (vr 0)) (wu Z.c_MOST_WORDS rfl)))))) (qh (qo wZ)) qW)
  (qh (qo (Wu (qt (Qc rfl rfl) rfl Z.z_all Qr (cmp (qC rfl (vr 0)) (λ_ _ _ _=>(qG o c (by decide) vQ rfl (qb (vr 0) qg))))) (Wt (yG (ua rfl c.units) (WZ rfl rfl rfl Z.z_len ja rfl Z.z_set UI (vr 0)) (qt (jk rfl) rfl Z.z_len ja (vr 0))))))))
abbrev jQ:Stmt:=top 14
abbrev uq:List Str:=["thing"]
theorem xF:FnScope uq ["thing"] (ql jQ):=fsc
noncomputable def vf:je:=(sIf (gO (yh (qr [.vl] uN (qd (qc 0) qE)))) (zj "NoWords" (qd (dC (.str "words are a tuple of 1 to 6 unlike words of 1 to 6 letters from a to z")) qE)) jK)
noncomputable abbrev jR:jM:=kW uq [.val] (vf)
abbrev kK (e0:Ev):=qJ e0 4 "check_words" ["thing"] [.val] .sh (jR)
theorem xG (Z:ZtE e0 ca) (T:wH e0 "check_words" jQ ["thing"]) (o:xi e0):kK e0:=
 qI (k:=3) (own':=[]) (fb:=vf) T xF λcdv f A outer s H E c=>(qh (jw (jJ (tv (cN o c (qb (vr 0) qg)))) (qh (rz Z "NoWords" (qb gL qg))) qW))
abbrev vg:Stmt:=top 17
abbrev xj:List Str:=["places", "found", "first"]
theorem sc_all_looks:FnScope xj [] (ql vg):=fsc
noncomputable def xk:je:=(jf (kf 0 (d2 xb (dC (.int (-3))) (d2 xB (dC (.int 2)) (dC (.int 1)))))
  (jf (kf 1 (gk qE))
  (jf (Kb (jg (qc 0)) (gNm 2)
  (kY (yu 1 qaJ (qB [1] 1 [2] (jg (qc 0)) (gNm 0) ftT (gj (qd (qc 1) (qd (qc 0) qE)))))))
  (jO (qc 1)))))
noncomputable abbrev qN:jM:=kW xj [] (xk)
abbrev vU (e0:Ev):=qJ e0 1 "all_looks" [] [] .sh (qN)
theorem Qw (Z:ZtE e0 ca) (T:wH e0 "all_looks" vg []):vU e0:=
 qI (k:=0) (own':=[]) (fb:=xk) T sc_all_looks λcdv f A outer s H E c=>(qe (se 0 sc_all_looks.nd (Jk rfl rfl Z.z_list Jp rfl Z.z_range KF (wu Z.c_LEAST_PLACE rfl) (ke (wF rfl) (wu Z.c_MOST_PLACE rfl) qu)))
  (qe (sO 1 sc_all_looks.nd (kO qg))
  (qe (va br rfl (qC rfl (vr 0)) (gn 2 sc_all_looks.nd)
  (qh (jx (Qa (i:=1) rfl (cc rfl) (by decide) (cmp (qC rfl (vr 0)) (λ_ _ _ _=>(ud (qb (vr 1) (qb (vr 0) qg)))))))))
  (jm [1] (qh (qo (vr 1)))))))
abbrev ki:Stmt:=top 9
abbrev uZ:List Str:=["thing", "least", "most"]
abbrev kj:List Str:=["thing", "least", "most"]
theorem zx:FnScope uZ kj (ql ki):=fsc
noncomputable def kn:je:=(jf (sIf (dOr (gO (yh (d1 (zk "int") (qc 0)))) (yh (d1 (zk "bool") (qc 0)))) (jO (dC (.bl fk))) jK)
  (jO (uc leD leD (qc 1) (qc 0) (qc 2))))
noncomputable abbrev ko:jM:=kW uZ [.val,.val,.val] (kn)
abbrev ur (e0:Ev):=qJ e0 1 "is_between" kj [.val,.val,.val] .sh (ko)
theorem zy (Z:ZtE e0 ca) (T:wH e0 "is_between" ki kj):ur e0:=
 qI (k:=0) (own':=[]) (fb:=kn) T zx λcdv f A outer s H E c=>(qe (jw (PW.pt (gP (jJ (tv (xP rfl rfl Z.z_isinstance jh rfl Z.z_int qb1 (vr 0)))) (uD (tv (xP rfl rfl Z.z_isinstance jh rfl Z.z_bool qan (vr 0)))))) (qh (qo wZ)) qW)
  (qh (qo (JW gR gR (vr 1) (vr 0) (vr 2)))))
abbrev ut:Stmt:=top 13
abbrev Qx:List Str:=["thing"]
theorem VD:FnScope Qx ["thing"] (ql ut):=fsc
noncomputable def xl:je:=(jf (sIf (dOr (gO (yh (d1 (zk "tuple") (qc 0)))) (qV (d2 neD (d1 jz (qc 0)) (dC (.int 2))))) (jO (dC (.bl fk))) jK)
  (jO (d1 VI (qB [] 1 [] (jg (qc 0)) (gNm 0) ftT (qr [.vl,.vl,.vl] ko (qd (qc 0) (qd (dC (.int (-3))) (qd (dC (.int 2)) qE))))))))
noncomputable abbrev xm:jM:=kW Qx [.val] (xl)
abbrev xV (e0:Ev):=qJ e0 2 "is_look" ["thing"] [.val] .sh (xm)
theorem VE (Z:ZtE e0 ca) (T:wH e0 "is_look" ut ["thing"]) (o:ur e0):xV e0:=
 qI (k:=1) (own':=[]) (fb:=xl) T VD λcdv f A outer s H E c=>(qe (jw (PW.pt (gP (jJ (tv (xP rfl rfl Z.z_isinstance jh rfl Z.z_tuple yy (vr 0)))) (uD (qM (YR rfl c.units) (qt (jk rfl) rfl Z.z_len ja (vr 0)) qu)))) (qh (qo wZ)) qW)
  (qh (qo (qt (Qc rfl rfl) rfl Z.z_all Qr (cmp (qC rfl (vr 0)) (λ_ _ _ _=>(qG o c (by decide) vQ rfl (qb (vr 0) (qb (wu Z.c_LEAST_PLACE rfl) (qb (wu Z.c_MOST_PLACE rfl) qg))))))))))
abbrev kq:Stmt:=top 15
abbrev ya:List Str:=["thing"]
theorem zA:FnScope ya ["thing"] (ql kq):=fsc
noncomputable def vV:je:=(sIf (gO (yh (qr [.vl] xm (qd (qc 0) qE)))) (zj "NoLook" (qd (dC (.str "a look is a tuple of two places from -3 to 2")) qE)) jK)
noncomputable abbrev vW:jM:=kW ya [.val] (vV)
abbrev uu (e0:Ev):=qJ e0 3 "check_look" ["thing"] [.val] .sh (vW)
theorem zB (Z:ZtE e0 ca) (T:wH e0 "check_look" kq ["thing"]) (o:xV e0):uu e0:=
 qI (k:=2) (own':=[]) (fb:=vV) T zA λcdv f A outer s H E c=>(qh (jw (jJ (tv (cN o c (qb (vr 0) qg)))) (qh (rz Z "NoLook" (qb gL qg))) qW))
abbrev vh:Stmt:=top 18
abbrev xn:List Str:=["word", "place", "at"]
abbrev vi:List Str:=["word", "place"]
theorem sc_letter_at:FnScope xn vi (ql vh):=fsc
noncomputable def vj:je:=(jf (kf 2 (dIf (qV (d2 geD (qc 1) (dC (.int 0)))) (qc 1) (d2 xB (d1 jz (qc 0)) (qc 1))))
  (jO (d2 ixD (qc 0) (d2 qcF (dC (.int 0)) (d2 qcG (qc 2) (d2 qaH (d1 jz (qc 0)) (dC (.int 1))))))))
noncomputable abbrev kc:jM:=kW xn [.val,.val] (vj)
abbrev yb (e0:Ev):=qJ e0 1 "letter_at" vi [.val,.val] .sh (kc)
theorem Qy (Z:ZtE e0 ca) (T:wH e0 "letter_at" vh vi):yb e0:=
 qI (k:=0) (own':=[]) (fb:=vj) T sc_letter_at λcdv f A outer s H E c=>(qe (se 2 sc_letter_at.nd (Gy (qM qbs (vr 1) qu) (vr 1) (ke (wF rfl) (qt (jk rfl) rfl Z.z_len ja (vr 0)) (vr 1))))
  (qh (qo (ix c (vr 0) (Qb (qbE rfl) rfl Z.z_max UH qu (Qb (qbF rfl) rfl Z.z_min qb2 (vr 2) (ke Zk (qt (jk rfl) rfl Z.z_len ja (vr 0)) qu)))))))
abbrev zD:Stmt:=top 19
abbrev UK:List Str:=["words", "look"]
abbrev zE:List Str:=["words", "look"]
theorem XA:FnScope UK zE (ql zD):=fsc
noncomputable def Js:je:=(jf (kY (qr [.vl] jR (qd (qc 0) qE)))
  (jf (kY (qr [.vl] vW (qd (qc 1) qE)))
  (jO (qB [] 1 [1] (jg (qc 0)) (gNm 0) ftT (gj (qd (qr [.vl,.vl] kc (qd (qc 0) (qd (d2 ixD (qc 1) (dC (.int 0))) qE))) (qd (qr [.vl,.vl] kc (qd (qc 0) (qd (d2 ixD (qc 1) (dC (.int 1))) qE))) qE)))))))
noncomputable abbrev xo:jM:=kW UK [.val,.val] (Js)
abbrev zF (e0:Ev):=qJ e0 5 "pairs" zE [.val,.val] .sh (xo)
theorem XB (Z:ZtE e0 ca) (T:wH e0 "pairs" zD zE) (j:kK e0) (F:uu e0) (o:yb e0):zF e0:=
 qI (k:=4) (own':=[]) (fb:=Js) T XA λcdv f A outer s H E c=>(qe (jx (cN j c (qb (vr 0) qg)))
  (qe (jx (cN F c (qb (vr 1) qg)))
  (qh (qo (cmp (qC rfl (vr 0)) (λ_ _ _ _=>(ud (qb (qG o c (by decide) vQ rfl (qb (vr 0) (qb (ix c (vr 1) qu) qg))) (qb (qG o c (by decide) vQ rfl (qb (vr 0) (qb (ix c (vr 1) qu) qg))) qg)))))))))
abbrev kt:Stmt:=top 20
abbrev yc:List Str:=["seen"]
theorem zG:FnScope yc ["seen"] (ql kt):=fsc
noncomputable def vX:je:=(jO (d1 yv (d2 xB (qB [] 1 [] (jg (qc 0)) (gNm 0) ftT (d2 ixD (qc 0) (dC (.int 0)))) (qB [] 1 [] (jg (qc 0)) (gNm 0) ftT (d2 ixD (qc 0) (dC (.int 1)))))))
noncomputable abbrev ku:jM:=kW yc [.val] (vX)
abbrev uv (e0:Ev):=qJ e0 1 "letters_of" ["seen"] [.val] .sh (ku)
theorem zH (Z:ZtE e0 ca) (T:wH e0 "letters_of" kt ["seen"]):uv e0:=
 qI (k:=0) (own':=[]) (fb:=vX) T zG λcdv f A outer s H E c=>(qh (qo (Vr rfl rfl rfl Z.z_sorted Qs rfl Z.z_set UI (ke (wF rfl) (cmp (qC rfl (vr 0)) (λ_ _ _ _=>(ix c (vr 0) qu))) (cmp (qC rfl (vr 0)) (λ_ _ _ _=>(ix c (vr 0) qu)))))))
abbrev wy:Stmt:=top 23
abbrev xW:List Str:=["pair", "seen", "fixed", "letter"]
abbrev wz:List Str:=["pair", "seen", "fixed"]
theorem sc_is_loose:FnScope xW wz (ql wy):=fsc
noncomputable def uO:je:=(jf (Kb (jg (qc 0)) (gNm 3)
  (sIf (qdj (qV (d2 QM (qc 3) (qc 2))) (qV (d2 eqD (d1 zu (qB [] 1 [3] (jg (qc 1)) (gNm 0) ftT (dM qaO wG (qc 0) (qc 1)))) (dC (.int 1))))) (jO (dC (.bl fm))) jK))
  (jO (dC (.bl fk))))
noncomputable abbrev jr:jM:=kW xW [.val,.val,.val] (uO)
abbrev xp (e0:Ev):=qJ e0 1 "is_loose" wz [.val,.val,.val] .sh (jr)
theorem Jt (Z:ZtE e0 ca) (T:wH e0 "is_loose" wy wz):xp e0:=
 qI (k:=0) (own':=[]) (fb:=uO) T sc_is_loose λcdv f A outer s H E c=>(qe (va br rfl (qC rfl (vr 0)) (gn 3 sc_is_loose.nd)
  (qh (jw (PW.pt (Gx (qM (uk rfl c.units) (vr 3) (vr 2)) (uD (qM (ua rfl c.units) (qt (Jl rfl rfl) rfl Z.z_sum UJ (cmp (qC rfl (vr 1)) (λ_ _ _ _=>(Ut rfl c.units (vr 0) (vr 1))))) qu)))) (qh (qo wZ)) qW)))
  (qh (qo wZ)))
abbrev jS:Stmt:=top 24
abbrev vk:List Str:=["seen", "fixed", "kept", "rest"]
abbrev jT:List Str:=["seen", "fixed"]
theorem sc_bound_pairs:FnScope vk jT (ql jS):=fsc
noncomputable def vm:je:=(jf (kf 2 (qc 0))
  (jf (kf 3 (qB [] 1 [2,1] (jg (qc 2)) (gNm 0) (gO (yh (qr [.vl,.vl,.vl] jr (qd (qc 0) (qd (qc 1) (qd (qc 2) qE)))))) (qc 0)))
  (jf (jX (qV (d2 ltD (d1 jz (qc 3)) (d1 jz (qc 2))))
  (jf (kf 2 (qc 3))
  (jf (kf 3 (qB [] 1 [2,1] (jg (qc 2)) (gNm 0) (gO (yh (qr [.vl,.vl,.vl] jr (qd (qc 0) (qd (qc 1) (qd (qc 2) qE)))))) (qc 0))) jK)) 20)
  (jO (qc 2)))))
noncomputable abbrev vn:jM:=kW vk [.val,.val] (vm)
abbrev wI (e0:Ev):=qJ e0 2 "bound_pairs" jT [.val,.val] .sh (vn)
theorem xH (Z:ZtE e0 ca) (T:wH e0 "bound_pairs" jS jT) (o:xp e0):wI e0:=
 qI (k:=1) (own':=[]) (fb:=vm) T sc_bound_pairs λcdv f A outer s H E c=>(qe (se 2 sc_bound_pairs.nd (vr 0))
  (qe (qaP 3 sc_bound_pairs.nd (qC rfl (vr 2)) (λ_ _ _ _=>(vr 0)) (ht:=λ_ _ _ _=>(vb (jJ (tv (qG o c (by decide) vQ rfl (qb (vr 0) (qb (vr 1) (qb (vr 2) qg)))))))))
  (jm [3] (qe (WD 20 br (qM Gt (qt (jk rfl) rfl Z.z_len ja (vr 3)) (qt (jk rfl) rfl Z.z_len ja (vr 2)))
  (qe (se 2 sc_bound_pairs.nd (vr 3))
  (qe (qaP 3 sc_bound_pairs.nd (qC rfl (vr 2)) (λ_ _ _ _=>(vr 0)) (ht:=λ_ _ _ _=>(vb (jJ (tv (qG o c (by decide) vQ rfl (qb (vr 0) (qb (vr 1) (qb (vr 2) qg)))))))))
  (jm [3] qW))))
  (qh (qo (vr 2)))))))
abbrev wA:Stmt:=top 25
abbrev uP:List Str:=["one", "two", "first", "second", "letter"]
abbrev wB:List Str:=["one", "two"]
theorem sc_unshared:FnScope uP wB (ql wA):=fsc
noncomputable def uQ:je:=(jf (kf 2 (d1 GN (qc 0)))
  (jf (kf 3 (gk qE))
  (jf (Kb (jg (qc 1)) (gNm 4)
  (sIf (qV (d2 inA (qc 4) (qc 2))) (kY (yu 2 qae (qc 4))) (kY (yu 3 gp (qc 4)))))
  (jO (gj (qd (qc 2) (qd (qc 3) qE)))))))
noncomputable abbrev jC:jM:=kW uP [.val,.val] (uQ)
abbrev xq (e0:Ev):=qJ e0 1 "unshared" wB [.val,.val] .sh (jC)
theorem Ju (Z:ZtE e0 ca) (T:wH e0 "unshared" wA wB):xq e0:=
 qI (k:=0) (own':=[]) (fb:=uQ) T sc_unshared λcdv f A outer s H E c=>(qe (sO 2 sc_unshared.nd (ue (GO rfl) rfl Z.z_list Jp (vr 0)))
  (qe (sO 3 sc_unshared.nd (kO qg))
  (qe (va br rfl (qC rfl (vr 1)) (gn 4 sc_unshared.nd)
  (qh (jw (qM (Zq rfl c.units) (vr 4) (vO 2)) (qh (jx (Ur (i:=2) rfl (cc rfl) (by decide) (vr 4)))) (qh (jx (vP (i:=3) rfl rfl (cc rfl) (by decide) (vr 4)))))))
  (jm [2,3] (qh (qo (ud (qb (vr 2) (qb (vr 3) qg)))))))))
abbrev jF:Stmt:=top 26
abbrev wJ:List Str:=["seen", "found", "later", "pair"]
theorem sc_contrasts_of:FnScope wJ ["seen"] (ql jF):=fsc
noncomputable def kL:je:=(jf (kf 1 (gk qE))
  (jf (Kb (xE (qc 0)) (vG 2 (qL (gNm 2) (qL (gNm 3) vF)))
  (kY (yu 1 qaJ (qB [1] 1 [3] (jg (jZ (qc 0) fg (ff (qc 2)))) (gNm 0) ftT (qr [.vl,.vl] jC (qd (qc 0) (qd (qc 1) qE)))))))
  (jO (qc 1))))
noncomputable abbrev kM:jM:=kW wJ [.val] (kL)
abbrev vY (e0:Ev):=qJ e0 2 "contrasts_of" ["seen"] [.val] .sh (kM)
theorem xr (Z:ZtE e0 ca) (T:wH e0 "contrasts_of" jF ["seen"]) (o:xq e0):vY e0:=
 qI (k:=1) (own':=[]) (fb:=kL) T sc_contrasts_of λcdv f A outer s H E c=>(qe (sO 1 sc_contrasts_of.nd (kO qg))
  (qe (va br rfl (zr rfl rfl Z.z_enumerate (vr 0)) (yL rfl rfl (jl (gn 2 sc_contrasts_of.nd) (jl (gn 3 sc_contrasts_of.nd) ui)))
  (qh (jx (Qa (i:=1) rfl (cc rfl) (by decide) (cmp (qC rfl (Qn rfl (vr 0) Kl (Km (vr 2)))) (λ_ _ _ _=>(qG o c (by decide) vQ rfl (qb (vr 0) (qb (vr 1) qg)))))))))
  (jm [1] (qh (qo (vr 1))))))
abbrev kw:Stmt:=top 27
abbrev vZ:List Str:=["contrast", "room", "fixed", "first", "second"]
abbrev kx:List Str:=["contrast", "room", "fixed"]
theorem sc_may_differ:FnScope vZ kx (ql kw):=fsc
noncomputable def wa:je:=(jf (kf 3 (d2 ixD (qc 0) (dC (.int 0))))
  (jf (kf 4 (d2 ixD (qc 0) (dC (.int 1))))
  (jf (sIf (gO (yh (d1 VI (qB [] 1 [2] (jg (d2 xB (qc 3) (qc 4))) (gNm 0) ftT (d2 inA (qc 0) (qc 1)))))) (jO (dC (.bl fm))) jK)
  (jO (d2 neD (d2 Yo (d2 qaH (d1 zu (qB [] 1 [2] (jg (qc 3)) (gNm 0) ftT (d2 ixD (qc 1) (qc 0)))) (d1 zu (qB [] 1 [2] (jg (qc 4)) (gNm 0) ftT (d2 ixD (qc 1) (qc 0))))) (qc 1)) (dC (.int 0)))))))
noncomputable abbrev jI:jM:=kW vZ [.val,.val,.val] (wa)
abbrev vo (e0:Ev):=qJ e0 1 "may_differ" kx [.val,.val,.val] .sh (jI)
theorem zI (Z:ZtE e0 ca) (T:wH e0 "may_differ" kw kx):vo e0:=
 qI (k:=0) (own':=[]) (fb:=wa) T sc_may_differ λcdv f A outer s H E c=>(qe (se 3 sc_may_differ.nd (ix c (vr 0) qu))
  (qe (se 4 sc_may_differ.nd (ix c (vr 0) qu))
  (qe (jw (jJ (tv (qt (Qc rfl rfl) rfl Z.z_all Qr (cmp (qC rfl (ke (wF rfl) (vr 3) (vr 4))) (λ_ _ _ _=>(yG (Zq rfl c.units) (vr 0) (vr 1))))))) (qh (qo wZ)) qW)
  (qh (qo (yG (YR rfl c.units) (ke xM (ke Zk (qt (Jl rfl rfl) rfl Z.z_sum UJ (cmp (qC rfl (vr 3)) (λ_ _ _ _=>(ix c (vr 1) (vr 0))))) (qt (Jl rfl rfl) rfl Z.z_sum UJ (cmp (qC rfl (vr 4)) (λ_ _ _ _=>(ix c (vr 1) (vr 0)))))) (vr 1)) qu))))))
abbrev ky:Stmt:=top 28
abbrev yd:List Str:=["fixed", "letter", "worth", "more"]
abbrev kz:List Str:=["fixed", "letter", "worth"]
theorem sc_with_worth:FnScope yd kz (ql ky):=fsc
noncomputable def wb:je:=(jf (kf 3 (d1 Uu (qc 0)))
  (jf (qac 3 (qc 2) (qc 1))
  (jO (qc 3))))
noncomputable abbrev kA:jM:=kW yd [.val,.val,.val] (wb)
abbrev vp (e0:Ev):=qJ e0 1 "with_worth" kz [.val,.val,.val] .sh (kA)
theorem zJ (Z:ZtE e0 ca) (T:wH e0 "with_worth" ky kz):vp e0:=
 qI (k:=0) (own':=[]) (fb:=wb) T sc_with_worth λcdv f A outer s H E c=>(qe (sO 3 sc_with_worth.nd (ue (Xr rfl) rfl Z.z_dict qao (vr 0)))
  (qe (Xq (n:=3) c.units rfl (cc rfl) (by decide) (vr 2) (vr 1))
  (jm [3] (qh (qo (vr 3))))))
abbrev jb:Stmt:=top 29
abbrev jc:List Str:=["contrasts", "room", "fixed", "letters", "choices", "worth"]
abbrev jd:List Str:=["contrasts", "room", "fixed", "letters"]
theorem sc_can_be_filled:FnScope jc jd (ql jb):=fsc
noncomputable def qS (gr:jM):je:=(jf (sIf (gO (yh (d1 VI (qB [] 1 [1,2] (jg (qc 0)) (gNm 0) ftT (qr [.vl,.vl,.vl] jI (qd (qc 0) (qd (qc 1) (qd (qc 2) qE)))))))) (jO (dC (.bl fk))) jK)
  (jf (sIf (qV (d2 eqD (d1 jz (qc 3)) (dC (.int 0)))) (jO (dC (.bl fm))) jK)
  (jf (kf 4 (dIf (qV (d2 eqD (d1 jz (qc 2)) (dC (.int 0)))) (gk (qd (dC (.int 0)) qE)) (d1 wv (qc 1))))
  (jf (Kb (jg (qc 4)) (gNm 5)
  (sIf (yh (qr [.vl,.vl,.vl,.vl] gr (qd (qc 0) (qd (qc 1) (qd (qr [.vl,.vl,.vl] kA (qd (qc 2) (qd (d2 ixD (qc 3) (dC (.int 0))) (qd (qc 5) qE)))) (qd (jZ (qc 3) (ff (dC (.int 1))) fg) qE)))))) (jO (dC (.bl fm))) jK))
  (jO (dC (.bl fk)))))))
noncomputable def qF:Nat->jM
 | 0=>kW jc [.val,.val,.val,.val] qdz
 | n+1=>kW jc [.val,.val,.val,.val] (qS (qF n))
noncomputable abbrev wc:jM:=qF 14
abbrev vD (e0:Ev):=qJ e0 16 "can_be_filled" jd [.val,.val,.val,.val] .sh wc
theorem yl (Z:ZtE e0 ca) (T:wH e0 "can_be_filled" jb jd) (m:vo e0) (o:vp e0) (n:Nat):qJ e0 (2+n) "can_be_filled" ["contrasts", "room", "fixed", "letters"] [.val,.val,.val,.val] .sh (qF n):=by
 induction n with
 | zero=>exact qI (k:=1) (own':=[]) (fb:=qdz) T sc_can_be_filled λcdv f A outer s H E c=>GZ
 | succ n h=>exact qI (k:=2+n) (own':=[]) (fb:=qS (qF n)) T sc_can_be_filled λcdv f A outer s H E c=>(qe (jw (jJ (tv (qt (Qc rfl rfl) rfl Z.z_all Qr (cmp (qC rfl (vr 0)) (λ_ _ _ _=>(qG m c (by omega) vQ rfl (qb (vr 0) (qb (vr 1) (qb (vr 2) qg))))))))) (qh (qo wZ)) qW)
  (qe (jw (qM (ua rfl c.units) (qt (jk rfl) rfl Z.z_len ja (vr 3)) qu) (qh (qo wZ)) qW)
  (qe (se 4 sc_can_be_filled.nd (Gy (qM (ua rfl c.units) (qt (jk rfl) rfl Z.z_len ja (vr 2)) qu) (kO (qb qu qg)) (Vu rfl rfl Z.z_list Jp rfl Z.z_range KF (vr 1))))
  (qe (va br rfl (qC rfl (vr 4)) (gn 5 sc_can_be_filled.nd)
  (qh (jw (tv (qG h c (by omega) Vm rfl (qb (vr 0) (qb (vr 1) (qb (qG o c (by omega) Vm rfl (qb (vr 2) (qb (ix c (vr 3) qu) (qb (vr 5) qg)))) (qb (Qn rfl (vr 3) (Km qu) Kl) qg)))))) (qh (qo wZ)) qW)))
  (qh (qo wZ))))))
theorem ym (Z:ZtE e0 ca) (T:wH e0 "can_be_filled" jb jd) (m:vo e0) (o:vp e0):vD e0:=yl Z T m o 14
abbrev kB:Stmt:=top 30
abbrev we:List Str:=["seen", "room", "fixed", "bound", "letters"]
abbrev kC:List Str:=["seen", "room", "fixed"]
theorem sc_can_differ:FnScope we kC (ql kB):=fsc
noncomputable def wf:je:=(jf (sIf (qV (d2 ltD (qc 1) (d1 jz (qc 0)))) (jO (dC (.bl fk))) jK)
  (jf (kf 3 (qr [.vl,.vl] vn (qd (qc 0) (qd (qc 2) qE))))
  (jf (kf 4 (qB [] 1 [2] (jg (qr [.vl] ku (qd (qc 3) qE))) (gNm 0) (qV (d2 QM (qc 0) (qc 1))) (qc 0)))
  (jO (qr [.vl,.vl,.vl,.vl] wc (qd (qr [.vl] kM (qd (qc 3) qE)) (qd (qc 1) (qd (qc 2) (qd (qc 4) qE)))))))))
noncomputable abbrev jt:jM:=kW we [.val,.val,.val] (wf)
abbrev uw (e0:Ev):=qJ e0 17 "can_differ" kC [.val,.val,.val] .sh (jt)
theorem zK (Z:ZtE e0 ca) (T:wH e0 "can_differ" kB kC) (a:uv e0) (b:wI e0) (o:vY e0) (h:vD e0):uw e0:=
 qI (k:=16) (own':=[]) (fb:=wf) T sc_can_differ λcdv f A outer s H E c=>(qe (jw (qM Gt (vr 1) (qt (jk rfl) rfl Z.z_len ja (vr 0))) (qh (qo wZ)) qW)
  (qe (se 3 sc_can_differ.nd (cN b c (qb (vr 0) (qb (vr 2) qg))))
  (qe (qaP 4 sc_can_differ.nd (qC rfl (cN a c (qb (vr 3) qg))) (λ_ _ _ _=>(vr 0)) (ht:=λ_ _ _ _=>(vb (qM (uk rfl c.units) (vr 0) (vr 1)))))
  (jm [4] (qh (qo (cN h c (qb (cN o c (qb (vr 3) qg)) (qb (vr 1) (qb (vr 2) (qb (vr 4) qg)))))))))))
abbrev zL:Stmt:=top 31
abbrev Jv:List Str:=["words"]
theorem XC:FnScope Jv ["words"] (ql zL):=fsc
noncomputable def Jw:je:=(jf (kY (qr [.vl] jR (qd (qc 0) qE)))
  (jO (qB [] 1 [0] (jg (qr [] qN qE)) (gNm 0) (yh (qr [.vl,.vl,.vl] jt (qd (qr [.vl,.vl] xo (qd (qc 1) (qd (qc 0) qE))) (qd (d1 jz (qc 1)) (qd (dC (.dct [])) qE))))) (qc 0))))
noncomputable abbrev zM:jM:=kW Jv [.val] (Jw)
abbrev KG (e0:Ev):=qJ e0 18 "looks" ["words"] [.val] .sh (zM)
theorem XD (Z:ZtE e0 ca) (T:wH e0 "looks" zL ["words"]) (j:kK e0) (i:vU e0) (o:zF e0) (B:uw e0):KG e0:=
 qI (k:=17) (own':=[]) (fb:=Jw) T XC λcdv f A outer s H E c=>(qe (jx (cN j c (qb (vr 0) qg)))
  (qh (qo (cmp (qC rfl (xc i c (by decide) Vm rfl)) (λ_ _ _ _=>(vr 0)) (ht:=λ_ _ _ _=>(vb (tv (qG B c (by decide) vQ rfl (qb (qG o c (by decide) vQ rfl (qb (vr 1) (qb (vr 0) qg))) (qb (qt (jk rfl) rfl Z.z_len ja (vr 1)) (qb YU qg)))))))))))
abbrev vt:Stmt:=top 22
abbrev xu:List Str:=["one", "two"]
abbrev vw:List Str:=["one", "two"]
theorem Qz:FnScope xu vw (ql vt):=fsc
noncomputable def vx:je:=(jO (qcC (d2 eqD (qc 0) (qc 1)) (d2 eqD (qc 0) (gj (qd (d2 ixD (qc 1) (dC (.int 1))) (qd (d2 ixD (qc 1) (dC (.int 0))) qE))))))
noncomputable abbrev jD:jM:=kW xu [.val,.val] (vx)
abbrev ye (e0:Ev):=qJ e0 1 "are_alike" vw [.val,.val] .sh (jD)
theorem QA (Z:ZtE e0 ca) (T:wH e0 "are_alike" vt vw):ye e0:=
 qI (k:=0) (own':=[]) (fb:=vx) T Qz λcdv f A outer s H E c=>(qh (qo (qdk (yG (ua rfl c.units) (vr 0) (vr 1)) (Wt (yG (ua rfl c.units) (vr 0) (ud (qb (ix c (vr 1) qu) (qb (ix c (vr 1) qu) qg))))))))
abbrev zN:Stmt:=top 33
abbrev UL:List Str:=["words", "look", "seen", "found", "first", "pair", "group"]
abbrev zO:List Str:=["words", "look"]
theorem sc_alike:FnScope UL zO (ql zN):=fsc
noncomputable def Jx:je:=(jf (kf 2 (qr [.vl,.vl] xo (qd (qc 0) (qd (qc 1) qE))))
  (jf (kf 3 (gk qE))
  (jf (Kb (xE (qc 2)) (vG 2 (qL (gNm 4) (qL (gNm 5) vF)))
  (jf (kf 6 (qB [3] 2 [5] (xE (qc 2)) (vG 2 (qL (gNm 0) (qL (gNm 1) vF))) (yh (qr [.vl,.vl] jD (qd (qc 2) (qd (qc 1) qE)))) (qc 0)))
  (sIf (qV (d2 eqD (d2 ixD (qc 6) (dC (.int 0))) (qc 4))) (kY (yu 3 gp (qc 6))) jK)))
  (jO (qc 3)))))
noncomputable abbrev wT:jM:=kW UL [.val,.val] (Jx)
abbrev KH (e0:Ev):=qJ e0 6 "alike" zO [.val,.val] .sh (wT)
theorem XE (Z:ZtE e0 ca) (T:wH e0 "alike" zN zO) (o:zF e0) (a:ye e0):KH e0:=
 qI (k:=5) (own':=[]) (fb:=Jx) T sc_alike λcdv f A outer s H E c=>(qe (se 2 sc_alike.nd (cN o c (qb (vr 0) (qb (vr 1) qg))))
  (qe (sO 3 sc_alike.nd (kO qg))
  (qe (va br rfl (zr rfl rfl Z.z_enumerate (vr 2)) (yL rfl rfl (jl (gn 4 sc_alike.nd) (jl (gn 5 sc_alike.nd) ui)))
  (qe (qaP 6 sc_alike.nd (zr rfl rfl Z.z_enumerate (vr 2)) (λ_ _ _ _=>(vr 0)) (hg:=λ_ _ _ _=>(yL rfl rfl (jl (gC 0) (jl (gC 1) ui)))) (ht:=λ_ _ _ _=>(vb (tv (qG a c (by decide) vQ rfl (qb (vr 2) (qb (vr 1) qg)))))))
  (jm [6] (qh (jw (qM (ua rfl c.units) (ix c (vr 6) qu) (vr 4)) (qh (jx (vP (i:=3) rfl rfl (cc rfl) (by decide) (vr 6)))) qW)))))
  (jm [3] (qh (qo (vr 3)))))))
abbrev kD:Stmt:=top 34
abbrev wg:List Str:=["words", "most"]
theorem sc_best_looks:FnScope wg ["words"] (ql kD):=fsc
noncomputable def wj:je:=(jf (kf 1 (d1 Vw (qB [] 1 [0] (jg (qr [] qN qE)) (gNm 0) ftT (d1 jz (qr [.vl,.vl] wT (qd (qc 1) (qd (qc 0) qE)))))))
  (jO (qB [] 1 [1,0] (jg (qr [] qN qE)) (gNm 0) (qV (d2 eqD (d1 jz (qr [.vl,.vl] wT (qd (qc 2) (qd (qc 0) qE)))) (qc 1))) (qc 0))))
noncomputable abbrev wk:jM:=kW wg [.val] (wj)
abbrev ux (e0:Ev):=qJ e0 7 "best_looks" ["words"] [.val] .sh (wk)
theorem zQ (Z:ZtE e0 ca) (T:wH e0 "best_looks" kD ["words"]) (i:vU e0) (o:KH e0):ux e0:=
 qI (k:=6) (own':=[]) (fb:=wj) T sc_best_looks λcdv f A outer s H E c=>(qe (se 1 sc_best_looks.nd (qt (Uq rfl rfl) rfl Z.z_max UH (cmp (qC rfl (xc i c (by decide) Vm rfl)) (λ_ _ _ _=>(qt (jk rfl) rfl Z.z_len ja (qG o c (by decide) vQ rfl (qb (vr 1) (qb (vr 0) qg))))))))
  (qh (qo (cmp (qC rfl (xc i c (by decide) Vm rfl)) (λ_ _ _ _=>(vr 0)) (ht:=λ_ _ _ _=>(vb (qM (ua rfl c.units) (qt (jk rfl) rfl Z.z_len ja (qG o c (by decide) vQ rfl (qb (vr 2) (qb (vr 0) qg)))) (vr 1))))))))
abbrev wC:Stmt:=top 36
abbrev xX:List Str:=["_law_script", "_law_k"]
abbrev jG:List Str:=["_law_script", "_law_k"]
theorem Jy:FnScope xX jG (ql wC):=fsc
noncomputable def kS:je:=(jf (sIf (qV (d2 ltD (qc 1) (d1 jz (qc 0)))) (jO (d2 ixD (qc 0) (qc 1))) jK)
  (jf (sIf (qV (d2 eqD (qc 0) (gk qE))) (jO (dC (.int 0))) jK)
  (jO (d2 xB (d2 qaI (d2 ixD (qc 0) (d2 Yo (qc 1) (d1 jz (qc 0)))) (dC (.int 31))) (qc 1)))))
noncomputable abbrev uR:jM:=kW xX [.val,.val] (kS)
abbrev xw (e0:Ev):=qJ e0 1 "_law_cell_at" jG [.val,.val] .sh (uR)
theorem Jz (Z:ZtE e0 ca) (T:wH e0 "_law_cell_at" wC jG):xw e0:=
 qI (k:=0) (own':=[]) (fb:=kS) T Jy λcdv f A outer s H E c=>(qe (jw (qM Gt (vr 1) (qt (jk rfl) rfl Z.z_len ja (vr 0))) (qh (qo (ix c (vr 0) (vr 1)))) qW)
  (qe (jw (qM (ua rfl c.units) (vr 0) (kO qg)) (qh (qo qu)) qW)
  (qh (qo (ke (wF rfl) (ke Wk (ix c (vr 0) (ke xM (vr 1) (qt (jk rfl) rfl Z.z_len ja (vr 0)))) qu) (vr 1))))))
abbrev yz:Stmt:=top 37
abbrev KI:List Str:=["_law_script", "_law_k", "_law_many", "_law_drawn"]
abbrev kE:List Str:=["_law_script", "_law_k", "_law_many"]
theorem sc_Lmixed:FnScope KI kE (ql yz):=fsc
noncomputable def zR:je:=(jf (kf 3 (d2 Yo (d2 xB (d2 xB (d2 qaI (qr [.vl,.vl] uR (qd (qc 0) (qd (qc 1) qE))) (dC (.int 1103515245))) (d2 qaI (dC (.int 7919)) (qc 1))) (dC (.int 12345))) (dC (.int 2147483647))))
  (jO (d2 Yo (d2 Yo (d2 Yo (d2 qdy (qc 3) (dC (.int 5))) (dC (.int 2147483647))) (dC (.int 999983))) (qc 2))))
noncomputable abbrev zS:jM:=kW KI [.val,.val,.val] (zR)
abbrev QB (e0:Ev):=qJ e0 2 "_law_mixed" kE [.val,.val,.val] .sh (zS)
theorem UM (Z:ZtE e0 ca) (T:wH e0 "_law_mixed" yz kE) (o:xw e0):QB e0:=
 qI (k:=1) (own':=[]) (fb:=zR) T sc_Lmixed λcdv f A outer s H E c=>(qe (se 3 sc_Lmixed.nd (ke xM (ke (wF rfl) (ke (wF rfl) (ke Wk (cN o c (qb (vr 0) (qb (vr 1) qg))) qu) (ke Wk qu (vr 1))) qu) qu))
  (qh (qo (ke xM (ke xM (ke xM (ke qbQ (vr 3) qu) qu) qu) (vr 2)))))
abbrev zT:Stmt:=top 38
abbrev UN:List Str:=["_law_script", "_law_town", "_law_many"]
abbrev vy:List Str:=["_law_script", "_law_town", "_law_many"]
theorem XF:FnScope UN vy (ql zT):=fsc
noncomputable def JA:je:=(jf (kY (yu 1 gp (dC (.int 0))))
  (jO (qr [.vl,.vl,.vl] zS (qd (qc 0) (qd (d1 jz (qc 1)) (qd (qc 2) qE))))))
noncomputable abbrev xx:jM:=kW UN [.val,.io,.val] (JA)
abbrev yA (e0:Ev):=qJ e0 3 "_law_draw" vy [.val,.io,.val] .sh (xx)
theorem XG (Z:ZtE e0 ca) (T:wH e0 "_law_draw" zT vy) (o:QB e0):yA e0:=
 qI (k:=2) (own':=[1]) (fb:=JA) T XF λcdv f A outer s H E c=>(qe (jx (vP (i:=1) rfl rfl (cc rfl) (by decide) qu))
  (qh (qo (cN o c (qb (vr 0) (qb (qt (jk rfl) rfl Z.z_len ja (vO 1)) (qb (vr 2) qg)))))))
abbrev zU:Stmt:=top 39
abbrev UO:List Str:=["_law_script", "_law_town", "_law_some"]
abbrev vz:List Str:=["_law_script", "_law_town", "_law_some"]
theorem XH:FnScope UO vz (ql zU):=fsc
noncomputable def JB:je:=(jO (d2 ixD (qc 2) (qr [.vl,.sl 1,.vl] xx (qd (qc 0) (yi (qd (d1 jz (qc 2)) qE))))))
noncomputable abbrev xy:jM:=kW UO [.val,.io,.val] (JB)
abbrev zV (e0:Ev):=qJ e0 4 "_law_pick" vz [.val,.io,.val] .sh (xy)
theorem XI (Z:ZtE e0 ca) (T:wH e0 "_law_pick" zU vz) (o:yA e0):zV e0:=
 qI (k:=3) (own':=[1]) (fb:=JB) T XH λcdv f A outer s H E c=>(qh (qo (ix c (vr 2) (cN o c (qb (vr 0) (sl 1 (qb (qt (jk rfl) rfl Z.z_len ja (vr 2)) qg)))))))
abbrev zW:Stmt:=top 40
abbrev UP:List Str:=["_law_script", "_law_town", "_law_letters_here", "_law_most"]
abbrev vA:List Str:=["_law_script", "_law_town", "_law_letters_here", "_law_most"]
theorem XJ:FnScope UP vA (ql zW):=fsc
noncomputable def JC:je:=(jO (d1 (Ud "") (qB [1] 1 [0,1,2] (uF (d2 xB (dC (.int 1)) (qr [.vl,.sl 1,.vl] xx (qd (qc 0) (yi (qd (qc 3) qE)))))) (gNm 0) ftT (qr [.vl,.sl 2,.vl] xy (qd (qc 1) (yi (qd (qc 3) qE)))))))
noncomputable abbrev zX:jM:=kW UP [.val,.io,.val,.val] (JC)
abbrev KJ (e0:Ev):=qJ e0 5 "_law_word" vA [.val,.io,.val,.val] .sh (zX)
theorem XM (Z:ZtE e0 ca) (T:wH e0 "_law_word" zW vA) (q:yA e0) (o:zV e0):KJ e0:=
 qI (k:=4) (own':=[1]) (fb:=JC) T XJ λcdv f A outer s H E c=>(qh (qo (GX rfl (cmp (uG rfl Z.z_range (ke (wF rfl) qu (cN q c (qb (vr 0) (zf (i:=1) rfl (dF (cc rfl)) (by decide) (qb (vr 3) qg)))))) (λ_ _ _ _=>(qG o c (by decide) vQ rfl (qb (vr 1) (zf (i:=2) rfl (by first | exact dF (dF rfl) | exact dF (cc rfl)) (by decide) (qb (vr 3) qg)))))))))
abbrev yB:Stmt:=top 41
abbrev KK:List Str:=["_law_script", "_law_town", "_law_most", "_law_letters_here", "_law_made", "_law_k", "_law_word_here"]
abbrev kF:List Str:=["_law_script", "_law_town", "_law_most"]
theorem sc_Lwords:FnScope KK kF (ql yB):=fsc
noncomputable def zY:je:=(jf (kf 3 (qr [.vl,.sl 1,.vl] xy (qd (qc 0) (yi (qd (gk λρ=>.ok ([(.lst [(.str "a"),(.str "b")]),(.lst [(.str "a"),(.str "b"),(.str "c")]),(.lst [(.str "a"),(.str "b"),(.str "c"),(.str "d")]),(.lst [(.str "k"),(.str "m"),(.str "z"),(.str "a"),(.str "e")])],ρ)) qE)))))
  (jf (kf 4 (gk qE))
  (jf (Kb (uF (d2 xB (dC (.int 1)) (qr [.vl,.sl 1,.vl] xx (qd (qc 0) (yi (qd (qc 2) qE)))))) (gNm 5)
  (jf (kf 6 (qr [.vl,.sl 1,.vl,.vl] zX (qd (qc 0) (yi (qd (qc 3) (qd (dC (.int 6)) qE))))))
  (sIf (qV (d2 QM (qc 6) (qc 4))) (kY (yu 4 gp (qc 6))) jK)))
  (jO (d1 yO (qc 4))))))
noncomputable abbrev zZ:jM:=kW KK [.val,.io,.val] (zY)
abbrev QC (e0:Ev):=qJ e0 6 "_law_words" kF [.val,.io,.val] .sh (zZ)
theorem UQ (Z:ZtE e0 ca) (T:wH e0 "_law_words" yB kF) (q:yA e0) (o:zV e0) (U:KJ e0):QC e0:=
 qI (k:=5) (own':=[1]) (fb:=zY) T sc_Lwords λcdv f A outer s H E c=>(qe (se 3 sc_Lwords.nd (cN o c (qb (vr 0) (sl 1 (qb (qab 16 rfl) qg)))))
  (qe (sO 4 sc_Lwords.nd (kO qg))
  (qe (va br rfl (uG rfl Z.z_range (ke (wF rfl) qu (cN q c (qb (vr 0) (sl 1 (qb (vr 2) qg)))))) (gn 5 sc_Lwords.nd)
  (qe (se 6 sc_Lwords.nd (cN U c (qb (vr 0) (sl 1 (qb (vr 3) (qb qu qg))))))
  (qh (jw (qM (uk rfl c.units) (vr 6) (vO 4)) (qh (jx (vP (i:=4) rfl rfl (cc rfl) (by decide) (vr 6)))) qW))))
  (qh (qo (ue (Kj rfl) rfl Z.z_tuple yy (vO 4)))))))
abbrev XN:Stmt:=top 43
abbrev qb3:List Str:=["_law_word_here", "_law_place", "_law_spots"]
abbrev uy:List Str:=["_law_word_here", "_law_place"]
theorem sc_Lat:FnScope qb3 uy (ql XN):=fsc
noncomputable def qb4:je:=(jf (kf 2 (qB [] 1 [1,0] (uF (d1 jz (qc 0))) (gNm 0) (dOr (qV (d2 eqD (qc 0) (qc 1))) (qV (d2 eqD (qc 0) (d2 xB (qc 1) (d1 jz (qc 2)))))) (qc 0)))
  (jf (sIf (qV (d2 neD (qc 2) (gk qE))) (jO (d2 ixD (qc 0) (d2 ixD (qc 2) (dC (.int 0))))) jK)
  (jO (dIf (qV (d2 geD (qc 1) (dC (.int 0)))) (d2 ixD (qc 0) (d1 GM (dC (.int 1)))) (d2 ixD (qc 0) (dC (.int 0)))))))
noncomputable abbrev UR:jM:=kW qb3 [.val,.val] (qb4)
abbrev ZE (e0:Ev):=qJ e0 1 "_law_at" uy [.val,.val] .sh (UR)
theorem qb5 (Z:ZtE e0 ca) (T:wH e0 "_law_at" XN uy):ZE e0:=
 qI (k:=0) (own':=[]) (fb:=qb4) T sc_Lat λcdv f A outer s H E c=>(qe (qaP 2 sc_Lat.nd (uG rfl Z.z_range (qt (jk rfl) rfl Z.z_len ja (vr 0))) (λ_ _ _ _=>(vr 0)) (ht:=λ_ _ _ _=>(vb (PW.pt (gP (qM (ua rfl c.units) (vr 0) (vr 1)) (uD (qM (ua rfl c.units) (vr 0) (ke (wF rfl) (vr 1) (qt (jk rfl) rfl Z.z_len ja (vr 2))))))))))
  (jm [2] (qe (jw (qM (YR rfl c.units) (vr 2) (kO qg)) (qh (qo (ix c (vr 0) (ix c (vr 2) qu)))) qW)
  (qh (qo (Gy (qM qbs (vr 1) qu) (ix c (vr 0) (YM Kg qu)) (ix c (vr 0) qu)))))))
abbrev ga:Stmt:=top 44
abbrev JD:List Str:=["_law_words_here", "_law_look_here"]
abbrev vB:List Str:=["_law_words_here", "_law_look_here"]
theorem XO:FnScope JD vB (ql ga):=fsc
noncomputable def JE:je:=(jO (qB [] 1 [1] (jg (qc 0)) (gNm 0) ftT (gj (qd (qr [.vl,.vl] UR (qd (qc 0) (qd (d2 ixD (qc 1) (dC (.int 0))) qE))) (qd (qr [.vl,.vl] UR (qd (qc 0) (qd (d2 ixD (qc 1) (dC (.int 1))) qE))) qE)))))
noncomputable abbrev gb:jM:=kW JD [.val,.val] (JE)
abbrev KL (e0:Ev):=qJ e0 2 "_law_seen" vB [.val,.val] .sh (gb)
theorem XQ (Z:ZtE e0 ca) (T:wH e0 "_law_seen" ga vB) (o:ZE e0):KL e0:=
 qI (k:=1) (own':=[]) (fb:=JE) T XO λcdv f A outer s H E c=>(qh (qo (cmp (qC rfl (vr 0)) (λ_ _ _ _=>(ud (qb (qG o c (by decide) vQ rfl (qb (vr 0) (qb (ix c (vr 1) qu) qg))) (qb (qG o c (by decide) vQ rfl (qb (vr 0) (qb (ix c (vr 1) qu) qg))) qg)))))))
abbrev US:Stmt:=top 46
abbrev qb6:List Str:=["_law_script", "_law_town", "_law_names", "_law_rows", "_law_one", "_law_most", "_law_made", "_law_other", "_law_views"]
abbrev qb7:List Str:=["_law_script"]
theorem sc_law:FnScope qb6 qb7 (ql US):=fsc
noncomputable def qap:je:=(jf (kf 1 (gk qE))
  (jf (kf 2 (qr [.vl,.sl 1,.vl] zZ (qd (qc 0) (yi (qd (dC (.int 6)) qE)))))
  (jf (kf 3 (gk qE))
  (jf (Kb (wS (d1 GM (dC (.int 3))) (dC (.int 3))) (gNm 4)
  (Kb (wS (d1 GM (dC (.int 3))) (dC (.int 3))) (gNm 7)
  (jf (kf 8 (qB [3,1] 1 [] (jg (qr [.vl,.vl] gb (qd (qc 2) (qd (gj (qd (qc 4) (qd (qc 7) qE))) qE)))) (gNm 0) ftT (d1 yO (d1 wR (qc 0)))))
  (kY (yu 3 gp (gj (qd (d1 ww (qc 8)) (qd (gj (qd (qc 4) (qd (qc 7) qE))) qE))))))))
  (jf (kf 5 (d1 Vw (qB [1] 2 [] (jg (qc 3)) (vG 2 (qL (gNm 0) (qL (gNm 1) vF))) ftT (qc 0))))
  (jf (kf 6 (qr [.vl] wk (qd (qc 2) qE)))
  (jf (sIf (qV (d2 neD (qc 6) (qB [1] 2 [5] (jg (qc 3)) (vG 2 (qL (gNm 0) (qL (gNm 1) vF))) (qV (d2 eqD (qc 0) (qc 2))) (qc 1)))) (jO (dC (.bl fk))) jK)
  (jO (d2 eqD (qB [1] 1 [6] (jg (qr [.vl] zM (qd (qc 2) qE))) (gNm 0) (qV (d2 QM (qc 0) (qc 1))) (qc 0)) (gk qE))))))))))
noncomputable abbrev XR:jM:=kW qb6 [.val] (qap)
theorem qb8 {f:Addr} {fd:fW} (Z:ZtE e0 ca) (F:Fun e0.K "law" "law" US f fd) (o:KG e0) (D:ux e0) (Q:QC e0) (S:KL e0):FnOk e0.P e0.w e0.K e0.mg e0.base (CXk e0.P e0.w) 19 f fd qb7 (spD e0.K e0.cv [.val] .sh (XR)):=
 qdS (k:=18) (own':=[]) (fb:=qap) F sc_law rfl (wE rfl) (.inl rfl) (λcdv A outer s H E c=>(qe (sO 1 sc_law.nd (kO qg))
  (qe (se 2 sc_law.nd (cN Q c (qb (vr 0) (sl 1 (qb qu qg)))))
  (qe (sO 3 sc_law.nd (kO qg))
  (qe (va br rfl (xR rfl Z.z_range (YM Kg qu) qu) (gn 4 sc_law.nd)
  (qh (va br rfl (xR rfl Z.z_range (YM Kg qu) qu) (gn 7 sc_law.nd)
  (qe (qaP 8 sc_law.nd (qC rfl (cN S c (qb (vr 2) (qb (ud (qb (vr 4) (qb (vr 7) qg))) qg)))) (λ_ _ _ _=>(ue (Kj rfl) rfl Z.z_tuple yy (qt (Uf rfl) rfl Z.z_sorted Qs (vr 0)))))
  (jm [8] (qh (jx (vP (i:=3) rfl rfl (cc rfl) (by decide) (ud (qb (VA rfl rfl c.units rfl Z.z_len ja rfl Z.z_set UI (vr 8)) (qb (ud (qb (vr 4) (qb (vr 7) qg))) qg)))))))))))
  (jm [3] (qe (se 5 sc_law.nd (qt (Uq rfl rfl) rfl Z.z_max UH (cmp (qC rfl (vr 3)) (λ_ _ _ _=>(vr 0)) (hg:=λ_ _ _ _=>(yL rfl rfl (jl (gC 0) (jl (gC 1) ui)))))))
  (qe (se 6 sc_law.nd (cN D c (qb (vr 2) qg)))
  (qe (jw (qM (YR rfl c.units) (vr 6) (cmp (qC rfl (vr 3)) (λ_ _ _ _=>(vr 1)) (hg:=λ_ _ _ _=>(yL rfl rfl (jl (gC 0) (jl (gC 1) ui)))) (ht:=λ_ _ _ _=>(vb (qM (ua rfl c.units) (vr 0) (vr 2)))))) (qh (qo wZ)) qW)
  (qh (qo (yG (ua rfl c.units) (cmp (qC rfl (cN o c (qb (vr 2) qg))) (λ_ _ _ _=>(vr 0)) (ht:=λ_ _ _ _=>(vb (qM (uk rfl c.units) (vr 0) (vr 1))))) (kO qg))))))))))))) λ_=>.inr rfl
end
end Kx
namespace Kx
open PySem PySem.Spec L2 L2.D2
variable {α:Type}
theorem vJ (xs:List α) (k:Nat):atI xs (k:Int)=xs[k]?:=by
 unfold atI ixN;rw [if_pos (by omega)];by_cases h:k < xs.length;·rw [if_pos (by omega)];simp
 ·rw [if_neg (by omega),bG (by omega)];rfl
theorem qb9 {xs:List α} {i:Int} (a:0<=i) (h1:i < xs.length):∃ d,atI xs i=ff d/\d∈xs:=by
 obtain ⟨k,rfl⟩:=Int.eq_ofNat_of_zero_le a;have h:k < xs.length:=by omega
 exact ⟨xs[k],by rw [vJ,aw h],cx h⟩
theorem big:2000<=sizeLine:=by rw [fE]; decide
abbrev scr (ns:List Int):D:=.lst (ns.map .int)
theorem qaq (ns:List Int) (k:Nat):∃ i,uR [scr ns,.int k]=.ok (.int i,[.non,.non]):=by
 by_cases h:k < ns.length;·refine ⟨ns[k],?_⟩;refine runD_ap.trans ?_;simp [kS,qw,jz,ltD,ixD,qv,h,vJ]
 ·by_cases a:ns=[]
  ·subst a;have b:¬((k:Int) < 0):=by omega
   exact ⟨0,by refine runD_ap.trans ?_; simp [kS,qw,jz,ltD,ixD,qv,eqD,eqN,wo,b]⟩
  ·have hp:0 < ns.length:=List.length_pos_iff.mpr a;have c:k % ns.length < ns.length:=de _ hp;have e:atI (ns.map D.int) ((k:Int) % (ns.length:Int))=ff (.int ns[k % ns.length]):=by rw [show ((k:Int) % (ns.length:Int))=((k % ns.length:Nat):Int) by simp,vJ,aJ,aw c];rfl
   refine ⟨ns[k % ns.length] * 31+k,?_⟩;refine runD_ap.trans ?_;simp [kS,qw,jz,ltD,ixD,qv,eqD,eqN,h,a,Yo,qaI,xB,JR,hp,e,CMul]
variable {many:Int}
theorem XS (ns:List Int) (k:Nat) (h:0 < many):∃ r,0<=r/\r < many/\zS [scr ns,.int k,.int many]=.ok (.int r,[.non,.non,.non]):=by
 obtain ⟨c,a⟩:=qaq ns k;have h1:=d9 (c * 1103515245+7919 * k+12345) (show (2147483647:Int)≠0 by decide);have h2:=dG (c * 1103515245+7919 * k+12345) (show (0:Int) < 2147483647 by decide);generalize hd:(c * 1103515245+7919 * (k:Int)+12345) % 2147483647=d at h1 h2;have b:L2.D2.qaG d 5:=⟨⟨by omega,by omega⟩,by omega,by omega⟩
 refine ⟨d ^ 5 % 2147483647 % 999983 % many,d9 _ (by omega),dG _ h,?_⟩;refine runD_ap.trans ?_;simp [zR,qw,qv,qD,jE,a,qaI,Yo,xB,qdy,JR,h,hd,b,show ∀ j,CMul 7919 j from λj=>.inl ⟨by omega,by omega⟩,show ∀ i,CMul i 1103515245 from λi=>.inr ⟨by omega,by omega⟩]
theorem JF (ns:List Int) (t:List D) (c:0 < many) (ht:t.length < 1000):∃ r,0<=r/\r < many/\xx [scr ns,.lst t,.int many]=.ok (.int r,[.non,.lst (t++[.int 0]),.non]):=by obtain ⟨r,a,h1,h⟩:=XS ns (t.length+1) c;have hl:t.length < sizeLine:=aC (dw ht (by decide)) big;refine ⟨r,a,h1,?_⟩;simp at h;refine runD_ap.trans ?_;simp [JA,qw,qv,qD,jE,uI,gp,jz,hl,h]
theorem UT (ns:List Int) (t xs:List D) (hx:xs≠[]) (ht:t.length < 1000):∃ d,d∈xs/\xy [scr ns,.lst t,.lst xs]=.ok (d,[.non,.lst (t++[.int 0]),.non]):=by have hp:0 < xs.length:=List.length_pos_iff.mpr hx;obtain ⟨r,a,h1,h⟩:=JF ns t (many:=(xs.length:Int)) (by omega) ht;obtain ⟨d,e,hd⟩:=qb9 (xs:=xs) a h1;refine ⟨d,hd,?_⟩;refine runD_ap.trans ?_;simp [JB,qw,qv,qD,jE,jz,h,ixD,e]
def az (c:Nat):Prop:=97<=c/\c<=122
def ZF (w:Str):Prop:=1<=w.length/\w.length<=6/\∀ c∈w.cps.toList,az c
theorem gc (x:Str):x.length=x.cps.size:=rfl
theorem UU (x y:Str):(x++y).cps=x.cps++y.cps:=rfl
def qcO (ls:List Str):Prop:=ls≠[]/\∀ x∈ls,∃ c,az c/\x=⟨#[c]⟩
theorem UV:∀ cs:List Nat,dX (ba "") (cs.map λc=>(⟨#[c]⟩:Str))=⟨cs.toArray⟩:=by
 intro cs;have e:∀ cs:List Nat,Str.join (ba "") (cs.map λc=>(⟨#[c]⟩:Str))=⟨cs.toArray⟩:=by
  intro cs
  induction cs with
  | nil=>rfl
  | cons c cs j=>
   cases cs with
   | nil=>rfl
   | cons d ds=>
    show (⟨#[c]⟩:Str)++ba ""++Str.join (ba "") ((d::ds).map λc=>(⟨#[c]⟩:Str))=_;rw [j];have:((⟨#[c]⟩:Str)++ba ""++(⟨(d::ds).toArray⟩:Str)).cps=(c::d::ds).toArray:=by
     rw [UU,UU];have:(ba "").cps=#[]:=by decide +kernel
     rw [this];simp
    generalize h:(⟨#[c]⟩:Str)++ba ""++(⟨(d::ds).toArray⟩:Str)=x at this;obtain ⟨y⟩:=x;simp only at this;rw [this]
 unfold dX;rw [StrLaws.glued_eq_join];exact e cs
theorem KM:∀ cs:List Nat,((cs.map λc=>(⟨#[c]⟩:Str)).map (·.length)).sum=cs.length
 | []=>rfl
 | c::cs=>by have j:=KM cs;rw [ax,ax,List.sum_cons,j,af];show 1 + _=_;omega
theorem kT:∀ ws:List Str,wO (ws.map D.str)=ff ws
 | []=>rfl
 | w::ws=>by simp [wO,kT ws]
variable {ls:List Str}
theorem QD (ns:List Int) (hl:qcO ls):∀ (ds:List D) (t:List D) (k:Option D),t.length+ds.length < 1000 ->∃ (cs:List Nat) (a:List D) (k':Option D),a.length=t.length+ds.length/\cs.length=ds.length/\(∀ c∈cs,az c) /\
   jn (gNm 0) ftT (qr [.vl,.sl 2,.vl] xy (qd (qc 1) (yi (qd (qc 3) qE)))) ds [k,ff (scr ns),ff (.lst t),ff (.lst (ls.map D.str))]
    = .ok ((cs.map λc=>(⟨#[c]⟩:Str)).map D.str,[k',ff (scr ns),ff (.lst a),ff (.lst (ls.map D.str))])
 | [],t,k,_=>⟨[],t,k,by simp,rfl,by simp,rfl⟩
 | d::ds,t,k,ht=>by
  rw [af] at ht;obtain ⟨e,i,hp⟩:=UT ns t (ls.map D.str) (by simpa using hl.1) (by omega);obtain ⟨x,hx,rfl⟩:=aA.mp i;obtain ⟨c,b,rfl⟩:=hl.2 x hx;obtain ⟨cs,a,k',m,g,z,f⟩:=QD ns hl ds (t++[.int 0]) (ff d) (by rw [ap]; simp; omega);refine ⟨c::cs,a,k',?_,by simp [g],?_,?_⟩;·rw [m,ap,af];simp;omega
  ·intro y h;rcases ae.mp h with rfl | h;·exact b
   ·exact z y h
  ·simp [jn,yN,qD,jE,hp,f]
theorem qar (ns:List Int) (t:List D) (hl:qcO ls) (ht:t.length < 900):∃ w a,ZF w/\a.length<=t.length+8/\zX [scr ns,.lst t,.lst (ls.map D.str),.int 6]=.ok (.str w,[.non,.lst a,.non,.non]):=by
 obtain ⟨r,r0,r1,h⟩:=JF ns t (many:=6) (by omega) (by omega);have n:(yK 0 (1+r).toNat).length=(1+r).toNat:=by simp [yK]
 obtain ⟨cs,a,k',m,d,b,y⟩:=QD ns hl (yK 0 (1+r).toNat) (t++[.int 0]) fg (by rw [n,ap]; simp; omega);rw [n] at m d;rw [ap] at m;simp at m;refine ⟨⟨cs.toArray⟩,a,⟨?_,?_,?_⟩,by omega,?_⟩;·show 1<=cs.toArray.size;simp; omega
 ·show cs.toArray.size<=6;simp; omega
 ·simpa using b
 ·refine runD_ap.trans ?_;have k:-(2 ^ 62:Int)<=1+r/\1+r < 2 ^ 62:=by omega
  have e:=big;have z:(yK 0 (1+r).toNat).length<=sizeLine:=by rw [n]; omega
  have e0:eY (ba "")=0:=by decide +kernel
  have hs:=KM cs;have j:Ud (ba "") (.lst ((cs.map λc=>(⟨#[c]⟩:Str)).map D.str))=.ok (.str ⟨cs.toArray⟩):=by unfold Ud;simp only [kT,UV,hs];rw [if_pos ⟨by simp [e0]; omega,by show cs.toArray.size<=_; simp; omega⟩]
  simp only [JC,qw,uL,vT,qB];simp [-bb,qD,jE,h,uF,xB,-Int.reducePow,k,z,jN,y,jq,j,qv]
theorem wl (w:Str):∀ ws:List Str,yI 7 (.str w) (ws.map D.str)=ff (decide (w∈ws))
 | []=>by simp [yI]
 | a::ws=>by
  have j:=wl w ws;simp only [ax,yI,j];simp [eqN,eqS];by_cases h:a=w;·simp [h]
  ·simp [h,bp h]
def vC (ws:List Str):Prop:=1<=ws.length/\ws.length<=6/\ws.Nodup/\∀ w∈ws,ZF w
abbrev UW:je:=(jf (kf 6 (qr [.vl,.sl 1,.vl,.vl] zX (qd (qc 0) (yi (qd (qc 3) (qd (dC (.int 6)) qE))))))
  (sIf (qV (d2 QM (qc 6) (qc 4))) (kY (yu 4 gp (qc 6))) jK))
theorem uS (ns:List Int) (m:D) (h:qcO ls):∀ (ds:List D) (n:List D) (ws:List Str) (k u:Option D),n.length+8 * ds.length < 900->ws.length+ds.length<=100->ws.Nodup->(∀ w∈ws,ZF w) ->∃ (t:List D) (c:List Str) (k' V:Option D),t.length<=n.length+8 * ds.length/\c.length<=ws.length+ds.length/\ws.length<=c.length/\(ds≠[]->1<=c.length)/\c.Nodup/\(∀ w∈c,ZF w) /\
   kP (gNm 5) UW ds [ff (scr ns),ff (.lst n),ff m,ff (.lst (ls.map D.str)),ff (.lst (ws.map D.str)),k,u]=.ok (.nx,[ff (scr ns),ff (.lst t),ff m,ff (.lst (ls.map D.str)),ff (.lst (c.map D.str)),k',V])
 | [],n,ws,k,u,_,_,hn,hw=>⟨n,ws,k,u,by simp,by simp,by simp,by simp,hn,hw,rfl⟩
 | d::ds,n,ws,k,u,ht,hl,hn,hw=>by
  rw [af] at ht hl;obtain ⟨w,j,W,r,hg⟩:=qar ns n h (by omega);have o:=big;have p:ws.length < sizeLine:=by omega
  by_cases e:w∈ws
  ·obtain ⟨t,c,k',V,v,i,f,y,q,l,g⟩:=uS ns m h ds j ws (ff d) (ff (.str w)) (by omega) (by omega) hn hw;refine ⟨t,c,k',V,by rw [af]; omega,by rw [af]; omega,f,λ_=>?_,q,l,?_⟩;·have:0 < ws.length:=List.length_pos_of_mem e;omega
   ·rw [<-g];simp [kP,UW,qD,jE,hg,QM,Vg,inD,wl,e]
  ·obtain ⟨t,c,k',V,v,i,f,y,q,l,g⟩:=uS ns m h ds j (ws++[w]) (ff d) (ff (.str w)) (by omega) (by rw [ap]; simp; omega) (dL.mpr ⟨hn,by simp,λa s b o=>by
    rw [aH.mp o];exact λz=>e (z ▸ s)⟩) (λx hx=>by
    rcases bn.mp hx with hx | hx;·exact hw x hx
    ·rw [aH.mp hx];exact W)
   rw [ap] at i f;simp at i f;refine ⟨t,c,k',V,by rw [af]; omega,by rw [af]; omega,by omega,λ_=>by omega,q,l,?_⟩;rw [<-g];simp [kP,UW,qD,jE,hg,QM,Vg,inD,wl,e,uI,gp,p]
noncomputable def LETS:List (List Str):=[["a", "b"],["a", "b", "c"],["a", "b", "c", "d"],["k", "m", "z", "a", "e"]]
theorem qas:∀ ls∈LETS,qcO ls:=by
 have h1:∀ ls∈LETS,∀ x∈ls,x∈(["a", "b", "c", "d", "k", "m", "z", "e"]:List Str):=by decide +kernel
 have h2:∀ ls∈LETS,ls≠[]:=by decide +kernel
 intro ls h;refine ⟨h2 ls h,λx hx=>?_⟩;have i:=h1 ls h x hx;simp only [ae,bH,or_false] at i;rcases i with rfl | rfl | rfl | rfl | rfl | rfl | rfl | rfl;·exact ⟨97,by unfold az; decide,by decide +kernel⟩
 ·exact ⟨98,by unfold az; decide,by decide +kernel⟩
 ·exact ⟨99,by unfold az; decide,by decide +kernel⟩
 ·exact ⟨100,by unfold az; decide,by decide +kernel⟩
 ·exact ⟨107,by unfold az; decide,by decide +kernel⟩
 ·exact ⟨109,by unfold az; decide,by decide +kernel⟩
 ·exact ⟨122,by unfold az; decide,by decide +kernel⟩
 ·exact ⟨101,by unfold az; decide,by decide +kernel⟩
theorem XT (ns:List Int) (t:List D) (ht:t.length < 700):∃ ws a,vC ws/\a.length<=t.length+50/\zZ [scr ns,.lst t,.int 6]=.ok (.tup (ws.map D.str),[.non,.lst a,.non]):=by
 obtain ⟨d,hd,hp⟩:=UT ns t (LETS.map λl=>.lst (l.map D.str)) (by simp [LETS]) (by omega);obtain ⟨ls,h,rfl⟩:=aA.mp hd;have hl:=qas ls h;obtain ⟨r,r0,r1,b⟩:=JF ns (t++[.int 0]) (many:=6) (by omega) (by rw [ap]; simp; omega);have n:(yK 0 (1+r).toNat).length=(1+r).toNat:=by simp [yK]
 obtain ⟨a,c,k',V,m,f,p,y,q,j,k⟩:=uS ns (.int 6) hl (yK 0 (1+r).toNat) (t++[.int 0]++[.int 0]) [] fg fg (by rw [n,ap,ap]; simp; omega) (by rw [n]; simp; omega) dE (by simp);have e:yK 0 (1+r).toNat≠[]:=λz=>by rw [z] at n;simp at n;omega
 refine ⟨c,a,⟨y e,?_,q,j⟩,?_,?_⟩;·rw [n] at f;simp at f;omega
 ·rw [n,ap,ap] at m;simp at m;omega
 ·refine runD_ap.trans ?_;have i:-(2 ^ 62:Int)<=1+r/\1+r < 2 ^ 62:=by omega
  have o:=big;have g:4<=sizeLine:=by omega
  simp only [cg,List.cons_append,dq,bv] at k b;simp only [LETS,ax,bv] at hp;simp [zY,qw,qv,qD,jE,hp,b,uF,xB,-Int.reducePow,i,g,k,yO]
def Ys (p q:Int):Prop:=(-3<=p/\p<=2)/\-3<=q/\q<=2
noncomputable def xY (n:Nat) (p:Int):Nat:=(max 0 (min (if 0<=p then p else (n:Int)+p) ((n:Int) - 1))).toNat
noncomputable def Yp (w:Str) (p:Int):Str:=⟨#[(w.cps.toList[xY w.length p]?).getD 0]⟩
variable {w:Str}
theorem yf (h:ZF w) (p:Int):kc [.str w,.int p]=.ok (.str (Yp w p),[.non,.non]):=by
 have h1:=h.1;have a:(w.cps.toList.length:Int)=w.length:=by simp [gc]
 have key:∀ q:Int,q=(if 0<=p then p else (w.length:Int)+p)->atI w.cps.toList (if 0 < (if (w.length:Int) - 1 < q then (w.length:Int) - 1 else q) then (if (w.length:Int) - 1 < q then (w.length:Int) - 1 else q) else 0)=ff ((w.cps.toList[xY w.length p]?).getD 0):=by
  intro q hq;have e:(if 0 < (if (w.length:Int) - 1 < q then (w.length:Int) - 1 else q) then (if (w.length:Int) - 1 < q then (w.length:Int) - 1 else q) else 0)=(xY w.length p:Int):=by
   unfold xY;rw [<-hq];have:1<=(w.length:Int):=by omega
   generalize (w.length:Int)=n at *;split <;> split <;> omega
  have hl:xY w.length p < w.cps.toList.length:=by
   have Z:w.cps.toList.length=w.length:=by simp [gc]
   rw [Z];unfold xY;omega
  rw [e,vJ,aw hl];rfl
 refine runD_ap.trans ?_;by_cases hp:0<=p;·have k:=key p (by rw [if_pos hp]);simp [vj,qw,qv,geD,JR,hp,qcF,qcG,qaH,jz,ixD,k,Yp]
 ·have k:=key (w.length+p) (by rw [if_neg hp]);simp [vj,qw,qv,geD,JR,hp,qcF,qcG,qaH,xB,jz,ixD,k,Yp]
theorem UX (h:ZF w):(∃ a,w=⟨#[a]⟩)\/(∃ a b,w=⟨#[a,b]⟩)\/(∃ a b c,w=⟨#[a,b,c]⟩)\/(∃ a b c d,w=⟨#[a,b,c,d]⟩)\/(∃ a b c d e,w=⟨#[a,b,c,d,e]⟩)\/∃ a b c d e f,w=⟨#[a,b,c,d,e,f]⟩:=by
 obtain ⟨⟨l⟩⟩:=w;have h1:1<=l.length:=h.1;have h2:l.length<=6:=h.2.1
 match l,h1,h2 with
 | [a],_,_=>exact .inl ⟨a,rfl⟩
 | [a,b],_,_=>exact .inr (.inl ⟨a,b,rfl⟩)
 | [a,b,c],_,_=>exact .inr (.inr (.inl ⟨a,b,c,rfl⟩))
 | [a,b,c,d],_,_=>exact .inr (.inr (.inr (.inl ⟨a,b,c,d,rfl⟩)))
 | [a,b,c,d,e],_,_=>exact .inr (.inr (.inr (.inr (.inl ⟨a,b,c,d,e,rfl⟩))))
 | [a,b,c,d,e,f],_,_=>exact .inr (.inr (.inr (.inr (.inr ⟨a,b,c,d,e,f,rfl⟩))))
variable {p:Int}
set_option maxHeartbeats 0 in
theorem QE (h:ZF w) (g:-3<=p) (h1:p<=2):UR [.str w,.int p]=.ok (.str (Yp w p),[.non,.non]):=by
 have hp:p=-3\/p=-2\/p=-1\/p=0\/p=1\/p=2:=by omega
 rcases UX h with ⟨a,rfl⟩ | ⟨a,b,rfl⟩ | ⟨a,b,c,rfl⟩ | ⟨a,b,c,d,rfl⟩ | ⟨a,b,c,d,e,rfl⟩ | ⟨a,b,c,d,e,f,rfl⟩ <;> rcases hp with rfl | rfl | rfl | rfl | rfl | rfl <;> kernel_rfl
variable {own:List Nat}
theorem kU (ρc:Sl):∀ (cap:List Nat) (n:Nat) (ρ:Sl),(∀ k∈cap,k∉own)->jq own ρc n cap ρ=ρ
 | [],n,ρ,_=>rfl
 | k::cap,n,ρ,h=>by unfold jq;rw [if_neg (h k (aj ..))];exact kU ρc cap (n+1) ρ λx hx=>h x (ac _ hx)
variable {caps:Sl}
theorem qca {fe:qO} {ft:ub} {P:D->Bool} {F:D->D}:∀ (ds:List D) (x:Option D),(∀ d∈ds,ft (ff d::caps)=.ok (P d,ff d::caps))->(∀ d∈ds,P d=fm->fe (ff d::caps)=.ok (F d,ff d::caps))->∃ m,jn (gNm 0) ft fe ds (x::caps)=.ok ((ds.filter P).map F,m::caps)
 | [],x,_,_=>⟨x,rfl⟩
 | d::ds,x,h,h'=>by
  obtain ⟨m,e⟩:=qca ds (ff d) (λd' hd=>h d' (ac _ hd)) λd' hd=>h' d' (ac _ hd);refine ⟨m,?_⟩;have h1:=h d (aj ..);have h2:=h' d (aj ..);cases q:P d with
  | true=>simp [jn,yN,h1,q,h2 q,e]
  | false=>simp [jn,yN,h1,q,e]
variable {cap:List Nat} {ρ ρ1:Sl} {ds:List D}
theorem UY {fi:vI} {fe:qO} {ft:ub} (P:D->Bool) (F:D->D) (l:∀ k∈cap,k∉own) (h:fi ρ=.ok (ds,ρ1)) (hl:ds.length<=sizeLine)
  (ht:∀ d∈ds,ft (ff d::cap.map λk=>(ρ1[k]?).getD fg)=.ok (P d,ff d::cap.map λk=>(ρ1[k]?).getD fg)) (i:∀ d∈ds,P d=fm->fe (ff d::cap.map λk=>(ρ1[k]?).getD fg)=.ok (F d,ff d::cap.map λk=>(ρ1[k]?).getD fg)) :
  qB own 1 cap fi (gNm 0) ft fe ρ=.ok (.lst ((ds.filter P).map F),ρ1):=by
 obtain ⟨m,e⟩:=qca ds fg ht i;unfold qB;rw [h];simp only [jo];rw [if_pos hl,show jN 1 cap ρ1=fg::cap.map λk=>(ρ1[k]?).getD fg from rfl,e];simp only [jo,kU _ _ _ _ l]
theorem UZ {fi:vI} {fe:qO} (F:D->D) (l:∀ k∈cap,k∉own) (h:fi ρ=.ok (ds,ρ1)) (hl:ds.length<=sizeLine) (ht:∀ d∈ds,fe (ff d::cap.map λk=>(ρ1[k]?).getD fg)=.ok (F d,ff d::cap.map λk=>(ρ1[k]?).getD fg)):qB own 1 cap fi (gNm 0) ftT fe ρ=.ok (.lst (ds.map F),ρ1):=by have e:=UY (ft:=ftT) (λ_=>fm) F l h hl (λ_ _=>rfl) λd hd _=>ht d hd;rw [bE.mpr λ_ _=>rfl] at e;exact e
theorem uz {fi:vI} {fe:qO} (F:D->D) (h:fi ρ=.ok (ds,ρ1)) (hl:ds.length<=sizeLine) (ht:∀ d∈ds,fe (ff d::cap.map λk=>(ρ1[k]?).getD fg)=.ok (F d,ff d::cap.map λk=>(ρ1[k]?).getD fg)):qB [] 1 cap fi (gNm 0) ftT fe ρ=.ok (.lst (ds.map F),ρ1):=UZ F (λ_ _=>by simp) h hl ht
theorem ZG {fe:qO} {ft:ub} {P:D×D->Bool} {F:D×D->D}:∀ (ps:List (D×D)) (x y:Option D),(∀ p∈ps,ft (ff p.1::ff p.2::caps)=.ok (P p,ff p.1::ff p.2::caps))->(∀ p∈ps,P p=fm->fe (ff p.1::ff p.2::caps)=.ok (F p,ff p.1::ff p.2::caps)) ->∃ m a,jn (vG 2 (qL (gNm 0) (qL (gNm 1) vF))) ft fe (ps.map λp=>.tup [p.1,p.2]) (x::y::caps)=.ok ((ps.filter P).map F,m::a::caps)
 | [],x,y,_,_=>⟨x,y,rfl⟩
 | p::ps,x,y,h,h'=>by
  obtain ⟨m,a,e⟩:=ZG ps (ff p.1) (ff p.2) (λd' hd=>h d' (ac _ hd)) λd' hd=>h' d' (ac _ hd);refine ⟨m,a,?_⟩;have h1:=h p (aj ..);have h2:=h' p (aj ..);cases q:P p with
  | true=>simp [jn,yN,vG,qL,vF,h1,q,h2 q,e]
  | false=>simp [jn,yN,vG,qL,vF,h1,q,e]
theorem JG {fi:vI} {fe:qO} {ft:ub} {ps:List (D×D)} (P:D×D->Bool) (F:D×D->D) (l:∀ k∈cap,k∉own) (h:fi ρ=.ok (ps.map λp=>.tup [p.1,p.2],ρ1)) (hl:ps.length<=sizeLine)
  (ht:∀ p∈ps,ft (ff p.1::ff p.2::cap.map λk=>(ρ1[k]?).getD fg)=.ok (P p,ff p.1::ff p.2::cap.map λk=>(ρ1[k]?).getD fg))
  (i:∀ p∈ps,P p=fm->fe (ff p.1::ff p.2::cap.map λk=>(ρ1[k]?).getD fg)=.ok (F p,ff p.1::ff p.2::cap.map λk=>(ρ1[k]?).getD fg)) :
  qB own 2 cap fi (vG 2 (qL (gNm 0) (qL (gNm 1) vF))) ft fe ρ=.ok (.lst ((ps.filter P).map F),ρ1):=by
 obtain ⟨m,y,e⟩:=ZG ps fg fg ht i;unfold qB;rw [h];simp only [jo];rw [if_pos (by rw [ah]; exact hl),show jN 2 cap ρ1=fg::fg::cap.map λk=>(ρ1[k]?).getD fg from rfl,e];simp only [jo,kU _ _ _ _ l]
noncomputable def jy (ws:List Str) (p q:Int):List (Str×Str):=ws.map λw=>(Yp w p,Yp w q)
noncomputable def qm (l:List (Str×Str)):List D:=l.map λx=>.tup [.str x.1,.str x.2]
theorem jU {n:Nat} (h:n<=2000):n<=sizeLine:=bu h big
abbrev Wd (ws:List Str):D:=.tup (ws.map D.str)
abbrev Ld (p q:Int):D:=.tup [.int p,.int q]
variable {ws:List Str} {q:Int}
theorem xZ {G:jM} (h:vC ws) (a:∀ w∈ws,G [.str w,.int p]=.ok (.str (Yp w p),[.non,.non])/\G [.str w,.int q]=.ok (.str (Yp w q),[.non,.non])):qB [] 1 [1] (jg (qc 0)) (gNm 0) ftT (gj (qd (qr [.vl,.vl] G (qd (qc 0) (qd (d2 ixD (qc 1) (dC (.int 0))) qE))) (qd (qr [.vl,.vl] G (qd (qc 0) (qd (d2 ixD (qc 1) (dC (.int 1))) qE))) qE))) [ff (Wd ws),ff (Ld p q)]
   = .ok (.lst (qm (jy ws p q)),[ff (Wd ws),ff (Ld p q)]):=by
 have e:=uz (cap:=[1]) (fi:=jg (qc 0)) (ρ:=[ff (Wd ws),ff (Ld p q)]) (ρ1:=[ff (Wd ws),ff (Ld p q)]) (ds:=ws.map D.str)
  (fe:=(gj (qd (qr [.vl,.vl] G (qd (qc 0) (qd (d2 ixD (qc 1) (dC (.int 0))) qE))) (qd (qr [.vl,.vl] G (qd (qc 0) (qd (d2 ixD (qc 1) (dC (.int 1))) qE))) qE))))
  (λd=>match d with | .str w=>.tup [.str (Yp w p),.str (Yp w q)] | d=>d) (by simp [qZ]) (by rw [ah]; exact jU (by have:=h.2.1; omega)) (λd hd=>by obtain ⟨w,c,rfl⟩:=aA.mp hd;obtain ⟨h1,h2⟩:=a w c;have z:2<=sizeLine:=jU (by omega);simp [qD,jE,ixD,atI,ixN,h1,h2,z])
 rw [e];simp [qm,jy]
theorem JH (h:vC ws) (hl:Ys p q):gb [Wd ws,Ld p q]=.ok (.lst (qm (jy ws p q)),[.non,.non]):=by
 refine runD_ap.trans ?_;have e:=xZ (G:=UR) h (p:=p) (q:=q) λw c=>⟨QE (h.2.2.2 w c) hl.1.1 hl.1.2,QE (h.2.2.2 w c) hl.2.1 hl.2.2⟩
 unfold JE;rw [uL,show qw JD [Wd ws,Ld p q]=[ff (Wd ws),ff (Ld p q)] from rfl,e];rfl
def Pl:D->Prop
 | .raw _=>False
 | .xcp _=>False
 | .ins _ _=>False
 | .dct _=>False
 | .at_ _ _=>False
 | _=>True
@[simp] theorem kk1:jB "NoneType" "int"=ff false:=by decide +kernel
@[simp] theorem kk2:jB "bool" "int"=ff true:=by decide +kernel
@[simp] theorem kk3:jB "int" "int"=ff true:=by decide +kernel
@[simp] theorem kk4:jB "str" "int"=ff false:=by decide +kernel
@[simp] theorem kk5:jB "tuple" "int"=ff false:=by decide +kernel
@[simp] theorem kk6:jB "list" "int"=ff false:=by decide +kernel
@[simp] theorem kb1:jB "NoneType" "bool"=ff false:=by decide +kernel
@[simp] theorem kb2:jB "bool" "bool"=ff true:=by decide +kernel
@[simp] theorem kb3:jB "int" "bool"=ff false:=by decide +kernel
@[simp] theorem kb4:jB "str" "bool"=ff false:=by decide +kernel
@[simp] theorem kb5:jB "tuple" "bool"=ff false:=by decide +kernel
@[simp] theorem kb6:jB "list" "bool"=ff false:=by decide +kernel
@[simp] theorem ks1:jB "NoneType" "str"=ff false:=by decide +kernel
@[simp] theorem ks2:jB "bool" "str"=ff false:=by decide +kernel
@[simp] theorem ks3:jB "int" "str"=ff false:=by decide +kernel
@[simp] theorem ks4:jB "str" "str"=ff true:=by decide +kernel
@[simp] theorem ks5:jB "tuple" "str"=ff false:=by decide +kernel
@[simp] theorem ks6:jB "list" "str"=ff false:=by decide +kernel
@[simp] theorem kt1:jB "NoneType" "tuple"=ff false:=by decide +kernel
@[simp] theorem kt2:jB "bool" "tuple"=ff false:=by decide +kernel
@[simp] theorem kt3:jB "int" "tuple"=ff false:=by decide +kernel
@[simp] theorem kt4:jB "str" "tuple"=ff false:=by decide +kernel
@[simp] theorem kt5:jB "tuple" "tuple"=ff true:=by decide +kernel
@[simp] theorem kt6:jB "list" "tuple"=ff false:=by decide +kernel
noncomputable def isInt:D->Bool
 | .int _=>fm
 | .bl _=>fm
 | _=>fk
noncomputable def ZH:D->Bool
 | .str x=>decide (x.length=1)&&(!wL x "a"&&!wL "z" x)
 | _=>fk
noncomputable def ZI (lo hi:Int):D->Bool
 | .int i=>decide (lo<=i)&&decide (i<=hi)
 | _=>fk
variable {d:D}
theorem QF (h:Pl d):vd [d]=.ok (.bl (ZH d),[.non]):=by
 refine runD_ap.trans ?_;cases d <;> first
  | exact h.elim
  | (simp [kb,qw,qv,zk,tyN,ZH]; done)
  | skip
 rename_i x;by_cases h1:x.length=1
 ·have c:(x.length:Int)=1:=by omega
  cases h2:wL x "a" <;> simp [kb,qw,zk,tyN,jz,eqD,eqN,eqS,leD,qv,ZH,h1,c,h2]
 ·have c:¬(x.length:Int)=1:=by omega
  simp [kb,qw,zk,tyN,jz,eqD,eqN,eqS,leD,qv,ZH,h1,c]
theorem uA (h:Pl d) (lo hi:Int):ko [d,.int lo,.int hi]=.ok (.bl (ZI lo hi d),[.non,.non,.non]):=by
 refine runD_ap.trans ?_;cases d <;> first
  | exact h.elim
  | (simp [kn,qw,qv,zk,tyN,ZI,yq]; done)
  | skip
 rename_i i;by_cases h1:lo<=i <;> simp [kn,qw,zk,tyN,leD,qv,ZI,yq,h1]
theorem qcb {c:Nat} (h:az c):ZH (.str ⟨#[c]⟩)=true:=by
 have g:(ba "a").cps.toList=[97]:=by decide +kernel
 have z:(ba "z").cps.toList=[122]:=by decide +kernel
 obtain ⟨h1,h2⟩:=h;have i:¬([c]:List Nat) < [97]:=by rw [List.cons_lt_cons_iff];simp;omega
 have l:¬([122]:List Nat) < [c]:=by rw [List.cons_lt_cons_iff];simp;omega
 have e1:wL ⟨#[c]⟩ (ba "a")=false:=by unfold wL;rw [g];exact decide_eq_false i
 have e:wL (ba "z") ⟨#[c]⟩=false:=by unfold wL;rw [z];exact decide_eq_false l
 simp [ZH,gc,e1,e]
theorem za (f:α->Bool):∀ l:List α,uW (l.map λx=>.bl (f x))=ff (l.map f)
 | []=>rfl
 | a::l=>by have j:=za f l;simp [uW,j]
theorem yC (f:α->Bool) (l:List α):VI (.lst (l.map λx=>.bl (f x)))=.ok (.bl (l.all f)):=by simp only [VI,za];simp [List.all_map,Function.comp_def]
theorem VF (h:ZF w):uo [.str w]=.ok (.bl fm,[.non]):=by
 refine runD_ap.trans ?_;have e:=uz (cap:=[]) (fi:=jg (qc 0)) (ρ:=[ff (.str w)]) (ρ1:=[ff (.str w)]) (ds:=Qd w) (fe:=qr [.vl] vd (qd (qc 0) qE)) (λd=>.bl (ZH d)) (by simp [qZ]) (by
   have:=h.2.1;simp [Qd,<-gc];exact jU (by omega)) (λd hd=>by
   obtain ⟨c,a,rfl⟩:=aA.mp hd;have h1:=QF (d:=.str ⟨#[c]⟩) trivial;simp [qD,jE,h1])
 have g:(Qd w).all ZH=true:=by rw [aO];intro d hd;obtain ⟨c,a,rfl⟩:=aA.mp hd;exact qcb (h.2.2 c a)
 have h1:(1:Int)<=w.length:=by have:=h.1; omega
 have b:(w.length:Int)<=6:=by have:=h.2.1; omega
 simp only [xh,qw,ax,bv,af,aM,Nat.reduceAdd,dA,bZ,bt];simp [zk,tyN,yq,jz,leD,h1,b,e,yC,g,qv]
theorem xz:∀ (ws ks:List Str),ws.Nodup->(∀ x∈ws,x∉ks)->ws.foldl Kp ks=ks++ws
 | [],ks,_,_=>by simp
 | w::ws,ks,hn,hd=>by
  have h1:=aU.mp hn;rw [d8,show Kp ks w=ks++[w] from if_neg (hd w (aj ..)),xz ws (ks++[w]) h1.2 ?_];·simp
  ·intro x hx z;rcases bn.mp z with z | z;·exact hd x (ac _ hx) z
   ·rw [aH.mp z] at hx;exact h1.1 hx
theorem JI (h:vC ws):uN [.tup (ws.map D.str)]=.ok (.bl fm,[.non]):=by
 refine runD_ap.trans ?_;have e:=uz (cap:=[]) (fi:=jg (qc 0)) (ρ:=[ff (.tup (ws.map D.str))]) (ρ1:=[ff (.tup (ws.map D.str))]) (ds:=ws.map D.str) (fe:=qr [.vl] uo (qd (qc 0) qE)) (λd=>.bl fm) (by simp [qZ]) (by
   rw [ah];exact jU (by have:=h.2.1; omega)) (λd hd=>by
   obtain ⟨w,c,rfl⟩:=aA.mp hd;have h1:=VF (h.2.2.2 w c);simp [qD,jE,h1])
 have h1:(1:Int)<=ws.length:=by have:=h.1; omega
 have b:(ws.length:Int)<=6:=by have:=h.2.1; omega
 have f:ws.foldl Kp []=ws:=by rw [xz ws [] h.2.2.1 (by simp)]; simp
 have a:ws.length < 4000:=by omega
 have g:=yC (λ_:D=>fm) (ws.map D.str);simp only [uM,qw,ax,bv,af,aM,Nat.reduceAdd,dA,bZ,bt];simp [-bb,zk,tyN,yq,jz,leD,h1,b,e,g,qv,yX,vS,kT,f,a,eqD,eqN,eqS]
theorem wK (w:vC ws):jR [.tup (ws.map D.str)]=.ok (.non,[.non]):=by refine runD_ap.trans ?_;have h:=JI w;simp [vf,qw,qv,qD,jE,h,yq]
theorem VG (hl:Ys p q):xm [.tup [.int p,.int q]]=.ok (.bl fm,[.non]):=by
 refine runD_ap.trans ?_;have e:=uz (cap:=[]) (fi:=jg (qc 0)) (ρ:=[ff (.tup [.int p,.int q])]) (ρ1:=[ff (.tup [.int p,.int q])]) (ds:=[.int p,.int q]) (fe:=qr [.vl,.vl,.vl] ko (qd (qc 0) (qd (dC (.int (-3))) (qd (dC (.int 2)) qE)))) (λd=>.bl (ZI (-3) 2 d)) (by simp [qZ]) (jU (by simp)) (λd hd=>by
   have hd:d=.int p\/d=.int q:=by simpa using hd
   have h1:=uA (d:=.int p) trivial (-3) 2;have h2:=uA (d:=.int q) trivial (-3) 2;rcases hd with rfl | rfl;·simp [qD,jE,h1]
   ·simp [qD,jE,h2])
 have a:ZI (-3) 2 (.int p)=true:=by simp [ZI]; exact hl.1
 have f:ZI (-3) 2 (.int q)=true:=by simp [ZI]; exact hl.2
 simp only [xl,qw,ax,bv,af,aM,Nat.reduceAdd,dA,bZ,bt];simp [zk,tyN,yq,jz,neD,eqN,eqS,e,VI,uW,a,f,qv]
theorem ge (hl:Ys p q):vW [.tup [.int p,.int q]]=.ok (.non,[.non]):=by refine runD_ap.trans ?_;have h:=VG hl;simp [vV,qw,qv,qD,jE,h,yq]
theorem KN (h:vC ws) (hl:Ys p q):xo [Wd ws,Ld p q]=.ok (.lst (qm (jy ws p q)),[.non,.non]):=by
 refine runD_ap.trans ?_;have e:=xZ (G:=kc) h (p:=p) (q:=q) λw c=>⟨yf (h.2.2.2 w c) p,yf (h.2.2.2 w c) q⟩
 have k:=wK h;have c2:=ge hl;simp only [Js,qw,ax,bv,af,aM,Nat.reduceAdd,dA,bZ,bt];simp [qD,jE,k,c2,e,qv]
noncomputable def LS (l:List (Str×Str)):List Str:=kJ ((l.map (·.1)++l.map (·.2)).foldl Kp [])
variable {l:List (Str×Str)}
theorem gf (hl:l.length<=20):ku [.lst (qm l)]=.ok (.lst ((LS l).map D.str),[.non]):=by
 refine runD_ap.trans ?_;have z:(qm l).length<=sizeLine:=by unfold qm;rw [ah];exact jU (by omega)
 have e1:=uz (cap:=[]) (fi:=jg (qc 0)) (ρ:=[ff (.lst (qm l))]) (ρ1:=[ff (.lst (qm l))]) (ds:=qm l) (fe:=d2 ixD (qc 0) (dC (.int 0))) (λd=>match d with | .tup [a,b]=>a | d=>d) (by simp [qZ]) z (λd hd=>by obtain ⟨x,hx,rfl⟩:=aA.mp hd;simp [ixD,atI,ixN]);have i:=uz (cap:=[]) (fi:=jg (qc 0)) (ρ:=[ff (.lst (qm l))]) (ρ1:=[ff (.lst (qm l))]) (ds:=qm l) (fe:=d2 ixD (qc 0) (dC (.int 1))) (λd=>match d with | .tup [a,b]=>b | d=>d) (by simp [qZ]) z (λd hd=>by obtain ⟨x,hx,rfl⟩:=aA.mp hd;simp [ixD,atI,ixN]);have f1:(qm l).map (λd=>match d with | .tup [a,b]=>a | d=>d)=(l.map (·.1)).map D.str:=by simp [qm]
 have f2:(qm l).map (λd=>match d with | .tup [a,b]=>b | d=>d)=(l.map (·.2)).map D.str:=by simp [qm]
 rw [f1] at e1;rw [f2] at i;have hs:l.length+l.length<=sizeLine:=jU (by omega);have j:l.length+l.length < 64:=by omega
 simp only [vX,qw,ax,bv,af,aM,Nat.reduceAdd,dA,bZ,bt,uL,vT,Xn,e1,i,jo];simp only [xB,ah,if_pos hs,Jh,jo,<-cI,yv,vS,kT,ap,if_pos j];simp [qv,LS]
theorem at0 {a:D} {l:List D}:atI (a::l) 0=ff a:=by have:=vJ (a::l) 0;simpa using this
theorem at1 {a b:D} {l:List D}:atI (a::b::l) 1=ff b:=by have:=vJ (a::b::l) 1;simpa using this
theorem qH {ms:List PM} {f g:je} (h:f ρ=.ok (.nx,ρ1)):Ua ms (jf f g ρ)=Ua ms (g ρ1):=by rw [zp,h];rfl
abbrev pD (x:Str×Str):D:=.tup [.str x.1,.str x.2]
noncomputable def al (x y:Str×Str):Bool:=decide (x=y)||decide (x=(y.2,y.1))
variable {x y:Str×Str}
theorem al_iff:al x y=fm↔x=y\/x=(y.2,y.1):=by simp [al]
theorem qat (x:Str×Str):al x x=true:=al_iff.mpr (.inl rfl)
theorem qau (h:al x y=fm):al y x=true:=by
 rcases al_iff.mp h with rfl | rfl;·exact h
 ·exact al_iff.mpr (.inr rfl)
noncomputable def pa (l:List (Str×Str)) (i:Nat):Str×Str:=(l[i]?).getD ("", "")
variable {i:Nat}
theorem qcc (h:i < l.length):(qm l)[i]?=ff (pD (pa l i)):=by unfold qm pa;rw [aJ,aw h];rfl
noncomputable def grp (l:List (Str×Str)) (i:Nat):List Nat:=(aB l.length).filter λj=>al (pa l i) (pa l j)
noncomputable def KO (l:List (Str×Str)) (i:Nat):Bool:=(aB i).all λj=>!al (pa l i) (pa l j)
noncomputable def AL (l:List (Str×Str)):List (List Nat):=((aB l.length).filter (KO l)).map (grp l)
theorem fst1_iff:KO l i=fm↔∀ j,j < i->al (pa l i) (pa l j)=false:=by unfold KO;rw [aO];simp
theorem XU (h:i < l.length):∃ k rest,grp l i=k::rest/\(k=i↔KO l i=fm):=by
 have e:aB l.length=aB i++i::List.range' (i+1) (l.length - i - 1):=by rw [List.range_eq_range',List.range_eq_range',<-List.range'_succ];have:=List.range'_append_1 (s:=0) (m:=i) (n:=l.length - i - 1+1);rw [Nat.zero_add] at this;rw [this];congr 1;omega
 unfold grp;rw [e,List.filter_append,b6 (p:=λj=>al (pa l i) (pa l j)) (qat _)];cases q:(aB i).filter λj=>al (pa l i) (pa l j) with
 | nil=>refine ⟨i,_,rfl,λ_=>fst1_iff.mpr λj D=>?_,λ_=>rfl⟩;have:=List.filter_eq_nil_iff.mp q j (aK.mpr D);simpa using this
 | cons k t=>
  have a:k∈(aB i).filter λj=>al (pa l i) (pa l j):=by rw [q]; exact aj ..
  obtain ⟨h1,h2⟩:=bL.mp a;have h1:=aK.mp h1;refine ⟨k,_,rfl,λz=>absurd z (by omega),λz=>?_⟩;have:=fst1_iff.mp z k h1;rw [this] at h2;cases h2
noncomputable def gD (g:List Nat):D:=.lst (g.map λ(j:Nat)=>.int j)
theorem QG (x y:Str×Str):jD [pD x,pD y]=.ok (.bl (al x y),[.non,.non]):=by
 obtain ⟨a,b⟩:=x;obtain ⟨c,d⟩:=y;refine runD_ap.trans ?_;have e:2<=sizeLine:=jU (by omega);by_cases h1:a=c/\b=d;·obtain ⟨rfl,rfl⟩:=h1;simp [vx,qw,qv,pD,eqD,eqN,wo,eqS,al]
 ·have e1:(a == c&&b == d)=false:=by
   cases q:(a == c&&b == d) with
   | false=>rfl
   | true=>simp at q; exact absurd q h1
  have i:¬((a,b)=(c,d)):=λz=>h1 ⟨congrArg Prod.fst z,congrArg Prod.snd z⟩;have E:(a == d&&b == c)=decide ((a,b)=(d,c)):=by
   by_cases q:(a,b)=(d,c)
   ·rw [decide_eq_true q];cases q;simp
   ·rw [decide_eq_false q];cases g:(a == d&&b == c) with
    | false=>rfl
    | true=>simp at g; exact absurd (by rw [g.1,g.2]) q
  have h:al (a,b) (c,d)=decide ((a,b)=(d,c)):=by unfold al;rw [decide_eq_false i];rfl
  rw [h,<-E];simp [vx,qw,qv,pD,eqD,eqN,wo,eqS,e1,ixD,atI,ixN,e]
theorem gh:Qm (qm l)=(aB l.length).map λ(j:Nat)=>.tup [.int j,pD (pa l j)]:=by
 refine dN λj=>?_;unfold Qm;rw [aJ,aJ,List.getElem?_zipIdx];by_cases h:j < l.length;·rw [qcc h,List.getElem?_range h];simp
 ·have n:(qm l).length=l.length:=by simp [qm]
  rw [bG (by omega),bG (by simp; omega)];rfl
abbrev qdD:je:=(jf (kf 6 (qB [3] 2 [5] (xE (qc 2)) (vG 2 (qL (gNm 0) (qL (gNm 1) vF))) (yh (qr [.vl,.vl] jD (qd (qc 2) (qd (qc 1) qE)))) (qc 0)))
  (sIf (qV (d2 eqD (d2 ixD (qc 6) (dC (.int 0))) (qc 4))) (kY (yu 3 gp (qc 6))) jK))
theorem XV (hl:l.length<=100) {a b c d x:Option D} (o:5∉own):qB own 2 [5] (xE (qc 2)) (vG 2 (qL (gNm 0) (qL (gNm 1) vF))) (yh (qr [.vl,.vl] jD (qd (qc 2) (qd (qc 1) qE)))) (qc 0) [a,b,ff (.lst (qm l)),c,d,ff (pD (pa l i)),x]
  = .ok (gD (grp l i),[a,b,ff (.lst (qm l)),c,d,ff (pD (pa l i)),x]):=by
 have e:=JG (own:=own) (cap:=[5]) (fi:=xE (qc 2)) (ft:=yh (qr [.vl,.vl] jD (qd (qc 2) (qd (qc 1) qE)))) (fe:=qc 0) (ρ:=[a,b,ff (.lst (qm l)),c,d,ff (pD (pa l i)),x]) (ρ1:=[a,b,ff (.lst (qm l)),c,d,ff (pD (pa l i)),x])
  (ps:=(aB l.length).map λ(j:Nat)=>(D.int j,pD (pa l j))) (λp=>match p.1 with | .int j=>al (pa l i) (pa l j.toNat) | _=>fk) (λp=>p.1) (by simpa using o) (by simp [xE,gh,Function.comp_def]) (by simp; exact jU (by omega))
  (λp hp=>by obtain ⟨j,f,rfl⟩:=aA.mp hp;have h:=QG (pa l i) (pa l j);simp [qD,jE,h,yq]) (λp hp _=>rfl)
 rw [e];congr 2;unfold gD grp;congr 1;rw [ei,bb];rfl
theorem uT (hl:l.length<=100) (a b:Option D):∀ (s:List Nat) (f:List D) (x y z:Option D),(∀ j∈s,j < l.length)->f.length+s.length<=100 ->∃ m g p,kP (vG 2 (qL (gNm 4) (qL (gNm 5) vF))) qdD (s.map λ(j:Nat)=>.tup [.int j,pD (pa l j)]) [a,b,ff (.lst (qm l)),ff (.lst f),x,y,z]
   = .ok (.nx,[a,b,ff (.lst (qm l)),ff (.lst (f++((s.filter (KO l)).map λi=>gD (grp l i)))),m,g,p])
 | [],f,x,y,z,_,_=>⟨x,y,z,by simp [kP]⟩
 | j::s,f,x,y,z,hj,hf=>by
  rw [af] at hf;have t:f.length < sizeLine:=aC (by omega) big;have n:=XV hl (a:=a) (b:=b) (c:=ff (.lst f)) (d:=ff (.int j)) (x:=z) (i:=j) (own:=[3]) (by simp);obtain ⟨k,rest,hg,h⟩:=XU (hj j (aj ..));have o:atI ((grp l j).map λ(j:Nat)=>D.int j) 0=ff (.int k):=by rw [show (0:Int)=((0:Nat):Int) from rfl,vJ,hg];rfl
  by_cases q:k=j;·obtain ⟨m,g,p,e⟩:=uT hl a b s (f++[gD (grp l j)]) (ff (.int j)) (ff (pD (pa l j))) (ff (gD (grp l j))) (λi hi=>hj i (ac _ hi)) (by rw [ap]; simp; omega);refine ⟨m,g,p,?_⟩;rw [b6 (h.mp q),show f++((j::s.filter (KO l)).map λi=>gD (grp l i))=f++[gD (grp l j)]++((s.filter (KO l)).map λi=>gD (grp l i)) by simp,<-e];have h1:gD (grp l j)=.lst ((grp l j).map λ(j:Nat)=>D.int j):=rfl;simp [kP,vG,qL,vF,qdD,n,h1,ixD,o,eqD,eqN,eqS,q,uI,gp,t]
  ·obtain ⟨m,g,p,e⟩:=uT hl a b s f (ff (.int j)) (ff (pD (pa l j))) (ff (gD (grp l j))) (λi hi=>hj i (ac _ hi)) (by omega);refine ⟨m,g,p,?_⟩;have u:¬KO l j=true:=λz=>q (h.mpr z);have r:¬((k:Int)=(j:Int)):=by omega
   rw [List.filter_cons_of_neg u,<-e];have h1:gD (grp l j)=.lst ((grp l j).map λ(j:Nat)=>D.int j):=rfl;simp [kP,vG,qL,vF,qdD,n,h1,ixD,o,eqD,eqN,eqS,r]
noncomputable def ALd (l:List (Str×Str)):D:=.lst ((AL l).map gD)
theorem uB (ws:List Str) (p q:Int):(jy ws p q).length=ws.length:=by simp [jy]
theorem XW (w:vC ws) (hl:Ys p q):wT [Wd ws,Ld p q]=.ok (ALd (jy ws p q),[.non,.non]):=by
 refine runD_ap.trans ?_;have h:=KN w hl;have n:=uB ws p q;have c:=w.2.1;obtain ⟨m,y,z,e⟩:=uT (l:=jy ws p q) (by omega) (ff (Wd ws)) (ff (Ld p q)) (aB (jy ws p q).length) [] fg fg fg (λj D=>aK.mp D) (by simp; omega);have a:((aB (jy ws p q).length).filter (KO (jy ws p q))).map (λi=>gD (grp (jy ws p q) i))=(AL (jy ws p q)).map gD:=by unfold AL;rw [bb];rfl
 rw [dq,a,<-gh] at e;have b:0<=sizeLine:=aZ _;simp [Jx,qw,qv,qD,jE,h,xE,e,ALd]
theorem qeH (n:Nat):yK 0 n=(aB n).map λ(j:Nat)=>.int j:=by unfold yK;simp
noncomputable def co (x:Str×Str) (c:Str):Int:=(if x.1=c then 1 else 0)+if x.2=c then 1 else 0
noncomputable def cn (K:List (Str×Str)) (c:Str):Int:=(K.map λx=>co x c).sum
theorem qcd (x:Str×Str) (c:Str):0<=co x c/\co x c<=2:=by unfold co;split <;> split <;> omega
theorem Yb (x:Str×Str) (c:Str):wG (pD x) (.str c)=.ok (.int (co x c)):=by obtain ⟨a,b⟩:=x;have h:=wl c [a,b];have h:yI 7 (.str c) [.str a,.str b]=ff (decide (c∈[a,b])):=h;unfold wG co;simp only [h];by_cases q:a=c <;> by_cases e:b=c <;> simp [eqN,eqS,q,e]
theorem Yc {l:List Int} (h1:l.length<=1000) (h2:∀ k∈l,0<=k/\k<=100000):zu (.lst (l.map D.int))=.ok (.int l.sum):=by
 have:l.length<=1000/\(l.all λk=>decide (0<=k/\k<=100000))=true:=⟨h1,aO.mpr λk h=>decide_eq_true (h2 k h)⟩
 simp only [zu,xf,if_pos this]
variable {K:List (Str×Str)}
theorem qav (n:K.length<=100) (c:Str) (a b:Option D):qB [] 1 [3] (jg (qc 1)) (gNm 0) ftT (dM qaO wG (qc 0) (qc 1)) [a,ff (.lst (qm K)),b,ff (.str c)]=.ok (.lst ((K.map λx=>co x c).map D.int),[a,ff (.lst (qm K)),b,ff (.str c)]):=by have e:=uz (cap:=[3]) (fi:=jg (qc 1)) (ρ:=[a,ff (.lst (qm K)),b,ff (.str c)]) (ρ1:=[a,ff (.lst (qm K)),b,ff (.str c)]) (ds:=qm K) (fe:=dM qaO wG (qc 0) (qc 1)) (λd=>match d with | .tup [.str x,.str y]=>.int (co (x,y) c) | d=>d) (by simp [qZ]) (by unfold qm; rw [ah]; exact jU (by omega)) (λd hd=>by obtain ⟨x,hx,rfl⟩:=aA.mp hd;have h:=Yb x c;have h:wG (.tup [.str x.1,.str x.2]) (.str c)=.ok (.int (co x c)):=h;simp [dM,qaO,h]);rw [e];congr 2;simp [qm]
noncomputable def lo (K:List (Str×Str)) (x:Str×Str):Bool:=decide (cn K x.1=1)||decide (cn K x.2=1)
theorem JJ (n:K.length<=100) (x:Str×Str):jr [pD x,.lst (qm K),.dct []]=.ok (.bl (lo K x),[.non,.non,.non]):=by
 refine runD_ap.trans ?_;have f:=λc=>qav n c (ff (pD x)) (ff (.dct []));have hs:∀ c,zu (.lst ((K.map λx=>co x c).map D.int))=.ok (.int (cn K c)):=λc=>Yc (by rw [ah]; omega) λk d=>by obtain ⟨y,_,rfl⟩:=aA.mp d;have:=qcd y c;omega
 have h:∀ c,d1 zu (qB [] 1 [3] (jg (qc 1)) (gNm 0) ftT (dM qaO wG (qc 0) (qc 1))) [ff (pD x),ff (.lst (qm K)),ff (.dct []),ff (.str c)]=.ok (.int (cn K c),[ff (pD x),ff (.lst (qm K)),ff (.dct []),ff (.str c)]):=λc=>by rw [vT,f c];simp only [jo];rw [hs c];rfl
 generalize D.lst (qm K)=Z at h ⊢;obtain ⟨a,b⟩:=x;by_cases q:cn K a=1 <;> by_cases e:cn K b=1 <;> simp [uO,qw,qv,qZ,kP,QM,VJ,Jc,-vT,h,eqD,eqN,eqS,lo,q,e]
theorem qce:∀ {K L:List (Str×Str)},K.Sublist L->∀ c,cn K c<=cn L c:=by
 intro K L h
 induction h with
 | slnil=>intro c; exact Int.le_refl _
 | cons x h j=>intro c;have:=qcd x c;have:=j c;show _<=co x c+cn _ c;omega
 | cons_cons x h j=>intro c;have:=j c;show co x c+cn _ c<=co x c+cn _ c;omega
theorem qcf (h:[x,y].Sublist K) (g:al x y=fm):lo K x=fk/\lo K y=false:=by
 have h2:∀ c,cn [x,y] c=co x c+co y c:=λc=>by simp [cn]
 have key:∀ c,(c=x.1\/c=x.2)->2<=cn K c:=λc d=>by
  have h1:=qce h c;rw [h2] at h1;have:2<=co x c+co y c:=by
   unfold co;rcases al_iff.mp g with rfl | rfl;·rcases d with rfl | rfl <;> simp <;> split <;> omega
   ·rcases d with rfl | rfl <;> simp <;> split <;> omega
  omega
 have k1:=key x.1 (.inl rfl);have k2:=key x.2 (.inr rfl);have:lo K x=false:=by unfold lo;simp;omega
 refine ⟨this,?_⟩;rcases al_iff.mp g with rfl | rfl;·exact this
 ·unfold lo;simp;simp at k1 k2;omega
def NA (K:List (Str×Str)):Prop:=K.Pairwise λx y=>al x y=fk
theorem QH {f:Str×Str->Bool}:∀ {K:List (Str×Str)},(∀ x y,[x,y].Sublist K->al x y=fm->f x=fm/\f y=fm)->NA (K.filter f)->NA K
 | [],_,_=>.nil
 | a::K,h,hn=>by
  have j:NA (K.filter f)->NA K:=QH λx y s g=>h x y (s.cons a) g;refine .cons (λb d=>?_) (j ?_)
  ·cases q:al a b with
   | false=>rfl
   | true=>obtain ⟨h1,h2⟩:=h a b ((List.singleton_sublist.mpr d).cons_cons a) q;rw [b6 h1] at hn;have:=(bj.mp hn).1 b (bL.mpr ⟨d,h2⟩);rw [this] at q;cases q
  ·cases q:f a with
   | false=>rw [List.filter_cons_of_neg (by simp [q])] at hn; exact hn
   | true=>rw [b6 q] at hn; exact (bj.mp hn).2
noncomputable def pe (K:List (Str×Str)):List (Str×Str):=K.filter λx=>!lo K x
theorem qdE (h:NA (pe K)):NA K:=QH (λx y s g=>by obtain ⟨h1,h2⟩:=qcf s g;simp [h1,h2]) h
theorem Yd (n:K.length<=100) (a b:Option D):qB [] 1 [2,1] (jg (qc 2)) (gNm 0) (gO (yh (qr [.vl,.vl,.vl] jr (qd (qc 0) (qd (qc 1) (qd (qc 2) qE)))))) (qc 0) [a,ff (.dct []),ff (.lst (qm K)),b]=.ok (.lst (qm (pe K)),[a,ff (.dct []),ff (.lst (qm K)),b]):=by have e:=UY (own:=[]) (cap:=[2,1]) (fi:=jg (qc 2)) (ρ:=[a,ff (.dct []),ff (.lst (qm K)),b]) (ρ1:=[a,ff (.dct []),ff (.lst (qm K)),b]) (ds:=qm K) (ft:=gO (yh (qr [.vl,.vl,.vl] jr (qd (qc 0) (qd (qc 1) (qd (qc 2) qE)))))) (fe:=qc 0) (λd=>match d with | .tup [.str x,.str y]=>!lo K (x,y) | d=>fk) (λd=>d) (by simp) (by simp [qZ]) (by unfold qm; rw [ah]; exact jU (by omega)) (λd hd=>by obtain ⟨x,hx,rfl⟩:=aA.mp hd;have h:=JJ n x;have h:jr [.tup [.str x.1,.str x.2],.lst (qm K),.dct []]=.ok (.bl (lo K x),[.non,.non,.non]):=h;simp [qD,jE,h,yq]) (λd hd _=>rfl);rw [e];congr 2;unfold pe;rw [List.map_id'];unfold qm;rw [ei];rfl
theorem KQ {a:Option D}:∀ (n:Nat) (K:List (Str×Str)),K.length < n->K.length<=100->∃ B R,(NA B->NA K)/\B.Sublist K /\
  jX (qV (d2 ltD (d1 jz (qc 3)) (d1 jz (qc 2))))
   (jf (kf 2 (qc 3))
   (jf (kf 3 (qB [] 1 [2,1] (jg (qc 2)) (gNm 0) (gO (yh (qr [.vl,.vl,.vl] jr (qd (qc 0) (qd (qc 1) (qd (qc 2) qE)))))) (qc 0))) jK)) n [a,ff (.dct []),ff (.lst (qm K)),ff (.lst (qm (pe K)))]=.ok (.nx,[a,ff (.dct []),ff (.lst (qm B)),ff (.lst R)])
 | 0,K,h,_=>absurd h (dn _)
 | n+1,K,h,hK=>by
  have h1:jz (.lst (qm K))=.ok (.int K.length):=by simp [jz,qm]
  have h2:jz (.lst (qm (pe K)))=.ok (.int (pe K).length):=by simp [jz,qm]
  have S:(pe K).length<=K.length:=c8 _ _;by_cases q:(pe K).length < K.length;·obtain ⟨B,R,n1,n2,e⟩:=KQ n (pe K) (by omega) (by omega);refine ⟨B,R,λz=>qdE (n1 z),n2.trans List.filter_sublist,?_⟩;have d:=Yd (K:=pe K) (by omega) a (ff (.lst (qm (pe K))));rw [<-e];generalize D.lst (qm (pe (pe K)))=Z2 at d ⊢;generalize b:D.lst (qm (pe K))=Z1 at h2 d ⊢;generalize D.lst (qm K)=Z at h1 ⊢;simp [jX,h1,h2,ltD,q,d]
  ·refine ⟨K,qm (pe K),λz=>z,List.Sublist.refl _,?_⟩;generalize D.lst (qm (pe K))=Z1 at h2 ⊢;generalize D.lst (qm K)=Z at h1 ⊢;simp [jX,h1,h2,ltD,q]
theorem xI (n:K.length<=10):∃ B,(NA B->NA K)/\B.Sublist K/\vn [.lst (qm K),.dct []]=.ok (.lst (qm B),[.non,.non]):=by obtain ⟨B,R,n1,n2,e⟩:=KQ (a:=ff (.lst (qm K))) 20 K (by omega) (by omega);refine ⟨B,n1,n2,?_⟩;have d:=Yd (K:=K) (by omega) (ff (.lst (qm K))) fg;refine runD_ap.trans ?_;unfold vm;rw [show qw vk [.lst (qm K),.dct []]=[ff (.lst (qm K)),ff (.dct []),fg,fg] from rfl];refine (qH (ρ1:=[ff (.lst (qm K)),ff (.dct []),ff (.lst (qm K)),fg]) (by simp)).trans ?_;refine (qH (ρ1:=[ff (.lst (qm K)),ff (.dct []),ff (.lst (qm K)),ff (.lst (qm (pe K)))]) (by rw [wQ,d]; rfl)).trans ?_;refine (qH e).trans ?_;simp [qv]
abbrev Cn:=List Str×List Str
abbrev sD (l:List Str):D:=.lst (l.map D.str)
noncomputable def cD (c:Cn):D:=.tup [sD c.1,sD c.2]
noncomputable def st1 (c:Cn) (y:Str):Cn:=if y∈c.1 then (c.1.erase y,c.2) else (c.1,c.2++[y])
noncomputable def un (x y:Str×Str):Cn:=st1 (st1 ([x.1,x.2],[]) y.1) y.2
abbrev unB:je:=(sIf (qV (d2 inA (qc 4) (qc 2))) (kY (yu 2 qae (qc 4))) (kY (yu 3 gp (qc 4))))
theorem qdF (y:Str) (l:List Str):inA (.str y) (sD l)=.ok (.bl (decide (y∈l))):=by show (inD (.str y) (.lst (l.map D.str))).bind _=_;unfold inD;simp only [wl];rfl
variable {c:Cn}
theorem Ye {a b:Option D} (h2:c.2.length<=2) (y:Str):unB [a,b,ff (sD c.1),ff (sD c.2),ff (.str y)]=.ok (.nx,[a,b,ff (sD (st1 c y).1),ff (sD (st1 c y).2),ff (.str y)]):=by
 have h:=qdF y c.1;have z:c.2.length < sizeLine:=aC (by omega) big;unfold st1;by_cases q:y∈c.1
 ·rw [if_pos q];have r:qae (c.1.map D.str) (.str y)=.ok ((c.1.erase y).map D.str):=by unfold qae;simp only [kT,if_pos q]
  simp [unB,h,q,yu,uI,sD,r]
 ·rw [if_neg q];have g:gp (c.2.map D.str) (.str y)=.ok ((c.2++[y]).map D.str):=by unfold gp;rw [ah,if_pos z];simp
  simp [unB,h,q,yu,uI,sD,g]
theorem JK (c:Cn) (y:Str):(st1 c y).1.length<=c.1.length/\(st1 c y).2.length<=c.2.length+1:=by
 unfold st1;split;·exact ⟨List.length_erase_le,e6 _⟩
 ·simp
theorem qcg (x y:Str×Str):(un x y).1.length<=2/\(un x y).2.length<=2:=by have h1:=JK ([x.1,x.2],[]) y.1;have h2:=JK (st1 ([x.1,x.2],[]) y.1) y.2;unfold un;simp at h1;omega
variable {g:D->Sl->Out Sl} {ρ2:Sl}
theorem qeI {B:je} {d1 d2:D} {d k a:Sl} (h1:g d1 d=.ok ρ1) (h2:B ρ1=.ok (.nx,ρ2)) (i:g d2 ρ2=.ok k) (h:B k=.ok (.nx,a)):kP g B [d1,d2] d=.ok (.nx,a):=by simp [kP,h1,h2,i,h]
theorem JL (x y:Str×Str):jC [pD x,pD y]=.ok (cD (un x y),[.non,.non]):=by
 refine runD_ap.trans ?_;have h1:=JK ([x.1,x.2],[]) y.1;have e1:=Ye (a:=ff (pD x)) (b:=ff (pD y)) (c:=([x.1,x.2],[])) (by simp) y.1;have i:=Ye (a:=ff (pD x)) (b:=ff (pD y)) (c:=st1 ([x.1,x.2],[]) y.1) (by simp at h1; omega) y.2;have z:2<=sizeLine:=jU (by omega);have h:0<=sizeLine:=aZ _;have E:kP (gNm 4) unB [.str y.1,.str y.2] [ff (pD x),ff (pD y),ff (sD [x.1,x.2]),ff (sD []),fg]=.ok (.nx,[ff (pD x),ff (pD y),ff (sD (un x y).1),ff (sD (un x y).2),ff (.str y.2)]):=by have e:unB [ff (pD x),ff (pD y),ff (sD [x.1,x.2]),ff (sD []),ff (.str y.1)]=_:=e1;exact qeI rfl e rfl i
 unfold uQ;rw [show qw uP [pD x,pD y]=[ff (pD x),ff (pD y),fg,fg,fg] from rfl];refine (qH (ρ1:=[ff (pD x),ff (pD y),ff (sD [x.1,x.2]),fg,fg]) (by simp [GN,sD,z])).trans ?_;refine (qH (ρ1:=[ff (pD x),ff (pD y),ff (sD [x.1,x.2]),ff (sD []),fg]) (by simp [sD])).trans ?_;refine (qH (ρ1:=[ff (pD x),ff (pD y),ff (sD (un x y).1),ff (sD (un x y).2),ff (.str y.2)]) (by rw [yZ,show jg (qc 1) [ff (pD x),ff (pD y),ff (sD [x.1,x.2]),ff (sD []),fg]=.ok ([.str y.1,.str y.2],[ff (pD x),ff (pD y),ff (sD [x.1,x.2]),ff (sD []),fg]) from rfl,jo];exact E)).trans ?_;simp [qv,cD,z]
theorem qaw (a b:Str):un (a,b) (a,b)=([],[]):=by
 by_cases q:a=b;·subst q; simp [un,st1]
 ·simp [un,st1]
theorem qdG (a b:Str):un (b,a) (a,b)=([],[]):=by
 by_cases q:a=b;·subst q; simp [un,st1]
 ·have g:¬b=a:=λz=>q z.symm;simp [un,st1,q,g,List.erase_cons]
theorem qdH (h:al x y=fm):un x y=([],[]):=by
 rcases al_iff.mp h with rfl | rfl;·exact qaw _ _
 ·exact qdG _ _
noncomputable def CT (l:List (Str×Str)):List Cn:=(aB l.length).flatMap λj=>(l.take j).map λa=>un a (pa l j)
abbrev ctB:je:=(kY (yu 1 qaJ (qB [1] 1 [3] (jg (jZ (qc 0) fg (ff (qc 2)))) (gNm 0) ftT (qr [.vl,.vl] jC (qd (qc 0) (qd (qc 1) qE))))))
theorem qax (hl:l.length<=10) {j:Nat} (b:j < l.length) (f:Option D):qB [1] 1 [3] (jg (jZ (qc 0) fg (ff (qc 2)))) (gNm 0) ftT (qr [.vl,.vl] jC (qd (qc 0) (qd (qc 1) qE))) [ff (.lst (qm l)),f,ff (.int j),ff (pD (pa l j))]
  = .ok (.lst (((l.take j).map λa=>un a (pa l j)).map cD),[ff (.lst (qm l)),f,ff (.int j),ff (pD (pa l j))]):=by
 have c:Xu (qm l) fg (ff (j:Int))=qm (l.take j):=by
  unfold Xu;rw [HT.sIx_none,HT.sIx_nat];have:(qm l).length=l.length:=by simp [qm]
  rw [this,show min j l.length - 0=j by omega];simp [qm]
 have hi:jg (jZ (qc 0) fg (ff (qc 2))) [ff (.lst (qm l)),f,ff (.int j),ff (pD (pa l j))]=.ok (qm (l.take j),[ff (.lst (qm l)),f,ff (.int j),ff (pD (pa l j))]):=by simp [jg,jZ,zm,qbX,c,qZ]
 have e:=UZ (own:=[1]) (cap:=[3]) (fi:=jg (jZ (qc 0) fg (ff (qc 2)))) (ρ:=[ff (.lst (qm l)),f,ff (.int j),ff (pD (pa l j))]) (ρ1:=[ff (.lst (qm l)),f,ff (.int j),ff (pD (pa l j))]) (ds:=qm (l.take j)) (fe:=qr [.vl,.vl] jC (qd (qc 0) (qd (qc 1) qE))) (λd=>match d with | .tup [.str x,.str y]=>cD (un (x,y) (pa l j)) | d=>d) (by simp) hi (by simp only [qm,ah,aR]; exact jU (by omega)) (λd hd=>by obtain ⟨x,hx,rfl⟩:=aA.mp hd;have h:=JL x (pa l j);have h:jC [.tup [.str x.1,.str x.2],pD (pa l j)]=.ok (cD (un x (pa l j)),[.non,.non]):=h;simp [qD,jE,h]);rw [e];congr 2;unfold qm;rw [bb,bb];rfl
theorem Yg (hl:l.length<=10):∀ (s:List Nat) (f:List Cn) (x y:Option D),(∀ j∈s,j < l.length)->f.length+10 * s.length<=500 ->∃ m p,kP (vG 2 (qL (gNm 2) (qL (gNm 3) vF))) ctB (s.map λ(j:Nat)=>.tup [.int j,pD (pa l j)]) [ff (.lst (qm l)),ff (.lst (f.map cD)),x,y]
   = .ok (.nx,[ff (.lst (qm l)),ff (.lst ((f++s.flatMap λj=>(l.take j).map λa=>un a (pa l j)).map cD)),m,p])
 | [],f,x,y,_,_=>⟨x,y,by simp [kP]⟩
 | j::s,f,x,y,hj,hf=>by
  rw [af] at hf;have h:=hj j (aj ..);have ht:(l.take j).length<=10:=by rw [aR]; omega
  obtain ⟨m,p,e⟩:=Yg hl s (f++(l.take j).map λa=>un a (pa l j)) (ff (.int j)) (ff (pD (pa l j))) (λi hi=>hj i (ac _ hi)) (by rw [ap,ah]; omega);refine ⟨m,p,?_⟩;rw [dO,<-cg,<-e];have d:=qax hl h (ff (.lst (f.map cD)));have z:(f.map cD).length+(((l.take j).map λa=>un a (pa l j)).map cD).length<=sizeLine:=by rw [ah,ah,ah]; exact jU (by omega)
  have hx:qaJ (f.map cD) (.lst (((l.take j).map λa=>un a (pa l j)).map cD))=.ok ((f++(l.take j).map λa=>un a (pa l j)).map cD):=by unfold qaJ;simp only [if_pos z,<-cI]
  generalize ((l.take j).map λa=>un a (pa l j)).map cD=M at d hx;generalize (f++(l.take j).map λa=>un a (pa l j)).map cD=M2 at hx ⊢;generalize f.map cD=M1 at d hx ⊢;generalize D.lst (qm l)=Z at d ⊢;simp [kP,vG,qL,vF,ctB,yu,uI,d,hx]
theorem QI (hl:l.length<=10):kM [.lst (qm l)]=.ok (.lst ((CT l).map cD),[.non]):=by refine runD_ap.trans ?_;obtain ⟨m,p,e⟩:=Yg hl (aB l.length) [] fg fg (λj D=>aK.mp D) (by simp; omega);rw [<-gh] at e;have e:kP (vG 2 (qL (gNm 2) (qL (gNm 3) vF))) ctB (Qm (qm l)) [ff (.lst (qm l)),ff (.lst []),fg,fg]=.ok (.nx,[ff (.lst (qm l)),ff (.lst ((CT l).map cD)),m,p]):=e;have h:0<=sizeLine:=aZ _;generalize (CT l).map cD=M at e ⊢;simp [kL,qw,qv,xE,e]
theorem qch (l:List (Str×Str)) (hl:l.length<=10):(CT l).length<=100:=by
 unfold CT;have:∀ s:List Nat,(s.flatMap λj=>(l.take j).map λa=>un a (pa l j)).length<=10 * s.length:=λs=>by
  induction s with
  | nil=>simp
  | cons j s i=>rw [dO,ap,ah,aR,af];omega
 have:=this (aB l.length);rw [bg] at this;omega
theorem qci (h:c∈CT l):c.1.length<=2/\c.2.length<=2:=by obtain ⟨j,_,h⟩:=dZ.mp h;obtain ⟨a,_,rfl⟩:=aA.mp h;exact qcg a _
theorem qcj (h:([],[])∉CT l):NA l:=by
 refine bU.mpr λi j hi D a=>?_;cases q:al l[i] l[j] with
 | false=>rfl
 | true=>
  refine absurd ?_ h;refine dZ.mpr ⟨j,aK.mpr D,aA.mpr ⟨l[i],?_,?_⟩⟩;·exact List.mem_take_iff_getElem.mpr ⟨i,by omega,rfl⟩
  ·have:pa l j=l[j]:=by unfold pa; rw [aw D]; rfl
   rw [this];exact qdH q
abbrev Fx:=List (Key×D)
def qay (k:Fx):Prop:=∀ kv∈k,∃ v:Int,kv.2=.int v/\0<=v/\v<=1000
noncomputable def vl (k:Fx) (x:Str):Int:=match k.find? λkv=>decide (kv.1=cH x) with
 | some (_,.int v)=>v
 | _=>0
theorem qck {k:Fx} (a:qay k) {x:Str} (h:Jc k (.inr x)=fm):ixD (.dct k) (.str x)=.ok (.int (vl k x))/\0<=vl k x/\vl k x<=1000:=by
 unfold Jc at h;cases q:k.find? λkv=>decide (kv.1=cH x) with
 | none=>rw [List.find?_eq_none] at q;obtain ⟨p,hp,h⟩:=List.any_eq_true.mp h;exact absurd h (q p hp)
 | some kv=>
  obtain ⟨v,e,h1,h2⟩:=a kv (List.mem_of_find?_eq_some q);obtain ⟨k0,d⟩:=kv;have e:d=.int v:=e;subst e;have i:vl k x=v:=by unfold vl; simp only [q]
  rw [i];exact ⟨by unfold ixD; simp only [q],h1,h2⟩
theorem qdI {Cs:List α} {cap:List Nat} {fi:vI} {fe:qO} (A B:α->D) (h:fi ρ=.ok (Cs.map A,ρ)) (hl:Cs.length<=sizeLine)
  (ht:∀ c∈Cs,fe (ff (A c)::cap.map λk=>(ρ[k]?).getD fg)=.ok (B c,ff (A c)::cap.map λk=>(ρ[k]?).getD fg)):qB [] 1 cap fi (gNm 0) ftT fe ρ=.ok (.lst (Cs.map B),ρ):=by
 have key:∀ (l:List α) (x:Option D),(∀ c∈l,c∈Cs)->∃ m,jn (gNm 0) ftT fe (l.map A) (x::cap.map λk=>(ρ[k]?).getD fg)=.ok (l.map B,m::cap.map λk=>(ρ[k]?).getD fg):=by
  intro l
  induction l with
  | nil=>intro x _; exact ⟨x,rfl⟩
  | cons c l j=>intro x a;obtain ⟨m,e⟩:=j (ff (A c)) λd hd=>a d (ac _ hd);have h1:=ht c (a c (aj ..));exact ⟨m,by simp [jn,yN,h1,e]⟩
 obtain ⟨m,e⟩:=key Cs fg λ_ h=>h;unfold qB;rw [h];simp only [jo];rw [if_pos (by rw [ah]; exact hl),show jN 1 cap ρ=fg::cap.map λk=>(ρ[k]?).getD fg from rfl,e];simp only [jo];rw [kU (own:=[]) _ cap 1 ρ λ_ _=>bH]
noncomputable def md (r:Int) (k:Fx) (c:Cn):Bool:=if ((c.1++c.2).all λx=>Jc k (.inr x))=fm then decide (¬((c.1.map (vl k)).sum - (c.2.map (vl k)).sum) % r=0) else fm
theorem KR {k:Fx} (a:qay k) (j:Nat) {l:List Str} (hl:l.length<=2) (g:∀ x∈l,Jc k (.inr x)=fm) (h1:ρ[j]?=ff (ff (sD l))) (h2:ρ[2]?=ff (ff (.dct k))):d1 zu (qB [] 1 [2] (jg (qc j)) (gNm 0) ftT (d2 ixD (qc 1) (qc 0))) ρ=.ok (.int (l.map (vl k)).sum,ρ):=by
 have e:=uz (cap:=[2]) (fi:=jg (qc j)) (ρ:=ρ) (ρ1:=ρ) (ds:=l.map D.str) (fe:=d2 ixD (qc 1) (qc 0)) (λd=>match d with | .str x=>.int (vl k x) | d=>d) (by simp [h1,qZ]) (by rw [ah]; exact jU (by omega)) (λd hd=>by obtain ⟨x,hx,rfl⟩:=aA.mp hd;have h:=(qck a (g x hx)).1;simp [h2,h]);have b:(l.map D.str).map (λd=>match d with | .str x=>.int (vl k x) | d=>d)=(l.map (vl k)).map D.int:=by rw [bb,bb];rfl
 rw [b] at e;have hs:=Yc (l:=l.map (vl k)) (by rw [ah]; omega) λi hi=>by obtain ⟨x,hx,rfl⟩:=aA.mp hi;have:=(qck a (g x hx)).2;omega
 rw [vT,e];simp only [jo];rw [hs];rfl
variable {r:Int}
theorem qcl (h1:c.1.length<=2) (h2:c.2.length<=2) (f:0 < r) {k:Fx} (a:qay k):jI [cD c,.int r,.dct k]=.ok (.bl (md r k c),[.non,.non,.non]):=by
 refine runD_ap.trans ?_;have z:(c.1.map D.str).length+(c.2.map D.str).length<=sizeLine:=by rw [ah,ah]; exact jU (by omega)
 have hi:jg (d2 xB (qc 3) (qc 4)) [ff (cD c),ff (.int r),ff (.dct k),ff (sD c.1),ff (sD c.2)]=.ok ((c.1++c.2).map D.str,[ff (cD c),ff (.int r),ff (.dct k),ff (sD c.1),ff (sD c.2)]):=by
  have:xB (sD c.1) (sD c.2)=.ok (.lst ((c.1++c.2).map D.str)):=by unfold xB;simp only [if_pos z,cI]
  generalize sD c.1=U at this ⊢;generalize sD c.2=V at this ⊢;simp [this,qZ]
 have e:=uz (cap:=[2]) (fi:=jg (d2 xB (qc 3) (qc 4))) (ρ:=[ff (cD c),ff (.int r),ff (.dct k),ff (sD c.1),ff (sD c.2)]) (ρ1:=[ff (cD c),ff (.int r),ff (.dct k),ff (sD c.1),ff (sD c.2)]) (ds:=(c.1++c.2).map D.str) (fe:=d2 inA (qc 0) (qc 1)) (λd=>match d with | .str x=>.bl (Jc k (.inr x)) | d=>d) hi (by rw [ah,ap]; exact jU (by omega)) (λd hd=>by obtain ⟨x,hx,rfl⟩:=aA.mp hd;simp [inA,VJ]);have i:((c.1++c.2).map D.str).map (λd=>match d with | .str x=>.bl (Jc k (.inr x)) | d=>d)=(c.1++c.2).map λx=>D.bl (Jc k (.inr x)):=by rw [bb];rfl
 rw [i] at e;have g:=yC (λx=>Jc k (.inr x)) (c.1++c.2);have hA:d1 VI (qB [] 1 [2] (jg (d2 xB (qc 3) (qc 4))) (gNm 0) ftT (d2 inA (qc 0) (qc 1))) [ff (cD c),ff (.int r),ff (.dct k),ff (sD c.1),ff (sD c.2)]=.ok (.bl ((c.1++c.2).all λx=>Jc k (.inr x)),[ff (cD c),ff (.int r),ff (.dct k),ff (sD c.1),ff (sD c.2)]):=by rw [vT,e];simp only [jo];rw [g];rfl
 unfold wa md;rw [show qw vZ [cD c,.int r,.dct k]=[ff (cD c),ff (.int r),ff (.dct k),fg,fg] from rfl];refine (qH (ρ1:=[ff (cD c),ff (.int r),ff (.dct k),ff (sD c.1),fg]) (by simp [cD,ixD,at0])).trans ?_;refine (qH (ρ1:=[ff (cD c),ff (.int r),ff (.dct k),ff (sD c.1),ff (sD c.2)]) (by simp [cD,ixD,at1])).trans ?_;cases q:(c.1++c.2).all λx=>Jc k (.inr x) with
 | false=>rw [q] at hA;simp [-vT,hA,yq,qv]
 | true=>rw [q] at hA;have h:=aO.mp q;have s1:=KR a 3 h1 (λx hx=>h x (bn.mpr (.inl hx))) (ρ:=[ff (cD c),ff (.int r),ff (.dct k),ff (sD c.1),ff (sD c.2)]) rfl rfl;have s2:=KR a 4 h2 (λx hx=>h x (bn.mpr (.inr hx))) (ρ:=[ff (cD c),ff (.int r),ff (.dct k),ff (sD c.1),ff (sD c.2)]) rfl rfl;refine (qH (ρ1:=[ff (cD c),ff (.int r),ff (.dct k),ff (sD c.1),ff (sD c.2)]) (by simp [-vT,hA,yq])).trans ?_;by_cases b:((c.1.map (vl k)).sum - (c.2.map (vl k)).sum) % r=0 <;> simp [-vT,s1,s2,qaH,Yo,JR,f,neD,eqN,eqS,qv,b]
theorem qcm (r:Int) (k:Fx):md r k ([],[])=false:=by simp [md]
theorem qaz {k:Fx} (hl:k.length<=100) (x:Str) (v:Int):kA [.dct k,.str x,.int v]=.ok (.dct (WL k (.inr x) (.int v)),[.non,.non,.non]):=by refine runD_ap.trans ?_;have z:k.length < sizeLine:=aC (by omega) big;simp [wb,qw,qv,Uu,qac,VJ,z]
theorem qaA (k:Fx) (x:Key) (d:D):(WL k x d).length<=k.length+1:=by unfold WL;split <;> simp
theorem UA {k:Fx} (b:qay k) (x:Key) {v:Int} (c:0<=v) (h1:v<=1000):qay (WL k x (.int v)):=by
 unfold WL;intro kv a;split at a
 ·obtain ⟨p,hp,rfl⟩:=aA.mp a;split;·exact ⟨v,rfl,c,h1⟩
  ·exact b p hp
 ·rcases bn.mp a with h | h;·exact b kv h
  ·rw [aH.mp h];exact ⟨v,rfl,c,h1⟩
abbrev cfB (gr:jM):je:=(sIf (yh (qr [.vl,.vl,.vl,.vl] gr (qd (qc 0) (qd (qc 1) (qd (qr [.vl,.vl,.vl] kA (qd (qc 2) (qd (d2 ixD (qc 3) (dC (.int 0))) (qd (qc 5) qE)))) (qd (jZ (qc 3) (ff (dC (.int 1))) fg) qE)))))) (jO (dC (.bl fm))) jK)
theorem qcn (x:Str) (ls:List Str):ixD (sD (x::ls)) (.int 0)=.ok (.str x)/\qbX (ff 1) fg (sD (x::ls))=.ok (sD ls):=by
 refine ⟨by simp [ixD,at0],?_⟩;have:Xu ((x::ls).map D.str) (ff 1) fg=ls.map D.str:=by unfold Xu;rw [HT.sIx_none,show (ff (1:Int))=ff ((1:Nat):Int) from rfl,HT.sIx_nat];simp;exact cX (by simp)
 show Out.ok (D.lst (Xu ((x::ls).map D.str) (ff 1) fg))=_;rw [this]
theorem Yh {gr:jM} {C S S1:D} {k:Fx} (hl:k.length<=100) {x:Str} {ch:Option D} (hi:ixD S (.int 0)=.ok (.str x)) (hs:qbX (ff 1) fg S=.ok S1):∀ (vs:List Int) (y:Option D),(∀ v∈vs,∃ b,gr [C,.int r,.dct (WL k (.inr x) (.int v)),S1]=.ok (.bl b,[.non,.non,.non,.non])) ->(∃ ρ,kP (gNm 5) (cfB gr) (vs.map D.int) [ff C,ff (.int r),ff (.dct k),ff S,ch,y]=.ok (.rt (.bl fm),ff C::ff (.int r)::ff (.dct k)::ff S::ρ))\/∃ p,kP (gNm 5) (cfB gr) (vs.map D.int) [ff C,ff (.int r),ff (.dct k),ff S,ch,y]=.ok (.nx,[ff C,ff (.int r),ff (.dct k),ff S,ch,p])
 | [],y,_=>.inr ⟨y,rfl⟩
 | v::vs,y,h=>by
  obtain ⟨b,d⟩:=h v (aj ..);have w:=qaz hl x v;cases b with
  | true=>refine .inl ⟨[ch,ff (.int v)],?_⟩;simp [kP,cfB,qD,jE,w,hi,jZ,zm,hs,d,yq]
  | false=>
   have s1:kP (gNm 5) (cfB gr) ((v::vs).map D.int) [ff C,ff (.int r),ff (.dct k),ff S,ch,y]=kP (gNm 5) (cfB gr) (vs.map D.int) [ff C,ff (.int r),ff (.dct k),ff S,ch,ff (.int v)]:=by simp [kP,cfB,qD,jE,w,hi,jZ,zm,hs,d,yq]
   rw [s1];exact Yh hl hi hs vs _ λu f=>h u (ac _ f)
variable {Cs:List Cn}
theorem qaB (hC:∀ c∈Cs,c.1.length<=2/\c.2.length<=2) (n:Cs.length<=100) (f:0 < r) {k:Fx} (g:qay k) (a b c:Option D):d1 VI (qB [] 1 [1,2] (jg (qc 0)) (gNm 0) ftT (qr [.vl,.vl,.vl] jI (qd (qc 0) (qd (qc 1) (qd (qc 2) qE))))) [ff (.lst (Cs.map cD)),ff (.int r),ff (.dct k),a,b,c]=.ok (.bl (Cs.all (md r k)),[ff (.lst (Cs.map cD)),ff (.int r),ff (.dct k),a,b,c]):=by
 have e:=qdI (Cs:=Cs) (ρ:=[ff (.lst (Cs.map cD)),ff (.int r),ff (.dct k),a,b,c]) (cap:=[1,2]) (fi:=jg (qc 0)) (fe:=qr [.vl,.vl,.vl] jI (qd (qc 0) (qd (qc 1) (qd (qc 2) qE)))) cD (λc=>.bl (md r k c)) (by simp [qZ]) (jU (by omega)) λc d=>by have h:=qcl (hC c d).1 (hC c d).2 f g;generalize cD c=Z at h ⊢;simp [qD,jE,h]
 rw [vT,e];simp only [jo];rw [yC];rfl
theorem XX (n:Nat):yK 0 n=((aB n).map λ(j:Nat)=>(j:Int)).map D.int:=by rw [qeH,bb];rfl
theorem QJ (hC:∀ c∈Cs,c.1.length<=2/\c.2.length<=2) (y:Cs.length<=100) (w:0 < r) (m:r<=6):∀ (n:Nat) (ls:List Str) (k:Fx),ls.length < n->qay k->k.length+ls.length<=100 ->∃ b,qF n [.lst (Cs.map cD),.int r,.dct k,sD ls]=.ok (.bl b,[.non,.non,.non,.non])/\(([],[])∈Cs->b=fk)
 | 0,ls,k,h,_,_=>absurd h (dn _)
 | n+1,ls,k,h,hk,hl=>by
  have hA:=λa b c=>qaB hC y w hk a b c;show ∃ b,kW jc [.val,.val,.val,.val] (qS (qF n)) [.lst (Cs.map cD),.int r,.dct k,sD ls]=_/\_;have t:qw jc [.lst (Cs.map cD),.int r,.dct k,sD ls]=[ff (.lst (Cs.map cD)),ff (.int r),ff (.dct k),ff (sD ls),fg,fg]:=rfl;cases q:Cs.all (md r k) with
  | false=>refine ⟨fk,runD_ap.trans ?_,λ_=>rfl⟩;rw [q] at hA;rw [t];simp [qS,-vT,hA,yq,qv]
  | true=>
   have o:([],[])∉Cs:=λz=>by have:=aO.mp q _ z;rw [qcm] at this;cases this
   rw [q] at hA;have hA:=hA (ff (sD ls)) fg fg;cases ls with
   | nil=>refine ⟨fm,runD_ap.trans ?_,λz=>absurd z o⟩;rw [t];unfold qS;refine (qH (ρ1:=[ff (.lst (Cs.map cD)),ff (.int r),ff (.dct k),ff (sD []),fg,fg]) (by simp [-vT,hA,yq])).trans ?_;simp [jz,eqD,eqN,eqS,qv]
   | cons x ls=>
    rw [af] at h hl;obtain ⟨hi,hs⟩:=qcn x ls;obtain ⟨vs,f,d⟩:∃ vs:List Int,(∀ v∈vs,0<=v/\v < r)/\dIf (qV (d2 eqD (d1 jz (qc 2)) (dC (.int 0)))) (gk (qd (dC (.int 0)) qE)) (d1 wv (qc 1)) [ff (.lst (Cs.map cD)),ff (.int r),ff (.dct k),ff (sD (x::ls)),fg,fg]=.ok (.lst (vs.map D.int),[ff (.lst (Cs.map cD)),ff (.int r),ff (.dct k),ff (sD (x::ls)),fg,fg])/\vs.length<=10:=by
     by_cases u:k=[];·refine ⟨[0],λv f=>by rw [aH.mp f]; omega,?_,by simp⟩;have A:1<=sizeLine:=jU (by omega);simp [jz,eqD,eqN,eqS,u,A]
     ·refine ⟨(aB r.toNat).map λ(j:Nat)=>(j:Int),λv f=>?_,?_,by simp; omega⟩;·obtain ⟨j,E,rfl⟩:=aA.mp f;have:=aK.mp E;omega
      ·have i:wv (.int r)=.ok (.lst (((aB r.toNat).map λ(j:Nat)=>(j:Int)).map D.int)):=by
        unfold wv;have H:Ug 0 r/\r<=1000000:=⟨⟨by decide,by omega⟩,by omega⟩
        simp only [Int.sub_zero,if_pos H];rw [XX]
       generalize ((aB r.toNat).map λ(j:Nat)=>(j:Int)).map D.int=M at i ⊢;simp [jz,eqD,eqN,eqS,u,i]
    obtain ⟨d,B⟩:=d;have p:=Yh (gr:=qF n) (C:=.lst (Cs.map cD)) (r:=r) (k:=k) (ch:=ff (.lst (vs.map D.int))) (by omega) hi hs vs fg λv g=>by obtain ⟨b,e,_⟩:=QJ hC y w m n ls (WL k (.inr x) (.int v)) (by omega) (UA hk _ (f v g).1 (by have:=(f v g).2; omega)) (by have:=qaA k (.inr x) (.int v); omega);exact ⟨b,e⟩
    have l:jz (sD (x::ls))=.ok (.int ((ls.length:Int)+1)):=by simp [jz]
    have s:¬((ls.length:Int)+1=0):=by omega
    generalize T:sD (x::ls)=S at *;generalize D.lst (Cs.map cD)=C at *;have fin:∃ b,Ua [.val,.val,.val,.val] ((jf (Kb (jg (qc 4)) (gNm 5) (cfB (qF n))) (jO (dC (.bl fk)))) [ff C,ff (.int r),ff (.dct k),ff S,ff (.lst (vs.map D.int)),fg])=.ok (.bl b,[.non,.non,.non,.non]):=by
     have hit:jg (qc 4) [ff C,ff (.int r),ff (.dct k),ff S,ff (.lst (vs.map D.int)),fg]=.ok (vs.map D.int,[ff C,ff (.int r),ff (.dct k),ff S,ff (.lst (vs.map D.int)),fg]):=by simp [qZ]
     generalize vs.map D.int=M at hit p ⊢;rcases p with ⟨ρ,e⟩ | ⟨I,e⟩
     ·exact ⟨fm,by rw [zp,yZ,hit,jo,e]; rfl⟩
     ·exact ⟨fk,by rw [zp,yZ,hit,jo,e]; rfl⟩
    obtain ⟨b,G⟩:=fin;refine ⟨b,runD_ap.trans ?_,λz=>absurd z o⟩;rw [t];unfold qS;refine (qH (ρ1:=[ff C,ff (.int r),ff (.dct k),ff S,fg,fg]) (by simp [-vT,hA,yq])).trans ?_;refine (qH (ρ1:=[ff C,ff (.int r),ff (.dct k),ff S,fg,fg]) (by simp [l,eqD,eqN,eqS,s])).trans ?_;refine (qH (ρ1:=[ff C,ff (.int r),ff (.dct k),ff S,ff (.lst (vs.map D.int)),fg]) (by rw [wQ,d]; rfl)).trans ?_;exact G
theorem qco (l:List (Str×Str)):(LS l).length<=2 * l.length:=by unfold LS;rw [(qR _).length_eq];have:=WM (l.map (·.1)++l.map (·.2)) [];simp only [ap,ah,aM] at this;omega
theorem Yi (h1:1<=l.length) (j:l.length<=6):∃ b,jt [.lst (qm l),.int l.length,.dct []]=.ok (.bl b,[.non,.non,.non])/\(b=fm->NA l):=by
 obtain ⟨B,n1,n2,i⟩:=xI (K:=l) (by omega);have k:B.length<=6:=bu n2.length_le j;have L:=gf (l:=B) (by omega);have a:=QI (l:=B) (by omega);have f:=qco B;obtain ⟨b,g,hd⟩:=QJ (Cs:=CT B) (λc a=>qci a) (qch B (by omega)) (r:=l.length) (by omega) (by omega) 14 (LS B) [] (by omega) (λkv h=>by cases h) (by simp; omega);refine ⟨b,?_,λt=>n1 (qcj λz=>by rw [hd z] at t; cases t)⟩;refine runD_ap.trans ?_;have e:=UY (own:=[]) (cap:=[2]) (fi:=jg (qr [.vl] ku (qd (qc 3) qE))) (ρ:=[ff (.lst (qm l)),ff (.int l.length),ff (.dct []),ff (.lst (qm B)),fg]) (ρ1:=[ff (.lst (qm l)),ff (.int l.length),ff (.dct []),ff (.lst (qm B)),fg]) (ds:=(LS B).map D.str) (ft:=qV (d2 QM (qc 0) (qc 1))) (fe:=qc 0) (λ_=>fm) (λd=>d) (by simp) (by
   generalize D.lst (qm B)=Z at L ⊢;simp [qD,jE,L,qZ]) (by rw [ah]; exact jU (by omega)) (λd hd=>by
   obtain ⟨x,hx,rfl⟩:=aA.mp hd;simp [QM,VJ,Jc]) (λd hd _=>rfl)
 rw [List.map_id',bE.mpr λ_ _=>rfl] at e;have n:jz (.lst (qm l))=.ok (.int l.length):=by simp [jz,qm]
 unfold wf;rw [show qw we [.lst (qm l),.int l.length,.dct []]=[ff (.lst (qm l)),ff (.int l.length),ff (.dct []),fg,fg] from rfl];generalize D.lst (qm l)=Z at *;generalize D.lst (qm B)=ZB at *;refine (qH (ρ1:=[ff Z,ff (.int l.length),ff (.dct []),fg,fg]) (by simp [n,ltD])).trans ?_;refine (qH (ρ1:=[ff Z,ff (.int l.length),ff (.dct []),ff ZB,fg]) (by simp [qD,jE,i])).trans ?_;refine (qH (ρ1:=[ff Z,ff (.int l.length),ff (.dct []),ff ZB,ff (sD (LS B))]) (by rw [wQ,e]; rfl)).trans ?_;generalize sD (LS B)=S at *;generalize D.lst ((CT B).map cD)=C at *;simp [qD,jE,a,g,qv]
abbrev Lk:=Int×Int
abbrev LD (x:Lk):D:=Ld x.1 x.2
noncomputable def LK:List Lk:=(aB 6).flatMap λ(a:Nat)=>(aB 6).map λ(b:Nat)=>((a:Int) - 3,(b:Int) - 3)
theorem yg:qN []=.ok (.lst (LK.map LD),[]):=by kernel_rfl
theorem KS:LK.length=36:=by kernel_rfl
theorem lk_mem {x:Lk}:x∈LK↔Ys x.1 x.2:=by
 unfold LK Ys;simp only [dZ,aA,aK];constructor;·rintro ⟨a,g,b,d,rfl⟩;simp only;omega
 ·rintro ⟨⟨h1,h2⟩,i,h⟩;refine ⟨(x.1+3).toNat,by omega,(x.2+3).toNat,by omega,?_⟩;obtain ⟨a,b⟩:=x;simp only at *;refine dS ?_ ?_;·show ((a+3).toNat:Int) - 3=a;omega
  ·show ((b+3).toNat:Int) - 3=b;omega
theorem QK {Cs:List α} {fi:vI} {fe:qO} {ft:ub} (A B:α->D) (P:α->Bool) (o:∀ k∈cap,k∉own) (h:fi ρ=.ok (Cs.map A,ρ)) (hl:Cs.length<=sizeLine)
  (ht:∀ c∈Cs,ft (ff (A c)::cap.map λk=>(ρ[k]?).getD fg)=.ok (P c,ff (A c)::cap.map λk=>(ρ[k]?).getD fg))
  (i:∀ c∈Cs,P c=fm->fe (ff (A c)::cap.map λk=>(ρ[k]?).getD fg)=.ok (B c,ff (A c)::cap.map λk=>(ρ[k]?).getD fg)):qB own 1 cap fi (gNm 0) ft fe ρ=.ok (.lst ((Cs.filter P).map B),ρ):=by
 have key:∀ (l:List α) (x:Option D),(∀ c∈l,c∈Cs)->∃ m,jn (gNm 0) ft fe (l.map A) (x::cap.map λk=>(ρ[k]?).getD fg)=.ok ((l.filter P).map B,m::cap.map λk=>(ρ[k]?).getD fg):=by
  intro l
  induction l with
  | nil=>intro x _; exact ⟨x,rfl⟩
  | cons c l j=>
   intro x a;obtain ⟨m,e⟩:=j (ff (A c)) λd hd=>a d (ac _ hd);have h1:=ht c (a c (aj ..));have h2:=i c (a c (aj ..));cases q:P c with
   | true=>exact ⟨m,by simp [jn,yN,h1,q,h2 q,e]⟩
   | false=>exact ⟨m,by simp [jn,yN,h1,q,e]⟩
 obtain ⟨m,e⟩:=key Cs fg λ_ h=>h;unfold qB;rw [h];simp only [jo];rw [if_pos (by rw [ah]; exact hl),show jN 1 cap ρ=fg::cap.map λk=>(ρ[k]?).getD fg from rfl,e];simp only [jo];rw [kU _ cap 1 ρ o]
theorem gi:LK.length<=sizeLine:=by rw [KS]; exact jU (by omega)
noncomputable def ng (ws:List Str) (x:Lk):Int:=(AL (jy ws x.1 x.2)).length
theorem ZJ (l:List (Str×Str)):jz (ALd l)=.ok (.int (AL l).length):=by simp [ALd,jz]
theorem qcp (h:∀ i,i < l.length->KO l i=fm):(AL l).length=l.length:=by unfold AL;rw [ah,bE.mpr λi hi=>h i (aK.mp hi),bg]
theorem qdJ (l:List (Str×Str)):(AL l).length<=l.length:=by unfold AL;rw [ah];have:=c8 (KO l) (aB l.length);rw [bg] at this;exact this
theorem qcq (h:NA l):∀ i,i < l.length->KO l i=true:=λi hi=>fst1_iff.mpr λj D=>by
 have hp:=bU.mp h j i (by omega) hi D;have e1:pa l i=l[i]:=by unfold pa; rw [aw hi]; rfl
 have e:pa l j=l[j]:=by unfold pa; rw [aw (show j < l.length by omega)]; rfl
 rw [e1,e];cases q:al l[i] l[j] with
 | false=>rfl
 | true=>rw [qau q] at hp; cases hp
theorem ZK {l:List Int} (h:l≠[]):∃ M∈l,(∀ a∈l,a<=M)/\Vw (.lst (l.map D.int))=.ok (.int M):=by
 cases l with
 | nil=>exact absurd rfl h
 | cons t ts=>
  obtain ⟨h1,h2,i⟩:=Jn ts t;refine ⟨Kz t ts,?_,λa g=>?_,?_⟩
  ·rcases h1 with h1 | h1;·rw [h1]; exact aj ..
   ·exact ac _ h1
  ·rcases ae.mp g with rfl | g;·exact h2
   ·exact i a g
  ·simp only [Vw,xf]
noncomputable def BL (ws:List Str) (M:Int):List Lk:=LK.filter λx=>decide (ng ws x=M)
theorem Jm (w:vC ws):∃ M:Int,(∃ x∈LK,ng ws x=M)/\(∀ x∈LK,ng ws x<=M)/\wk [Wd ws]=.ok (.lst ((BL ws M).map LD),[.non]):=by
 have a:∀ x∈LK,wT [Wd ws,LD x]=.ok (ALd (jy ws x.1 x.2),[.non,.non]):=λx hx=>XW w (lk_mem.mp hx);obtain ⟨M,U,c,e⟩:=ZK (l:=LK.map (ng ws)) (by intro z;have:=congrArg eI z;rw [ah,KS] at this;cases this);obtain ⟨b,d,U⟩:=aA.mp U;refine ⟨M,⟨b,d,U⟩,λx hx=>c _ (aA.mpr ⟨x,hx,rfl⟩),?_⟩;have hi:∀ y:Option D,jg (qr [] qN qE) [ff (Wd ws),y]=.ok (LK.map LD,[ff (Wd ws),y]):=λy=>by have h:=yg;generalize LK.map LD=Z at h ⊢;simp [qD,jE,h,qZ]
 have e1:=QK (own:=[]) (cap:=[0]) (Cs:=LK) (ρ:=[ff (Wd ws),fg]) (fi:=jg (qr [] qN qE)) (ft:=ftT) (fe:=d1 jz (qr [.vl,.vl] wT (qd (qc 1) (qd (qc 0) qE)))) LD (λx=>.int (ng ws x)) (λ_=>fm) (by simp) (hi fg) gi (λ_ _=>rfl) λx hx _=>by have h:=a x hx;have h2:=ZJ (jy ws x.1 x.2);simp [qD,jE,h,h2,ng]
 have i:((LK.filter λ_=>fm).map λx=>D.int (ng ws x))=(LK.map (ng ws)).map D.int:=by rw [bE.mpr λ_ _=>rfl,bb];rfl
 rw [i] at e1;have E:=QK (own:=[]) (cap:=[1,0]) (Cs:=LK) (ρ:=[ff (Wd ws),ff (.int M)]) (fi:=jg (qr [] qN qE)) (ft:=qV (d2 eqD (d1 jz (qr [.vl,.vl] wT (qd (qc 2) (qd (qc 0) qE)))) (qc 1))) (fe:=qc 0) LD LD (λx=>decide (ng ws x=M)) (by simp) (hi _) gi (λx hx=>by
  have h:=a x hx;have h2:=ZJ (jy ws x.1 x.2);by_cases q:ng ws x=M;·have g:=q;unfold ng at g;simp [qD,jE,h,h2,eqD,eqN,eqS,q,g]
  ·have g:=q;unfold ng at g;simp [qD,jE,h,h2,eqD,eqN,eqS,q,g]) λ_ _ _=>rfl
 refine runD_ap.trans ?_;unfold wj;rw [show qw wg [Wd ws]=[ff (Wd ws),fg] from rfl];refine (qH (ρ1:=[ff (Wd ws),ff (.int M)]) (by rw [wQ,vT,e1,jo];show ((Vw (D.lst ((LK.map (ng ws)).map D.int))).plain.bind _).bind _=_;rw [e];rfl)).trans ?_;rw [uL,E];rfl
theorem XY (w:vC ws):∃ P:Lk->Bool,zM [Wd ws]=.ok (.lst ((LK.filter P).map LD),[.non])/\∀ x∈LK,P x=fm->NA (jy ws x.1 x.2)/\jt [.lst (qm (jy ws x.1 x.2)),.int ws.length,.dct []]=.ok (.bl fm,[.non,.non,.non]):=by
 have hd:∀ x:Lk,∃ b,jt [.lst (qm (jy ws x.1 x.2)),.int ws.length,.dct []]=.ok (.bl b,[.non,.non,.non])/\(b=fm->NA (jy ws x.1 x.2)):=λx=>by have a:=uB ws x.1 x.2;have:=Yi (l:=jy ws x.1 x.2) (by rw [a]; exact w.1) (by rw [a]; exact w.2.1);rw [a] at this;exact this
 refine ⟨λx=>(hd x).choose,?_,λx hx h=>?_⟩
 ·have hi:jg (qr [] qN qE) [ff (Wd ws)]=.ok (LK.map LD,[ff (Wd ws)]):=by have h:=yg;generalize LK.map LD=Z at h ⊢;simp [qD,jE,h,qZ]
  have n:jz (Wd ws)=.ok (.int ws.length):=by simp [jz]
  have e:=QK (own:=[]) (cap:=[0]) (Cs:=LK) (ρ:=[ff (Wd ws)]) (fi:=jg (qr [] qN qE)) (ft:=yh (qr [.vl,.vl,.vl] jt (qd (qr [.vl,.vl] xo (qd (qc 1) (qd (qc 0) qE))) (qd (d1 jz (qc 1)) (qd (dC (.dct [])) qE))))) (fe:=qc 0) LD LD (λx=>(hd x).choose) (by simp) hi gi (λx hx=>by have h1:=KN w (lk_mem.mp hx);have h2:=(hd x).choose_spec.1;generalize (hd x).choose=b at h2 ⊢;generalize D.lst (qm (jy ws x.1 x.2))=Z at h1 h2;generalize Wd ws=W at h1 n ⊢;simp [qD,jE,h1,n,h2,yq]) λ_ _ _=>rfl;have d:=wK w;refine runD_ap.trans ?_;unfold Jw;rw [show qw Jv [Wd ws]=[ff (Wd ws)] from rfl];refine (qH (ρ1:=[ff (Wd ws)]) (by simp [qD,jE,d])).trans ?_;rw [uL,e];rfl
 ·obtain ⟨h1,h2⟩:=(hd x).choose_spec;rw [show (hd x).choose=fm from h] at h1;exact ⟨h2 h,h1⟩
theorem qcr (x y:Lk):eqN 7 (LD x) (LD y)=ff (decide (x=y)):=by obtain ⟨a,b⟩:=x;obtain ⟨c,d⟩:=y;by_cases q:a=c <;> by_cases e:b=d <;> simp [eqN,wo,eqS,q,e]
theorem ZL (x:Lk):∀ l:List Lk,yI 7 (LD x) (l.map LD)=ff (decide (x∈l))
 | []=>by simp [yI]
 | y::l=>by
  have j:=ZL x l;have h:=qcr y x;rw [ax];unfold yI;rw [h,j];by_cases q:x=y;·subst q; by_cases e:x∈l <;> simp [e]
  ·have g:¬y=x:=λz=>q z.symm;by_cases e:x∈l <;> simp [q,g,e]
theorem qcs (x:Lk) (l:List Lk):QM (LD x) (.lst (l.map LD))=.ok (.bl (!decide (x∈l))):=by show (inD (LD x) (.lst (l.map LD))).bind _=_;unfold inD;simp only [ZL];rfl
theorem Yj:∀ l:List Lk,wo (eqN 7) (l.map LD) (l.map LD)=ff fm
 | []=>rfl
 | x::l=>by rw [ax];unfold wo;rw [qcr,Yj l];simp
theorem qaC (l:List Lk):neD (.lst (l.map LD)) (.lst (l.map LD))=.ok (.bl fk):=by
 have:eqN 8 (.lst (l.map LD)) (.lst (l.map LD))=ff true:=by show (if _ then _ else _)=_;rw [if_pos rfl];exact Yj l
 simp only [neD,this];rfl
theorem iR2 {fa fb:qO} {i j:Int} (a:-100<=i) (h1:i<=1000) (k0:-100<=j) (k1:j<=1000) (h:fa ρ=.ok (.int i,ρ1)) (h':fb ρ1=.ok (.int j,ρ2)):wS fa fb ρ=.ok (yK i (j - i).toNat,ρ2):=by
 have k:Ug i j:=⟨⟨by omega,by omega⟩,by omega,by omega⟩
 simp [wS,h,h',k]
theorem qd8 (ρ:Sl):d1 GM (dC (.int 3)) ρ=.ok (.int (-3),ρ):=by simp [GM]
noncomputable def R6:List Int:=[-3,-2,-1,0,1,2]
theorem qeJ:yK (-3) 6=R6.map D.int:=by kernel_rfl
theorem ZM (h:p∈R6):-3<=p/\p<=2:=by simp [R6] at h;omega
noncomputable def sk (x:Str×Str):List Str:=kJ [x.1,x.2]
theorem qaD (h:[x.1,x.2].Perm [y.1,y.2]):sk x=sk y:=yU ((qR _).trans (h.trans (qR _).symm)) (kh _) (kh _)
theorem sk_iff:sk x=sk y↔al x y=true:=by
 rw [al_iff];constructor
 ·intro h;have p:[x.1,x.2].Perm [y.1,y.2]:=by have:=qR [x.1,x.2];rw [show kJ [x.1,x.2]=kJ [y.1,y.2] from h] at this;exact this.symm.trans (qR _)
  have c:x.1∈[y.1,y.2]:=p.mem_iff.mp aj;rcases ae.mp c with e | e
  ·rw [e] at p;have:=List.perm_singleton.mp ((List.perm_cons _).mp p);injection this with i;exact .inl (dS e i)
  ·have e:=aH.mp e;rw [e] at p;have:=List.perm_singleton.mp ((List.perm_cons _).mp (p.trans (cZ ..)));injection this with i;exact .inr (dS e i)
 ·rintro (rfl | rfl);·rfl
  ·exact qaD (cZ ..)
theorem XZ {ks:List (List Str)} {x y:List Str}:y∈ju ks x↔y∈ks\/y=x:=by
 unfold ju;split
 ·constructor;·exact .inl
  ·rintro (h | rfl) <;> assumption
 ·simp
theorem KU {l:List (Str×Str)}:∀ i,i<=l.length->(((l.take i).map sk).foldl ju []).length=((aB i).filter (KO l)).length/\∀ y,y∈((l.take i).map sk).foldl ju []↔∃ j,j < i/\sk (pa l j)=y
 | 0,_=>⟨rfl,λy=>by simp⟩
 | i+1,hi=>by
  obtain ⟨h1,h2⟩:=KU (l:=l) i (by omega);have hp:l[i]?=ff (pa l i):=by unfold pa; rw [aw (by omega)]; rfl
  rw [ci,hp,Option.toList_some,cI,cY,List.range_succ,List.filter_append];show (ju (((l.take i).map sk).foldl ju []) (sk (pa l i))).length=_/\∀ y,y∈ju (((l.take i).map sk).foldl ju []) (sk (pa l i))↔_;constructor
  ·by_cases h:KO l i=fm
   ·have nm:sk (pa l i)∉((l.take i).map sk).foldl ju []:=λz=>by obtain ⟨j,D,e⟩:=(h2 _).mp z;have:=fst1_iff.mp h j D;rw [sk_iff.mp e.symm] at this;cases this
    unfold ju at nm ⊢;rw [if_neg nm,ap,ap];unfold ju at h1;rw [h1];simp [h]
   ·have nm:sk (pa l i)∈((l.take i).map sk).foldl ju []:=by
     by_cases z:sk (pa l i)∈((l.take i).map sk).foldl ju [];·exact z
     ·refine absurd (fst1_iff.mpr λj D=>?_) h;cases q:al (pa l i) (pa l j) with
      | false=>rfl
      | true=>exact absurd ((h2 _).mpr ⟨j,D,(sk_iff.mpr q).symm⟩) z
    have w:ju (((l.take i).map sk).foldl ju []) (sk (pa l i))=((l.take i).map sk).foldl ju []:=if_pos nm;rw [w,h1,ap];simp [h]
  ·intro y;rw [XZ,h2];constructor
   ·rintro (⟨j,D,e⟩ | rfl);·exact ⟨j,by omega,e⟩
    ·exact ⟨i,by omega,rfl⟩
   ·rintro ⟨j,D,e⟩;by_cases z:j=i;·subst z; exact .inr e.symm
    ·exact .inl ⟨j,by omega,e⟩
theorem KW:∀ l:List (Str×Str),ZC (l.map λy=>.tup ((sk y).map D.str))=ff (l.map sk)
 | []=>rfl
 | x::l=>by rw [ax];unfold ZC;rw [kT,KW l];rfl
theorem Yk (hl:l.length<=6):ww (.lst (l.map λy=>.tup ((sk y).map D.str)))=.ok (.int (AL l).length):=by
 have h:=(KU (l:=l) l.length (am _)).1;rw [List.take_length] at h;have e:Qq (.lst (l.map λy=>.tup ((sk y).map D.str)))=ff (l.map sk):=KW l;have a:(l.map sk).length<=17:=by rw [ah]; omega
 simp only [ww,e];rw [if_pos a,h];unfold AL;rw [ah]
abbrev xA (ws:List Str) (x:Lk):D:=.tup [.int (ng ws x),LD x]
abbrev rwB (G:jM):je:=(jf (kf 8 (qB [3,1] 1 [] (jg (qr [.vl,.vl] G (qd (qc 2) (qd (gj (qd (qc 4) (qd (qc 7) qE))) qE)))) (gNm 0) ftT (d1 yO (d1 wR (qc 0)))))
  (kY (yu 3 gp (gj (qd (d1 ww (qc 8)) (qd (gj (qd (qc 4) (qd (qc 7) qE))) qE))))))
theorem qct {f g:je} (h:f ρ=.ok (.nx,ρ1)):jf f g ρ=g ρ1:=by rw [zp,h];rfl
theorem qaE {G:jM} {W:D} (hl:l.length<=6) (f:G [W,Ld p q]=.ok (.lst (qm l),[.non,.non])) {rows:List D} (r:rows.length<=100) (a b c d e:Option D):rwB G [a,b,ff W,ff (.lst rows),ff (.int p),c,d,ff (.int q),e]=.ok (.nx,[a,b,ff W,ff (.lst (rows++[.tup [.int (AL l).length,Ld p q]])),ff (.int p),c,d,ff (.int q),ff (.lst (l.map λy=>.tup ((sk y).map D.str)))]):=by
 have O:2<=sizeLine:=jU (by omega);have n:rows.length < sizeLine:=Nat.lt_of_le_of_lt r (aC (by decide) big);have hi:jg (qr [.vl,.vl] G (qd (qc 2) (qd (gj (qd (qc 4) (qd (qc 7) qE))) qE))) [a,b,ff W,ff (.lst rows),ff (.int p),c,d,ff (.int q),e]=.ok (l.map pD,[a,b,ff W,ff (.lst rows),ff (.int p),c,d,ff (.int q),e]):=by simp only [Uc,zq,yx,Ub,wP,bf,be,jo,yY,af,aM,Nat.reduceAdd,if_pos O,qD,et,f,zo,jE,qZ];rfl
 have o:=QK (own:=[3,1]) (cap:=[]) (Cs:=l) (ρ:=[a,b,ff W,ff (.lst rows),ff (.int p),c,d,ff (.int q),e]) (ft:=ftT) (fe:=d1 yO (d1 wR (qc 0))) pD (λy=>.tup ((sk y).map D.str)) (λ_=>fm) (by simp) hi (jU (by omega)) (λ_ _=>rfl) λy _ _=>by
  have es:wR (pD y)=.ok (.lst ((sk y).map D.str)):=by have:vS (pD y)=ff [y.1,y.2]:=rfl;simp only [wR,this];rw [if_pos (by simp)];rfl
  simp only [vT,wP,bv,bf,jo,es,Jh,yO]
 rw [bE.mpr λ_ _=>rfl] at o;have h:=Yk hl;unfold rwB;generalize (l.map λy=>(D.tup ((sk y).map D.str)))=V at o h ⊢;rw [qct (ρ1:=[a,b,ff W,ff (.lst rows),ff (.int p),c,d,ff (.int q),ff (.lst V)]) ?a]
 case a=>
  rw [wQ,o];simp only [jo,af,aM,Nat.reduceAdd,Nat.reduceLT,if_true,cL,cM]
 rw [Xp,GV];simp only [bf,be,uI,if_true,Ub,yx,vT,wP,jo,h,Jh,yY,af,aM,Nat.reduceAdd,if_pos O,gp,if_pos n,cL,cM]
theorem KY {fb:je} (h1:g d ρ=.ok ρ1) (h2:fb ρ1=.ok (.nx,ρ2)):kP g fb (d::ds) ρ=kP g fb ds ρ2:=by simp [kP,h1,h2]
theorem ZN {G:jM} (w:ws.length<=6) (h:∀ x∈LK,G [Wd ws,LD x]=.ok (.lst (qm (jy ws x.1 x.2)),[.non,.non])) (hp:p∈R6) (a b c d:Option D):∀ (s:List Int) (rows:List D) (z v:Option D),(∀ q∈s,q∈R6)->rows.length+s.length<=100 ->∃ f U,kP (gNm 7) (rwB G) (s.map D.int) [a,b,ff (Wd ws),ff (.lst rows),ff (.int p),c,d,z,v]=.ok (.nx,[a,b,ff (Wd ws),ff (.lst (rows++s.map λq=>xA ws (p,q))),ff (.int p),c,d,f,U])
 | [],rows,z,v,_,_=>⟨z,v,by simp [kP]⟩
 | q::s,rows,z,v,hq,hl=>by rw [af] at hl;have hx:(p,q)∈LK:=lk_mem.mpr ⟨ZM hp,ZM (hq q aj)⟩;have e:=qaE (l:=jy ws p q) (by rw [uB]; exact w) (h (p,q) hx) (rows:=rows) (by omega) a b c d v;obtain ⟨f,U,i⟩:=ZN w h hp a b c d s (rows++[xA ws (p,q)]) (ff (.int q)) (ff (.lst ((jy ws p q).map λy=>.tup ((sk y).map D.str)))) (λx hx=>hq x (ac _ hx)) (by rw [ap]; simp; omega);refine ⟨f,U,?_⟩;rw [ax,KY (ρ1:=[a,b,ff (Wd ws),ff (.lst rows),ff (.int p),c,d,ff (.int q),v]) rfl e];rw [show rows++(q::s).map (λq=>xA ws (p,q))=(rows++[xA ws (p,q)])++s.map λq=>xA ws (p,q) by simp];exact i
theorem qcu {fa fb:qO} (h1:fa ρ=.ok (.int (-3),ρ)) (h2:fb ρ=.ok (.int 3,ρ)):wS fa fb ρ=.ok (R6.map D.int,ρ):=by rw [iR2 (by decide) (by decide) (by decide) (by decide) h1 h2,<-qeJ];rfl
theorem Yl {G:jM} (w:ws.length<=6) (j:∀ x∈LK,G [Wd ws,LD x]=.ok (.lst (qm (jy ws x.1 x.2)),[.non,.non])) (a b c d:Option D):∀ (ps:List Int) (rows:List D) (y z v:Option D),(∀ p∈ps,p∈R6)->rows.length+6 * ps.length<=100 ->∃ g f U,kP (gNm 4) (Kb (wS (d1 GM (dC (.int 3))) (dC (.int 3))) (gNm 7) (rwB G)) (ps.map D.int) [a,b,ff (Wd ws),ff (.lst rows),y,c,d,z,v]=.ok (.nx,[a,b,ff (Wd ws),ff (.lst (rows++ps.flatMap λp=>R6.map λq=>xA ws (p,q))),g,c,d,f,U])
 | [],rows,y,z,v,_,_=>⟨y,z,v,by simp [kP]⟩
 | p::ps,rows,y,z,v,hp,hl=>by rw [af] at hl;have m:R6.length=6:=rfl;obtain ⟨k,l,e⟩:=ZN w j (hp p aj) a b c d R6 rows z v (λ_ h=>h) (by omega);obtain ⟨g,f,U,i⟩:=Yl w j a b c d ps (rows++R6.map λq=>xA ws (p,q)) (ff (.int p)) k l (λx hx=>hp x (ac _ hx)) (by rw [ap,ah]; omega);refine ⟨g,f,U,?_⟩;rw [ax,KY (ρ1:=[a,b,ff (Wd ws),ff (.lst rows),ff (.int p),c,d,z,v]) rfl (by rw [yZ,qcu (qd8 _) rfl,jo]; exact e)];rw [dO,<-cg];exact i
theorem qdK:LK=R6.flatMap λp=>R6.map λq=>(p,q):=by decide +kernel
theorem qcv (ns:List Int):XR [scr ns]=.ok (.bl fm,[.non]):=by
 refine runD_ap.trans ?_;obtain ⟨ws,t,w,_,g1⟩:=XT ns [] (by simp);obtain ⟨M,⟨o,g,J⟩,r,v⟩:=Jm w;obtain ⟨P,u,B⟩:=XY w;have C:=w.2.1;have c:0<=sizeLine:=aZ _;have j:∀ x,ng ws x<=ws.length:=λx=>by have h1:=qdJ (jy ws x.1 x.2);have h2:=uB ws x.1 x.2;unfold ng;omega
 have f:∀ x∈LK,P x=fm->x∈BL ws M:=λx hx hp=>by
  have h1:=qcp (qcq (B x hx hp).1);have h2:=uB ws x.1 x.2;have O:ng ws x=ws.length:=by unfold ng; omega
  have N:=r x hx;have L:=j o;exact bL.mpr ⟨hx,decide_eq_true (by omega)⟩
 have G:∀ x∈LK,gb [Wd ws,LD x]=.ok (.lst (qm (jy ws x.1 x.2)),[.non,.non]):=λx hx=>JH w (lk_mem.mp hx);obtain ⟨y,b,U,e⟩:=Yl C G (ff (scr ns)) (ff (.lst t)) fg fg R6 [] fg fg fg (λ_ h=>h) (by decide);have E:([]:List D)++R6.flatMap (λp=>R6.map λq=>xA ws (p,q))=LK.map (xA ws):=by rw [qdK,dq,List.map_flatMap];simp only [bb];rfl
 rw [E] at e;obtain ⟨a,m,k,H⟩:=ZK (l:=LK.map (ng ws)) (by intro z;have:=congrArg eI z;rw [ah,KS] at this;cases this);have eM:a=M:=by obtain ⟨K,d,e1⟩:=aA.mp m;have R:=r K d;have Q:=k _ (aA.mpr ⟨o,g,rfl⟩);omega
 subst eM;have s:LK.map (xA ws)=(LK.map λx=>(D.int (ng ws x),LD x)).map λp=>.tup [p.1,p.2]:=by rw [bb]; rfl
 have hsz:(LK.map λx=>(D.int (ng ws x),LD x)).length<=sizeLine:=by rw [ah]; exact gi
 have n:=JG (own:=[1]) (cap:=[]) (fi:=jg (qc 3)) (ft:=ftT) (fe:=qc 0) (ρ:=[ff (scr ns),ff (.lst t),ff (Wd ws),ff (.lst (LK.map (xA ws))),y,fg,fg,b,U]) (ρ1:=[ff (scr ns),ff (.lst t),ff (Wd ws),ff (.lst (LK.map (xA ws))),y,fg,fg,b,U]) (ps:=LK.map λx=>(D.int (ng ws x),LD x)) (λ_=>fm) (λp=>p.1) (by simp)
  (by rw [<-s]; generalize LK.map (xA ws)=Z; simp [qZ]) hsz (λ_ _=>rfl) (λp _ _=>by simp)
 rw [bE.mpr (λ_ _=>rfl)] at n;have f1:(LK.map λx=>(D.int (ng ws x),LD x)).map (λp=>p.1)=(LK.map (ng ws)).map D.int:=by rw [bb,bb]; rfl
 rw [f1] at n;have c2:=JG (own:=[1]) (cap:=[5]) (fi:=jg (qc 3)) (ft:=qV (d2 eqD (qc 0) (qc 2))) (fe:=qc 1) (ρ:=[ff (scr ns),ff (.lst t),ff (Wd ws),ff (.lst (LK.map (xA ws))),y,ff (.int a),ff (.lst ((BL ws a).map LD)),b,U]) (ρ1:=[ff (scr ns),ff (.lst t),ff (Wd ws),ff (.lst (LK.map (xA ws))),y,ff (.int a),ff (.lst ((BL ws a).map LD)),b,U]) (ps:=LK.map λx=>(D.int (ng ws x),LD x)) (λp=>match p.1 with | .int i=>decide (i=a) | _=>fk) (λp=>p.2) (by simp)
  (by rw [<-s]; generalize LK.map (xA ws)=Z; simp [qZ]) hsz (λp hp=>by obtain ⟨x,hx,rfl⟩:=aA.mp hp;simp [eqD,eqN,eqS] <;> rfl) (λp _ _=>by simp)
 have f2:((LK.map λx=>(D.int (ng ws x),LD x)).filter λp=>match p.1 with | .int i=>decide (i=a) | _=>fk).map (λp=>p.2)=(BL ws a).map LD:=by rw [ei,bb];rfl
 rw [f2] at c2;have I:=QK (own:=[1]) (cap:=[6]) (Cs:=LK.filter P) (fi:=jg (qr [.vl] zM (qd (qc 2) qE))) (ft:=qV (d2 QM (qc 0) (qc 1))) (fe:=qc 0) (ρ:=[ff (scr ns),ff (.lst t),ff (Wd ws),ff (.lst (LK.map (xA ws))),y,ff (.int a),ff (.lst ((BL ws a).map LD)),b,U]) LD LD (λ_=>fk) (by simp)
  (by
   generalize LK.map (xA ws)=Z;generalize (BL ws a).map LD=Z2;generalize (LK.filter P).map LD=Z3 at u ⊢;simp only [Uc,zq,yx,wP,bf,be,jo,yY,qD,et,u,zo,jE,qZ]) (jU (by
   have:(LK.filter P).length<=LK.length:=c8 _ _;rw [KS] at this;omega)) (λx hx=>by
   obtain ⟨h1,h2⟩:=bL.mp hx;have:=qcs x (BL ws a);rw [decide_eq_true (f x h1 h2)] at this;simp only [Kv,Xn,wP,ax,bv,bf,be,dW,jo,this,Jh,dg,qcJ]) λ_ _ h=>by cases h
 rw [show ((LK.filter P).filter λ_=>fk)=[] from List.filter_eq_nil_iff.mpr λ_ _=>by simp] at I;have A:=qaC (BL ws a);unfold qap;simp only [qw,ax,bv,af,aM,Nat.reduceAdd,Nat.reduceSub,b4,List.cons_append,dq];refine (qH (ρ1:=[ff (scr ns),ff (.lst []),fg,fg,fg,fg,fg,fg,fg]) (by simp [c])).trans ?_;refine (qH (ρ1:=[ff (scr ns),ff (.lst t),ff (Wd ws),fg,fg,fg,fg,fg,fg]) (by simp [qD,jE,g1])).trans ?_;refine (qH (ρ1:=[ff (scr ns),ff (.lst t),ff (Wd ws),ff (.lst []),fg,fg,fg,fg,fg]) (by simp [c])).trans ?_;refine (qH (ρ1:=[ff (scr ns),ff (.lst t),ff (Wd ws),ff (.lst (LK.map (xA ws))),y,fg,fg,b,U]) (by rw [yZ,qcu (qd8 _) rfl,jo]; exact e)).trans ?_;refine (qH (ρ1:=[ff (scr ns),ff (.lst t),ff (Wd ws),ff (.lst (LK.map (xA ws))),y,ff (.int a),fg,b,U]) (by rw [wQ,vT,n];simp only [jo,H,Jh,af,aM,Nat.reduceAdd,Nat.reduceLT,if_true,cL,cM])).trans ?_;refine (qH (ρ1:=[ff (scr ns),ff (.lst t),ff (Wd ws),ff (.lst (LK.map (xA ws))),y,ff (.int a),ff (.lst ((BL ws a).map LD)),b,U]) (by generalize LK.map (xA ws)=Z;generalize (BL ws a).map LD=Z2 at v ⊢;simp only [wQ,zq,yx,wP,bf,be,jo,yY,qD,et,v,zo,jE,af,aM,Nat.reduceAdd,Nat.reduceLT,if_true,cL,cM])).trans ?_;refine (qH (ρ1:=[ff (scr ns),ff (.lst t),ff (Wd ws),ff (.lst (LK.map (xA ws))),y,ff (.int a),ff (.lst ((BL ws a).map LD)),b,U]) (by rw [qbP,Kv,Xn,wP];simp only [bf,be,jo];rw [c2];simp only [jo,A,Jh,qcJ,aY,if_false,Xo])).trans ?_;rw [uL,Xn,I];have e0:eqD (.lst []) (.lst [])=.ok (.bl fm):=rfl;simp only [jo,bv,GU,yY,aM,if_pos c,e0,Jh];rfl
end Kx
namespace Kx
open PySem PySem.Spec PyProof.Rows L2 L2.D2
variable {us:List fj} {P:List fj->Prop}
theorem qd9 (hl:us.length=0) (h:P []):P us:=List.length_eq_zero_iff.mp hl ▸ h
theorem qcw {n:Nat} (hl:us.length=n+1):∃ a l,us=a::l/\l.length=n:=by
 cases us with
 | nil=>cases hl
 | cons a l=>exact ⟨a,l,rfl,Nat.succ.inj hl⟩
theorem qea (hl:us.length=1) (h:∀ a,P [a]):P us:=by obtain ⟨a,l,rfl,e⟩:=qcw hl;exact qd9 (P:=λl=>P (a::l)) e (h a)
theorem qeb (hl:us.length=2) (h:∀ a b,P [a,b]):P us:=by obtain ⟨a,l,rfl,e⟩:=qcw hl;exact qea (P:=λl=>P (a::l)) e (h a)
theorem qec (hl:us.length=3) (h:∀ a b c,P [a,b,c]):P us:=by obtain ⟨a,l,rfl,e⟩:=qcw hl;exact qeb (P:=λl=>P (a::l)) e (h a)
theorem qed (hl:us.length=4) (h:∀ a b c d,P [a,b,c,d]):P us:=by obtain ⟨a,l,rfl,e⟩:=qcw hl;exact qec (P:=λl=>P (a::l)) e (h a)
theorem qeK (hl:us.length=5) (h:∀ a b c d e,P [a,b,c,d,e]):P us:=by obtain ⟨a,l,rfl,e⟩:=qcw hl;exact qed (P:=λl=>P (a::l)) e (h a)
variable {K:Frag} {h:Heap} {mg:Str->Option fj}
theorem qaF (X:K.In h) (G:h.Ns mainGlobals mg) {x:Str} {st:Stmt} {ps:List Str} {f:Addr} {oc:fj} {od an:Option Addr} {osl:Array (Option fj)} {kV doc pm cdv ct:fj}
  (a:nsIn K mainGlobals x=ff (ff (.ref f))) (l:K.lookup f=ff ⟨oc,od,.func (bO x x (vK st) (kG st) (ql st) .none kV doc pm an cdv ct),osl⟩) (c:codeIn K cdv x=fm) (k:keepIn K (.ref f)=fm)
  (d:∀ (kV doc pm:fj) (an:Option Addr) (cdv ct:fj) (us:List fj),us.length=ps.length->bindArgs (bO x x (vK st) (kG st) (ql st) .none kV doc pm an cdv ct) ⟨us,[]⟩=pure (ps.zip us)):vN K mg x st ps:=
 ⟨f,_,Wa l c k,mg_of X G a,(Wa l c k).binds d⟩
variable {x:Str}
theorem Ym {l:List Str} {f:Str->Addr} (nd:(l.map f).Nodup) {y:Str} (hx:x∈l) (h:y∈l) (e:f x=f y):x=y:=by obtain ⟨i,hi,rfl⟩:=cq.mp hx;obtain ⟨j,D,rfl⟩:=cq.mp h;have q:=(dU (h₀:=by simpa using hi) (h₁:=by simpa using D) nd).mp (show (l.map f)[i]'(by simpa using hi)=(l.map f)[j]'(by simpa using D) by simpa using e);subst q;rfl
noncomputable def caT (T:List (Str×Addr)) (x:Str):Addr:=(T.lookup x).getD 0
noncomputable def Za (K:Frag) (Cs:List Addr) (W:Addr):Bool:=decide Cs.Nodup&&Cs.all λc=>xcB K c&&decide (cW K (.ref c) (.ref W)=ff fm)&&decide (bI K (.ref c) (.type "ValueError")=ff fm)&&cG K c bmV "ValueError.__new__"&&Cs.all λd=>decide (bI K (.ref c) (.ref d)=ff (decide (c=d)))
theorem Zb {Cs:List Addr} {W:Addr} (h:Za K Cs W=fm):Cs.Nodup/\∀ c∈Cs,xcB K c=fm/\cW K (.ref c) (.ref W)=ff fm/\bI K (.ref c) (.type "ValueError")=ff fm/\cG K c bmV "ValueError.__new__"=fm/\∀ d∈Cs,bI K (.ref c) (.ref d)=ff (decide (c=d)):=by unfold Za at h;rw [aT,aO] at h;refine ⟨of_decide_eq_true h.1,λc a=>?_⟩;have q:=h.2 c a;simp only [aT,decide_eq_true_eq,aO] at q;exact ⟨q.1.1.1.1,q.1.1.1.2,q.1.1.2,q.1.2,q.2⟩
def qee (ca:Str->Addr):Prop:=∀ x∈CS,∀ y∈CS,ca x=ca y->x=y
noncomputable def ZS:List Str:=["all", "bool", "dict", "enumerate", "int", "isinstance", "len", "list", "max", "min", "range", "set", "sorted", "str", "sum", "tuple"]
noncomputable def zsB (K:Frag):Bool:=ZS.all λx=>decide (nsIn K mainGlobals x=ff fg)
theorem wD (h:zsB K=fm) (x:Str) (hx:x∈ZS:=by decide +kernel):nsIn K mainGlobals x=ff none:=of_decide_eq_true (aO.mp h x hx)
theorem qcx {c:Str} (h:c∈CS):c = "NoWords"\/c = "NoLook":=by simpa [CS] using h
theorem qdL (X:K.In h) (G:h.Ns mainGlobals mg) {CW f C:Addr}  {E t a S:Tok}
    (j:nsIn K mainGlobals "WordError"=ff (ff (.ref CW)))
    (i:nsIn K mainGlobals "NoWords"=ff (ff (.ref f)))
    (g:nsIn K mainGlobals "NoLook"=ff (ff (.ref C)))
    (z:zsB K=fm)
    (c_LEAST_PLACE:nsIn K mainGlobals "LEAST_PLACE"=ff (ff (.int (-3) E)))
    (c_MOST_LETTERS:nsIn K mainGlobals "MOST_LETTERS"=ff (ff (.int 6 t)))
    (c_MOST_PLACE:nsIn K mainGlobals "MOST_PLACE"=ff (ff (.int 2 a)))
    (c_MOST_WORDS:nsIn K mainGlobals "MOST_WORDS"=ff (ff (.int 6 S)))
    (ex:Za K [f,C] CW=fm)
     :
    Zt K mg (λx=>.ref (caT [("WordError",CW),("NoWords",f),("NoLook",C)] x)) (caT [("WordError",CW),("NoWords",f),("NoLook",C)])/\qee (caT [("WordError",CW),("NoWords",f),("NoLook",C)]):=by
  obtain ⟨nd,al⟩:=Zb ex;generalize hT:([("WordError",CW),("NoWords",f),("NoLook",C)]:List (Str×Addr))=T;have W:caT T "WordError"=CW:=by subst hT; kernel_rfl
  have e0:caT T "NoWords"=f:=by subst hT; kernel_rfl
  have e1:caT T "NoLook"=C:=by subst hT; kernel_rfl
  have m:CS.map (caT T)=[f,C]:=by unfold CS;simp only [ax,bv,e0,e1]
  have n:∀ c∈CS,caT T c∈[f,C]:=λc b=>m ▸ aA.mpr ⟨c,b,rfl⟩;refine ⟨⟨⟨λc b=>rfl,λc b=>?_,λc b=>(al _ (n c b)).1,λc b d hd=>(al _ (n c b)).2.2.2.2 _ (n d hd),λc b=>(al _ (n c b)).2.2.1⟩,λc b=>?_,λc b=>(al _ (n c b)).2.2.2.1,λx hx=>absurd hx (by simp [FS]),fH X G (wD z "all"),fH X G (wD z "bool"),fH X G (wD z "dict"),fH X G (wD z "enumerate"),fH X G (wD z "int"),fH X G (wD z "isinstance"),fH X G (wD z "len"),fH X G (wD z "list"),fH X G (wD z "max"),fH X G (wD z "min"),fH X G (wD z "range"),fH X G (wD z "set"),fH X G (wD z "sorted"),fH X G (wD z "str"),fH X G (wD z "sum"),fH X G (wD z "tuple"),⟨_,mg_of X G c_LEAST_PLACE⟩,⟨_,mg_of X G c_MOST_LETTERS⟩,⟨_,mg_of X G c_MOST_PLACE⟩,⟨_,mg_of X G c_MOST_WORDS⟩⟩,λx hx y D e=>?_⟩;· show cW K (.ref (caT T c)) (.ref (caT T "WordError"))=ff fm;rw [W];exact (al _ (n c b)).2.1
  · rcases qcx b with rfl | rfl;· rw [e0]; exact mg_of X G i
    · rw [e1]; exact mg_of X G g
  ·
    rw [<-m] at nd;exact Ym nd hx D e
structure Tx (K:Frag) (mg:Str->Option fj) (ca:Str->Addr):Prop where
 x_is_letter:vN K mg "is_letter" vc ["thing"]
 x_is_word:vN K mg "is_word" um ["thing"]
 x_is_words:vN K mg "is_words" wx ["thing"]
 x_check_words:vN K mg "check_words" jQ ["thing"]
 x_all_looks:vN K mg "all_looks" vg []
 x_is_between:vN K mg "is_between" ki kj
 x_is_look:vN K mg "is_look" ut ["thing"]
 x_check_look:vN K mg "check_look" kq ["thing"]
 x_letter_at:vN K mg "letter_at" vh vi
 x_pairs:vN K mg "pairs" zD zE
 x_letters_of:vN K mg "letters_of" kt ["seen"]
 x_is_loose:vN K mg "is_loose" wy wz
 x_bound_pairs:vN K mg "bound_pairs" jS jT
 x_unshared:vN K mg "unshared" wA wB
 x_contrasts_of:vN K mg "contrasts_of" jF ["seen"]
 x_may_differ:vN K mg "may_differ" kw kx
 x_with_worth:vN K mg "with_worth" ky kz
 x_can_be_filled:vN K mg "can_be_filled" jb jd
 x_can_differ:vN K mg "can_differ" kB kC
 x_looks:vN K mg "looks" zL ["words"]
 x_are_alike:vN K mg "are_alike" vt vw
 x_alike:vN K mg "alike" zN zO
 x_best_looks:vN K mg "best_looks" kD ["words"]
 x_Lcell_at:vN K mg "_law_cell_at" wC jG
 x_Lmixed:vN K mg "_law_mixed" yz kE
 x_Ldraw:vN K mg "_law_draw" zT vy
 x_Lpick:vN K mg "_law_pick" zU vz
 x_Lword:vN K mg "_law_word" zW vA
 x_Lwords:vN K mg "_law_words" yB kF
 x_Lat:vN K mg "_law_at" XN uy
 x_Lseen:vN K mg "_law_seen" ga vB
variable {ca:Str->Addr}
theorem qcy {e0:Ev} {f:Addr} {fd:fW} (Z:ZtE e0 ca) (T:Tx e0.K e0.mg ca) (F:Fun e0.K "law" "law" US f fd):FnOk e0.P e0.w e0.K e0.mg e0.base (CXk e0.P e0.w) 19 f fd ["_law_script"] (spD e0.K e0.cv [.val] .sh XR):=by have j:=Qu Z T.x_is_letter ;have y:=VC Z T.x_is_word j;have q:=Jr Z T.x_is_words y;have o:=xG Z T.x_check_words q;have s:=Qw Z T.x_all_looks ;have n:=zy Z T.x_is_between ;have z:=VE Z T.x_is_look n;have k:=zB Z T.x_check_look z;have t:=Qy Z T.x_letter_at ;have p:=XB Z T.x_pairs o k t;have e:=zH Z T.x_letters_of ;have u:=Jt Z T.x_is_loose ;have b:=xH Z T.x_bound_pairs u;have m:=Ju Z T.x_unshared ;have a:=xr Z T.x_contrasts_of m;have r:=zI Z T.x_may_differ ;have h:=zJ Z T.x_with_worth ;have d:=ym Z T.x_can_be_filled r h;have g:=zK Z T.x_can_differ e b a d;have C:=XD Z T.x_looks o s p g;have l:=QA Z T.x_are_alike ;have D:=XE Z T.x_alike p l;have i:=zQ Z T.x_best_looks s D;have x:=Jz Z T.x_Lcell_at ;have B:=UM Z T.x_Lmixed x;have c:=XG Z T.x_Ldraw B;have v:=XI Z T.x_Lpick c;have E:=XM Z T.x_Lword c v;have A:=UQ Z T.x_Lwords c v E;have H:=qb5 Z T.x_Lat ;have G:=XQ Z T.x_Lseen H;exact qb8 Z F C i A G
def Zc (K:Frag):Sp:=λvs H Q _=>∃ (a:Addr) (ns:List Int),vs=[.ref a]/\SqL K H a (ns.map V.int)/\∀ H',Q (.bl fm) H'
theorem KZ {F:Hp}:∀ ns:List Int,IsL K F (ns.map V.int) (ns.map D.int)
 | []=>.nil
 | n::ns=>.cons (.int n) (KZ ns)
theorem qdM {cv:Str->fj} (h:qee ca) (vs:List V) (H:Hp) (Q:VK) (E:XK) (q:Zc K vs H Q E):spD K cv [.val] .sh XR vs H Q E:=by obtain ⟨a,ns,rfl,hs,hq⟩:=q;refine ⟨H,[scr ns],Same.refl _,⟨.lst hs (KZ ns),trivial⟩,dE,?_⟩;rw [qcv ns];intro v F' H' m k z y;have y:Is K F' v (.bl fm):=y;cases y;exact hq H'
abbrev NsX (K:Frag) (x:Str) (f:Addr):Prop:=nsIn K mainGlobals x=ff (ff (.ref f))
abbrev CdX (K:Frag) (v:fj) (x:Str):Prop:=codeIn K v x=fm
abbrev KpX (K:Frag) (f:Addr):Prop:=keepIn K (.ref f)=fm
abbrev LkX (K:Frag) (x:Str) (st:Stmt) (f:Addr) (oc:fj) (od an:Option Addr) (sl:Array (Option fj)) (kV d pm cd ct:fj):Prop:=K.lookup f=ff ⟨oc,od,.func (bO x x (vK st) (kG st) (ql st) .none kV d pm an cd ct),sl⟩
def Dx (K:Frag) (x:Str) (st:Stmt):Prop:=∃ (f:Addr) (oc:fj) (od an:Option Addr) (sl:Array (Option fj)) (kV d pm cd ct:fj),NsX K x f/\LkX K x st f oc od an sl kV d pm cd ct/\CdX K cd x/\KpX K f
theorem jp (X:K.In h) (G:h.Ns mainGlobals mg) {st:Stmt} {ps:List Str} (q:Dx K x st) (d:∀ (kV doc pm:fj) (an:Option Addr) (cdv ct:fj) (us:List fj),us.length=ps.length->bindArgs (bO x x (vK st) (kG st) (ql st) .none kV doc pm an cdv ct) ⟨us,[]⟩=pure (ps.zip us):=by
  intro _ _ _ _ _ _ us hl;first | refine qd9 (P:=λus=>bindArgs _ ⟨us,[]⟩=pure (eU _ us)) hl ?_ | refine qea (P:=λus=>bindArgs _ ⟨us,[]⟩=pure (eU _ us)) hl ?_ | refine qeb (P:=λus=>bindArgs _ ⟨us,[]⟩=pure (eU _ us)) hl ?_ | refine qec (P:=λus=>bindArgs _ ⟨us,[]⟩=pure (eU _ us)) hl ?_ | refine qed (P:=λus=>bindArgs _ ⟨us,[]⟩=pure (eU _ us)) hl ?_ | refine qeK (P:=λus=>bindArgs _ ⟨us,[]⟩=pure (eU _ us)) hl ?_
  all_goals intros; rfl):vN K mg x st ps:=by
 obtain ⟨f,oc,od,an,sl,kV,b,pm,cd,ct,a,l,c,k⟩:=q;exact qaF X G a l c k d
theorem qcz {l:d7} {w:fA} {fa:Addr} (X:K.In h) (G:h.Ns mainGlobals mg) (P:mg "law"=ff (.ref fa)) {CW V U:Addr} {a t b S:Tok}
  (aW:nsIn K mainGlobals "WordError"=ff (ff (.ref CW)))
  (a0:nsIn K mainGlobals "NoWords"=ff (ff (.ref V)))
  (a1:nsIn K mainGlobals "NoLook"=ff (ff (.ref U)))
  (W:zsB K=fm)
  (c_LEAST_PLACE:nsIn K mainGlobals "LEAST_PLACE"=ff (ff (.int (-3) a)))
  (c_MOST_LETTERS:nsIn K mainGlobals "MOST_LETTERS"=ff (ff (.int 6 t)))
  (c_MOST_PLACE:nsIn K mainGlobals "MOST_PLACE"=ff (ff (.int 2 b)))
  (c_MOST_WORDS:nsIn K mainGlobals "MOST_WORDS"=ff (ff (.int 6 S)))
  (ex:Za K [V,U] CW=fm)
  (q0:Dx K "is_letter" vc)
  (q1:Dx K "is_word" um)
  (q2:Dx K "is_words" wx)
  (q3:Dx K "check_words" jQ)
  (q4:Dx K "all_looks" vg)
  (q5:Dx K "is_between" ki)
  (q6:Dx K "is_look" ut)
  (q7:Dx K "check_look" kq)
  (q8:Dx K "letter_at" vh)
  (Y:Dx K "pairs" zD)
  (O:Dx K "letters_of" kt)
  (N:Dx K "is_loose" wy)
  (M:Dx K "bound_pairs" jS)
  (L:Dx K "unshared" wA)
  (J:Dx K "contrasts_of" jF)
  (I:Dx K "may_differ" kw)
  (D:Dx K "with_worth" ky)
  (C:Dx K "can_be_filled" jb)
  (B:Dx K "can_differ" kB)
  (A:Dx K "looks" zL)
  (z:Dx K "are_alike" vt)
  (y:Dx K "alike" zN)
  (x:Dx K "best_looks" kD)
  (u:Dx K "_law_cell_at" wC)
  (r:Dx K "_law_mixed" yz)
  (p:Dx K "_law_draw" zT)
  (o:Dx K "_law_pick" zU)
  (n:Dx K "_law_word" zW)
  (m:Dx K "_law_words" yB)
  (j:Dx K "_law_at" XN)
  (i:Dx K "_law_seen" ga)
  (g:Dx K "law" US) :
  ∃ fd:fW,(∀ (s:fq) (v:fj),iu s fd ⟨[v],[]⟩ [("_law_script",v)])/\∀ base:Heap,K.In base->base.Ns mainGlobals mg->FnOk l.prog w K mg base (CXk l.prog w) 19 fa fd ["_law_script"] (Zc K):=by
 obtain ⟨f31,_,_,_,_,_,_,_,_,_,f,c,d,k⟩:=g;have e:=P.symm.trans (mg_of X G f);cases e;obtain ⟨Z,R⟩:=qdL X G aW a0 a1 W c_LEAST_PLACE c_MOST_LETTERS c_MOST_PLACE c_MOST_WORDS ex;have T:Tx K mg (caT [("WordError",CW),("NoWords",V),("NoLook",U)]):=⟨jp X G q0,jp X G q1,jp X G q2,jp X G q3,jp X G q4,jp X G q5,jp X G q6,jp X G q7,jp X G q8,jp X G Y,jp X G O,jp X G N,jp X G M,jp X G L,jp X G J,jp X G I,jp X G D,jp X G C,jp X G B,jp X G A,jp X G z,jp X G y,jp X G x,jp X G u,jp X G r,jp X G p,jp X G o,jp X G n,jp X G m,jp X G j,jp X G i⟩
 have F:=Wa (st:=US) c d k;exact ⟨_,λs v=>.of_eq rfl,λbase _ _=>(qcy (e0:=⟨l.prog,w,K,mg,base,_⟩) Z T F).imp λvs H Q E q=>qdM R vs H Q E q⟩
theorem qeL {l:d7} {q:fz} {loose:List Str} {XP:(Str->Option fj)->Heap->Prop} {YP:fA->Heap->Prop} {d:DefRec} {K:h9->Frag} (b:l.most=ff 63) (hdf:d.params.defaults=[])
  (D:∀ (w:fA) (h:Heap),YP w h->(K w.params).In h)
  (F:∀ (w:fA) (mg:Str->Option fj) (fa:Addr) (h:Heap),(K w.params).In h->h.Ns mainGlobals mg->mg d.name=ff (.ref fa) ->∃ fd:fW,(∀ (s:fq) (u:fj),iu s fd ⟨[u],[]⟩ [("_law_script",u)])/\∀ base:Heap,(K w.params).In base->base.Ns mainGlobals mg->FnOk l.prog w (K w.params) mg base (CXk l.prog w) 19 fa fd ["_law_script"] (Zc (K w.params))) :
  PySem.W.WalkO q loose XP YP l.row.toRowW d [] (λf vs=>e8 f vs):=
 L2.Go (n:=63) (k:=19) (x := "_law_script") (CX:=λw=>CXk l.prog w) (sp:=λw=>Zc (K w.params)) b (by decide) hdf ⟨rfl,by decide,by decide⟩ D F (λ_ _ a ns hl _ S=>⟨a,ns,rfl,S,λ_=>rfl⟩) λw H s e s' z=>by obtain ⟨ex,T,C,H',_,_,_,_,_,_,_,_,_,_,q⟩:=z;exact q.elim
end Kx
open PySem PySem.W PyProof.Rows
set_option maxRecDepth 100000 in
set_option maxHeartbeats 0 in
theorem PySem.Challenge.cw_lookwords_k18_whole_best_looks_holds : PySem.Challenge.rw_lookwords_k18_whole_best_looks.Holds := by
  refine Kx.hd ?_;k_fill
  refine Kx.qeL (l := PySem.Challenge.rw_lookwords_k18_whole_best_looks) rfl rfl (λw h Y => PySem.W.kIn_of Y) ?F
  case F =>
    intro w mg fa h X G c;refine' Kx.qcz X G c ?_ ?_ ?_ ?_ ?_ ?_ ?_ ?_ ?_ ?_ ?_ ?_ ?_ ?_ ?_ ?_ ?_ ?_ ?_ ?_ ?_ ?_ ?_ ?_ ?_ ?_ ?_ ?_ ?_ ?_ ?_ ?_ ?_ ?_ ?_ ?_ ?_ ?_ ?_ ?_ ?_;all_goals try first | k_is | exact ⟨_, _, _, _, _, _, _, _, _, _, by unfold Kx.NsX; k_is, by unfold Kx.LkX; k_is, by unfold Kx.CdX; k_is, by unfold Kx.KpX; k_is⟩ | kernel_rfl
